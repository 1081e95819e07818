import PyProof.Rows.All
import Wide.All
import OpenK.AllK
import Wide.FinOn
import HandS.ForMost
import HandS.TryMany
import HandS.Walk
import KE.GoesEnum
import HandS.Defaults
import KE.KxIndex
import HandS.ForExc
import HandS.ExcValue
import HandS.ExcIs
import HandS.ExcInit
import HandS.IsInst
import KE.KExcInit
import HandS.StrMore
import HandS.Conv
import HandS.Codes
import HandS.Style
import HandS.ExcField
import KE.GoesMore
import HandS.SortInts
import PySem.Challenge.RW_onewayread_k02_rows_judged_and_read
set_option Elab.async false
set_option linter.all false
set_option maxRecDepth 100000
set_option maxHeartbeats 4000000
/-! several except clauses, some of which name the error -/
namespace L2
open PySem PySem.Spec PyProof.Rows
/-- an error at g that has landed in the frame of X -/
def Lnd (X : Cx) (pins : List (Addr × Obj)) (τ : St) (G : Hp) (g : Addr) (cls : Value) (d : Option Addr) (t : Shared) : Prop :=
  ∃ (B : Heap) (t0 : Shared), Inv X pins τ G t0 ∧ (∀ b o, t0.heap.get? b = some o → b ∉ frs X.stack → B.get? b = some o) ∧ t0.heap.UpToSlots t.heap ∧
    HandSPX.FlyingZ B (X.env :: X.outer) g (Zc cls d) t.heap ∧ G g = none ∧ t.os = t0.os ∧ AllBare t.gens ∧ g ≠ X.env.locals ∧ g ∉ X.fs
section
variable {X : Cx} {pins : List (Addr × Obj)} {τ : St} {G : Hp} {g : Addr} {cls : Value} {d : Option Addr} {t : Shared}
theorem Lnd.inv (l : Lnd X pins τ G g cls d t) : Inv X pins τ G t := by
  obtain ⟨B, t0, J, n, u, f, _, o, y, _⟩ := l
  exact J.landed n f.1 u o y
theorem Lnd.as_suite (l : Lnd X pins τ G g cls d t) : ∃ oe, Zc cls d oe ∧ (∃ vs, oe.data = .fields vs) ∧ t.heap.get? g = some oe ∧ Inv (X.suite g ((g, oe) :: (X.pn ++ pins))) [] τ G t := by
  have J := l.inv
  obtain ⟨B, t0, _, _, _, f, z, _, _, n1, n2⟩ := l
  obtain ⟨oe, vs, h1, h2, h3⟩ := f.there
  exact ⟨oe, h2, ⟨vs, h3⟩, h1, J.suite h1 h3 z n1 n2⟩
theorem Lnd.again {M : Model} {A : Around} {E : Value → Shared → Prop} {Q : Unit → Shared → Prop} (l : Lnd X pins τ G g cls d t) (q : ∀ t', Lnd X pins τ G g cls d t' → Q () t') : wpAny M A (setFlight (.ref g) none) Q E t := by
  obtain ⟨B, t0, J, n, u, f, z, o, y, n1, n2⟩ := l
  exact HandSPX.lands_againZ f fun h' f' u' => q _ ⟨B, t0, J, n, u.trans u', f', z, o, y, n1, n2⟩
/-- what the clauses wish, one behind the other; a slot where the clause names the error -/
def wCls (K : PySem.W.Frag) (Wout : WX) (D : Ends) : List (Value × Option Nat × (Addr → Value → Option Addr → TS)) → WX
  | [] => Wout
  | (c, none, ts) :: r => fun cls d τ G => ∃ b, PySem.W.exmOne K cls c = some b ∧ (b = true → ∀ g, G g = none → ts g cls d D τ G) ∧ (b = false → wCls K Wout D r cls d τ G)
  | (c, some i, ts) :: r => fun cls d τ G => ∃ b, PySem.W.exmOne K cls c = some b ∧
      (b = true → ∀ g, G g = none → ts g cls d { nx := fun τ' G' => D.nx (τ'.set i none) G', rt := D.rt, bk := fun τ' G' => D.bk (τ'.set i none) G', ct := fun τ' G' => D.ct (τ'.set i none) G' } (τ.set i (some (.ref g))) G) ∧
      (b = false → wCls K Wout D r cls d τ G)
inductive ClsOk (X : Cx) : List ExceptHandler → List (Value × Option Nat × (Addr → Value → Option Addr → TS)) → Prop
  | nil : ClsOk X [] []
  | plain {x : Str} {c : Value} {ts : Addr → Value → Option Addr → TS} {b : Stmt} {bs : List Stmt} {np hp : Pos} {hds : List ExceptHandler} {l : List (Value × Option Nat × (Addr → Value → Option Addr → TS))} (hc : Names X x c)
      (hsu : ∀ (g : Addr) (oe : Obj) (cls : Value) (d : Option Addr) (pn : List (Addr × Obj)), Zc cls d oe → (∃ vs, oe.data = .fields vs) → PSs (X.suite g ((g, oe) :: pn)) (b :: bs) (ts g cls d)) (r : ClsOk X hds l) :
      ClsOk X (.ExceptHandler (some (.Name x np)) none (b :: bs) hp :: hds) ((c, none, ts) :: l)
  | named {x n : Str} {i : Nat} {c : Value} {ts : Addr → Value → Option Addr → TS} {b : Stmt} {bs : List Stmt} {np hp : Pos} {hds : List ExceptHandler} {l : List (Value × Option Nat × (Addr → Value → Option Addr → TS))} (hc : Names X x c)
      (hN : X.N.Nodup) (hi : X.N[i]? = some n) (hk : X.env.kindOf n = some .local)
      (hsu : ∀ (g : Addr) (oe : Obj) (cls : Value) (d : Option Addr) (pn : List (Addr × Obj)), Zc cls d oe → (∃ vs, oe.data = .fields vs) → PSs (X.suite g ((g, oe) :: pn)) (b :: bs) (ts g cls d)) (r : ClsOk X hds l) :
      ClsOk X (.ExceptHandler (some (.Name x np)) (some n) (b :: bs) hp :: hds) ((c, some i, ts) :: l)
/-- the test of a clause -/
theorem Lnd.test {x : Str} {c : Value} {np hp : Pos} {b : Bool} {R : Result → Shared → Prop} (l : Lnd X pins τ G g cls d t) (hc : Names X x c) (e : PySem.W.exmOne X.K cls c = some b) (q : R (.ok (if b then .brk else .next)) t) :
    codeAny (model X.prog X.w) (X.A.mark (some (.ref g))) (.handlers (.ref g) [.ExceptHandler (some (.Name x np)) none [] hp] X.env) R t := by
  obtain ⟨oe, z, hv, he, S⟩ := l.as_suite
  have ty : PySem.W.Looks (model X.prog X.w) t.heap (typeOf (.ref g)) cls := fun A1 Q1 E1 s1 k1 q1 => wpAny_typeOf_ref (k1 _ _ he) (by rw [z.1]; exact q1)
  refine codeAny_handlers_test ?_
  have look := PySem.W.exm_one (M := model X.prog X.w) l.inv.kIn ty e
  obtain ⟨h1, h2, h3 | ⟨h3, h4, h5⟩⟩ := hc
  · exact ld_glob (X := X.suite g ((g, oe) :: (X.pn ++ pins))) S h1 h3 (look.here (by exact q)) h2
  · exact ld_blt (X := X.suite g ((g, oe) :: (X.pn ++ pins))) S h1 h3 h4 (look.here (by exact q)) h5 h2
/-- the clauses, gone through -/
theorem Lnd.through {Wout : WX} {D : Ends} (hst : X.stack = X.env :: X.outer) (hfr : X.env.frame = some X.env.locals) (tk : Takes X Wout) (ok : X.Ok) {hds : List ExceptHandler} {cl : List (Value × Option Nat × (Addr → Value → Option Addr → TS))} (hk : ClsOk X hds cl) :
    ∀ {t : Shared}, Lnd X pins τ G g cls d t → wCls X.K Wout D cl cls d τ G → wpAny (model X.prog X.w) X.A (handleBy (.ref g) X.env hds) (SP X pins D) X.xe t := by
  induction hk with
  | nil =>
    intro t l wish
    refine wpAny_handleBy_nil ?_
    obtain ⟨B, t0, J, n, u, f, z, o, y, _⟩ := l
    obtain ⟨_, _, _, oe, vs, trb, _, _, hob, _, hda, htr, _⟩ := id f
    have out : wpAny (model X.prog X.w) X.A (setFlight (.ref g) X.env.frame) (fun _ t4 => wpAny (model X.prog X.w) X.A (throw (.ref g) : Sem Flow) (SP X pins D) X.xe t4) X.xe t := by
      rw [hfr]
      exact HandSPX.setFlight_upZ f fun h4 held u4 => wpAny_throw (tk _ _ ⟨g, B, t0, pins, τ, G, cls, d, rfl, J, n, u.trans u4, .inr (.inr (by rw [hst]; exact held)), z, o, y, wish⟩)
    unfold PySem.passOn
    refine wpAny_bind (wpAny_field hob hda htr ?_)
    rw [if_neg (by simp : ¬ ((Value.ref trb == Value.none) = true))]
    first
      | exact wpAny_bind (wpAny_pure (wpAny_bind out))
      | exact wpAny_bind out
  | @plain x c ts b bs np hp hds2 l2 hc hsu r ih =>
    intro t l wish
    obtain ⟨k, e, yes, no⟩ := wish
    refine wpAny_handleBy_cons (l.test hc e ?_) (by intro q; cases q)
    cases k with
    | false => exact ih l (no rfl)
    | true =>
      refine codeAny_handlers_suite (l.again fun t' l' => ?_)
      obtain ⟨oe, z, hv, _, S⟩ := l'.as_suite
      have na : G g = none := by obtain ⟨_, _, _, _, _, _, q, _⟩ := l'; exact q
      refine wpAny_mono ((hsu g oe cls d (X.pn ++ pins) z hv).run [] _ _ G _ S (yes rfl g na)) (fun fl t6 hsp => ?_) (fun _ _ q => q.elim)
      match fl, hsp with
      | .next, ⟨_, _, S6, q6⟩ => exact ⟨_, _, S6.unsuite ok, q6⟩
      | .brk, ⟨_, _, S6, q6⟩ => exact ⟨_, _, S6.unsuite ok, q6⟩
      | .cont, ⟨_, _, S6, q6⟩ => exact ⟨_, _, S6.unsuite ok, q6⟩
      | .ret _, ⟨_, _, _, S6, r6, q6⟩ => exact ⟨_, _, _, S6.unsuite ok, r6, q6⟩
  | @named x n i c ts b bs np hp hds2 l2 hc hN hi hkd hsu r ih =>
    intro t l wish
    obtain ⟨k, e, yes, no⟩ := wish
    refine wpAny_handleBy_cons (l.test hc e ?_) (by intro q; cases q)
    cases k with
    | false => exact ih l (no rfl)
    | true =>
      refine codeAny_handlers_suite_as (l.again fun t' l' => ?_)
      obtain ⟨oe, z, hv, _, S⟩ := l'.as_suite
      have na : G g = none := by obtain ⟨_, _, _, _, _, _, q, _⟩ := l'; exact q
      refine store_ok (X := X.suite g ((g, oe) :: (X.pn ++ pins))) (v := .ref g) S hN hi (.inl hkd) rfl (fun t5 S5 => ?_) (.inr hkd)
      refine wpAny_mono ((hsu g oe cls d (X.pn ++ pins) z hv).run [] t5 _ G _ S5 (yes rfl g na)) (fun fl t6 hsp => ?_) (fun _ _ q => q.elim)
      match fl, hsp with
      | .next, ⟨_, _, S6, q6⟩ => exact gone_ok (S6.unsuite ok) hN hi hkd fun t7 J7 => ⟨_, _, J7, q6⟩
      | .brk, ⟨_, _, S6, q6⟩ => exact gone_ok (S6.unsuite ok) hN hi hkd fun t7 J7 => ⟨_, _, J7, q6⟩
      | .cont, ⟨_, _, S6, q6⟩ => exact gone_ok (S6.unsuite ok) hN hi hkd fun t7 J7 => ⟨_, _, J7, q6⟩
      | .ret _, ⟨_, _, _, S6, r6, q6⟩ => exact gone_ok (S6.unsuite ok) hN hi hkd fun t7 J7 => ⟨_, _, _, J7, r6, q6⟩
/-- try: body / except X: .. / except Y as e: .. -/
theorem ps_try_cls {body : List Stmt} {h₀ : ExceptHandler} {hds : List ExceptHandler} {pos : Pos} {tb : WX → TS} {Wout : WX} {cl : List (Value × Option Nat × (Addr → Value → Option Addr → TS))} (hst : X.stack = X.env :: X.outer) (hfr : X.env.frame = some X.env.locals) (tk : Takes X Wout)
    (hb : ∀ (W : WX) (pn : List (Addr × Obj)) (xe : Value → Shared → Prop), Takes (X.tr pn xe) W → PassesOwn (model X.prog X.w) X.A X.env xe → PSs (X.tr pn xe) body (tb W)) (hh : ClsOk X (h₀ :: hds) cl) :
    PS X (.Try body (h₀ :: hds) [] [] pos) (fun D σ H => tb (wCls X.K Wout D cl) D σ H) := by
  refine ⟨fun ps s0 σ0 H0 D I0 wish => ?_⟩
  have ok := I0.ok
  have frs1 : X.A.frames = some (X.env :: X.outer) := ok.frames.trans (congrArg some hst)
  let caught : Value → Shared → Prop := fun er ta => wpAny (model X.prog X.w) X.A (noteFrame er X.env) (fun _ tb' => wpAny (model X.prog X.w) X.A (setFlight er none) (fun _ tc => wpAny (model X.prog X.w) X.A (handleBy er X.env (h₀ :: hds)) (SP X ps D) X.xe tc) X.xe tb') X.xe ta
  have land : Takes (X.tr (X.pn ++ ps) caught) (wCls X.K Wout D cl) := by
    rintro er ta ⟨g, B, t0, _, τ, G, cls, d, rfl, J0, n, u, sky, na, o, y, q⟩
    have J := J0.ofTry ok
    refine Sky.land (B := B) (a := g) (Z := Zc cls d) (L := X.env.locals) (outer := X.outer) Zc.steady frs1 hfr (by rw [← hst]; exact sky) fun h3 f3 u3 => ?_
    obtain ⟨oe, vs, e1, e2, e3⟩ := f3.there
    have away : g ∉ frs (X.env :: X.outer) := fun hm => by
      obtain ⟨_, o2, q1, q2⟩ := f3.2.2.1.mem hm
      rw [e1] at q1
      cases q1
      exact q2 _ e3
    refine Lnd.through hst hfr tk ok hh ⟨B, t0, J, n, u.trans u3, f3, na, o, y, fun z => ?_, fun hm => ?_⟩ q
    · exact away (List.mem_filterMap.mpr ⟨X.env, List.mem_cons_self, by rw [hfr, z]⟩)
    · obtain ⟨en, m1, m2⟩ := List.mem_filterMap.mp hm
      exact away (List.mem_filterMap.mpr ⟨en, List.mem_cons_of_mem _ m1, m2⟩)
  refine wpAny_Try_except (wpAny_mono ((hb _ (X.pn ++ ps) caught land PassesOwn.looking).run [] s0 σ0 H0 D (I0.toTry _) wish) (fun fl t1 z => ?_) fun _ _ z => z)
  match fl, z with
  | .next, ⟨_, _, J1, q1⟩ => exact wpAny_execs_nil ⟨_, _, J1.ofTry ok, q1⟩
  | .brk, ⟨_, _, J1, q1⟩ => exact ⟨_, _, J1.ofTry ok, q1⟩
  | .cont, ⟨_, _, J1, q1⟩ => exact ⟨_, _, J1.ofTry ok, q1⟩
  | .ret _, ⟨_, _, _, J1, r1, q1⟩ => exact ⟨_, _, _, J1.ofTry ok, r1, q1⟩
end
end L2

set_option Elab.async false
set_option linter.all false
set_option maxRecDepth 100000
set_option maxHeartbeats 4000000
/-! enumerate of a tuple -/
namespace PySem
open Sem (wp)
open PySem.Spec PyProof.Rows
theorem meets_enumerate_newB1 {v : Value} {o : Obj} {H : Heap → Prop} (B : Begins v o H) :
    Meets (Builtin.«enumerate.__new__» ⟨[.type "enumerate", v], []⟩) (fun _ R s => H s.heap ∧
      R (.ok (.ret (.ref (s.heap.push o).objs.size))) { s with heap := (s.heap.push o).push { cls := .type "enumerate", data := .fields #[.none, .bool false, .ref s.heap.objs.size, rawInt 0, .none, .none] } }) :=
  .of_wp fun prog w A R s h => by
    obtain ⟨hp, g, d, tk, os⟩ := s; obtain ⟨h1, h⟩ := h
    have hsub := sub_enumerate
    have q1 : ∀ {A' : Around} {E : Value → Shared → Prop} {Q : Value → Shared → Prop}, Q (.ref hp.objs.size) ⟨hp.push o, g, d, tk, os⟩ → wpAny (model prog w) A' (pyIter v) Q E ⟨hp, g, d, tk, os⟩ :=
      fun q => B.iter prog w _ _ ⟨hp, g, d, tk, os⟩ _ h1 q
    wp_walk using q1
    refine wpAny_stack_any fun st => wpAny_pure ?_
    split
    · rename_i c _ _ _ _ _
      cases (c == Value.type "enumerate")
      · wp_walk using q1
        exact ⟨_, rfl, h⟩
      · wp_walk using q1
        exact ⟨_, rfl, h⟩
    · wp_walk using q1
      exact ⟨_, rfl, h⟩
section
variable {prog : Program} {w : World} {A : Around} {E : Value → Shared → Prop} {s : Shared}
theorem enum_begins1 {v : Value} {o : Obj} {H : Heap → Prop} {Q : Value → Shared → Prop} (B : Begins v o H) (h1 : H s.heap)
    (h : ∀ h', IsEnum h' (s.heap.objs.size + 1) s.heap.objs.size 0 .none → h'.get? s.heap.objs.size = some o → h'.objs.size = s.heap.objs.size + 2 →
      (∀ b o, s.heap.get? b = some o → h'.get? b = some o) → Q (.ref (s.heap.objs.size + 1)) { s with heap := h' }) :
    wpAny (model prog w) A (call (.type "enumerate") [v]) Q E s := by
  refine callType_new F.called_enumerate (by decide) (F.typeCall_enumerate_1 _) (F.newCall_enumerate_1 _) (fun obj => F.args_object_init_2 obj _) F.entry_enumerate_new
    (meets_enumerate_newB1 B) ⟨h1, ?_⟩
  have hz : (s.heap.push o).objs.size = s.heap.objs.size + 1 := Heap.size_push ..
  show _ ∧ _
  rw [hz]
  have he : IsEnum ((s.heap.push o).push { cls := .type "enumerate", data := .fields #[.none, .bool false, .ref s.heap.objs.size, rawInt 0, .none, .none] }) (s.heap.objs.size + 1) s.heap.objs.size 0 .none := by
    have := Heap.get?_push_size (s.heap.push o) (o := { cls := .type "enumerate", data := .fields #[.none, .bool false, .ref s.heap.objs.size, rawInt 0, .none, .none] }) rfl
    rw [hz] at this; exact this
  refine ⟨⟨_, he, rfl⟩, h _ he (Heap.get?_push_of_some _ (Heap.get?_push_size _ B.free)) (by rw [Heap.size_push, hz]) fun b o x => Heap.get?_push_of_some _ (Heap.get?_push_of_some _ x)⟩
end
end PySem
namespace L2
open PySem PySem.Spec PyProof.Rows
/-- the tuple at a, each item in a new pair -/
def IteT (K : PySem.W.Frag) (a : Addr) : It :=
  ⟨fun i H => ∃ (xs : List V) (x : V), SqT K H a xs ∧ xs[i]? = some x, fun i H v H' => ∃ T x, v = .ref T ∧ H T = none ∧ H' = upd H T (.tup [.int (i : Nat), x]) ∧ ∀ xs, SqT K H a xs → xs[i]? = some x, fun i H => ∃ xs : List V, SqT K H a xs ∧ xs.length = i⟩
theorem turn_enumT {P : Program} {w : World} {K : PySem.W.Frag} {elts : List Expr} {kk : Nat} {tpos : Pos} (a e it : Addr) (hn : e ≠ it) (hae : a ≠ e) (hai : a ≠ it) :
    Turn P w K (.Tuple elts kk tpos) (IteT K a) [e, it] e (fun i h => (∃ old, IsEnum h e it ((i : Nat) : Int) old) ∧ h.IsTupleIter it a i) where
  mem := by simp
  obj := fun i h st b hb => by
    obtain ⟨⟨old, he⟩, ⟨o, ho, hc, hd⟩⟩ := st
    have e' : b = e ∨ b = it := by simpa using hb
    rcases e' with z | z
    · rw [z]; exact ⟨_, he, fun v q => nomatch q⟩
    · rw [z]; exact ⟨o, ho, fun v q => by rw [hd] at q; cases q⟩
  keep := fun i h h' st k => by
    obtain ⟨⟨old, he⟩, ⟨o, ho, r⟩⟩ := st
    exact ⟨⟨old, k e (by simp) _ he⟩, ⟨o, k it (by simp) _ ho, r⟩⟩
  item := by
    intro X hP hw hK hc i pins s σ H E I hf st hg
    subst hP hw hK
    obtain ⟨⟨old, he⟩, hit⟩ := st
    obtain ⟨xs, x, hq, hx⟩ := hg
    obtain ⟨its, rv, p, hz⟩ := I.tuple hq
    obtain ⟨u, hu, ru⟩ := rv.get hx
    have hel : e < s.heap.objs.size := Heap.lt_size he
    have hil : it < s.heap.objs.size := by obtain ⟨_, q, _⟩ := hit; exact Heap.lt_size q
    have hlt : i < its.toArray.size := by
      have q := (List.getElem?_eq_some_iff.mp hu).1
      simpa using q
    refine wpAny_pyNext_enum_itemD (Draws.tuple (A := X.A.in1) (I.ok.hd hc) it a hai its.toArray) he ⟨hit, p⟩ hlt hn (by simp [hn]; exact fun z => hae z.symm) fun y h' tk hy ho hst hT hsz hk => ?_
    have hyu : y = u := by
      have q : its.toArray[i]? = some y := hy
      have q2 : its.toArray[i]? = some u := by simpa using hu
      rw [q] at q2
      exact Option.some.inj q2
    subst hyu
    refine ⟨_, rfl, wpAny_letOwnedTupleGo_enum (s := { s with heap := h', toks := tk + 1 }) ho fun h'' he' sb => ?_⟩
    have hT2 : h''.get? s.heap.objs.size = some { cls := .type "tuple", data := .seq #[.int i tk, y] } := (sb.2 _ (Nat.ne_of_gt hel)).trans hT
    have new : ObjOk X.prog X.w (upd H s.heap.objs.size (.tup [.int (i : Nat), x])) h'' s.heap.objs.size (.tup [.int (i : Nat), x]) :=
      ⟨by show 2 ≤ sizeLine; decide, [.int i tk, y], .cons ⟨_, rfl⟩ (.cons ru .nil), ⟨_, hT2, rfl, _, rfl⟩⟩
    have I1 : Inv X pins σ (upd H s.heap.objs.size (.tup [.int (i : Nat), x])) { s with heap := h'', toks := tk + 1 } :=
      I.turnedNew (ch := [e, it]) (fun b ob hb q => (sb.2 b (fun z => hb (by simp [z]))).trans (hk b ob (fun z => hb (by simp [z])) (fun z => hb (by simp [z])) q)) hf (Nat.le_refl _) new
    obtain ⟨oi, hoi, ri⟩ := hst.1
    refine ⟨.ref s.heap.objs.size, _, I1, rfl, ⟨_, x, rfl, I.hok.fresh (Nat.le_refl _), rfl, fun ys hy => by rw [I.tuple_inj hy hq]; exact hx⟩, ⟨⟨y, ?_⟩, ⟨oi, (sb.2 it (Ne.symm hn)).trans hoi, ri⟩⟩, fun b hb => ?_⟩
    · have e1 : ((i + 1 : Nat) : Int) = (i : Int) + 1 := by omega
      rw [e1]; exact he'
    · have hb' : b < s.heap.objs.size := by
        have e' : b = e ∨ b = it := by simpa using hb
        rcases e' with z | z
        · rw [z]; exact hel
        · rw [z]; exact hil
      rw [upd_ne (Nat.ne_of_lt hb')]
      exact (hf b hb).1
  done := by
    intro X hP hw hK hc i pins s σ H E I hf st hg
    subst hP hw hK
    obtain ⟨⟨old, he⟩, hit⟩ := st
    obtain ⟨xs, hq, hx⟩ := hg
    obtain ⟨its, rv, p, hz⟩ := I.tuple hq
    obtain ⟨f0, f1, f2, f3, f4, f5⟩ := hf it (by simp)
    have hl := rv.length
    have hn' : i = its.toArray.size := by simp; omega
    subst hn'
    exact wpAny_pyNext_enum_endD (Draws.tuple (A := X.A.in1) (I.ok.hd hc) it a hai its.toArray) he ⟨hit, p⟩ fun h' eb => ⟨rfl, I.turned (t' := s.toks) (fun b o hb q => eb b o hb q) f0 f1 f3 f4 f5⟩
  self := fun A i s Q E st h => let ⟨⟨_, he⟩, _⟩ := st; wpAny_pyIter_enum he h
def iEnumT (K : PySem.W.Frag) (ta : TA) : TI := fun σ H R => ta σ H fun vs H1 => ∃ a xs, vs = [.ref a] ∧ SqT K H1 a xs ∧ R (IteT K a) H1
theorem pi_enumT {X : Cx} {e : Expr} {ta : TA} {p pos tpos : Pos} {elts : List Expr} {kk : Nat} (hg : Gl X "enumerate") (hm : X.mg "enumerate" = none) (ha : PA X [e] ta) (hs : starEach [e] X.env = [(false, eval e X.env)] := by rfl) :
    PI X (.Tuple elts kk tpos) (.Call (.Name "enumerate" p) [e] [] pos) (iEnumT X.K ta) := by
  refine ⟨fun pins s σ H R I h => ?_⟩
  refine Call_ (ld_blt I hg hm boot_enumerate (PyProof.Rows.callWith_type1 (thn (ha.run pos pins s σ H _ I h) fun us s1 ⟨vs, H1, I1, r1, q1⟩ => ?_) hs rfl))
  obtain ⟨a, xs, ex, hq, q⟩ := q1
  subst ex
  cases r1 with
  | cons r rr =>
    cases rr
    cases r
    obtain ⟨its, rv, p', hz⟩ := I1.tuple hq
    have hal : a < s1.heap.objs.size := by obtain ⟨_, q, _⟩ := p'; exact Heap.lt_size q
    refine enum_begins1 (begins_tuple a its.toArray) (show s1.heap.IsTuple a its.toArray from p') fun h' he hit hsz hk => wpAny_pyIter_enum he ?_
    have I2 : Inv X pins σ H1 { s1 with heap := h' } := I1.kept (t' := s1.toks) hk
    refine ⟨s1.heap.objs.size + 1, [s1.heap.objs.size + 1, s1.heap.objs.size], _, _, H1, rfl, I2, turn_enumT a (s1.heap.objs.size + 1) s1.heap.objs.size (Nat.succ_ne_self _) (Nat.ne_of_lt (Nat.lt_succ_of_lt hal)) (Nat.ne_of_lt hal), ⟨⟨.none, he⟩, ⟨_, hit, rfl, rfl⟩⟩, fun b hb => ?_, q⟩
    have e' : b = s1.heap.objs.size + 1 ∨ b = s1.heap.objs.size := by simpa using hb
    have hle : s1.heap.objs.size ≤ b := by
      rcases e' with z | z
      · rw [z]; exact Nat.le_add_right _ _
      · rw [z]; exact Nat.le_refl _
    exact I1.fpOk hle (I1.hok.fresh hle)
theorem walk_enumT {K : PySem.W.Frag} {a : Addr} {xs : List V} : Walk (IteT K a) xs.length (fun H => SqT K H a xs) (YPair (fun i => some (.int (i : Nat))) (fun i => xs[i]?)) :=
by
  refine ⟨fun i _ hi q => ⟨xs, xs[i], q, by simp [hi]⟩, fun _ q => ⟨xs, q, rfl⟩, fun i H v H' _ q y => ?_⟩
  obtain ⟨T, x, h1, h2, h3, h4⟩ := y
  exact ⟨T, .int (i : Nat), x, h1, h2, h3, rfl, h4 xs q⟩
end L2

set_option Elab.async false
set_option linter.all false
set_option maxRecDepth 100000
set_option maxHeartbeats 4000000
/-! a call by keywords alone; a text times a number -/
namespace L2
open PySem PySem.Spec PyProof.Rows
theorem Fun.kbinds {K : PySem.W.Frag} {x qual : Str} {st : Stmt} {f : Addr} {fd : FuncData} {ps ks : List Str} (F : Fun K x qual st f fd) (g : {α : Type} → List α → List α)
    (h : ∀ (kV doc pm : Value) (an : Option Addr) (cdv ct : Value) (ws : List Value), ws.length = ks.length → bindArgs (PySem.W.fnOf x qual (defArgs st) (defBody st) (defScope st) .none kV doc pm an cdv ct) ⟨[], ks.zip ws⟩ = pure (ps.zip (g ws)))
    (hrel : ∀ {zs : List V} {ws : List Value}, Vals zs ws → Vals (g zs) (g ws)) : KBn K fd ps 0 ks (fun _ ws => g ws) (fun _ zs => g zs) := by
  obtain ⟨oc, od, kV, doc, pm, an, cdv, ct, osl, rfl, lk, hcd⟩ := F.ex
  refine ⟨fun s us ws _ h0 hl => ?_, fun _ r => hrel r⟩
  cases us with
  | nil => exact BindsTo.of_eq (h kV doc pm an cdv ct ws hl)
  | cons a r => cases h0
section
variable {X : Cx} {CX : CXT} {k : Nat} {f : Addr} {fd : FuncData} {ps ks : List Str} {sp : Sp} {E : XK} {x : Str} {p pos : Pos} {kws : List Keyword} {tk : TA} {g : List Value → List Value → List Value} {gV : List V → List V → List V}
theorem pe_callN0 (F : FnOk X.prog X.w X.K X.mg X.base CX k f fd ps sp) (hr : Room k X.A) (hg : Gl X x) (hm : X.mg x = some (.ref f)) (hk : PySem.W.keepIn X.K (.ref f) = true) (hb : KBn X.K fd ps 0 ks g gV) (hx : Passes CX X E)
    (hkw : PK X kws tk) (hall : (backToKw pos (keywordEach kws X.env)).all (·.1.isSome) = true := by rfl) (hks : (backToKw pos (keywordEach kws X.env)).filterMap (·.1) = ks := by rfl)
    (hdb : (x == ("__debug__" : Str)) = false := by decide)
    (hpl : ((backTo pos (starEach [] X.env)).any (·.1) || (backToKw pos (keywordEach kws X.env)).any (·.1.isNone)) = false := by rfl) :
    PE X (.Call (.Name x p) [] kws pos) (tCallN 0 ks.length sp gV E tNil tk) := by
  refine ⟨fun pins s σ H Q I h => ?_⟩
  refine wpAny_Call_Name_kw (ld_glob I hg hm ?_ hdb)
  refine PySem.W.callWith_KW0 (h₀ := X.base) I.ok.mod.kin hk hall ?_ hpl
  refine thn (hkw.run pos pins s σ H _ I h) fun ws s2 ⟨zs, H2, I2, rz, l1, l2, q2⟩ => ⟨I2.kIn, ?_⟩
  rw [hks]
  exact run_fnN (us := []) (vs := []) F hr hb hx I2 .nil rz rfl l2 q2
theorem op_mul_str : OpR X (binaryOp .Mult) (fun x y H Q => ∃ z n, x = .str z ∧ y = .int n ∧ z.length ≤ 16 ∧ -(2 ^ 63 : Int) ≤ n ∧ n ≤ 1048576 ∧ Q (.str (Txt.mul z n)) H) := by
  intro pins s σ H x y v u Q I rx ry h
  obtain ⟨z, n, rfl, rfl, h1, h2, h3, q⟩ := h
  obtain ⟨t, rfl⟩ := rx
  obtain ⟨t', rfl⟩ := ry
  exact SB.mul (mulOk_of 16 1048576 h1 h3 h2 (by decide) (by decide)) fun t' tk => ⟨.str _, H, I.tok _, ⟨_, rfl⟩, q⟩
end
end L2

set_option Elab.async false
set_option linter.all false
set_option maxRecDepth 100000
set_option maxHeartbeats 4000000
/-! own exceptions without arguments: raised, and as values -/
namespace L2
open PySem PySem.Spec PyProof.Rows
section
variable {X : Cx} {C : Addr} {bmB : List Value} {B newId initId : String}
theorem pmk_own0 {x : Str} {p pos : Pos} (F : ExcBaseFacts B newId initId bmB) (q : PySem.W.excIn X.K C bmB newId = true) (gC : X.mg x = some (.ref C)) (kC : PySem.W.keepIn X.K (.ref C) = true) (r : Raises X (.ref C)) (hg : Gl X x)
    (hdb : (x == ("__debug__" : Str)) = false := by decide) : PMk X (.Call (.Name x p) [] [] pos) (fun _ H Q => Q (.ref C) none H) := by
  intro pins s σ H Q I h
  refine wpAny_Call_Name_kw (ld_glob I hg gC ?_ hdb)
  refine PySem.W.callWith_K0 I.kIn kC ?_
  obtain ⟨bm, N, nm, qn, bs, hdct, sn, sub, ab, col, dd, k0, k1, k2, k3, k5, mN, hC, hN, hni, T⟩ := exc_obj I.kIn q
  refine wpAny_call_exc_subT F T hC hN hni (fun h' e hm => ?_) (by show 0 ≤ sizeLine; exact Nat.zero_le _)
  exact mk_of I hm r h (I.hok.gone hm.new)
/-- X(), as a value -/
theorem pe_exc0 {x : Str} {p pos : Pos} (F : ExcBaseFacts B newId initId bmB) (q : PySem.W.excIn X.K C bmB newId = true) (gC : X.mg x = some (.ref C)) (kC : PySem.W.keepIn X.K (.ref C) = true) (hg : Gl X x)
    (hdb : (x == ("__debug__" : Str)) = false := by decide) : PE X (.Call (.Name x p) [] [] pos) (fun σ H Q => ∀ a, H a = none → Q (.ref a) (upd H a (ExO (.ref C) a))) := by
  refine ⟨fun pins s σ H Q I h => ?_⟩
  refine wpAny_Call_Name_kw (ld_glob I hg gC ?_ hdb)
  refine PySem.W.callWith_K0 I.kIn kC ?_
  obtain ⟨bm, N, nm, qn, bs, hdct, sn, sub, ab, col, dd, k0, k1, k2, k3, k5, mN, hC, hN, hni, T⟩ := exc_obj I.kIn q
  refine wpAny_call_exc_subT F T hC hN hni (fun h' a hm => ?_) (by show 0 ≤ sizeLine; exact Nat.zero_le _)
  have hn : H a = none := I.hok.gone hm.new
  obtain ⟨t, ht, _, _⟩ := hm.there
  exact ⟨.ref a, upd H a (ExO (.ref C) a), I.laidN hm.keeps hm.new hn (exO_ok ht ⟨rfl, rfl⟩ rfl rfl rfl (show 4 < 6 by decide)), rfl, h a hn⟩
end
end L2

set_option Elab.async false
set_option linter.all false
set_option maxRecDepth 100000
set_option maxHeartbeats 4000000
/-! own exceptions with an __init__ of their own that stores its arguments, over Exception: the stores -/
namespace PySem
namespace ExX
open Builtin Builtin.ObjectAttr PySem.W PySem.Calls PyProof.Rows PySem.HandSPX
abbrev exTail : List Value := [.type "Exception", .type "BaseException", .type "object"]
/-- own classes, then Exception's mro -/
def refsEX : List Value → Bool
  | .ref _ :: r => refsEX r
  | l => l == exTail
theorem refsEX_cases : ∀ l : List Value, refsEX l = true → (∃ c r, l = .ref c :: r ∧ refsEX r = true) ∨ l = exTail := by
  intro l e
  unfold refsEX at e
  split at e
  · exact .inl ⟨_, _, rfl, e⟩
  · exact .inr (beq_iff_eq.mp e)
theorem refsEX_pass (self : Value) : ∀ l : List Value, refsEX l = true → refuseLoop self "__setattr__" l = pure () := by
  intro l
  induction l with
  | nil => intro e; exact absurd e (by decide)
  | cons a r ih =>
    intro e
    rcases refsEX_cases (a :: r) e with ⟨c, r', q, h⟩ | q
    · obtain ⟨rfl, rfl⟩ := List.cons.inj q
      rw [refuseLoop_ref]; exact ih h
    · rw [q]; exact F.store_Exception.passes self
theorem refsEX_contains (X : String) : ∀ l : List Value, refsEX l = true → l.contains (.type X) = exTail.contains (.type X) := by
  intro l
  induction l with
  | nil => intro e; exact absurd e (by decide)
  | cons a r ih =>
    intro e
    rcases refsEX_cases (a :: r) e with ⟨c, r', q, h⟩ | q
    · obtain ⟨rfl, rfl⟩ := List.cons.inj q
      rw [List.contains_cons, ih h]; rfl
    · rw [q]
theorem refsEX_ne {l : List Value} (e : refsEX l = true) : l.isEmpty = false := by
  cases l with
  | nil => exact absurd e (by decide)
  | cons _ _ => rfl
section
variable {prog : Program} {w : World} {A : Around} {E : Value → Shared → Prop} {R : Result → Shared → Prop} {hp : Heap} {g : Array GenState} {d : Drawn} {t : Nat} {os : OsState}
theorem osa_new {K : W.Frag} {name : Str} {tk : Tok} {v : Value} {x C : Addr} {fv : Array Value} {cd : ClassData}
    (X : K.In hp) (hx : hp.get? x = some { cls := .ref C, data := .fields fv }) (hcd : W.clsIn K C = some cd) (hm : refsEX cd.mro = true) (hh : cd.hasDict = true) (ha : W.findIn K (.ref C) name = some none)
    (hq : ∀ h' tk' dx, (∀ b o, b ≠ x → hp.get? b = some o → h'.get? b = some o) → hp.objs.size ≤ dx → dx ≠ x → h'.get? x = some { cls := .ref C, dict := some dx, data := .fields fv } →
      h'.Ns1 dx (fun y => if y = name then some v else none) → R (.ok (.ret .none)) ⟨h', g, d, tk', os⟩) :
    codeAny (model prog w) A (.call (.builtin "object.__setattr__") ⟨[.ref x, .str name tk, v], []⟩) R ⟨hp, g, d, t, os⟩ := by
  have I : W.InstAt hp x { cls := .ref C, data := .fields fv } C none := ⟨hx, rfl, rfl, trivial⟩
  have SF := F.store_object
  have ne := refsEX_ne hm
  have hob : cd.mro.contains (.type "object") = true := (refsEX_contains "object" _ hm).trans (by decide +kernel)
  have hxs : x ≠ hp.objs.size := Nat.ne_of_lt (Heap.lt_size hx)
  have sub : W.Looks (model prog w) hp (isInstance (.ref x) (.type "object")) true := I.type.andThen (W.looks_mroIn X (by unfold W.mroIn; rw [hcd, Option.bind_some, if_neg (by rw [ne]; decide), hob]))
  refine codeAny_call_builtin SF.slot.plain SF.entry (@W.check_slot (model prog w) _ _ ⟨hp, g, d, t, os⟩ "object.__setattr__" "object" "__setattr__" (.ref x) [.str name tk, v] [] _ SF.kind SF.split sub (SF.args (.ref x) (.str name tk) v) ?_)
  have hmr : W.Looks (model prog w) hp (mroOf (.ref C)) cd.mro := (W.looks_clsIn X hcd).andThen .now
  have L3 : W.Looks (model prog w) hp (storeTaker? none) none := .now
  have hcls : W.Looks (model prog w) hp (classData C) cd := W.looks_clsIn X hcd
  rw [W.osa_eq, refuse_eq]
  refine wpAny_bind (wpAny_bind (I.type.at (wpAny_bind (hmr.at ?_))))
  rw [refsEX_pass _ _ hm]
  refine wpAny_pure (wpAny_bind (I.type.at (wpAny_bind ((W.looks_findIn X ha).at (wpAny_bind (L3.at ?_))))))
  show wpAny _ _ (storeInOwnDict (.ref x) (.ref C) (.str name tk) name v false) _ _ _
  obtain ⟨nm, bs, mro, ns, qn, hd, sn, sb, ab, col, del⟩ := cd
  dsimp only at hh
  subst hh
  unfold storeInOwnDict ownDictForStores
  repeat (first | with_reducible refine store_in_new ?_ ?_ | with_reducible refine wpAny_loadPart_at hx ?_ | with_reducible refine hcls.at ?_ | wp_step)
  · exact ⟨_, #[], _, (Heap.get?_update_ne _ _ _ _ hxs.symm).trans (Heap.get?_push_at rfl rfl), rfl, fun e he => absurd he (by simp), fun _ => rfl⟩
  · intro h' tk' hn' hs
    have hx₁ : (hp.push { cls := .type "dict", data := .dict #[] }).get? x = some { cls := .ref C, data := .fields fv } := Heap.get?_push_of_some _ hx
    refine hq h' tk' hp.objs.size (fun b o hb ho => ?_) (Nat.le_refl _) hxs.symm ?_ hn'
    · exact (hs.2 b (Nat.ne_of_lt (Heap.lt_size ho))).trans ((Heap.get?_update_ne _ _ _ _ hb).trans (Heap.get?_push_of_some _ ho))
    · exact (hs.2 x hxs).trans (Heap.get?_update_self _ hx₁ rfl)
theorem osa_old {K : W.Frag} {name : Str} {tk : Tok} {v : Value} {x C dx : Addr} {fv : Array Value} {cd : ClassData} {m0 : Str → Option Value} {nl : List Str}
    (X : K.In hp) (hx : hp.get? x = some { cls := .ref C, dict := some dx, data := .fields fv }) (hns : hp.Ns1 dx m0) (hw : Within m0 nl) (hz : nl.length ≤ 1000) (hcd : W.clsIn K C = some cd) (hm : refsEX cd.mro = true) (hh : cd.hasDict = true)
    (ha : W.findIn K (.ref C) name = some none)
    (hq : ∀ h' tk', (∀ b o, b ≠ dx → hp.get? b = some o → h'.get? b = some o) → h'.Ns1 dx (fun y => if y = name then some v else m0 y) → R (.ok (.ret .none)) ⟨h', g, d, tk', os⟩) :
    codeAny (model prog w) A (.call (.builtin "object.__setattr__") ⟨[.ref x, .str name tk, v], []⟩) R ⟨hp, g, d, t, os⟩ := by
  obtain ⟨oD, esD, epD, hoD, hdD, _⟩ := hns.count hw
  have I : W.InstAt hp x { cls := .ref C, dict := some dx, data := .fields fv } C (some oD) := ⟨hx, rfl, rfl, hoD⟩
  have SF := F.store_object
  have ne := refsEX_ne hm
  have hob : cd.mro.contains (.type "object") = true := (refsEX_contains "object" _ hm).trans (by decide +kernel)
  have sub : W.Looks (model prog w) hp (isInstance (.ref x) (.type "object")) true := I.type.andThen (W.looks_mroIn X (by unfold W.mroIn; rw [hcd, Option.bind_some, if_neg (by rw [ne]; decide), hob]))
  refine codeAny_call_builtin SF.slot.plain SF.entry (@W.check_slot (model prog w) _ _ ⟨hp, g, d, t, os⟩ "object.__setattr__" "object" "__setattr__" (.ref x) [.str name tk, v] [] _ SF.kind SF.split sub (SF.args (.ref x) (.str name tk) v) ?_)
  have hmr : W.Looks (model prog w) hp (mroOf (.ref C)) cd.mro := (W.looks_clsIn X hcd).andThen .now
  have L3 : W.Looks (model prog w) hp (storeTaker? none) none := .now
  have hcls : W.Looks (model prog w) hp (classData C) cd := W.looks_clsIn X hcd
  rw [W.osa_eq, refuse_eq]
  refine wpAny_bind (wpAny_bind (I.type.at (wpAny_bind (hmr.at ?_))))
  rw [refsEX_pass _ _ hm]
  refine wpAny_pure (wpAny_bind (I.type.at (wpAny_bind ((W.looks_findIn X ha).at (wpAny_bind (L3.at ?_))))))
  show wpAny _ _ (storeInOwnDict (.ref x) (.ref C) (.str name tk) name v false) _ _ _
  obtain ⟨nm, bs, mro, ns, qn, hd, sn, sb, ab, col, del⟩ := cd
  dsimp only at hh
  subst hh
  unfold storeInOwnDict ownDictForStores
  repeat (first | with_reducible refine PySem.OEX.store_in_old hns hw hz ?_ | with_reducible refine wpAny_loadPart_at hx ?_ | with_reducible refine hcls.at ?_ | wp_step)
  intro h' tk' hn' hs
  exact hq h' tk' (fun b o hb ho => (hs.2 b hb).trans ho) hn'
end
end ExX
end PySem

set_option Elab.async false
set_option linter.all false
set_option maxRecDepth 100000
set_option maxHeartbeats 4000000
namespace PySem
namespace ExX
open PySem.W PySem.Calls PyProof.Rows PySem.HandSPX
/-- what the written part says of an own exception class, at C, over Exception, and of its __init__, at fI -/
structure ExcT (K : W.Frag) (mg : Str → Option Value) (C fI : Addr) (cn : Str) (fs : List Str) (qual : Str) (st : Stmt) : Prop where
  gC : mg cn = some (.ref C)
  cls : ∃ nm q N bs bm sn sub ab col dd k0 k1 k2 k3 k5, K.lookup C = some (excClassObj nm q C N bs bm true sn sub ab col dd k0 k1 k2 k3 k5 "Exception.__new__") ∧ refsEX bm = true
  sa : findIn K (.ref C) "__setattr__" = some (some (.builtin "object.__setattr__"))
  ga : findIn K (.ref C) "__getattribute__" = some (some (.builtin "BaseException.__getattribute__"))
  gg : findIn K (.ref C) "__getattr__" = some none
  no : ∀ f ∈ fs, findIn K (.ref C) f = some none
  iC : findIn K (.ref C) "__init__" = some (some (.ref fI))
  tC : typeIn K (.ref fI) = some (.type "function")
  kC : keepIn K (.ref C) = true
  exC : subIn K (.ref C) (.type "BaseException") = some true
  tyC : typeIn K (.ref C) = some (.type "type")
  hdC : hasDictIn K C = true
  fn : ∃ (oc : Value) (od : Option Addr) (kV doc pm : Value) (an : Option Addr) (cdv ct : Value) (osl : Array (Option Value)),
    K.lookup fI = some ⟨oc, od, .func (fnOf "__init__" qual (L2.defArgs st) (L2.defBody st) (L2.defScope st) .none kV doc pm an cdv ct), osl⟩ ∧ codeIn K cdv qual = true
theorem ldC {M : Model} {s : Shared} {name : Str} {scope : Scope} {L a : Addr} {cd : Value} {m : Str → Option Value} {x : Str} {pos : Pos} {v : Value} {Q : Value → Shared → Prop} {A : Around} {E : Value → Shared → Prop} (hn : s.heap.Ns L m) (hv : m x = some v) (h : Q v s)
    (hk : scope.kind = .function := by rfl) (hl : (envOfC name scope L a cd).kindOf x = some .local := by rfl) (hd : (x == ("__debug__" : Str)) = false := by decide) :
    wpAny M A (eval (.Name x pos) (envOfC name scope L a cd)) Q E s := wpAny_Name (wpAny_loadName_local hk hl hn hv h) hd
end ExX
end PySem
namespace PySem
namespace ExX
open PySem.W PySem.Calls PyProof.Rows PySem.HandSPX
/-- a made exception of the class at C: itself at e, its dict at d, the fields m -/
structure OwnMade (h h' : Heap) (e C d : Addr) (m : Str → Option Value) : Prop where
  keep : ∀ b o, h.get? b = some o → h'.get? b = some o
  new : h.objs.size ≤ e
  obj : ∃ oe vs, h'.get? e = some oe ∧ oe.cls = .ref C ∧ oe.dict = some d ∧ oe.data = .fields vs ∧ vs[1]? = some .none
  dbig : h.objs.size ≤ d
  dne : d ≠ e
  ns : h'.Ns1 d m
end ExX
end PySem
namespace L2
open PySem PySem.Spec PyProof.Rows PySem.ExX
/-- an exception object of the class at C, its own dict at d, not raised -/
def ExD (C d e : Addr) : HO := .ext fun h => ∃ (oe : Obj) (vs : Array Value), h.get? e = some oe ∧ Zc (.ref C) (some d) oe ∧ oe.data = .fields vs ∧ vs[1]? = some .none
theorem exD_ok {P : Program} {w : World} {H : Hp} {h : Heap} {C d e : Addr} {oe : Obj} {vs : Array Value} (he : h.get? e = some oe) (z : Zc (.ref C) (some d) oe) (hd : oe.data = .fields vs) (h1 : vs[1]? = some .none) : ObjOk P w H h e (ExD C d e) :=
  ⟨⟨oe, vs, he, z, hd, h1⟩, ⟨oe, he⟩, fun _ _ ⟨o, v, q, r⟩ k => ⟨o, v, k o q, r⟩⟩
section
variable {X : Cx} {pins : List (Addr × Obj)} {σ : St} {H : Hp} {hp h' : Heap} {g : Array GenState} {dr : Drawn} {tk tk' : Nat} {os : OsState} {e C d : Addr} {m : Str → Option Value} {fs : List (Str × V)}
/-- the heap without the exception itself: its dict laid -/
theorem own_split (I : Inv X pins σ H ⟨hp, g, dr, tk, os⟩) (M : OwnMade hp h' e C d m) (rel : ∀ f, RelO (fs.lookup f) (m f)) :
    ∃ G' : Heap, (∀ b o, G'.get? b = some o → h'.get? b = some o) ∧ G'.get? e = none ∧ Inv X pins σ (upd H d (.xd fs)) ⟨G', g, dr, tk', os⟩ := by
  have hns := M.ns
  obtain ⟨G', g1, g2⟩ := restrict h' fun b => decide (b ≠ e)
  have gk : ∀ b, b ≠ e → G'.get? b = h'.get? b := fun b hb => g1 b (decide_eq_true hb)
  have ge : G'.get? e = none := g2 e (by simp)
  have old : ∀ b o, hp.get? b = some o → G'.get? b = some o := fun b o q => (gk b (Nat.ne_of_lt (Nat.lt_of_lt_of_le (Heap.lt_size q) M.new))).trans (M.keep b o q)
  have ob : ObjOk X.prog X.w (upd H d (.xd fs)) G' d (.xd fs) := ⟨_, hns.at (fun o q => (gk d M.dne).trans q), fun f => rel f⟩
  have J : Inv X pins σ (upd H d (.xd fs)) ⟨G', g, dr, tk', os⟩ := I.laid (t' := tk') old M.dbig ob
  refine ⟨G', fun b o q => ?_, ge, J⟩
  by_cases hb : b = e
  · rw [hb, ge] at q; cases q
  · exact (gk b hb).symm.trans q
theorem own_value (I : Inv X pins σ H ⟨hp, g, dr, tk, os⟩) (M : OwnMade hp h' e C d m) (rel : ∀ f, RelO (fs.lookup f) (m f)) :
    Inv X pins σ (upd (upd H d (.xd fs)) e (ExD C d e)) ⟨h', g, dr, tk', os⟩ := by
  obtain ⟨G', k, ge, J⟩ := own_split (tk' := tk') I M rel
  obtain ⟨oe, vs, hoe, hc, hd, hdat, h1⟩ := M.obj
  have hn : upd H d (.xd fs) e = none := by
    rw [upd_ne (Ne.symm M.dne)]
    exact I.hok.fresh M.new
  exact J.laidN k ge hn (exD_ok hoe ⟨hc, hd⟩ hdat h1)
theorem own_raise {Q : XK} (I : Inv X pins σ H ⟨hp, g, dr, tk, os⟩) (M : OwnMade hp h' e C d m) (rel : ∀ f, RelO (fs.lookup f) (m f)) (r : Raises X (.ref C)) (q : ∀ d, H d = none → Q (.ref C) (some d) (upd H d (.xd fs))) :
    MkP X pins σ Q (.ref e) ⟨h', g, dr, tk', os⟩ := by
  obtain ⟨G', k, ge, J⟩ := own_split (tk' := tk') I M rel
  obtain ⟨oe, vs, hoe, hc, hd, hdat, h1⟩ := M.obj
  refine ⟨e, oe, vs, ⟨G', g, dr, tk', os⟩, _, .ref C, some d, rfl, J, k, ge, hoe, ⟨hc, hd⟩, hdat, h1, ?_, rfl, I.bare, r, q d (I.hok.fresh M.dbig)⟩
  rw [upd_ne (Ne.symm M.dne)]
  exact I.hok.fresh M.new
end
end L2

set_option Elab.async false
set_option linter.all false
set_option maxRecDepth 100000
set_option maxHeartbeats 4000000
/-! isinstance of exception objects that are values, whatever own dict they have -/
namespace PySem.W
open PySem PySem.Spec PySem.Calls PyProof.Rows
section
variable {prog : Program} {w : World} {A : Around} {E : Value → Shared → Prop} {s : Shared} {K : Frag} {x D : Addr} {ox : Obj} {od : Option Obj}
theorem findObj_dataZ {C : Addr} {name : Str} {a g : Value} (hc : (clsIn K C).isSome = true) (ha : findIn K (.ref C) name = some (some a)) (hg : specialIn K a "__get__" = some (some g)) (ht : takesIn K a = some true) : findObj K C od name = some (.bind g a) := by
  obtain ⟨cd, hc⟩ := Option.isSome_iff_exists.mp hc
  unfold findObj
  rw [hc, Option.bind_some, ha, Option.bind_some]
  simp [hg, ht]
theorem kin_classZ {Q : Option Value → Shared → Prop} (hga : findIn K (.ref D) "__getattribute__" = some (some (.builtin "BaseException.__getattribute__"))) (hgt : findIn K (.ref D) "__getattr__" = some none) (hsub : subIn K (.ref D) (.type "BaseException") = some true)
    (hdct : hasDictIn K D = true) (ha : findIn K (.ref D) "__class__" = some (some (.builtin "object.__class__")))
    (hn : specialIn K (.builtin "object.__class__") "__get__" = some (some (.builtin "getset_descriptor.__get__"))) (htk : takesIn K (.builtin "object.__class__") = some true) (hm : mroIn K D (.type "object") = some true)
    (X : K.In s.heap) (I : InstAt s.heap x ox D od) (h : Q (some (.ref D)) { s with toks := s.toks + 1 }) : wpAny (model prog w) A (getAttr? (.ref x) "__class__") Q E s := by
  have hf : findObj K D od "__class__" = some (.bind (.builtin "getset_descriptor.__get__") (.builtin "object.__class__")) := findObj_dataZ (by obtain ⟨cd, hc, _⟩ := any_some hdct; rw [hc]; rfl) ha hn htk
  obtain ⟨hp, g, d, t, os⟩ := s
  have L0 := I.type (M := model prog w)
  have L1 := looks_findIn (M := model prog w) X hga
  have L2 := looks_findIn (M := model prog w) X hgt
  have L3 := looks_find (M := model prog w) X I hf
  have sub : Looks (model prog w) hp (isInstance (.ref x) (.type "BaseException")) true := L0.andThen (looks_subIn X hsub)
  have hx0 : (false && onTheHeap (Value.builtin "BaseException.__getattribute__")) = false := rfl
  have hx2 : (Value.builtin "BaseException.__getattribute__" == Value.builtin "object.__getattribute__") = false := by decide +kernel
  have hx1 : (onTheHeap (Value.ref D) && Value.builtin "BaseException.__getattribute__" == Value.builtin "object.__getattribute__") = false := by rw [hx2]; rfl
  unfold getAttr? getAttrBy? getAttrBy
  refine wpAny_bind (wpAny_mkText (wpAny_bind (wpAny_attempt (wpAny_holding (wpAny_bind (L0.at (wpAny_bind (L1.at ?_))))))))
  show wpAny _ _ (if (onTheHeap (Value.ref D) && Value.builtin "BaseException.__getattribute__" == Value.builtin "object.__getattribute__") = true then _ else _) _ _ _
  rw [hx1, if_neg Bool.false_ne_true]
  unfold getAttrByItsOwn hookBefore
  refine wpAny_bind ?_
  rw [if_pos (show onTheHeap (Value.ref D) = true from rfl)]
  refine L2.at ?_
  refine wpAny_bind (wpAny_attempt (wpAny_holding ?_))
  unfold callGetattribute
  rw [hx0, if_neg Bool.false_ne_true]
  unfold boundAndCalled
  rw [PySem.F.excAttr_ValueError.ga.bind (.ref x)]
  refine wpAny_bind (wpAny_pure ?_)
  show wpAny _ _ (call (.builtin "BaseException.__getattribute__") [.ref x, .str "__class__" t]) _ _ _
  refine wpAny_call (codeAny_call_builtin PySem.F.excAttr_ValueError.ga.plain PySem.F.entry_bexc_ga ?_)
  refine @check_slot (model prog w) _ _ ⟨hp, g, d, t + 1, os⟩ "BaseException.__getattribute__" "BaseException" "__getattribute__" (.ref x) [.str "__class__" t] [] _ (by decide +kernel) (by decide +kernel) sub (PySem.F.args_bexc_ga (.ref x) (.str "__class__" t)) ?_
  unfold Builtin.«object.__getattribute__»
  refine wpAny_bind (wpAny_of_eq (a := ((Value.ref x : Value), [Value.str "__class__" t])) (by first | rfl | (simp only [slotArgs]; rfl)) ?_)
  refine wpAny_bind (wpAny_pure (wpAny_bind (L0.at (wpAny_bind (L3.at ?_)))))
  show wpAny _ _ (holding [Value.builtin "object.__class__"] (call (.builtin "getset_descriptor.__get__") [.builtin "object.__class__", .ref x, .ref D]) >>= ret) _ _ _
  refine wpAny_bind (wpAny_holding (wpAny_call (class_get (s := ⟨hp, g, d, t + 1, os⟩) (ox := ox) (od := od) X I hm ?_)))
  refine wpAny_pure ?_
  show wpAny _ _ (handedOut (.ref D)) _ _ _
  rw [handedOut_of (v := .ref D) rfl]
  first
    | exact wpAny_pure (wpAny_pure h)
    | exact wpAny_pure h
    | exact wpAny_pure (wpAny_bind (wpAny_pure (wpAny_pure h)))
theorem kitx_excZ (hga : findIn K (.ref D) "__getattribute__" = some (some (.builtin "BaseException.__getattribute__"))) (hgt : findIn K (.ref D) "__getattr__" = some none) (hsub : subIn K (.ref D) (.type "BaseException") = some true) (hdct : hasDictIn K D = true) (ha : findIn K (.ref D) "__class__" = some (some (.builtin "object.__class__")))
    (hn : specialIn K (.builtin "object.__class__") "__get__" = some (some (.builtin "getset_descriptor.__get__"))) (htk : takesIn K (.builtin "object.__class__") = some true) (hm : mroIn K D (.type "object") = some true) :
    KitX K (.ref x) (.ref D) (fun h => InstAt h x ox D od) where
  ty := fun _ _ _ I => I.type
  it := fun _ _ X _ => by
    obtain ⟨cdD, hcD, _⟩ := any_some hdct
    unfold clsIn at hcD
    split at hcD
    · rename_i c' d' cd' sl' ho
      intro A' Q' E' s' k q
      unfold isType loadHead
      exact wpAny_bind (wpAny_loadPart (k _ _ (X _ _ ho)) (wpAny_pure q))
    · cases hcD
  ne := (handS_kitx_exc (x := x) (ox := ox) hga hgt hsub hdct ha hn htk hm).ne
  ca := fun X I k => kin_classZ hga hgt hsub hdct ha hn htk hm X I k
end
end PySem.W
namespace L2
open PySem PySem.Spec PyProof.Rows PySem.ExX
/-- the type of a value: also of an exception object that is a value -/
inductive TyZ (K : PySem.W.Frag) (H : Hp) : V → Value → Prop where
  | x {v : V} {t : Value} (h : TyX K H v t) : TyZ K H v t
  | exo {a C : Addr} (e : H a = some (ExO (.ref C) a)) (c : ExcC K C) : TyZ K H (.ref a) (.ref C)
  | exd {a C d : Addr} {fs : List (Str × V)} (e : H a = some (ExD C d a)) (ed : H d = some (.xd fs)) (c : ExcC K C) : TyZ K H (.ref a) (.ref C)
section
variable {X : Cx} {pins : List (Addr × Obj)} {σ : St} {H : Hp} {s : Shared}
theorem kit_ofZ {x : V} {u t : Value} (I : Inv X pins σ H s) (rx : RelV x u) (ty : TyZ X.K H x t) : ∃ P : Heap → Prop, PySem.W.KitX X.K u t P ∧ P s.heap ∧ u ≠ .builtin "__main__.__loader__#opaque" := by
  cases ty with
  | x h => exact kit_of I rx h
  | @exo a C e c =>
    cases (show u = Value.ref a from rx)
    obtain ⟨⟨oe, vs, ho, hz, hd, _, _⟩, _, _⟩ := I.hok a _ e
    have J : PySem.W.InstAt s.heap a oe C none := by
      obtain ⟨oc, od, oda, osl⟩ := oe
      obtain ⟨h1, h2⟩ := hz
      dsimp only at h1 h2 hd
      subst h1 h2 hd
      exact ⟨ho, rfl, rfl, trivial⟩
    exact ⟨_, PySem.W.kitx_excZ c.hg c.hk c.hs c.hd c.ha c.hn c.ht c.hm, J, fun z => nomatch z⟩
  | @exd a C d fs e ed c =>
    cases (show u = Value.ref a from rx)
    obtain ⟨⟨oe, vs, ho, hz, hd, _⟩, _, _⟩ := I.hok a _ e
    obtain ⟨mA, hns, _⟩ := (show ObjOk X.prog X.w H s.heap d (.xd fs) from I.hok d _ ed)
    obtain ⟨od, hod, _⟩ := lookIn_ns hns
    have J : PySem.W.InstAt s.heap a oe C (some od) := by
      obtain ⟨oc, odd, oda, osl⟩ := oe
      obtain ⟨h1, h2⟩ := hz
      dsimp only at h1 h2 hd
      subst h1 h2 hd
      exact ⟨ho, rfl, rfl, hod⟩
    exact ⟨_, PySem.W.kitx_excZ c.hg c.hk c.hs c.hd c.ha c.hn c.ht c.hm, J, fun z => nomatch z⟩
end
def rIsiZ (K : PySem.W.Frag) : List V → Hp → VK → Prop := fun xs H Q => ∃ (x c : V) (t u : Value) (b : Bool), xs = [x, c] ∧ ClsV c u ∧ TyZ K H x t ∧ PySem.W.kitOne K t u = some b ∧ Q (.bl b) H
def rIsiTZ (K : PySem.W.Frag) : List V → Hp → VK → Prop := fun xs H Q => ∃ (x : V) (tp : Addr) (cs : List V) (t : Value) (us : List Value) (b : Bool), xs = [x, .ref tp] ∧ H tp = some (.tup cs) ∧ Paired ClsV cs us ∧ TyZ K H x t ∧ PySem.W.kitAny K t us = some b ∧ Q (.bl b) H
section
variable {X : Cx} {K : PySem.W.Frag}
theorem call_isiZ (hK : X.K = K) : CallR X (.builtin "isinstance") (rIsiZ K) := by
  subst hK
  intro pins s σ H xs us Q I r h
  obtain ⟨x, c, t, u, b, rfl, k, ty, e, q⟩ := h
  obtain ⟨u1, u2, rfl, r1, r2⟩ := vals2 r
  have e2 := k.eq r2
  subst e2
  obtain ⟨P, Z, p, hx⟩ := kit_ofZ I r1 ty
  exact PySem.W.kia_one Z I.kIn p e hx fun tk => ⟨.bl b, H, I.tok tk, rfl, q⟩
theorem call_isiTZ (hK : X.K = K) : CallR X (.builtin "isinstance") (rIsiTZ K) := by
  subst hK
  intro pins s σ H xs us Q I r h
  obtain ⟨x, tp, cs, t, ws, b, rfl, hT, k, ty, e, q⟩ := h
  obtain ⟨u1, u2, rfl, r1, r2⟩ := vals2 r
  cases (show u2 = Value.ref tp from r2)
  obtain ⟨P, Z, p, hx⟩ := kit_ofZ I r1 ty
  obtain ⟨_, its, rv, o, h1, h2, n, h3⟩ := (show ObjOk X.prog X.w H s.heap tp (.tup cs) from I.hok tp _ hT)
  have e3 := ClsV.all k rv
  subst e3
  obtain ⟨oc, od, dt, sl⟩ := o
  simp only at h2 h3
  subst h2 h3
  exact PySem.W.kia_tup Z I.kIn p h1 e hx fun tk => ⟨.bl b, H, I.tok tk, rfl, q⟩
end
end L2

set_option Elab.async false
set_option linter.all false
set_option maxRecDepth 100000
set_option maxHeartbeats 4000000
namespace PySem
namespace ExX
open PySem.W PySem.Calls PyProof.Rows
theorem refsEX_of : ∀ l : List Value, excTail exTail l = true → refsEX l = true := by
  intro l
  induction l with
  | nil => intro h; exact absurd h (by decide +kernel)
  | cons a r ih =>
    intro h
    rcases excTail_cases (bmB := exTail) (a :: r) h with ⟨c, r', e, q⟩ | e
    · cases e
      exact ih q
    · rw [e]; rfl
theorem excT_cls {K : Frag} {C : Addr} (q : excInitIn K C exTail "Exception.__new__" = true) (hd : hasDictIn K C = true) :
    ∃ nm q N bs bm sn sub ab col dd k0 k1 k2 k3 k5, K.lookup C = some (excClassObj nm q C N bs bm true sn sub ab col dd k0 k1 k2 k3 k5 "Exception.__new__") ∧ refsEX bm = true := by
  unfold excInitIn at q
  split at q
  · rename_i dd cd sl ho
    split at q
    · rename_i C' bm k0 k1 k2 k3 n k5 hm hs
      simp only [Bool.and_eq_true, beq_iff_eq, Bool.not_eq_true'] at q
      obtain ⟨⟨⟨rfl, rfl⟩, hdel⟩, ht⟩ := q
      obtain ⟨nm, bs, mro, ns, qn, hd', sn, sub, ab, col, del⟩ := cd
      dsimp only at hm hdel
      subst hm hdel
      have hsl : sl = #[k0, k1, k2, k3, some (.builtin "Exception.__new__"), k5] := by
        obtain ⟨l⟩ := sl
        simp only at hs
        rw [hs]
      subst hsl
      have e : hd' = true := by
        unfold hasDictIn at hd
        have hc : clsIn K C' = some ⟨nm, bs, .ref C' :: bm, ns, qn, hd', sn, sub, ab, col, false⟩ := by unfold clsIn; rw [ho]
        rw [hc] at hd
        simpa using hd
      subst e
      exact ⟨nm, qn, ns, bs, bm, sn, sub, ab, col, dd, k0, k1, k2, k3, k5, ho, refsEX_of _ ht⟩
    · cases q
  · cases q
end ExX
end PySem

set_option Elab.async false
set_option linter.all false
set_option maxRecDepth 100000
/-! the rules whose reading names the written part, with that part a letter of its own (within a comprehension the place's own name of it can't be found by unification) -/
namespace L2
open PySem PySem.Spec PyProof.Rows
variable {X : Cx} {K : PySem.W.Frag}
theorem ix_listK (h : X.K = K) : IxR X (rIxL K) := by subst h; exact ix_list
theorem ix_tupK (h : X.K = K) : IxR X (rIxT K) := by subst h; exact ix_tup
theorem call_tuple_ofK (h : X.K = K) : CallR X (.type "tuple") (fun xs H Q => ∃ p ys, xs = [.ref p] ∧ ((SqL K H p ys ∧ ∀ l, H l = none → Q (.ref l) (upd H l (.tup ys))) ∨ (SqT K H p ys ∧ Q (.ref p) H))) := by subst h; exact call_tuple_of
theorem call_list_ofK (h : X.K = K) : CallR X (.type "list") (fun xs H Q => ∃ p ys, xs = [.ref p] ∧ (SqL K H p ys ∨ SqT K H p ys) ∧ ∀ l, H l = none → Q (.ref l) (upd H l (.lst ys))) := by subst h; exact call_list_of
theorem call_len_seqK (h : X.K = K) : CallR X (.builtin "len") (fun xs H Q => ∃ p ys, xs = [.ref p] ∧ (SqL K H p ys ∨ SqT K H p ys) ∧ Q (.int ys.length) H) := by subst h; exact call_len_seq
theorem call_isiK' (h : X.K = K) : CallR X (.builtin "isinstance") (rIsi K) := by subst h; exact call_isi
theorem call_isiTK (h : X.K = K) : CallR X (.builtin "isinstance") (rIsiT K) := by subst h; exact call_isiT
theorem sl_listK (h : X.K = K) : SlR X (rSlL K) := by subst h; exact sl_list
theorem cr_allK (h : X.K = K) (hc : X.calm = true) : CallR X (.builtin "all") (rAll K) := by subst h; exact cr_all hc
theorem cr_anyK (h : X.K = K) (hc : X.calm = true) : CallR X (.builtin "any") (rAny K) := by subst h; exact cr_any hc
theorem cr_sumK (h : X.K = K) (hc : X.calm = true) : CallR X (.builtin "sum") (rSum K) := by subst h; exact cr_sum hc
end L2

set_option Elab.async false
set_option linter.all false
set_option maxRecDepth 100000
set_option maxHeartbeats 4000000
namespace J
open PySem L2
def topS (i : Nat) : Stmt := PySem.Challenge.pw_onewayread_k02_rows_judged_and_read.main.body.getD i (.Pass ⟨0, 0, 0, 0⟩)
abbrev s_InvalidLoom_init : Stmt := inClass (topS 2) 0
abbrev N_InvalidLoom_init : List Str := ["self", "part", "at"]
abbrev P_InvalidLoom_init : List Str := ["self", "part", "at"]
theorem sc_InvalidLoom_init : FnScope N_InvalidLoom_init P_InvalidLoom_init (defScope s_InvalidLoom_init) := ⟨rfl, rfl, rfl, by decide +kernel, rfl, by decide +kernel, by decide +kernel⟩
abbrev s_InvalidRow_init : Stmt := inClass (topS 4) 0
abbrev N_InvalidRow_init : List Str := ["self", "at"]
abbrev P_InvalidRow_init : List Str := ["self", "at"]
theorem sc_InvalidRow_init : FnScope N_InvalidRow_init P_InvalidRow_init (defScope s_InvalidRow_init) := ⟨rfl, rfl, rfl, by decide +kernel, rfl, by decide +kernel, by decide +kernel⟩
abbrev s_is_number : Stmt := topS 9
abbrev N_is_number : List Str := ["thing", "low", "high"]
abbrev P_is_number : List Str := ["thing", "low", "high"]
theorem sc_is_number : FnScope N_is_number P_is_number (defScope s_is_number) := ⟨rfl, rfl, rfl, by decide +kernel, rfl, by decide +kernel, by decide +kernel⟩
abbrev s_is_sequence : Stmt := topS 10
abbrev N_is_sequence : List Str := ["thing", "fewest", "most"]
abbrev P_is_sequence : List Str := ["thing", "fewest", "most"]
theorem sc_is_sequence : FnScope N_is_sequence P_is_sequence (defScope s_is_sequence) := ⟨rfl, rfl, rfl, by decide +kernel, rfl, by decide +kernel, by decide +kernel⟩
abbrev s_is_signs : Stmt := topS 11
abbrev N_is_signs : List Str := ["thing", "letters", "sign", "one", "other"]
abbrev P_is_signs : List Str := ["thing"]
theorem sc_is_signs : FnScope N_is_signs P_is_signs (defScope s_is_signs) := ⟨rfl, rfl, rfl, by decide +kernel, rfl, by decide +kernel, by decide +kernel⟩
abbrev s_is_string_over : Stmt := topS 12
abbrev N_is_string_over : List Str := ["signs", "thing", "fewest", "most", "sign"]
abbrev P_is_string_over : List Str := ["signs", "thing", "fewest", "most"]
theorem sc_is_string_over : FnScope N_is_string_over P_is_string_over (defScope s_is_string_over) := ⟨rfl, rfl, rfl, by decide +kernel, rfl, by decide +kernel, by decide +kernel⟩
abbrev s_is_word : Stmt := topS 13
abbrev N_is_word : List Str := ["signs", "thing"]
abbrev P_is_word : List Str := ["signs", "thing"]
theorem sc_is_word : FnScope N_is_word P_is_word (defScope s_is_word) := ⟨rfl, rfl, rfl, by decide +kernel, rfl, by decide +kernel, by decide +kernel⟩
abbrev s_check_signs : Stmt := topS 14
abbrev N_check_signs : List Str := ["signs"]
abbrev P_check_signs : List Str := ["signs"]
theorem sc_check_signs : FnScope N_check_signs P_check_signs (defScope s_check_signs) := ⟨rfl, rfl, rfl, by decide +kernel, rfl, by decide +kernel, by decide +kernel⟩
abbrev s_check_state : Stmt := topS 15
abbrev N_check_state : List Str := ["state"]
abbrev P_check_state : List Str := ["state"]
theorem sc_check_state : FnScope N_check_state P_check_state (defScope s_check_state) := ⟨rfl, rfl, rfl, by decide +kernel, rfl, by decide +kernel, by decide +kernel⟩
abbrev s_first_misfit : Stmt := topS 18
abbrev N_first_misfit : List Str := ["loom", "state", "thing", "place", "at", "number"]
abbrev P_first_misfit : List Str := ["loom", "state", "thing"]
theorem sc_first_misfit : FnScope N_first_misfit P_first_misfit (defScope s_first_misfit) := ⟨rfl, rfl, rfl, by decide +kernel, rfl, by decide +kernel, by decide +kernel⟩
abbrev s_check_row : Stmt := topS 19
abbrev N_check_row : List Str := ["loom", "state", "row", "at"]
abbrev P_check_row : List Str := ["loom", "state", "row"]
theorem sc_check_row : FnScope N_check_row P_check_row (defScope s_check_row) := ⟨rfl, rfl, rfl, by decide +kernel, rfl, by decide +kernel, by decide +kernel⟩
abbrev s_is_row : Stmt := topS 20
abbrev N_is_row : List Str := ["loom", "state", "thing"]
abbrev P_is_row : List Str := ["loom", "state", "thing"]
theorem sc_is_row : FnScope N_is_row P_is_row (defScope s_is_row) := ⟨rfl, rfl, rfl, by decide +kernel, rfl, by decide +kernel, by decide +kernel⟩
abbrev s_text_of : Stmt := topS 21
abbrev N_text_of : List Str := ["loom", "state", "row", "number"]
abbrev P_text_of : List Str := ["loom", "state", "row"]
theorem sc_text_of : FnScope N_text_of P_text_of (defScope s_text_of) := ⟨rfl, rfl, rfl, by decide +kernel, rfl, by decide +kernel, by decide +kernel⟩
abbrev s_end_of : Stmt := topS 22
abbrev N_end_of : List Str := ["loom", "state", "row"]
abbrev P_end_of : List Str := ["loom", "state", "row"]
theorem sc_end_of : FnScope N_end_of P_end_of (defScope s_end_of) := ⟨rfl, rfl, rfl, by decide +kernel, rfl, by decide +kernel, by decide +kernel⟩
abbrev s_is_arc : Stmt := topS 25
abbrev N_is_arc : List Str := ["signs", "thing", "state", "word", "goal"]
abbrev P_is_arc : List Str := ["signs", "thing"]
theorem sc_is_arc : FnScope N_is_arc P_is_arc (defScope s_is_arc) := ⟨rfl, rfl, rfl, by decide +kernel, rfl, by decide +kernel, by decide +kernel⟩
abbrev s_Loom_init : Stmt := inClass (topS 26) 0
abbrev N_Loom_init : List Str := ["self", "signs", "arcs", "at", "arc"]
abbrev P_Loom_init : List Str := ["self", "signs", "arcs"]
theorem sc_Loom_init : FnScope N_Loom_init P_Loom_init (defScope s_Loom_init) := ⟨rfl, rfl, rfl, by decide +kernel, rfl, by decide +kernel, by decide +kernel⟩
abbrev s_Loom_eq : Stmt := inClass (topS 26) 1
abbrev N_Loom_eq : List Str := ["self", "other"]
abbrev P_Loom_eq : List Str := ["self", "other"]
theorem sc_Loom_eq : FnScope N_Loom_eq P_Loom_eq (defScope s_Loom_eq) := ⟨rfl, rfl, rfl, by decide +kernel, rfl, by decide +kernel, by decide +kernel⟩
abbrev s_l_state : Stmt := topS 28
abbrev N_l_state : List Str := ["_law_script"]
abbrev P_l_state : List Str := ["_law_script"]
theorem sc_l_state : FnScope N_l_state P_l_state (defScope s_l_state) := ⟨rfl, rfl, rfl, by decide +kernel, rfl, by decide +kernel, by decide +kernel⟩
abbrev s_l_draw : Stmt := topS 29
abbrev N_l_draw : List Str := ["_law_state_here", "_law_many", "_law_digit", "_law_cell", "_law_number"]
abbrev P_l_draw : List Str := ["_law_state_here", "_law_many"]
theorem sc_l_draw : FnScope N_l_draw P_l_draw (defScope s_l_draw) := ⟨rfl, rfl, rfl, by decide +kernel, rfl, by decide +kernel, by decide +kernel⟩
abbrev s_l_is_integer : Stmt := topS 30
abbrev N_l_is_integer : List Str := ["_law_thing"]
abbrev P_l_is_integer : List Str := ["_law_thing"]
theorem sc_l_is_integer : FnScope N_l_is_integer P_l_is_integer (defScope s_l_is_integer) := ⟨rfl, rfl, rfl, by decide +kernel, rfl, by decide +kernel, by decide +kernel⟩
abbrev s_l_word : Stmt := topS 31
abbrev N_l_word : List Str := ["_law_state_here", "_law_signs", "_law_most", "_law_size", "_law_k"]
abbrev P_l_word : List Str := ["_law_state_here", "_law_signs", "_law_most"]
theorem sc_l_word : FnScope N_l_word P_l_word (defScope s_l_word) := ⟨rfl, rfl, rfl, by decide +kernel, rfl, by decide +kernel, by decide +kernel⟩
abbrev s_l_loom : Stmt := topS 32
abbrev N_l_loom : List Str := ["_law_state_here", "_law_signs", "_law_places", "_law_many", "_law_most", "_law_arcs", "_law_k", "_law_start"]
abbrev P_l_loom : List Str := ["_law_state_here"]
theorem sc_l_loom : FnScope N_l_loom P_l_loom (defScope s_l_loom) := ⟨rfl, rfl, rfl, by decide +kernel, rfl, by decide +kernel, by decide +kernel⟩
abbrev s_l_made : Stmt := topS 33
abbrev N_l_made : List Str := ["_law_pair"]
abbrev P_l_made : List Str := ["_law_pair"]
theorem sc_l_made : FnScope N_l_made P_l_made (defScope s_l_made) := ⟨rfl, rfl, rfl, by decide +kernel, rfl, by decide +kernel, by decide +kernel⟩
abbrev s_l_leaving : Stmt := topS 34
abbrev N_l_leaving : List Str := ["_law_arcs", "_law_here", "_law_at"]
abbrev P_l_leaving : List Str := ["_law_arcs", "_law_here"]
theorem sc_l_leaving : FnScope N_l_leaving P_l_leaving (defScope s_l_leaving) := ⟨rfl, rfl, rfl, by decide +kernel, rfl, by decide +kernel, by decide +kernel⟩
abbrev s_l_joined : Stmt := topS 35
abbrev N_l_joined : List Str := ["_law_arcs", "_law_row", "_law_at"]
abbrev P_l_joined : List Str := ["_law_arcs", "_law_row"]
theorem sc_l_joined : FnScope N_l_joined P_l_joined (defScope s_l_joined) := ⟨rfl, rfl, rfl, by decide +kernel, rfl, by decide +kernel, by decide +kernel⟩
abbrev s_l_end : Stmt := topS 36
abbrev N_l_end : List Str := ["_law_arcs", "_law_here", "_law_row"]
abbrev P_l_end : List Str := ["_law_arcs", "_law_here", "_law_row"]
theorem sc_l_end : FnScope N_l_end P_l_end (defScope s_l_end) := ⟨rfl, rfl, rfl, by decide +kernel, rfl, by decide +kernel, by decide +kernel⟩
abbrev s_l_walk : Stmt := topS 37
abbrev N_l_walk : List Str := ["_law_state_here", "_law_arcs", "_law_here", "_law_many", "_law_row", "_law_k", "_law_goals"]
abbrev P_l_walk : List Str := ["_law_state_here", "_law_arcs", "_law_here", "_law_many"]
theorem sc_l_walk : FnScope N_l_walk P_l_walk (defScope s_l_walk) := ⟨rfl, rfl, rfl, by decide +kernel, rfl, by decide +kernel, by decide +kernel⟩
abbrev s_l_odd : Stmt := topS 38
abbrev N_l_odd : List Str := ["_law_state_here", "_law_some"]
abbrev P_l_odd : List Str := ["_law_state_here"]
theorem sc_l_odd : FnScope N_l_odd P_l_odd (defScope s_l_odd) := ⟨rfl, rfl, rfl, by decide +kernel, rfl, by decide +kernel, by decide +kernel⟩
abbrev s_l_fault : Stmt := topS 39
abbrev N_l_fault : List Str := ["_law_arcs", "_law_here", "_law_thing", "_law_at", "_law_number"]
abbrev P_l_fault : List Str := ["_law_arcs", "_law_here", "_law_thing"]
theorem sc_l_fault : FnScope N_l_fault P_l_fault (defScope s_l_fault) := ⟨rfl, rfl, rfl, by decide +kernel, rfl, by decide +kernel, by decide +kernel⟩
abbrev s_l_told : Stmt := topS 40
abbrev N_l_told : List Str := ["_law_which", "_law_loom_here", "_law_here", "_law_row", "_law_found", "e"]
abbrev P_l_told : List Str := ["_law_which", "_law_loom_here", "_law_here", "_law_row"]
theorem sc_l_told : FnScope N_l_told P_l_told (defScope s_l_told) := ⟨rfl, rfl, rfl, by decide +kernel, rfl, by decide +kernel, by decide +kernel⟩
abbrev s_l_bent : Stmt := topS 41
abbrev N_l_bent : List Str := ["_law_state_here", "_law_arcs", "_law_row", "_law_kind", "_law_at"]
abbrev P_l_bent : List Str := ["_law_state_here", "_law_arcs", "_law_row"]
theorem sc_l_bent : FnScope N_l_bent P_l_bent (defScope s_l_bent) := ⟨rfl, rfl, rfl, by decide +kernel, rfl, by decide +kernel, by decide +kernel⟩
abbrev s_law : Stmt := topS 42
abbrev N_law : List Str := ["_law_script", "_law_state_here", "_law_turn", "_law_pair", "_law_arcs", "_law_loom_here", "_law_k", "_law_here", "_law_row", "_law_thing", "_law_fault_here", "_law_told_here", "_law_due", "_law_odd_here", "_law_ring_row"]
abbrev P_law : List Str := ["_law_script"]
theorem sc_law : FnScope N_law P_law (defScope s_law) := ⟨rfl, rfl, rfl, by decide +kernel, rfl, by decide +kernel, by decide +kernel⟩
/-- what the top has written -/
structure Tx (K : PySem.W.Frag) (mg : Str → Option Value) : Type where
  f_InvalidLoom_init : Addr
  fd_InvalidLoom_init : FuncData
  F_InvalidLoom_init : Fun K "__init__" "InvalidLoom.__init__" s_InvalidLoom_init f_InvalidLoom_init fd_InvalidLoom_init
  b_InvalidLoom_init : Binds K fd_InvalidLoom_init P_InvalidLoom_init []
  f_InvalidRow_init : Addr
  fd_InvalidRow_init : FuncData
  F_InvalidRow_init : Fun K "__init__" "InvalidRow.__init__" s_InvalidRow_init f_InvalidRow_init fd_InvalidRow_init
  b_InvalidRow_init : Binds K fd_InvalidRow_init P_InvalidRow_init []
  f_is_number : Addr
  fd_is_number : FuncData
  F_is_number : Fun K "is_number" "is_number" s_is_number f_is_number fd_is_number
  b_is_number : Binds K fd_is_number P_is_number []
  m_is_number : mg "is_number" = some (.ref f_is_number)
  f_is_sequence : Addr
  fd_is_sequence : FuncData
  F_is_sequence : Fun K "is_sequence" "is_sequence" s_is_sequence f_is_sequence fd_is_sequence
  b_is_sequence : Binds K fd_is_sequence P_is_sequence []
  m_is_sequence : mg "is_sequence" = some (.ref f_is_sequence)
  f_is_signs : Addr
  fd_is_signs : FuncData
  F_is_signs : Fun K "is_signs" "is_signs" s_is_signs f_is_signs fd_is_signs
  b_is_signs : Binds K fd_is_signs P_is_signs []
  m_is_signs : mg "is_signs" = some (.ref f_is_signs)
  f_is_string_over : Addr
  fd_is_string_over : FuncData
  F_is_string_over : Fun K "is_string_over" "is_string_over" s_is_string_over f_is_string_over fd_is_string_over
  b_is_string_over : Binds K fd_is_string_over P_is_string_over []
  m_is_string_over : mg "is_string_over" = some (.ref f_is_string_over)
  f_is_word : Addr
  fd_is_word : FuncData
  F_is_word : Fun K "is_word" "is_word" s_is_word f_is_word fd_is_word
  b_is_word : Binds K fd_is_word P_is_word []
  m_is_word : mg "is_word" = some (.ref f_is_word)
  f_check_signs : Addr
  fd_check_signs : FuncData
  F_check_signs : Fun K "check_signs" "check_signs" s_check_signs f_check_signs fd_check_signs
  b_check_signs : Binds K fd_check_signs P_check_signs []
  m_check_signs : mg "check_signs" = some (.ref f_check_signs)
  f_check_state : Addr
  fd_check_state : FuncData
  F_check_state : Fun K "check_state" "check_state" s_check_state f_check_state fd_check_state
  b_check_state : Binds K fd_check_state P_check_state []
  m_check_state : mg "check_state" = some (.ref f_check_state)
  f_first_misfit : Addr
  fd_first_misfit : FuncData
  F_first_misfit : Fun K "first_misfit" "first_misfit" s_first_misfit f_first_misfit fd_first_misfit
  b_first_misfit : Binds K fd_first_misfit P_first_misfit []
  m_first_misfit : mg "first_misfit" = some (.ref f_first_misfit)
  f_check_row : Addr
  fd_check_row : FuncData
  F_check_row : Fun K "check_row" "check_row" s_check_row f_check_row fd_check_row
  b_check_row : Binds K fd_check_row P_check_row []
  m_check_row : mg "check_row" = some (.ref f_check_row)
  f_is_row : Addr
  fd_is_row : FuncData
  F_is_row : Fun K "is_row" "is_row" s_is_row f_is_row fd_is_row
  b_is_row : Binds K fd_is_row P_is_row []
  m_is_row : mg "is_row" = some (.ref f_is_row)
  f_text_of : Addr
  fd_text_of : FuncData
  F_text_of : Fun K "text_of" "text_of" s_text_of f_text_of fd_text_of
  b_text_of : Binds K fd_text_of P_text_of []
  m_text_of : mg "text_of" = some (.ref f_text_of)
  f_end_of : Addr
  fd_end_of : FuncData
  F_end_of : Fun K "end_of" "end_of" s_end_of f_end_of fd_end_of
  b_end_of : Binds K fd_end_of P_end_of []
  m_end_of : mg "end_of" = some (.ref f_end_of)
  f_is_arc : Addr
  fd_is_arc : FuncData
  F_is_arc : Fun K "is_arc" "is_arc" s_is_arc f_is_arc fd_is_arc
  b_is_arc : Binds K fd_is_arc P_is_arc []
  m_is_arc : mg "is_arc" = some (.ref f_is_arc)
  f_Loom_init : Addr
  fd_Loom_init : FuncData
  F_Loom_init : Fun K "__init__" "Loom.__init__" s_Loom_init f_Loom_init fd_Loom_init
  b_Loom_init : Binds K fd_Loom_init P_Loom_init []
  f_Loom_eq : Addr
  fd_Loom_eq : FuncData
  F_Loom_eq : Fun K "__eq__" "Loom.__eq__" s_Loom_eq f_Loom_eq fd_Loom_eq
  b_Loom_eq : Binds K fd_Loom_eq P_Loom_eq []
  f_l_state : Addr
  fd_l_state : FuncData
  F_l_state : Fun K "_law_state" "_law_state" s_l_state f_l_state fd_l_state
  b_l_state : Binds K fd_l_state P_l_state []
  m_l_state : mg "_law_state" = some (.ref f_l_state)
  f_l_draw : Addr
  fd_l_draw : FuncData
  F_l_draw : Fun K "_law_draw" "_law_draw" s_l_draw f_l_draw fd_l_draw
  b_l_draw : Binds K fd_l_draw P_l_draw []
  m_l_draw : mg "_law_draw" = some (.ref f_l_draw)
  f_l_is_integer : Addr
  fd_l_is_integer : FuncData
  F_l_is_integer : Fun K "_law_is_integer" "_law_is_integer" s_l_is_integer f_l_is_integer fd_l_is_integer
  b_l_is_integer : Binds K fd_l_is_integer P_l_is_integer []
  m_l_is_integer : mg "_law_is_integer" = some (.ref f_l_is_integer)
  f_l_word : Addr
  fd_l_word : FuncData
  F_l_word : Fun K "_law_word" "_law_word" s_l_word f_l_word fd_l_word
  b_l_word : Binds K fd_l_word P_l_word []
  m_l_word : mg "_law_word" = some (.ref f_l_word)
  f_l_loom : Addr
  fd_l_loom : FuncData
  F_l_loom : Fun K "_law_loom" "_law_loom" s_l_loom f_l_loom fd_l_loom
  b_l_loom : Binds K fd_l_loom P_l_loom []
  m_l_loom : mg "_law_loom" = some (.ref f_l_loom)
  f_l_made : Addr
  fd_l_made : FuncData
  F_l_made : Fun K "_law_made" "_law_made" s_l_made f_l_made fd_l_made
  b_l_made : Binds K fd_l_made P_l_made []
  m_l_made : mg "_law_made" = some (.ref f_l_made)
  f_l_leaving : Addr
  fd_l_leaving : FuncData
  F_l_leaving : Fun K "_law_leaving" "_law_leaving" s_l_leaving f_l_leaving fd_l_leaving
  b_l_leaving : Binds K fd_l_leaving P_l_leaving []
  m_l_leaving : mg "_law_leaving" = some (.ref f_l_leaving)
  f_l_joined : Addr
  fd_l_joined : FuncData
  F_l_joined : Fun K "_law_joined" "_law_joined" s_l_joined f_l_joined fd_l_joined
  b_l_joined : Binds K fd_l_joined P_l_joined []
  m_l_joined : mg "_law_joined" = some (.ref f_l_joined)
  f_l_end : Addr
  fd_l_end : FuncData
  F_l_end : Fun K "_law_end" "_law_end" s_l_end f_l_end fd_l_end
  b_l_end : Binds K fd_l_end P_l_end []
  m_l_end : mg "_law_end" = some (.ref f_l_end)
  f_l_walk : Addr
  fd_l_walk : FuncData
  F_l_walk : Fun K "_law_walk" "_law_walk" s_l_walk f_l_walk fd_l_walk
  b_l_walk : Binds K fd_l_walk P_l_walk []
  m_l_walk : mg "_law_walk" = some (.ref f_l_walk)
  f_l_odd : Addr
  fd_l_odd : FuncData
  F_l_odd : Fun K "_law_odd" "_law_odd" s_l_odd f_l_odd fd_l_odd
  b_l_odd : Binds K fd_l_odd P_l_odd []
  m_l_odd : mg "_law_odd" = some (.ref f_l_odd)
  f_l_fault : Addr
  fd_l_fault : FuncData
  F_l_fault : Fun K "_law_fault" "_law_fault" s_l_fault f_l_fault fd_l_fault
  b_l_fault : Binds K fd_l_fault P_l_fault []
  m_l_fault : mg "_law_fault" = some (.ref f_l_fault)
  f_l_told : Addr
  fd_l_told : FuncData
  F_l_told : Fun K "_law_told" "_law_told" s_l_told f_l_told fd_l_told
  b_l_told : Binds K fd_l_told P_l_told []
  m_l_told : mg "_law_told" = some (.ref f_l_told)
  f_l_bent : Addr
  fd_l_bent : FuncData
  F_l_bent : Fun K "_law_bent" "_law_bent" s_l_bent f_l_bent fd_l_bent
  b_l_bent : Binds K fd_l_bent P_l_bent []
  m_l_bent : mg "_law_bent" = some (.ref f_l_bent)
  f_law : Addr
  fd_law : FuncData
  F_law : Fun K "law" "law" s_law f_law fd_law
  b_law : Binds K fd_law P_law []
  m_law : mg "law" = some (.ref f_law)
  n_all : mg "all" = none
  n_bool : mg "bool" = none
  n_enumerate : mg "enumerate" = none
  n_int : mg "int" = none
  n_isinstance : mg "isinstance" = none
  n_len : mg "len" = none
  n_list : mg "list" = none
  n_range : mg "range" = none
  n_str : mg "str" = none
  n_tuple : mg "tuple" = none
  n_zip : mg "zip" = none
  t_MOST_SIGNS : Tok
  g_MOST_SIGNS : mg "MOST_SIGNS" = some (.int 4 t_MOST_SIGNS)
  t_LONGEST_WORD : Tok
  g_LONGEST_WORD : mg "LONGEST_WORD" = some (.int 12 t_LONGEST_WORD)
  t_LAST_STATE : Tok
  g_LAST_STATE : mg "LAST_STATE" = some (.int 63 t_LAST_STATE)
  t_MOST_ITEMS : Tok
  g_MOST_ITEMS : mg "MOST_ITEMS" = some (.int 2000 t_MOST_ITEMS)
  t_MOST_ARCS : Tok
  g_MOST_ARCS : mg "MOST_ARCS" = some (.int 200 t_MOST_ARCS)
  C_Loom : Addr
  M_Loom : Mk K C_Loom f_Loom_init
  cl_Loom : Cls K C_Loom
  g_Loom : mg "Loom" = some (.ref C_Loom)
  na_Loom_signs : NoAttr K C_Loom "signs"
  na_Loom_arcs : NoAttr K C_Loom "arcs"
  C_ReadError : Addr
  C_UnknownState : Addr
  C_InvalidLoom : Addr
  C_InvalidRow : Addr
  g_ReadError : mg "ReadError" = some (.ref C_ReadError)
  kc_ReadError : PySem.W.keepIn K (.ref C_ReadError) = true
  E_ReadError : ExcC K C_ReadError
  ty_ReadError : PySem.W.typeIn K (.ref C_ReadError) = some (.type "type")
  in_ReadError : PySem.W.excIn K C_ReadError [.type "Exception", .type "BaseException", .type "object"] "Exception.__new__" = true
  g_UnknownState : mg "UnknownState" = some (.ref C_UnknownState)
  kc_UnknownState : PySem.W.keepIn K (.ref C_UnknownState) = true
  E_UnknownState : ExcC K C_UnknownState
  ty_UnknownState : PySem.W.typeIn K (.ref C_UnknownState) = some (.type "type")
  in_UnknownState : PySem.W.excIn K C_UnknownState [.type "Exception", .type "BaseException", .type "object"] "Exception.__new__" = true
  g_InvalidLoom : mg "InvalidLoom" = some (.ref C_InvalidLoom)
  kc_InvalidLoom : PySem.W.keepIn K (.ref C_InvalidLoom) = true
  E_InvalidLoom : ExcC K C_InvalidLoom
  ty_InvalidLoom : PySem.W.typeIn K (.ref C_InvalidLoom) = some (.type "type")
  X_InvalidLoom : PySem.ExX.ExcT K mg C_InvalidLoom f_InvalidLoom_init "InvalidLoom" ["part", "at"] "InvalidLoom.__init__" s_InvalidLoom_init
  g_InvalidRow : mg "InvalidRow" = some (.ref C_InvalidRow)
  kc_InvalidRow : PySem.W.keepIn K (.ref C_InvalidRow) = true
  E_InvalidRow : ExcC K C_InvalidRow
  ty_InvalidRow : PySem.W.typeIn K (.ref C_InvalidRow) = some (.type "type")
  X_InvalidRow : PySem.ExX.ExcT K mg C_InvalidRow f_InvalidRow_init "InvalidRow" ["at"] "InvalidRow.__init__" s_InvalidRow_init
  ic_Loom : PySem.W.findIn K (.ref C_Loom) "__class__" = some (some (.builtin "object.__class__"))
  ig : PySem.W.specialIn K (.builtin "object.__class__") "__get__" = some (some (.builtin "getset_descriptor.__get__"))
  it : PySem.W.takesIn K (.builtin "object.__class__") = some true
  im_Loom : PySem.W.mroIn K C_Loom (.type "object") = some true
  cl_UnknownState : PySem.W.isClsIn K C_UnknownState = true
  ss_UnknownState : PySem.W.subIn K (.ref C_UnknownState) (.ref C_UnknownState) = some true
  si_InvalidLoom : PySem.W.subIn K (.ref C_InvalidLoom) (.type "int") = some false
  si_Loom : PySem.W.subIn K (.ref C_Loom) (.type "int") = some false
  cl_InvalidRow : PySem.W.isClsIn K C_InvalidRow = true
  ss_InvalidRow : PySem.W.subIn K (.ref C_InvalidRow) (.ref C_InvalidRow) = some true
  su_InvalidRow : PySem.W.subIn K (.ref C_InvalidRow) (.ref C_UnknownState) = some false
  nx_InvalidRow_at : PySem.W.findIn K (.ref C_InvalidRow) "at" = some none
  sl_InvalidLoom : PySem.W.subIn K (.ref C_InvalidLoom) (.type "list") = some false
  st_InvalidLoom : PySem.W.subIn K (.ref C_InvalidLoom) (.type "tuple") = some false
  sl_Loom : PySem.W.subIn K (.ref C_Loom) (.type "list") = some false
  st_Loom : PySem.W.subIn K (.ref C_Loom) (.type "tuple") = some false
end J

set_option Elab.async false
set_option linter.all false
set_option maxRecDepth 100000
set_option maxHeartbeats 4000000
namespace J
open PySem L2
/-! ### frames -/
/-- all that was tracked but what stands at p is as it was -/
def Ex (p : Addr) (H H' : Hp) : Prop := ∀ b o, b ≠ p → H b = some o → H' b = some o
theorem Ex.refl (p : Addr) (H : Hp) : Ex p H H := fun _ _ _ h => h
theorem Ex.trans {p : Addr} {H H1 H2 : Hp} (a : Ex p H H1) (b : Ex p H1 H2) : Ex p H H2 := fun c o n h => b c o n (a c o n h)
theorem Ex.upd {p : Addr} {H : Hp} (o : HO) : Ex p H (upd H p o) := fun c u n h => by rw [upd_ne n]; exact h
theorem Ex.new {p q : Addr} {H : Hp} (o : HO) (h : H q = none) : Ex p H (L2.upd H q o) := fun c u n e => by
  rw [upd_ne (ne_of_none e h)]; exact e
theorem Same.ex {p : Addr} {H H' : Hp} (s : Same H H') : Ex p H H' := fun c o _ h => s c o h
theorem Same.new {q : Addr} {H : Hp} (o : HO) (h : H q = none) : Same H (L2.upd H q o) := fun c u e => by
  rw [upd_ne (ne_of_none e h)]; exact e
/-! ### the pool of draws -/
def stv (l : Addr) (a b c d e : Int) : List V := [.ref l, .int a, .int b, .int c, .int d, .int e]
def StAt (ns : List Int) (l : Addr) (H : Hp) (p : Addr) : Prop := ∃ (a b c d e : Int), H l = some (.lst (ns.map V.int)) ∧ H p = some (.lst (stv l a b c d e)) ∧ 0 ≤ a
theorem StAt.there {ns : List Int} {l : Addr} {H : Hp} {p : Addr} (h : StAt ns l H p) : (∃ o, H p = some o) ∧ ∃ o, H l = some o := by
  obtain ⟨a, b, c, d, e, h1, h2, h3⟩ := h
  exact ⟨⟨_, h2⟩, _, h1⟩
theorem hp_ne {H : Hp} {p q : Addr} {o : HO} (h : H p = some o) (hq : H q = none) : q ≠ p := by
  intro z
  rw [z, h] at hq
  cases hq
theorem StAt.ne {ns : List Int} {l : Addr} {H : Hp} {p q : Addr} (h : StAt ns l H p) (hq : H q = none) : q ≠ p ∧ q ≠ l := by
  obtain ⟨⟨o, h1⟩, u, h2⟩ := h.there
  exact ⟨hp_ne h1 hq, hp_ne h2 hq⟩
theorem StAt.same {ns : List Int} {l : Addr} {H H' : Hp} {p : Addr} (h : StAt ns l H p) (s : Same H H') : StAt ns l H' p := by
  obtain ⟨a, b, c, d, e, h1, h2, h3⟩ := h
  exact ⟨a, b, c, d, e, s _ _ h1, s _ _ h2, h3⟩
theorem StAt.upd {ns : List Int} {l : Addr} {H : Hp} {p q : Addr} {o : HO} (h : StAt ns l H p) (n : q ≠ p ∧ q ≠ l) : StAt ns l (L2.upd H q o) p := by
  obtain ⟨a, b, c, d, e, h1, h2, h3⟩ := h
  exact ⟨a, b, c, d, e, by rw [upd_ne n.2.symm]; exact h1, by rw [upd_ne n.1.symm]; exact h2, h3⟩
theorem Ex.free {p q : Addr} {H H' : Hp} (x : Ex p H H') (hq : H' q = none) (n : q ≠ p) : H q = none := by
  cases e : H q with
  | none => rfl
  | some o => rw [x _ _ n e] at hq; cases hq
theorem Ex.updNew {p q : Addr} {H H' : Hp} {o : HO} (x : Ex p H H') (hq : H q = none) : Ex p H (L2.upd H' q o) := fun b u n e => by
  rw [upd_ne (ne_of_none e hq)]; exact x b u n e
def spState (K : PySem.W.Frag) (ns : List Int) : Sp := fun vs H Q _ => ∃ a : Addr, vs = [.ref a] ∧ SqL K H a (ns.map V.int) ∧ ∀ H' p l, Same H H' → H p = none → H l = none → StAt ns l H' p → Q (.ref p) H'
def spDraw (ns : List Int) : Sp := fun vs H Q _ => ∃ (p l : Addr) (m : Int), vs = [.ref p, .int m] ∧ StAt ns l H p ∧ 0 < m ∧ m < 1073741824 ∧
  ∀ H' (r : Int), Ex p H H' → StAt ns l H' p → 0 ≤ r → r < m → Q (.int r) H'
theorem fm_nonneg (a : Int) {b : Int} (h : 0 < b) : 0 ≤ a.fmod b := Int.fmod_nonneg_of_pos a h
theorem fm_lt (a : Int) {b : Int} (h : 0 < b) : a.fmod b < b := Int.fmod_lt_of_pos a h
theorem atI_ints {ns : List Int} {a : Int} (h0 : 0 ≤ a) (h1 : a < ns.length) : ∃ n, atI (ns.map V.int) a = some (V.int n) := by
  obtain ⟨j, rfl⟩ := Int.eq_ofNat_of_zero_le h0
  have hj : j < ns.length := by exact_mod_cast h1
  exact ⟨ns[j], atI_nat (by rw [List.getElem?_map, List.getElem?_eq_getElem hj]; rfl)⟩
section
variable {P : Program} {w : World} {K : PySem.W.Frag} {mg : Str → Option Value} {base : Heap}
theorem ok_l_state (T : Tx K mg) (ns : List Int) : FnOk P w K mg base CX0 1 T.f_l_state T.fd_l_state P_l_state (spState K ns) := by
  refine T.F_l_state.ok sc_l_state (fun vs H Q E h => ?_) (fun cdv A outer s H vs Q E hr h => ?_)
  · obtain ⟨a, rfl, _⟩ := h
    rfl
  · obtain ⟨a, rfl, hS, k⟩ := h
    refine ⟨_, (pss_one (ps_ret (pe_lst (pa_cons (pe_callTy (call_list_ofK (K := K) rfl) rfl T.n_list (by decide +kernel) (pa_cons (pv 0) pa_nil)) (pa_cons pe_int (pa_cons pe_int (pa_cons pe_int (pa_cons pe_int (pa_cons pe_int pa_nil))))))))), ?_⟩
    refine ⟨_, rfl, a, _, rfl, .inl hS, fun l hl => ?_⟩
    refine ⟨by show 6 ≤ sizeLine; decide, fun p hp => ?_⟩
    have nlp : l ≠ p := fun q => by
      rw [q, upd_same] at hp
      cases hp
    have hp0 : H p = none := by rw [upd_ne nlp.symm] at hp; exact hp
    refine k _ p l ((Same.new _ hl).trans (Same.new _ hp)) hp0 hl ⟨0, 0, 0, 0, 0, ?_, upd_same, Int.le_refl _⟩
    rw [upd_ne nlp, upd_same]
theorem ok_l_draw (T : Tx K mg) (ns : List Int) : FnOk P w K mg base CX0 1 T.f_l_draw T.fd_l_draw P_l_draw (spDraw ns) := by
  refine T.F_l_draw.ok sc_l_draw (fun vs H Q E h => ?_) (fun cdv A outer s H vs Q E hr h => ?_)
  · obtain ⟨p, l, m, rfl, _⟩ := h
    rfl
  · obtain ⟨p, l, m, rfl, hst, hm, hm2, k⟩ := h
    refine ⟨_, (C8.pss_cut (ps_if (PW.pt (pw_and (pt_cmpR op_gt (pe_ix (ix_listK (K := K) rfl) (pv 0) pe_int (fun _ _ => rfl)) pe_int (nomark _)) (pw_and1 (pt_cmpR op_lt (pe_ix (ix_listK (K := K) rfl) (pv 0) pe_int (fun _ _ => rfl)) pe_int (nomark _))))) (pss_cons (ps_set (i := 2) sc_l_draw.nd rfl (Or.inl rfl) (pe_op op_modN (pe_callTy call_int1 rfl T.n_int (by decide +kernel) (pa_cons (pe_ix (ix_listK (K := K) rfl) (pv 0) pe_int (fun _ _ => rfl)) pa_nil)) (pv 1)))
        (pss_cons (ps_asg (pe_op op_fdivN (pe_ix (ix_listK (K := K) rfl) (pv 0) pe_int (fun _ _ => rfl)) (pv 1)) (pg_sub (pv 0) pe_int set_list))
        (pss_cons (ps_asg (pe_op op_add (pe_ix (ix_listK (K := K) rfl) (pv 0) pe_int (fun _ _ => rfl)) pe_int) (pg_sub (pv 0) pe_int set_list))
        (pss_one (ps_ret (pv 2)))))) pss_nil)
        (pss_cons (ps_asg (pe_op op_add (pe_ix (ix_listK (K := K) rfl) (pv 0) pe_int (fun _ _ => rfl)) pe_int) (pg_sub (pv 0) pe_int set_list))
        (C8.pss_cut (ps_if (pt_cmpR op_lt (pe_ix (ix_listK (K := K) rfl) (pv 0) pe_int (fun _ _ => rfl)) (pe_callB (call_len_seqK (K := K) rfl) rfl T.n_len (by decide +kernel) (pa_cons (pe_ix (ix_listK (K := K) rfl) (pv 0) pe_int (fun _ _ => rfl)) pa_nil)) (nomark _)) (pss_cons (ps_set (i := 3) sc_l_draw.nd rfl (Or.inl rfl) (pe_ix (ix_listK (K := K) rfl) (pe_ix (ix_listK (K := K) rfl) (pv 0) pe_int (fun _ _ => rfl)) (pe_ix (ix_listK (K := K) rfl) (pv 0) pe_int (fun _ _ => rfl)) (fun _ _ => rfl)))
        (pss_cons (ps_asg (pe_op op_add (pe_ix (ix_listK (K := K) rfl) (pv 0) pe_int (fun _ _ => rfl)) pe_int) (pg_sub (pv 0) pe_int set_list))
        (pss_cons (ps_asg (pe_op op_modN (pe_op op_add (pe_op op_mul (pe_ix (ix_listK (K := K) rfl) (pv 0) pe_int (fun _ _ => rfl)) pe_int) (pe_callTy call_int1 rfl T.n_int (by decide +kernel) (pa_cons (pv 3) pa_nil))) (pe_op op_pow pe_int pe_int)) (pg_sub (pv 0) pe_int set_list))
        (pss_one (ps_if (pt_cmpR op_ge (pv 3) (pe_op op_pow pe_int pe_int) (nomark _)) (pss_cons (ps_asg (pe_op op_fdivN (pv 3) (pv 1)) (pg_sub (pv 0) pe_int set_list))
        (pss_cons (ps_asg pe_int (pg_sub (pv 0) pe_int set_list))
        (pss_one (ps_ret (pe_op op_modN (pe_callTy call_int1 rfl T.n_int (by decide +kernel) (pa_cons (pv 3) pa_nil)) (pv 1)))))) pss_nil))))) pss_nil)
        (pss_cons (ps_set (i := 4) sc_l_draw.nd rfl (Or.inl rfl) (pe_op op_modN (pe_op op_mul (pe_op op_add (pe_op op_add (pe_op op_mul (pe_callTy call_int1 rfl T.n_int (by decide +kernel) (pa_cons (pe_ix (ix_listK (K := K) rfl) (pv 0) pe_int (fun _ _ => rfl)) pa_nil)) pe_int) (pe_op op_mul pe_int (pe_ix (ix_listK (K := K) rfl) (pv 0) pe_int (fun _ _ => rfl)))) pe_int) pe_int) pe_int))
        (pss_cons (ps_set (i := 4) sc_l_draw.nd rfl (Or.inl rfl) (pe_op op_modN (pe_op op_mul (pv 4) (pe_op op_add (pe_op op_fdivN (pv 4) pe_int) pe_int)) pe_int))
        (pss_cons (ps_set (i := 4) sc_l_draw.nd rfl (Or.inl rfl) (pe_op op_modN (pe_op op_mul (pv 4) (pe_op op_add (pe_op op_fdivN (pv 4) pe_int) pe_int)) pe_int))
        (pss_one (ps_ret (pe_op op_modN (pv 4) (pv 1)))))))))), ?_⟩
    obtain ⟨a, b, c, d, e, hl, hp, ha⟩ := hst
    have npl : p ≠ l := by
      intro q
      rw [q, hl] at hp
      injection hp with hp
      injection hp with hp
      cases ns with
      | nil => cases hp
      | cons x r => cases hp
    have nlp := npl.symm
    -- the Mid behind the first if: as at the start
    refine ⟨fun σ' H' => σ' = [some (.ref p), some (.int m), none, none, none] ∧ H' = H, ?_, ?_⟩
    · refine ⟨_, rfl, _, _, _, _, rfl, rfl, SqL.of hp, rfl, _, _, rfl, rfl, _, rfl, ?_⟩
      refine ite2 (fun c1 => ?_) (fun c1 => ?_)
      · refine ⟨_, rfl, _, _, _, _, rfl, rfl, SqL.of hp, rfl, _, _, rfl, rfl, _, rfl, ?_⟩
        refine ite2 (fun c2 => ?_) (fun c2 => ?_)
        · refine ⟨_, rfl, _, _, _, _, rfl, rfl, SqL.of hp, rfl, .inl ⟨_, rfl, _, rfl, _, _, rfl, rfl, by omega, ?_⟩⟩
          refine ⟨_, rfl, _, _, _, _, rfl, rfl, SqL.of hp, rfl, _, rfl, _, _, rfl, rfl, ⟨by omega, by omega⟩, _, rfl, p, _, _, _, rfl, rfl, hp, rfl, ?_⟩
          refine ⟨_, rfl, _, _, _, _, rfl, rfl, SqL.of upd_same, rfl, _, _, rfl, rfl, _, rfl, p, _, _, _, rfl, rfl, upd_same, rfl, ?_⟩
          refine ⟨_, rfl, k _ _ ((Ex.upd _).trans (Ex.upd _)) ⟨_, _, _, _, _, ?_, upd_same, ?_⟩ (fm_nonneg _ hm) (fm_lt _ hm)⟩
          · rw [upd_ne nlp, upd_ne nlp]; exact hl
          · exact ha
        · exact ⟨rfl, rfl⟩
      · exact iteF ⟨rfl, rfl⟩
    · rintro σ' H' ⟨rfl, rfl⟩
      refine ⟨_, rfl, _, _, _, _, rfl, rfl, SqL.of hp, rfl, _, _, rfl, rfl, _, rfl, p, _, _, _, rfl, rfl, hp, rfl, ?_⟩
      refine ⟨fun σ2 H2 => ∃ v a b c d e, σ2 = [some (.ref p), some (.int m), none, v, none] ∧ Ex p H' H2 ∧ H2 l = some (.lst (ns.map V.int)) ∧ H2 p = some (.lst (stv l a b c d e)) ∧ 0 ≤ a, ?_, ?_⟩
      · refine ⟨_, rfl, _, _, _, _, rfl, rfl, SqL.of upd_same, rfl, _, rfl, _, _, _, _, rfl, rfl, SqL.of upd_same, rfl, l, _, rfl, .inl (SqL.of (by rw [upd_ne nlp]; exact hl)), _, _, rfl, rfl, _, rfl, ?_⟩
        refine ite2 (fun c1 => ?_) (fun c1 => ?_)
        · rw [List.length_map] at c1
          obtain ⟨n, hn⟩ := atI_ints (ns := ns) ha (by simpa using c1)
          refine ⟨_, rfl, _, _, _, _, rfl, rfl, SqL.of upd_same, rfl, _, rfl, _, _, _, _, rfl, rfl, SqL.of upd_same, rfl, l, _, _, _, rfl, rfl, SqL.of (by rw [upd_ne nlp]; exact hl), hn, ?_⟩
          refine ⟨_, rfl, _, _, _, _, rfl, rfl, SqL.of upd_same, rfl, _, _, rfl, rfl, _, rfl, p, _, _, _, rfl, rfl, upd_same, rfl, ?_⟩
          refine ⟨_, rfl, _, _, _, _, rfl, rfl, SqL.of upd_same, rfl, _, _, rfl, rfl, .inr (by decide), _, rfl, .inl ⟨_, rfl, _, _, rfl, rfl, _, _, rfl, rfl, ⟨by decide, by decide, by decide⟩, _, _, rfl, rfl, (by decide : (10 : Int) ^ 18 ≠ 0), _, rfl, p, _, _, _, rfl, rfl, upd_same, rfl, ?_⟩⟩
          refine ⟨_, rfl, _, _, rfl, rfl, ⟨by decide, by decide, by decide⟩, _, _, rfl, rfl, _, rfl, ?_⟩
          have el : ∀ {o1 o2 o3 : HO}, upd (upd (upd H' p o1) p o2) p o3 l = some (.lst (ns.map V.int)) := fun {o1 o2 o3} => by rw [upd_ne nlp, upd_ne nlp, upd_ne nlp]; exact hl
          refine ite2 (fun c2 => ?_) (fun c2 => ?_)
          · refine ⟨_, rfl, _, rfl, _, _, rfl, rfl, ⟨by omega, by omega⟩, _, rfl, p, _, _, _, rfl, rfl, upd_same, rfl, ?_⟩
            refine ⟨_, rfl, p, _, _, _, rfl, rfl, upd_same, rfl, ?_⟩
            refine ⟨_, rfl, .inl ⟨_, rfl, _, rfl, _, _, rfl, rfl, by omega, ?_⟩⟩
            refine k _ _ (((((Ex.upd _).trans (Ex.upd _)).trans (Ex.upd _)).trans (Ex.upd _)).trans (Ex.upd _)) ⟨_, _, _, _, _, ?_, upd_same, ?_⟩ (fm_nonneg _ hm) (fm_lt _ hm)
            · rw [upd_ne nlp, upd_ne nlp]; exact el
            · omega
          · exact ⟨_, _, _, _, _, _, rfl, ((Ex.upd _).trans (Ex.upd _)).trans (Ex.upd _), el, upd_same, by omega⟩
        · exact ⟨_, _, _, _, _, _, rfl, Ex.upd _, by rw [upd_ne nlp]; exact hl, upd_same, ha⟩
      · rintro σ2 H2 ⟨v, a, b, c, d, e, rfl, x2, hl2, hp2, ha2⟩
        refine ⟨_, rfl, _, _, _, _, rfl, rfl, SqL.of hp2, rfl, .inl ⟨_, rfl, _, _, rfl, rfl, .inr (by decide), _, rfl, _, _, _, _, rfl, rfl, SqL.of hp2, rfl, _, _, rfl, rfl, .inl (by decide), _, _, rfl, rfl, _, _, rfl, rfl, _, _, rfl, rfl, .inr (by decide), _, _, rfl, rfl, (by decide : (2147483647 : Int) ≠ 0), ?_⟩⟩
        have hx0 := fm_nonneg ((e * 1000003 + 7919 * d + 1) * 48271) (b := 2147483647) (by decide)
        have hx1 := fm_lt ((e * 1000003 + 7919 * d + 1) * 48271) (b := 2147483647) (by decide)
        refine ⟨_, rfl, _, rfl, _, _, rfl, rfl, ⟨by decide, by decide⟩, _, _, rfl, rfl, _, _, rfl, rfl, .inl ⟨Int.lt_of_lt_of_le (by decide) hx0, Int.lt_trans hx1 (by decide)⟩, _, _, rfl, rfl, (by decide : (2147483647 : Int) ≠ 0), ?_⟩
        refine ⟨_, rfl, _, rfl, _, _, rfl, rfl, ⟨by decide, by decide⟩, _, _, rfl, rfl, _, _, rfl, rfl, .inl ⟨Int.lt_of_lt_of_le (by decide) (fm_nonneg _ (by decide)), Int.lt_trans (fm_lt _ (by decide)) (by decide)⟩, _, _, rfl, rfl, (by decide : (2147483399 : Int) ≠ 0), ?_⟩
        refine ⟨_, rfl, _, rfl, _, _, rfl, rfl, by omega, ?_⟩
        exact k _ _ x2 ⟨_, _, _, _, _, hl2, hp2, ha2⟩ (fm_nonneg _ hm) (fm_lt _ hm)
end
end J


set_option Elab.async false
set_option linter.all false
set_option maxRecDepth 100000
set_option maxHeartbeats 4000000
namespace J
open PySem L2

theorem joinL_nil : ∀ ys : List (List Nat), TL.joinL [] ys = ys.flatten
  | [] => rfl
  | [p] => by simp [TL.joinL]
  | p :: q :: r => by
    show p ++ ([] ++ TL.joinL [] (q :: r)) = _
    rw [joinL_nil (q :: r)]
    simp
theorem join_flat (ys : List (List Nat)) : Txt.join (SX.S []) (ys.map SX.S) = SX.S ys.flatten := by rw [SX.join_S, joinL_nil]
theorem emptyS : Str.ofString "" = SX.S [] := rfl
theorem sum_ones (us : List Nat) : ((us.map fun c => SX.S [c]).map (·.length)).sum = us.length := by
  induction us with
  | nil => rfl
  | cons a r ih => simp only [List.map_cons, List.sum_cons, ih, SX.S_len, List.length_cons, List.length_nil]; omega
theorem atI_mem {α : Type} {xs : List α} {i : Int} (h0 : 0 ≤ i) (h1 : i < xs.length) : ∃ v, v ∈ xs ∧ atI xs i = some v := by
  obtain ⟨j, rfl⟩ := Int.eq_ofNat_of_zero_le h0
  have hj : j < xs.length := by exact_mod_cast h1
  exact ⟨xs[j], List.getElem_mem hj, atI_nat (List.getElem?_eq_getElem hj)⟩
/-- signs that a loom may have -/
def Signs (sg : List Nat) : Prop := sg ∈ ([[97], [97, 98], [97, 98, 99], [120, 122], [98, 100, 107, 122], [113, 119]] : List (List Nat))
theorem Signs.len {sg : List Nat} (h : Signs sg) : 1 ≤ sg.length ∧ sg.length ≤ 4 := by
  revert sg; unfold Signs; decide
/-- a word over the signs -/
def Word (sg u : List Nat) : Prop := 1 ≤ u.length ∧ u.length ≤ 12 ∧ ∀ c ∈ u, c ∈ sg
def spWord (ns : List Int) : Sp := fun vs H Q _ => ∃ (p l : Addr) (sg : List Nat) (m : Int), vs = [.ref p, .str (SX.S sg), .int m] ∧ StAt ns l H p ∧ Signs sg ∧ 0 < m ∧ m ≤ 12 ∧
  ∀ H' u, Ex p H H' → StAt ns l H' p → Word sg u → Q (.str (SX.S u)) H'
theorem sizeLine16 : (16777216 : Nat) ≤ sizeLine := by decide
theorem le_size {n : Nat} (h : n ≤ 100000) : n ≤ sizeLine := Nat.le_trans h (by decide)
theorem lt_size {n : Nat} (h : n ≤ 100000) : n < sizeLine := Nat.lt_of_le_of_lt h (by decide)
section
variable {P : Program} {w : World} {K : PySem.W.Frag} {mg : Str → Option Value} {base : Heap}

theorem ok_l_word (T : Tx K mg) (ns : List Int) : FnOk P w K mg base CX0 2 T.f_l_word T.fd_l_word P_l_word (spWord ns) := by
  have G_l_draw : FnOk P w K mg base CX0 1 T.f_l_draw T.fd_l_draw P_l_draw (spDraw ns) := ok_l_draw T ns
  refine T.F_l_word.ok sc_l_word (fun vs H Q E h => ?_) (fun cdv A outer s H vs Q E hr h => ?_)
  · obtain ⟨p, l, sg, m, rfl, _⟩ := h
    rfl
  · obtain ⟨p, l, sg, m, rfl, hst, hsg, hm, hm2, k⟩ := h
    refine ⟨_, (pss_cons (ps_set (i := 3) sc_l_word.nd rfl (Or.inl rfl) (pe_op op_add pe_int (pe_call G_l_draw (hr.mono (by decide)) rfl T.m_l_draw T.F_l_draw.kp T.b_l_draw .nil pass0 (pa_cons (pv 0) (pa_cons (pv 2) pa_nil)))))
        (pss_one (ps_ret (pe_join pe_str (pe_lc (own := [("_law_k", 4)]) (g := (gName 4)) rfl sc_l_word.nd (pi_range1 rfl T.n_range (pa_cons (pv 3) pa_nil)) (blkOk_by (N := N_l_word) (sc := defScope s_l_word) (by decide +kernel)) (fun _ _ _ _ _ => (pg_name (i := 4) sc_l_word.nd rfl (Or.inl rfl))) (fun _ _ _ _ _ => pts_nil) (fun _ _ _ _ _ => (pe_ix ix_str (pv 1) (pe_call G_l_draw (hr.mono (by decide)) rfl T.m_l_draw T.F_l_draw.kp T.b_l_draw .nil pass0 (pa_cons (pv 0) (pa_cons (pe_callB call_len_str rfl T.n_len (by decide +kernel) (pa_cons (pv 1) pa_nil)) pa_nil))) (fun _ _ => rfl)))))))), ?_⟩
    have hlen := hsg.len
    refine ⟨_, rfl, _, rfl, p, l, m, rfl, hst, hm, by omega, fun H1 r x1 st1 r0 r1 => ⟨_, _, rfl, rfl, ?_⟩⟩
    refine ⟨⟨_, rfl⟩, _, rfl, _, rfl, by omega, by omega, fun D hD => lc_range (lo := 0) (n := (1 + r).toNat) (fun i H' => ∃ us : List Nat, us.length = i ∧ (∀ c ∈ us, c ∈ sg) ∧ H' D = some (.lst ((us.map fun c => SX.S [c]).map V.str)) ∧ Ex p H H' ∧ StAt ns l H' p) ?_ ?_ ?_⟩
    · exact ⟨[], rfl, fun _ h => (nomatch h), upd_same, x1.trans (Ex.new _ hD), st1.same (Same.new _ hD)⟩
    · rintro i H2 hi ⟨us, rfl, hu, hDs, x2, st2⟩
      refine ⟨rfl, ?_⟩
      refine ⟨_, rfl, _, rfl, _, rfl, _, rfl, le_size (by rw [SX.S_len]; omega), p, l, _, rfl, st2, by rw [SX.S_len]; omega, by rw [SX.S_len]; omega, fun H3 r3 x3 st3 r30 r31 => ?_⟩
      rw [SX.S_len] at r31
      obtain ⟨c, hc, hat⟩ := atI_mem (xs := sg) r30 r31
      have nD := st1.ne hD
      refine ⟨_, _, c, rfl, rfl, le_size (by rw [SX.S_len]; omega), hat, _, x3 _ _ nD.1 hDs, lt_size (by simp; omega), us ++ [c], by simp, ?_, ?_, (x2.trans x3).updNew (x1.free hD nD.1), st3.upd nD⟩
      · intro d hd
        rcases List.mem_append.mp hd with h | h
        · exact hu d h
        · rw [List.mem_singleton.mp h]; exact hc
      · rw [upd_same]; simp
    · rintro H2 ⟨us, hl, hu, hDs, x2, st2⟩
      have hf : ∀ l : List Nat, (l.map fun c => [c]).flatten = l := fun l => by induction l with
        | nil => rfl
        | cons a l ih => simpa using ih
      refine ⟨_, _, us.map fun c => SX.S [c], rfl, rfl, .inl (SqL.of hDs), ?_, ?_⟩
      · rw [sum_ones, emptyS, SX.S_len]
        simp
        omega
      · have e : us.map (fun c => SX.S [c]) = (us.map fun c => [c]).map SX.S := by rw [List.map_map]; rfl
        rw [e, emptyS, join_flat, hf]
        exact k _ us x2 st2 ⟨by omega, by omega, hu⟩
end
end J


set_option Elab.async false
set_option linter.all false
set_option maxRecDepth 100000
set_option maxHeartbeats 4000000
namespace J
open PySem L2

/-- an arc: its state, its word, where it leads -/
abbrev Arc := Nat × List Nat × Nat
def arcHO (a : Arc) : HO := .tup [.int (a.1 : Int), .str (SX.S a.2.1), .int (a.2.2 : Int)]
def Arcs (H : Hp) (vs : List V) (as : List Arc) : Prop := vs.length = as.length ∧ ∀ (i : Nat) (a : Arc), as[i]? = some a → ∃ t, vs[i]? = some (V.ref t) ∧ H t = some (arcHO a)
theorem Arcs.same {H H' : Hp} {vs : List V} {as : List Arc} (h : Arcs H vs as) (s : Same H H') : Arcs H' vs as :=
  ⟨h.1, fun i a e => by obtain ⟨t, h1, h2⟩ := h.2 i a e; exact ⟨t, h1, s _ _ h2⟩⟩
theorem Arcs.ex {H H' : Hp} {p : Addr} {xs : List V} {vs : List V} {as : List Arc} (h : Arcs H vs as) (x : Ex p H H') (hp : H p = some (.lst xs)) : Arcs H' vs as :=
  ⟨h.1, fun i a e => by
    obtain ⟨t, h1, h2⟩ := h.2 i a e
    exact ⟨t, h1, x _ _ (fun z => by rw [z, hp] at h2; cases h2) h2⟩⟩
theorem Arcs.snoc {H : Hp} {vs : List V} {as : List Arc} {t : Addr} {a : Arc} (h : Arcs H vs as) (ht : H t = some (arcHO a)) : Arcs H (vs ++ [V.ref t]) (as ++ [a]) := by
  refine ⟨by simp [h.1], fun i b e => ?_⟩
  by_cases hi : i < as.length
  · rw [List.getElem?_append_left hi] at e
    rw [List.getElem?_append_left (by rw [h.1]; exact hi)]
    exact h.2 i b e
  · rw [List.getElem?_append_right (by omega)] at e
    have e0 : i - as.length = 0 := by
      have q := (List.getElem?_eq_some_iff.mp e).1
      simp at q
      omega
    rw [e0] at e
    cases e
    refine ⟨t, ?_, ht⟩
    rw [List.getElem?_append_right (by rw [h.1]; omega), h.1, e0]
    rfl
theorem Arcs.updL {H : Hp} {vs xs : List V} {as : List Arc} {p : Addr} {o : HO} (h : Arcs H vs as) (hp : H p = some (.lst xs)) : Arcs (upd H p o) vs as := h.ex (Ex.upd o) hp
theorem Arcs.st {ns : List Int} {l p : Addr} {H H' : Hp} {vs : List V} {as : List Arc} (h : Arcs H vs as) (st : StAt ns l H p) (x : Ex p H H') : Arcs H' vs as := by
  obtain ⟨a, b, c, d, e, h1, h2, h3⟩ := st
  exact h.ex x h2
theorem Arcs.nil (H : Hp) : Arcs H [] [] := ⟨rfl, fun i a e => by simp at e⟩
theorem ex_upd_lst {p : Addr} {H : Hp} {o : HO} : Ex p H (upd H p o) := Ex.upd o
def OkArc (sg : List Nat) (a : Arc) : Prop := a.1 ≤ 63 ∧ Word sg a.2.1 ∧ a.2.2 ≤ 63
def OkArcs (sg : List Nat) (as : List Arc) : Prop := 1 ≤ as.length ∧ as.length ≤ 13 ∧ (∀ a ∈ as, OkArc sg a) ∧ ∃ a : Arc, as[0]? = some a ∧ a.1 = 0
/-- what a place's menu hands out: a list of states -/
def Pl (p l : Addr) (H : Hp) (v : V) : Prop := ∃ a, ∃ xs : List Nat, v = .ref a ∧ a ≠ p ∧ a ≠ l ∧ H a = some (.lst (xs.map fun n : Nat => V.int (n : Int))) ∧ 1 ≤ xs.length ∧ xs.length ≤ 4 ∧ ∀ x ∈ xs, x ≤ 63
theorem Pl.same {p l : Addr} {H H' : Hp} {v : V} (h : Pl p l H v) (s : Same H H') : Pl p l H' v := by
  obtain ⟨a, xs, h1, h2, h3, h4, h5⟩ := h
  exact ⟨a, xs, h1, h2, h3, s _ _ h4, h5⟩
theorem Pl.ex {p l : Addr} {H H' : Hp} {v : V} (h : Pl p l H v) (s : Ex p H H') : Pl p l H' v := by
  obtain ⟨a, xs, h1, h2, h3, h4, h5⟩ := h
  exact ⟨a, xs, h1, h2, h3, s _ _ h2 h4, h5⟩
theorem Pl.new {p l a : Addr} {H : Hp} (xs : List Nat) (n : a ≠ p ∧ a ≠ l) (h : 1 ≤ xs.length ∧ xs.length ≤ 4) (hx : ∀ x ∈ xs, x ≤ 63) {vs : List V} (e : vs = xs.map fun n : Nat => V.int (n : Int)) : Pl p l (upd H a (.lst vs)) (.ref a) :=
  ⟨a, xs, rfl, n.1, n.2, by rw [upd_same, e], h.1, h.2, hx⟩
theorem signs_menu {v : V} (h : v ∈ ([.str "a", .str "ab", .str "ab", .str "ab", .str "abc", .str "xz", .str "bdkz", .str "qw"] : List V)) : ∃ sg, v = .str (SX.S sg) ∧ Signs sg := by
  simp only [List.mem_cons, List.not_mem_nil, or_false] at h
  rcases h with rfl | rfl | rfl | rfl | rfl | rfl | rfl | rfl
  · exact ⟨[97], rfl, by unfold Signs; decide⟩
  · exact ⟨[97, 98], rfl, by unfold Signs; decide⟩
  · exact ⟨[97, 98], rfl, by unfold Signs; decide⟩
  · exact ⟨[97, 98], rfl, by unfold Signs; decide⟩
  · exact ⟨[97, 98, 99], rfl, by unfold Signs; decide⟩
  · exact ⟨[120, 122], rfl, by unfold Signs; decide⟩
  · exact ⟨[98, 100, 107, 122], rfl, by unfold Signs; decide⟩
  · exact ⟨[113, 119], rfl, by unfold Signs; decide⟩
theorem most_menu {v : V} (h : v ∈ ([.int 1, .int 2, .int 2, .int 3, .int 3, .int 4] : List V)) : ∃ m : Int, v = .int m ∧ 0 < m ∧ m ≤ 12 := by
  simp only [List.mem_cons, List.not_mem_nil, or_false] at h
  rcases h with rfl | rfl | rfl | rfl | rfl | rfl <;> exact ⟨_, rfl, by decide, by decide⟩
def spLoom (ns : List Int) : Sp := fun vs H Q _ => ∃ (p l : Addr), vs = [.ref p] ∧ StAt ns l H p ∧
  ∀ (H' : Hp) (q r : Addr) (sg : List Nat) (us : List V) (as : List Arc), Ex p H H' → StAt ns l H' p → H q = none → H r = none → H' q = some (.tup [.str (SX.S sg), .ref r]) → H' r = some (.lst us) → Arcs H' us as → OkArcs sg as → Signs sg → Q (.ref q) H'
section
variable {P : Program} {w : World} {K : PySem.W.Frag} {mg : Str → Option Value} {base : Heap}

theorem ok_l_loom (T : Tx K mg) (ns : List Int) : FnOk P w K mg base CX0 3 T.f_l_loom T.fd_l_loom P_l_loom (spLoom ns) := by
  have G_l_draw : FnOk P w K mg base CX0 1 T.f_l_draw T.fd_l_draw P_l_draw (spDraw ns) := ok_l_draw T ns
  have G_l_word : FnOk P w K mg base CX0 2 T.f_l_word T.fd_l_word P_l_word (spWord ns) := ok_l_word T ns
  refine T.F_l_loom.ok sc_l_loom (fun vs H Q E h => ?_) (fun cdv A outer s H vs Q E hr h => ?_)
  · obtain ⟨p, l, rfl, _⟩ := h
    rfl
  · obtain ⟨p, l, rfl, hst, k⟩ := h
    refine ⟨_, (pss_cons (ps_set (i := 1) sc_l_loom.nd rfl (Or.inl rfl) (pe_ix (ix_listK (K := K) rfl) (pe_lst (pa_cons pe_str (pa_cons pe_str (pa_cons pe_str (pa_cons pe_str (pa_cons pe_str (pa_cons pe_str (pa_cons pe_str (pa_cons pe_str pa_nil))))))))) (pe_call G_l_draw (hr.mono (by decide)) rfl T.m_l_draw T.F_l_draw.kp T.b_l_draw .nil pass0 (pa_cons (pv 0) (pa_cons pe_int pa_nil))) (fun _ _ => rfl)))
        (pss_cons (ps_set (i := 2) sc_l_loom.nd rfl (Or.inl rfl) (pe_ix (ix_listK (K := K) rfl) (pe_lst (pa_cons (pe_lst (pa_cons pe_int pa_nil)) (pa_cons (pe_lst (pa_cons pe_int pa_nil)) (pa_cons (pe_lst (pa_cons pe_int (pa_cons pe_int pa_nil))) (pa_cons (pe_lst (pa_cons pe_int (pa_cons pe_int pa_nil))) (pa_cons (pe_lst (pa_cons pe_int (pa_cons pe_int (pa_cons pe_int pa_nil)))) (pa_cons (pe_lst (pa_cons pe_int (pa_cons pe_int pa_nil))) (pa_cons (pe_lst (pa_cons pe_int (pa_cons pe_int (pa_cons pe_int pa_nil)))) (pa_cons (pe_lst (pa_cons pe_int (pa_cons pe_int (pa_cons pe_int (pa_cons pe_int pa_nil))))) pa_nil))))))))) (pe_call G_l_draw (hr.mono (by decide)) rfl T.m_l_draw T.F_l_draw.kp T.b_l_draw .nil pass0 (pa_cons (pv 0) (pa_cons pe_int pa_nil))) (fun _ _ => rfl)))
        (pss_cons (ps_set (i := 3) sc_l_loom.nd rfl (Or.inl rfl) (pe_op op_add pe_int (pe_call G_l_draw (hr.mono (by decide)) rfl T.m_l_draw T.F_l_draw.kp T.b_l_draw .nil pass0 (pa_cons (pv 0) (pa_cons pe_int pa_nil)))))
        (C8.pss_cut (ps_if (pt_cmpR op_eq (pe_call G_l_draw (hr.mono (by decide)) rfl T.m_l_draw T.F_l_draw.kp T.b_l_draw .nil pass0 (pa_cons (pv 0) (pa_cons pe_int pa_nil))) pe_int (nomark _)) (pss_one (ps_set (i := 3) sc_l_loom.nd rfl (Or.inl rfl) (pe_op op_add pe_int (pe_call G_l_draw (hr.mono (by decide)) rfl T.m_l_draw T.F_l_draw.kp T.b_l_draw .nil pass0 (pa_cons (pv 0) (pa_cons pe_int pa_nil)))))) pss_nil)
        (pss_cons (ps_set (i := 4) sc_l_loom.nd rfl (Or.inl rfl) (pe_ix (ix_listK (K := K) rfl) (pe_lst (pa_cons pe_int (pa_cons pe_int (pa_cons pe_int (pa_cons pe_int (pa_cons pe_int (pa_cons pe_int pa_nil))))))) (pe_call G_l_draw (hr.mono (by decide)) rfl T.m_l_draw T.F_l_draw.kp T.b_l_draw .nil pass0 (pa_cons (pv 0) (pa_cons pe_int pa_nil))) (fun _ _ => rfl)))
        (C8.pss_cut (ps_if (pt_cmpR op_eq (pe_call G_l_draw (hr.mono (by decide)) rfl T.m_l_draw T.F_l_draw.kp T.b_l_draw .nil pass0 (pa_cons (pv 0) (pa_cons pe_int pa_nil))) pe_int (nomark _)) (pss_one (ps_set (i := 4) sc_l_loom.nd rfl (Or.inl rfl) pe_int)) pss_nil)
        (pss_cons (ps_set (i := 5) sc_l_loom.nd rfl (Or.inl rfl) (pe_lst pa_nil))
        (pss_cons (ps_for PassesOwn.never rfl (pi_range1 rfl T.n_range (pa_cons (pv 3) pa_nil)) (pg_name (i := 6) sc_l_loom.nd rfl (Or.inl rfl)) (pss_cons (ps_set (i := 7) sc_l_loom.nd rfl (Or.inl rfl) (pe_ix (ix_listK (K := K) rfl) (pv 2) (pe_call G_l_draw (hr.mono (by decide)) rfl T.m_l_draw T.F_l_draw.kp T.b_l_draw .nil pass0 (pa_cons (pv 0) (pa_cons (pe_callB (call_len_seqK (K := K) rfl) rfl T.n_len (by decide +kernel) (pa_cons (pv 2) pa_nil)) pa_nil))) (fun _ _ => rfl)))
        (C8.pss_cut (ps_if (pt_cmpR op_eq (pv 6) pe_int (nomark _)) (pss_one (ps_set (i := 7) sc_l_loom.nd rfl (Or.inl rfl) pe_int)) pss_nil)
        (pss_one (ps_expr (pe_bm PySem.F.plainAttrs_list PySem.F.slot_list_append PySem.F.type_list_append mt_append (pv 5) (pa_cons (pe_tup (pa_cons (pv 7) (pa_cons (pe_call G_l_word (hr.mono (by decide)) rfl T.m_l_word T.F_l_word.kp T.b_l_word .nil pass0 (pa_cons (pv 0) (pa_cons (pv 1) (pa_cons (pv 4) pa_nil)))) (pa_cons (pe_ix (ix_listK (K := K) rfl) (pv 2) (pe_call G_l_draw (hr.mono (by decide)) rfl T.m_l_draw T.F_l_draw.kp T.b_l_draw .nil pass0 (pa_cons (pv 0) (pa_cons (pe_callB (call_len_seqK (K := K) rfl) rfl T.n_len (by decide +kernel) (pa_cons (pv 2) pa_nil)) pa_nil))) (fun _ _ => rfl)) pa_nil)))) pa_nil)))))))
        (C8.pss_cut (ps_if (pt_cmpR op_eq (pe_call G_l_draw (hr.mono (by decide)) rfl T.m_l_draw T.F_l_draw.kp T.b_l_draw .nil pass0 (pa_cons (pv 0) (pa_cons pe_int pa_nil))) pe_int (nomark _)) (pss_one (ps_expr (pe_bm PySem.F.plainAttrs_list PySem.F.slot_list_append PySem.F.type_list_append mt_append (pv 5) (pa_cons (pe_ix (ix_listK (K := K) rfl) (pv 5) (pe_call G_l_draw (hr.mono (by decide)) rfl T.m_l_draw T.F_l_draw.kp T.b_l_draw .nil pass0 (pa_cons (pv 0) (pa_cons (pe_callB (call_len_seqK (K := K) rfl) rfl T.n_len (by decide +kernel) (pa_cons (pv 5) pa_nil)) pa_nil))) (fun _ _ => rfl)) pa_nil)))) pss_nil)
        (pss_one (ps_ret (pe_tup (pa_cons (pv 1) (pa_cons (pv 5) pa_nil)))))))))))))), ?_⟩
    -- the signs
    refine ⟨le_size (by decide), fun D hD => ?_⟩
    have stD := hst.same (Same.new (.lst [.str "a", .str "ab", .str "ab", .str "ab", .str "abc", .str "xz", .str "bdkz", .str "qw"]) hD)
    have nD := hst.ne hD
    refine ⟨_, rfl, p, l, 8, rfl, stD, by decide, by decide, fun H1 r x1 st1 r0 r1 => ?_⟩
    obtain ⟨v, hv, hat⟩ := atI_mem (xs := ([.str "a", .str "ab", .str "ab", .str "ab", .str "abc", .str "xz", .str "bdkz", .str "qw"] : List V)) r0 (by simpa using r1)
    refine ⟨_, _, _, v, rfl, rfl, SqL.of (x1 _ _ nD.1 upd_same), hat, ?_⟩
    obtain ⟨sg, rfl, hsg⟩ := signs_menu hv
    have X1 : Ex p H H1 := (Ex.new _ hD).trans x1
    -- the places
    refine ⟨le_size (by decide), fun l1 h1 => ⟨le_size (by decide), fun l2 h2 => ⟨le_size (by decide), fun l3 h3 => ⟨le_size (by decide), fun l4 h4 => ⟨le_size (by decide), fun l5 h5 => ⟨le_size (by decide), fun l6 h6 => ⟨le_size (by decide), fun l7 h7 => ⟨le_size (by decide), fun l8 h8 => ⟨le_size (show 8 ≤ 100000 by decide), fun l9 h9 => ?_⟩⟩⟩⟩⟩⟩⟩⟩⟩
    have s1 := Same.new (.lst [V.int 0]) h1
    have s2 := Same.new (.lst [V.int 0]) h2
    have s3 := Same.new (.lst [V.int 0, V.int 1]) h3
    have s4 := Same.new (.lst [V.int 0, V.int 1]) h4
    have s5 := Same.new (.lst [V.int 0, V.int 1, V.int 2]) h5
    have s6 := Same.new (.lst [V.int 0, V.int 63]) h6
    have s7 := Same.new (.lst [V.int 0, V.int 7, V.int 12]) h7
    have s8 := Same.new (.lst [V.int 0, V.int 2, V.int 3, V.int 1]) h8
    have s9 := Same.new (.lst [V.ref l1, V.ref l2, V.ref l3, V.ref l4, V.ref l5, V.ref l6, V.ref l7, V.ref l8]) h9
    have t1 := st1.same s1
    have t2 := t1.same s2
    have t3 := t2.same s3
    have t4 := t3.same s4
    have t5 := t4.same s5
    have t6 := t5.same s6
    have t7 := t6.same s7
    have t8 := t7.same s8
    have t9 := t8.same s9
    have hPl : ∀ v ∈ ([V.ref l1, V.ref l2, V.ref l3, V.ref l4, V.ref l5, V.ref l6, V.ref l7, V.ref l8] : List V), Pl p l _ v := fun v hv => by
      simp only [List.mem_cons, List.not_mem_nil, or_false] at hv
      rcases hv with rfl | rfl | rfl | rfl | rfl | rfl | rfl | rfl
      · exact (Pl.new [0] (st1.ne h1) (by decide) (by decide) rfl).same (s2.trans (s3.trans (s4.trans (s5.trans (s6.trans (s7.trans (s8.trans s9)))))))
      · exact (Pl.new [0] (t1.ne h2) (by decide) (by decide) rfl).same (s3.trans (s4.trans (s5.trans (s6.trans (s7.trans (s8.trans s9))))))
      · exact (Pl.new [0, 1] (t2.ne h3) (by decide) (by decide) rfl).same (s4.trans (s5.trans (s6.trans (s7.trans (s8.trans s9)))))
      · exact (Pl.new [0, 1] (t3.ne h4) (by decide) (by decide) rfl).same (s5.trans (s6.trans (s7.trans (s8.trans s9))))
      · exact (Pl.new [0, 1, 2] (t4.ne h5) (by decide) (by decide) rfl).same (s6.trans (s7.trans (s8.trans s9)))
      · exact (Pl.new [0, 63] (t5.ne h6) (by decide) (by decide) rfl).same (s7.trans (s8.trans s9))
      · exact (Pl.new [0, 7, 12] (t6.ne h7) (by decide) (by decide) rfl).same (s8.trans s9)
      · exact (Pl.new [0, 2, 3, 1] (t7.ne h8) (by decide) (by decide) rfl).same s9
    have n9 := t8.ne h9
    refine ⟨_, rfl, p, l, 8, rfl, t9, by decide, by decide, fun H2 r2 x2 st2 r20 r21 => ?_⟩
    obtain ⟨v, hv, hat⟩ := atI_mem (xs := ([V.ref l1, V.ref l2, V.ref l3, V.ref l4, V.ref l5, V.ref l6, V.ref l7, V.ref l8] : List V)) r20 (by simpa using r21)
    refine ⟨_, _, _, v, rfl, rfl, SqL.of (x2 _ _ n9.1 upd_same), hat, ?_⟩
    have pl2 := (hPl v hv).ex x2
    have X2 : Ex p H H2 := X1.trans ((Same.ex (s1.trans (s2.trans (s3.trans (s4.trans (s5.trans (s6.trans (s7.trans (s8.trans s9))))))))).trans x2)
    clear hPl t1 t2 t3 t4 t5 t6 t7 t8 t9 s1 s2 s3 s4 s5 s6 s7 s8 s9
    -- how many
    refine ⟨_, rfl, p, l, 6, rfl, st2, by decide, by decide, fun H3 r3 x3 st3 r30 r31 => ⟨_, _, rfl, rfl, ?_⟩⟩
    refine ⟨fun σ' H' => ∃ m : Int, σ' = [some (.ref p), some (.str (SX.S sg)), some v, some (.int m), none, none, none, none] ∧ 1 ≤ m ∧ m ≤ 12 ∧ Ex p H H' ∧ StAt ns l H' p ∧ Pl p l H' v, ?_, ?_⟩
    · refine ⟨_, rfl, p, l, 12, rfl, st3, by decide, by decide, fun H4 r4 x4 st4 r40 r41 => ⟨rfl, _, rfl, ?_⟩⟩
      refine ite2 (fun c => ?_) (fun c => ?_)
      · refine ⟨_, rfl, p, l, 5, rfl, st4, by decide, by decide, fun H5 r5 x5 st5 r50 r51 => ⟨_, _, rfl, rfl, ?_⟩⟩
        exact ⟨8 + r5, rfl, by omega, by omega, X2.trans (x3.trans (x4.trans x5)), st5, ((pl2.ex x3).ex x4).ex x5⟩
      · exact ⟨1 + r3, rfl, by omega, by omega, X2.trans (x3.trans x4), st4, (pl2.ex x3).ex x4⟩
    · rintro σ3 H3' ⟨many, rfl, m1, m2, X3, st3', pl3⟩
      -- the greatest length
      refine ⟨le_size (by decide), fun D3 hD3 => ?_⟩
      have nD3 := st3'.ne hD3
      have sD3 := Same.new (.lst [V.int 1, V.int 2, V.int 2, V.int 3, V.int 3, V.int 4]) hD3
      refine ⟨_, rfl, p, l, 6, rfl, st3'.same sD3, by decide, by decide, fun H4 r4 x4 st4 r40 r41 => ?_⟩
      obtain ⟨vm, hvm, hat4⟩ := atI_mem (xs := ([V.int 1, V.int 2, V.int 2, V.int 3, V.int 3, V.int 4] : List V)) r40 (by simpa using r41)
      refine ⟨_, _, _, vm, rfl, rfl, SqL.of (x4 _ _ nD3.1 upd_same), hat4, ?_⟩
      obtain ⟨mo, rfl, mo1, mo2⟩ := most_menu hvm
      have X4 : Ex p H H4 := X3.trans ((Same.ex sD3).trans x4)
      have pl4 := (pl3.same sD3).ex x4
      refine ⟨fun σ' H' => ∃ mo : Int, σ' = [some (.ref p), some (.str (SX.S sg)), some v, some (.int many), some (.int mo), none, none, none] ∧ 0 < mo ∧ mo ≤ 12 ∧ Ex p H H' ∧ StAt ns l H' p ∧ Pl p l H' v, ?_, ?_⟩
      · refine ⟨_, rfl, p, l, 16, rfl, st4, by decide, by decide, fun H5 r5 x5 st5 r50 r51 => ⟨rfl, _, rfl, ?_⟩⟩
        refine ite2 (fun c => ?_) (fun c => ?_)
        · exact ⟨12, rfl, by decide, by decide, X4.trans x5, st5, pl4.ex x5⟩
        · exact ⟨mo, rfl, mo1, mo2, X4.trans x5, st5, pl4.ex x5⟩
      · rintro σ5 H5 ⟨mo, rfl, mo1, mo2, X5, st5, pl5⟩
        -- the arcs
        refine ⟨Nat.zero_le _, fun Ar hA => ?_⟩
        have nA := st5.ne hA
        have hA0 := X5.free hA nA.1
        have sA := Same.new (.lst []) hA
        refine ⟨_, rfl, _, rfl, by omega, by omega, for_range (lo := 0) (n := many.toNat) (fun i σ H' => ∃ (us : List V) (as : List Arc) (v6 v7 : Option V), σ = [some (.ref p), some (.str (SX.S sg)), some v, some (.int many), some (.int mo), some (.ref Ar), v6, v7] ∧
          as.length = i ∧ (∀ a ∈ as, OkArc sg a) ∧ (0 < i → ∃ a : Arc, as[0]? = some a ∧ a.1 = 0) ∧ H' Ar = some (.lst us) ∧ Arcs H' us as ∧ Ex p H H' ∧ StAt ns l H' p ∧ Pl p l H' v) ?_ ?_ ?_⟩
        · exact ⟨[], [], none, none, rfl, rfl, fun _ h => (nomatch h), fun h => absurd h (Nat.lt_irrefl _), upd_same, Arcs.nil _, X5.updNew hA0, st5.upd nA, pl5.same sA⟩
        · rintro i σ H6 hi ⟨us, as, v6, v7, rfl, rfl, hok, hz, hAr, harc, X6, st6, pl6⟩
          obtain ⟨pa, xs, rfl, np, nl, hpa, xl1, xl2, xb⟩ := pl6
          have nApa : Ar ≠ pa := by
            obtain ⟨a', xs', e', _, _, h', _⟩ := pl5
            cases e'
            exact hp_ne h' hA
          -- the start
          refine ⟨_, rfl, _, rfl, _, rfl, pa, _, rfl, .inl (SqL.of hpa), p, l, _, rfl, st6, by rw [List.length_map]; omega, by rw [List.length_map]; omega, fun H7 r7 x7 st7 r70 r71 => ?_⟩
          obtain ⟨vs7, hvs7, hat7⟩ := atI_mem r70 r71
          obtain ⟨s7, hs7, rfl⟩ := List.mem_map.mp hvs7
          refine ⟨_, _, _, _, rfl, rfl, SqL.of (x7 _ _ np hpa), hat7, ?_⟩
          refine ⟨fun σ' H' => ∃ s8 : Nat, σ' = [some (.ref p), some (.str (SX.S sg)), some (.ref pa), some (.int many), some (.int mo), some (.ref Ar), some (.int (0 + (as.length : Int))), some (.int (s8 : Int))] ∧ s8 ≤ 63 ∧ (as.length = 0 → s8 = 0) ∧ H' = H7, ?_, ?_⟩
          · refine ⟨_, rfl, rfl, _, rfl, ?_⟩
            refine ite2 (fun c => ?_) (fun c => ?_)
            · exact ⟨0, rfl, by omega, fun _ => rfl, rfl⟩
            · refine ⟨s7, rfl, xb _ hs7, fun z => absurd ?_ c, rfl⟩
              rw [z]
              decide
          · rintro σ8 H8 ⟨s8, rfl, hs8, hz8, rfl⟩
            have hln : as.length ≤ 100000 := by clear hz; omega
            have hA7 := x7 _ _ nA.1 hAr
            have arc7 := harc.st st6 x7
            refine ⟨_, rfl, .inl ⟨rfl, _, SqL.of hA7⟩, _, rfl, _, rfl, _, rfl, _, rfl, p, l, sg, mo, rfl, st7, hsg, mo1, mo2, fun H9 u9 x9 st9 hw9 => ?_⟩
            have hpa9 := x9 _ _ np (x7 _ _ np hpa)
            refine ⟨_, rfl, _, rfl, _, rfl, pa, _, rfl, .inl (SqL.of hpa9), p, l, _, rfl, st9, by rw [List.length_map]; omega, by rw [List.length_map]; omega, fun H10 r10 x10 st10 r100 r101 => ?_⟩
            obtain ⟨vs10, hvs10, hat10⟩ := atI_mem r100 r101
            obtain ⟨s10, hs10, rfl⟩ := List.mem_map.mp hvs10
            refine ⟨_, _, _, _, rfl, rfl, SqL.of (x10 _ _ np hpa9), hat10, le_size (show 3 ≤ 100000 by decide), fun t ht => ?_⟩
            have nt := st10.ne ht
            have hA10 := x10 _ _ nA.1 (x9 _ _ nA.1 hA7)
            have nAt : t ≠ Ar := hp_ne hA10 ht
            have st := Same.new (arcHO (s8, u9, s10)) ht
            have X11 : Ex p H (upd H10 t (arcHO (s8, u9, s10))) := X6.trans (x7.trans (x9.trans (x10.trans (Same.ex st))))
            refine ⟨Ar, us, _, rfl, rfl, st _ _ hA10, lt_size (by rw [harc.1]; exact hln), ?_⟩
            have arc10 := ((arc7.st st7 x9).st st9 x10).same st
            have nn := (arc10.snoc (t := t) (a := (s8, u9, s10)) upd_same)
            refine ⟨us ++ [.ref t], as ++ [(s8, u9, s10)], _, _, rfl, by simp, ?_, fun _ => ?_, upd_same, ?_, X11.updNew hA0, (st10.same st).upd nA, ?_⟩
            · intro a ha
              rcases List.mem_append.mp ha with h | h
              · exact hok a h
              · rw [List.mem_singleton.mp h]
                exact ⟨hs8, hw9, xb _ hs10⟩
            · by_cases h0 : as.length = 0
              · have e : as = [] := List.eq_nil_of_length_eq_zero h0
                subst e
                exact ⟨_, rfl, hz8 rfl⟩
              · obtain ⟨a, ha, ha0⟩ := hz (by omega)
                exact ⟨a, by rw [List.getElem?_append_left (by omega)]; exact ha, ha0⟩
            · exact nn.updL (st _ _ hA10)
            · exact ⟨pa, xs, rfl, np, nl, by rw [upd_ne nApa.symm]; exact st _ _ (x10 _ _ np hpa9), xl1, xl2, xb⟩
        · rintro σ H6 ⟨us, as, v6, v7, rfl, hl, hok, hz, hAr, harc, X6, st6, pl6⟩
          have hl1 : 1 ≤ as.length ∧ as.length ≤ 12 := by clear hz; omega
          obtain ⟨a0, ha0, hz0⟩ := hz (by omega)
          refine ⟨fun σ' H' => ∃ (us : List V) (as : List Arc), σ' = [some (.ref p), some (.str (SX.S sg)), some v, some (.int many), some (.int mo), some (.ref Ar), v6, v7] ∧ OkArcs sg as ∧ H' Ar = some (.lst us) ∧ Arcs H' us as ∧ Ex p H H' ∧ StAt ns l H' p, ?_, ?_⟩
          · refine ⟨_, rfl, p, l, 4, rfl, st6, by decide, by decide, fun H7 r7 x7 st7 r70 r71 => ⟨rfl, _, rfl, ?_⟩⟩
            have hA7 := x7 _ _ nA.1 hAr
            have arc7 := harc.st st6 x7
            refine ite2 (fun c => ?_) (fun c => ?_)
            · refine ⟨_, rfl, .inl ⟨rfl, _, SqL.of hA7⟩, _, rfl, _, rfl, _, rfl, Ar, us, rfl, .inl (SqL.of hA7), p, l, _, rfl, st7, by rw [harc.1]; omega, by rw [harc.1]; omega, fun H8 r8 x8 st8 r80 r81 => ?_⟩
              have hA8 := x8 _ _ nA.1 hA7
              have arc8 := arc7.st st7 x8
              obtain ⟨j, rfl⟩ := Int.eq_ofNat_of_zero_le r80
              have hj : j < as.length := by rw [harc.1] at r81; exact_mod_cast r81
              obtain ⟨t, ht1, ht2⟩ := arc8.2 j as[j] (List.getElem?_eq_getElem hj)
              refine ⟨_, _, _, _, rfl, rfl, SqL.of hA8, atI_nat ht1, Ar, us, _, rfl, rfl, hA8, lt_size (by rw [harc.1]; omega), ?_⟩
              refine ⟨us ++ [.ref t], as ++ [as[j]], rfl, ⟨by simp, by simp; omega, ?_, a0, by rw [List.getElem?_append_left (by omega)]; exact ha0, hz0⟩, upd_same, (arc8.snoc ht2).updL hA8, (X6.trans (x7.trans x8)).updNew hA0, st8.upd nA⟩
              intro a ha
              rcases List.mem_append.mp ha with h | h
              · exact hok a h
              · rw [List.mem_singleton.mp h]
                exact hok _ (List.getElem_mem hj)
            · exact ⟨us, as, rfl, ⟨hl1.1, by omega, hok, a0, ha0, hz0⟩, hA7, arc7, X6.trans x7, st7⟩
          · rintro σ9 H9 ⟨us, as, rfl, hok, hA9, arc9, X9, st9⟩
            refine ⟨_, rfl, _, rfl, le_size (show 2 ≤ 100000 by decide), fun q hq => ?_⟩
            have sq := Same.new (.tup [.str (SX.S sg), .ref Ar]) hq
            refine k _ q Ar sg us as (X9.trans (Same.ex sq)) (st9.same sq) (X9.free hq (st9.ne hq).1) hA0 upd_same (sq _ _ hA9) (arc9.same sq) hok hsg
end
end J


set_option Elab.async false
set_option linter.all false
set_option maxRecDepth 100000
set_option maxHeartbeats 4000000
/-! zip of two texts, in a for and in a comprehension -/
namespace L2
open PySem PySem.Spec PyProof.Rows
/-- two texts at once, the signs in new pairs -/
def ItzS (x y : Str) : It :=
  ⟨fun i _ => i < min x.cps.size y.cps.size,
    fun i H v H' => ∃ T c d, v = .ref T ∧ H T = none ∧ H' = upd H T (.tup [.str ⟨#[c]⟩, .str ⟨#[d]⟩]) ∧ x.cps[i]? = some c ∧ y.cps[i]? = some d,
    fun i _ => i = min x.cps.size y.cps.size⟩
theorem turn_zipS {P : Program} {w : World} {K : PySem.W.Frag} {elts : List Expr} {kk : Nat} {tpos : Pos} {x y : Str} {t1 t2 : Tok} {z TI TO i1 i2 : Addr} (D : ZipSep2 z TI TO i1 i2 [i1] [i2]) :
    Turn P w K (.Tuple elts kk tpos) (ItzS x y) [z, TI, TO, i1, i2] z (fun i h => IsZip h z TI TO .none ∧ IsTupOf2 h TI (.ref i1) (.ref i2) ∧ (∃ x y, IsTupOf2 h TO x y) ∧ h.IsStrIter i1 (strIterType x) x t1 i ∧ h.IsStrIter i2 (strIterType y) y t2 i) where
  mem := by simp
  obj := fun i h st c hc => by
    obtain ⟨hz, hTI, ⟨x, y, hTO⟩, ⟨o1, e1, _, d1⟩, ⟨o2, e2, _, d2⟩⟩ := st
    have e' : c = z ∨ c = TI ∨ c = TO ∨ c = i1 ∨ c = i2 := by simpa using hc
    rcases e' with q | q | q | q | q
    · rw [q]; exact ⟨_, hz, fun v q => nomatch q⟩
    · rw [q]; exact ⟨_, hTI, fun v q => nomatch q⟩
    · rw [q]; exact ⟨_, hTO, fun v q => nomatch q⟩
    · rw [q]; exact ⟨o1, e1, fun v q => by rw [d1] at q; cases q⟩
    · rw [q]; exact ⟨o2, e2, fun v q => by rw [d2] at q; cases q⟩
  keep := fun i h h' st k => by
    obtain ⟨hz, hTI, ⟨x, y, hTO⟩, ⟨o1, e1, r1⟩, ⟨o2, e2, r2⟩⟩ := st
    exact ⟨k z (by simp) _ hz, k TI (by simp) _ hTI, ⟨x, y, k TO (by simp) _ hTO⟩, ⟨o1, k i1 (by simp) _ e1, r1⟩, ⟨o2, k i2 (by simp) _ e2, r2⟩⟩
  item := by
    intro X hP hw hK hc i pins s σ H E I hf st hg
    subst hP hw hK
    obtain ⟨hz, hTI, ⟨x0, y0, hTO⟩, h1, h2⟩ := st
    have hg' : i < min x.cps.size y.cps.size := hg
    have hzl : z < s.heap.objs.size := Heap.lt_size hz
    have hd := I.ok.hd hc
    refine wpAny_pyNext_zipD2_item D (Draws.text (A := X.A.in1) hd i1 x t1) (Draws.text (A := X.A.in1) hd i2 y t2) hz hTI hTO h1 h2 (by omega) (by omega) fun u u2 h' tk p1 p2 z' TO' h1' h2' hT hsz hk => ?_
    obtain ⟨c, tc, hcx, rfl⟩ := p1
    obtain ⟨d, td, hdy, rfl⟩ := p2
    refine ⟨_, rfl, wpAny_letOwnedTupleGo_zip (s := { s with heap := h', toks := tk }) z' fun h'' z'' sb => ?_⟩
    have hT2 : h''.get? s.heap.objs.size = some { cls := .type "tuple", data := .seq #[.str ⟨#[c]⟩ tc, .str ⟨#[d]⟩ td] } := (sb.2 _ (Nat.ne_of_gt hzl)).trans hT
    have new : ObjOk X.prog X.w (upd H s.heap.objs.size (.tup [.str ⟨#[c]⟩, .str ⟨#[d]⟩])) h'' s.heap.objs.size (.tup [.str ⟨#[c]⟩, .str ⟨#[d]⟩]) :=
      ⟨by show 2 ≤ sizeLine; decide, [.str ⟨#[c]⟩ tc, .str ⟨#[d]⟩ td], .cons ⟨_, rfl⟩ (.cons ⟨_, rfl⟩ .nil), ⟨_, hT2, rfl, _, rfl⟩⟩
    have I1 : Inv X pins σ (upd H s.heap.objs.size (.tup [.str ⟨#[c]⟩, .str ⟨#[d]⟩])) { s with heap := h'', toks := tk } :=
      I.turnedNew (t' := tk) (ch := [z, TI, TO, i1, i2]) (fun c o hb q => (sb.2 c (fun q' => hb (by simp [q']))).trans (hk c o (fun q' => hb (by simp [q'])) (fun q' => hb (by simp [q'])) (fun q' => hb (by simp [q'])) (fun q' => hb (by simp [q'])) q)) hf (Nat.le_refl _) new
    have nz1 : i1 ≠ z := D.zi1.symm
    have nz2 : i2 ≠ z := D.zi2.symm
    refine ⟨.ref s.heap.objs.size, _, I1, rfl, ⟨_, c, d, rfl, I.hok.fresh (Nat.le_refl _), rfl, hcx, hdy⟩, ⟨z'', ?_, ⟨_, _, (sb.2 _ D.TOz).trans TO'⟩, ?_, ?_⟩, fun c hcm => ?_⟩
    · exact (sb.2 _ D.TIz).trans (hk _ _ D.TIz D.TITO D.TIi1 D.TIi2 hTI)
    · obtain ⟨o, e, r⟩ := h1'
      exact ⟨o, (sb.2 _ nz1).trans e, r⟩
    · obtain ⟨o, e, r⟩ := h2'
      exact ⟨o, (sb.2 _ nz2).trans e, r⟩
    · have hlt : c < s.heap.objs.size := by
        have e' : c = z ∨ c = TI ∨ c = TO ∨ c = i1 ∨ c = i2 := by simpa using hcm
        rcases e' with q | q | q | q | q
        · rw [q]; exact hzl
        · rw [q]; exact Heap.lt_size hTI
        · rw [q]; exact Heap.lt_size hTO
        · rw [q]; obtain ⟨_, e1, _⟩ := h1; exact Heap.lt_size e1
        · rw [q]; obtain ⟨_, e2, _⟩ := h2; exact Heap.lt_size e2
      rw [upd_ne (Nat.ne_of_lt hlt)]
      exact (hf c hcm).1
  done := by
    intro X hP hw hK hc i pins s σ H E I hf st hg
    subst hP hw hK
    obtain ⟨hz, hTI, ⟨x0, y0, hTO⟩, h1, h2⟩ := st
    have hg' : i = min x.cps.size y.cps.size := hg
    have hd := I.ok.hd hc
    exact wpAny_pyNext_zipD2_end D (Draws.text (A := X.A.in1) hd i1 x t1) (Draws.text (A := X.A.in1) hd i2 y t2) hz hTI hTO h1 h2 (by omega) (by omega) (by omega) fun h' tk hk => ⟨rfl, I.turnedL (t' := tk) (ch := [z, TI, TO, i1, i2]) (fun c o hb q =>
      hk c o (fun q' => hb (by simp [q'])) (fun q' => hb (by simp [q'])) (fun q' => hb (by simp [q'])) (fun q' => hb (by simp [q'])) q) hf⟩
  self := fun A i s Q E st h => wpAny_pyIter_zip st.1 h
def iZipS (ta : TA) : TI := fun σ H R => ta σ H fun vs H1 => ∃ x y, vs = [.str x, .str y] ∧ R (ItzS x y) H1
theorem pi_zipS {X : Cx} {e e2 : Expr} {ta : TA} {p pos tpos : Pos} {elts : List Expr} {kk : Nat} (hg : Gl X "zip") (hm : X.mg "zip" = none) (ha : PA X [e, e2] ta)
    (hs : starEach [e, e2] X.env = (false, eval e X.env) :: starEach [e2] X.env := by rfl) (hpl : (backTo pos (starEach [e2] X.env)).any (·.1) = false := by rfl) :
    PI X (.Tuple elts kk tpos) (.Call (.Name "zip" p) [e, e2] [] pos) (iZipS ta) := by
  refine ⟨fun pins s σ H R I h => ?_⟩
  refine Call_ (ld_blt I hg hm PyProof.Rows.boot_zip (PyProof.Rows.callWith_type1 (thn (ha.run pos pins s σ H _ I h) fun us s1 ⟨vs, H1, I1, r1, q1⟩ => ?_) hs hpl))
  obtain ⟨x, y, ex, q⟩ := q1
  subst ex
  cases r1 with
  | cons r rr =>
    cases rr with
    | cons r' rr =>
      cases rr
      obtain ⟨t1, rfl⟩ := r
      obtain ⟨t2, rfl⟩ := r'
      refine zip_begins2 (begins_text x t1) (begins_text y t2) trivial trivial fun h' hz hTI hTO h1 h2 hsz hk => wpAny_pyIter_zip hz ?_
      have I2 : Inv X pins σ H1 { s1 with heap := h' } := I1.kept (t' := s1.toks) hk
      generalize hn : s1.heap.objs.size = n at hz hTI hTO h1 h2 hsz ⊢
      have D : ZipSep2 (n + 4) (n + 2) (n + 3) n (n + 1) [n] [n + 1] := by constructor <;> simp <;> omega
      refine ⟨n + 4, [n + 4, n + 2, n + 3, n, n + 1], _, _, H1, rfl, I2, turn_zipS (t1 := t1) (t2 := t2) D, ⟨hz, hTI, ⟨_, _, hTO⟩, ⟨_, h1, rfl, rfl⟩, ⟨_, h2, rfl, rfl⟩⟩, fun c hcm => ?_, q⟩
      have e' : c = n + 4 ∨ c = n + 2 ∨ c = n + 3 ∨ c = n ∨ c = n + 1 := by simpa using hcm
      have hle : s1.heap.objs.size ≤ c := by
        rw [hn]
        rcases e' with q | q | q | q | q
        · rw [q]; exact Nat.le_add_right _ _
        · rw [q]; exact Nat.le_add_right _ _
        · rw [q]; exact Nat.le_add_right _ _
        · rw [q]; exact Nat.le_refl _
        · rw [q]; exact Nat.le_add_right _ _
      exact I1.fpOk hle (I1.hok.fresh hle)
end L2

set_option Elab.async false
set_option linter.all false
set_option maxRecDepth 100000
set_option maxHeartbeats 4000000
namespace J
open PySem L2

def spNumber : Sp := fun vs H Q _ => ∃ i lo hi : Int, vs = [.int i, .int lo, .int hi] ∧ ∀ b : Bool, (b = true ↔ lo ≤ i ∧ i ≤ hi) → Q (.bl b) H
def spSequence (K : PySem.W.Frag) : Sp := fun vs H Q _ => ∃ (a : Addr) (xs : List V) (lo hi : Int), vs = [.ref a, .int lo, .int hi] ∧ H a = some (.lst xs) ∧ ∀ (H' : Hp) (b : Bool), Same H H' → (b = true ↔ lo ≤ xs.length ∧ xs.length ≤ hi) → Q (.bl b) H'
def spOver : Sp := fun vs H Q _ => ∃ (sg u : List Nat) (lo hi : Int), vs = [.str (SX.S sg), .str (SX.S u), .int lo, .int hi] ∧ lo ≤ u.length ∧ u.length ≤ hi ∧ hi ≤ 100000 ∧ (∀ c ∈ u, c ∈ sg) ∧ ∀ H' : Hp, Same H H' → Q (.bl true) H'
def spIsWord : Sp := fun vs H Q _ => ∃ (sg u : List Nat), vs = [.str (SX.S sg), .str (SX.S u)] ∧ Word sg u ∧ ∀ H' : Hp, Same H H' → Q (.bl true) H'
def spSigns : Sp := fun vs H Q _ => ∃ sg : List Nat, vs = [.str (SX.S sg)] ∧ Signs sg ∧ ∀ H' : Hp, Same H H' → Q (.bl true) H'
def spArc : Sp := fun vs H Q _ => ∃ (sg : List Nat) (t : Addr) (a : Arc), vs = [.str (SX.S sg), .ref t] ∧ H t = some (arcHO a) ∧ OkArc sg a ∧ ∀ H' : Hp, Same H H' → Q (.bl true) H'
def spState1 : Sp := fun vs H Q _ => ∃ i : Int, vs = [.int i] ∧ 0 ≤ i ∧ i ≤ 63 ∧ Q .non H
def spText1 : Sp := fun vs H Q _ => ∃ (sg u : List Nat), vs = [.str (SX.S sg), .str (SX.S u)] ∧ u.length ≤ 2000 ∧ (∀ c ∈ u, c ∈ sg) ∧ ∀ H' : Hp, Same H H' → Q .non H'
theorem rep_snoc (n : Nat) : (HO.lst ((List.replicate n true).map V.bl ++ [V.bl true])) = HO.lst ((List.replicate (n + 1) true).map V.bl) := by
  congr 1
  rw [List.replicate_succ']
  simp
theorem _root_.L2.Same.updNew {q : Addr} {H H' : Hp} {o : HO} (x : Same H H') (hq : H q = none) : Same H (L2.upd H' q o) := fun b u e => by
  rw [upd_ne (ne_of_none e hq)]; exact x b u e
theorem all_true {n : Nat} : (List.replicate n true).all id = true := by simp
section
variable {P : Program} {w : World} {K : PySem.W.Frag} {mg : Str → Option Value} {base : Heap}

theorem ok_is_number (T : Tx K mg) : FnOk P w K mg base CX0 1 T.f_is_number T.fd_is_number P_is_number spNumber := by
  refine T.F_is_number.ok sc_is_number (fun vs H Q E h => ?_) (fun cdv A outer s H vs Q E hr h => ?_)
  · obtain ⟨i, lo, hi, rfl, _⟩ := h
    rfl
  · obtain ⟨i, lo, hi, rfl, k⟩ := h
    refine ⟨_, (pss_one (ps_ret (pe_and (pe_callB (call_isiK' (K := K) rfl) rfl T.n_isinstance (by decide +kernel) (pa_cons (pv 0) (pa_cons (pe_bltn (v := V.ty "int") (u := .type "int") rfl T.n_int (by decide +kernel) rfl) pa_nil))) (pe_and (pe_not (pe_callB (call_isiK' (K := K) rfl) rfl T.n_isinstance (by decide +kernel) (pa_cons (pv 0) (pa_cons (pe_bltn (v := V.ty "bool") (u := .type "bool") rfl T.n_bool (by decide +kernel) rfl) pa_nil)))) (pe_one (pe_chain op_le op_le (pv 1) (pv 0) (pv 2))))))), ?_⟩
    refine ⟨_, rfl, _, _, _, _, true, rfl, .ty "int", .base (.int i), kit_ty (by decide +kernel), true, rfl, ?_⟩
    refine ⟨_, rfl, _, _, _, _, false, rfl, .ty "bool", .base (.int i), kit_ty (by decide +kernel), false, rfl, true, rfl, ?_⟩
    refine ⟨_, rfl, _, rfl, _, _, rfl, rfl, _, rfl, ?_⟩
    refine ite2 (fun c => ?_) (fun c => ?_)
    · refine ⟨_, rfl, _, _, rfl, rfl, k _ ?_⟩
      have c1 := of_decide_eq_true c
      constructor
      · intro h; exact ⟨c1, of_decide_eq_true h⟩
      · intro h; exact decide_eq_true h.2
    · refine k _ ?_
      constructor
      · intro h; cases h
      · intro h; exact absurd (decide_eq_true h.1) c

theorem ok_is_sequence (T : Tx K mg) : FnOk P w K mg base CX0 1 T.f_is_sequence T.fd_is_sequence P_is_sequence (spSequence K) := by
  refine T.F_is_sequence.ok sc_is_sequence (fun vs H Q E h => ?_) (fun cdv A outer s H vs Q E hr h => ?_)
  · obtain ⟨a, xs, lo, hi, rfl, _⟩ := h
    rfl
  · obtain ⟨a, xs, lo, hi, rfl, ha, k⟩ := h
    refine ⟨_, (pss_one (ps_ret (pe_and (pe_callB (call_isiTK (K := K) rfl) rfl T.n_isinstance (by decide +kernel) (pa_cons (pv 0) (pa_cons (pe_tup (pa_cons (pe_bltn (v := V.ty "list") (u := .type "list") rfl T.n_list (by decide +kernel) rfl) (pa_cons (pe_bltn (v := V.ty "tuple") (u := .type "tuple") rfl T.n_tuple (by decide +kernel) rfl) pa_nil))) pa_nil))) (pe_one (pe_chain op_le op_le (pv 1) (pe_callB (call_len_seqK (K := K) rfl) rfl T.n_len (by decide +kernel) (pa_cons (pv 0) pa_nil)) (pv 2)))))), ?_⟩
    refine ⟨_, rfl, le_size (by decide), fun t ht => ?_⟩
    have st := Same.new (.tup [V.ty "list", V.ty "tuple"]) ht
    refine ⟨_, _, _, _, [.type "list", .type "tuple"], true, rfl, upd_same, .cons (.ty _) (.cons (.ty _) .nil), .base (.lst (st _ _ ha)), kitAny_cons (b := true) (kit_ty (by decide +kernel)) (fun q => nomatch q) (fun _ => rfl), true, rfl, ?_⟩
    refine ⟨_, rfl, _, rfl, a, xs, rfl, .inl (SqL.of (st _ _ ha)), _, _, rfl, rfl, _, rfl, ?_⟩
    refine ite2 (fun c => ?_) (fun c => ?_)
    · refine ⟨_, rfl, _, _, rfl, rfl, k _ _ st ?_⟩
      have c1 := of_decide_eq_true c
      constructor
      · intro h; exact ⟨c1, of_decide_eq_true h⟩
      · intro h; exact decide_eq_true h.2
    · refine k _ _ st ?_
      constructor
      · intro h; cases h
      · intro h; exact absurd (decide_eq_true h.1) c

theorem ok_is_string_over (T : Tx K mg) : FnOk P w K mg base CX0 1 T.f_is_string_over T.fd_is_string_over P_is_string_over spOver := by
  refine T.F_is_string_over.ok sc_is_string_over (fun vs H Q E h => ?_) (fun cdv A outer s H vs Q E hr h => ?_)
  · obtain ⟨sg, u, lo, hi, rfl, _⟩ := h
    rfl
  · obtain ⟨sg, u, lo, hi, rfl, h1, h2, h3, hu, k⟩ := h
    refine ⟨_, (pss_cons (ps_if (PW.pt (pw_or (pt_not (pt_val (pe_callB (call_isiK' (K := K) rfl) rfl T.n_isinstance (by decide +kernel) (pa_cons (pv 1) (pa_cons (pe_bltn (v := V.ty "str") (u := .type "str") rfl T.n_str (by decide +kernel) rfl) pa_nil))))) (pw_or1 (pt_not (pt_chain op_le op_le (pv 2) (pe_callB call_len_str rfl T.n_len (by decide +kernel) (pa_cons (pv 1) pa_nil)) (pv 3)))))) (pss_one (ps_ret pe_bl)) pss_nil)
        (pss_one (ps_ret (pe_callB (cr_allK (K := K) rfl rfl) rfl T.n_all (by decide +kernel) (pa_cons (pe_lc (own := [("sign", 4)]) (g := (gName 4)) rfl sc_is_string_over.nd (pi_str (pv 1)) (blkOk_by (N := N_is_string_over) (sc := defScope s_is_string_over) (by decide +kernel)) (fun _ _ _ _ _ => (pg_name (i := 4) sc_is_string_over.nd rfl (Or.inl rfl))) (fun _ _ _ _ _ => pts_nil) (fun _ _ _ _ _ => (pe_cmpR op_in_sign (pv 4) (pv 0) rfl))) pa_nil))))), ?_⟩
    have hl : (SX.S u).length ≤ sizeLine := le_size (by rw [SX.S_len]; omega)
    refine ⟨_, rfl, _, _, _, _, true, rfl, .ty "str", .base (.str _), kit_ty (by decide +kernel), true, rfl, ?_⟩
    have e : ((SX.S u).length : Int) = u.length := by rw [SX.S_len]
    refine ⟨_, rfl, _, rfl, _, rfl, hl, _, _, rfl, rfl, true, congrArg V.bl (decide_eq_true (by rw [e]; exact h1)), ?_⟩
    refine ⟨_, rfl, _, _, rfl, rfl, true, congrArg V.bl (decide_eq_true (by rw [e]; exact h2)), ?_⟩
    refine ⟨_, rfl, _, rfl, fun D hD => lc_it (walk_str (z := SX.S u)) (fun i H' => H' D = some (.lst ((List.replicate i true).map V.bl)) ∧ Same H H') ⟨upd_same, Same.new _ hD⟩ (fun _ _ _ _ => trivial) ?_ ?_⟩
    · rintro i x H1 H2 hi ⟨hDl, sm⟩ ⟨rfl, c, hc, rfl⟩
      have hcu : c ∈ u := by
        have q : u[i]? = some c := by simpa using hc
        exact List.mem_of_getElem? q
      have hi2 : i ≤ 100000 := by
        have q : i < (SX.S u).length := hi
        rw [SX.S_len] at q
        omega
      refine ⟨rfl, _, rfl, _, rfl, c, _, rfl, rfl, _, hDl, lt_size (by simp; exact hi2), ?_, sm.updNew hD⟩
      rw [upd_same, decide_eq_true (by simpa using hu c hcu), rep_snoc]
    · rintro H1 ⟨hDl, sm⟩
      refine ⟨D, _, rfl, SqL.of hDl, ?_⟩
      rw [all_true]
      exact k _ sm

theorem ok_is_word (T : Tx K mg) : FnOk P w K mg base CX0 2 T.f_is_word T.fd_is_word P_is_word spIsWord := by
  have G_is_string_over : FnOk P w K mg base CX0 1 T.f_is_string_over T.fd_is_string_over P_is_string_over spOver := ok_is_string_over T
  refine T.F_is_word.ok sc_is_word (fun vs H Q E h => ?_) (fun cdv A outer s H vs Q E hr h => ?_)
  · obtain ⟨sg, u, rfl, _⟩ := h
    rfl
  · obtain ⟨sg, u, rfl, ⟨h1, h2, h3⟩, k⟩ := h
    refine ⟨_, (pss_one (ps_ret (pe_call G_is_string_over (hr.mono (by decide)) rfl T.m_is_string_over T.F_is_string_over.kp T.b_is_string_over .nil pass0 (pa_cons (pv 0) (pa_cons (pv 1) (pa_cons pe_int (pa_cons (pe_glob (v := V.int 12) rfl T.g_LONGEST_WORD ⟨_, rfl⟩) pa_nil))))))), ?_⟩
    exact ⟨_, rfl, _, rfl, sg, u, 1, 12, rfl, by omega, by omega, by omega, h3, k⟩
theorem ok_check_state (T : Tx K mg) : FnOk P w K mg base CX0 2 T.f_check_state T.fd_check_state P_check_state spState1 := by
  have G_is_number : FnOk P w K mg base CX0 1 T.f_is_number T.fd_is_number P_is_number spNumber := ok_is_number T
  refine T.F_check_state.ok sc_check_state (fun vs H Q E h => ?_) (fun cdv A outer s H vs Q E hr h => ?_)
  · obtain ⟨i, rfl, _⟩ := h
    rfl
  · obtain ⟨i, rfl, h1, h2, k⟩ := h
    refine ⟨_, (pss_one (ps_if (pt_not (pt_val (pe_call G_is_number (hr.mono (by decide)) rfl T.m_is_number T.F_is_number.kp T.b_is_number .nil pass0 (pa_cons (pv 0) (pa_cons pe_int (pa_cons (pe_glob (v := V.int 63) rfl T.g_LAST_STATE ⟨_, rfl⟩) pa_nil)))))) (pss_one ps_never) pss_nil)), ?_⟩
    refine ⟨_, rfl, i, 0, 63, rfl, fun b hb => ⟨b, rfl, ?_⟩⟩
    rw [hb.mpr ⟨h1, h2⟩]
    exact k
theorem ok_is_arc (T : Tx K mg) : FnOk P w K mg base CX0 3 T.f_is_arc T.fd_is_arc P_is_arc spArc := by
  have G_is_number : FnOk P w K mg base CX0 1 T.f_is_number T.fd_is_number P_is_number spNumber := ok_is_number T
  have G_is_word : FnOk P w K mg base CX0 2 T.f_is_word T.fd_is_word P_is_word spIsWord := ok_is_word T
  refine T.F_is_arc.ok sc_is_arc (fun vs H Q E h => ?_) (fun cdv A outer s H vs Q E hr h => ?_)
  · obtain ⟨sg, t, a, rfl, _⟩ := h
    rfl
  · obtain ⟨sg, t, ⟨s1, u, g1⟩, rfl, ht, ⟨hs, hw, hg⟩, k⟩ := h
    refine ⟨_, (pss_cons (ps_if (PW.pt (pw_or (pt_not (pt_val (pe_callB (call_isiK' (K := K) rfl) rfl T.n_isinstance (by decide +kernel) (pa_cons (pv 1) (pa_cons (pe_bltn (v := V.ty "tuple") (u := .type "tuple") rfl T.n_tuple (by decide +kernel) rfl) pa_nil))))) (pw_or1 (pt_cmpR op_ne (pe_callB (call_len_seqK (K := K) rfl) rfl T.n_len (by decide +kernel) (pa_cons (pv 1) pa_nil)) pe_int (nomark _))))) (pss_one (ps_ret pe_bl)) pss_nil)
        (pss_cons (ps_asg (pv 1) (pg_tup rfl (pgs_cons (pg_name (i := 2) sc_is_arc.nd rfl (Or.inl rfl)) (pgs_cons (pg_name (i := 3) sc_is_arc.nd rfl (Or.inl rfl)) (pgs_cons (pg_name (i := 4) sc_is_arc.nd rfl (Or.inl rfl)) pgs_nil)))))
        (pss_one (ps_ret (pe_and (pe_call G_is_number (hr.mono (by decide)) rfl T.m_is_number T.F_is_number.kp T.b_is_number .nil pass0 (pa_cons (pv 2) (pa_cons pe_int (pa_cons (pe_glob (v := V.int 63) rfl T.g_LAST_STATE ⟨_, rfl⟩) pa_nil)))) (pe_and (pe_call G_is_word (hr.mono (by decide)) rfl T.m_is_word T.F_is_word.kp T.b_is_word .nil pass0 (pa_cons (pv 0) (pa_cons (pv 3) pa_nil))) (pe_one (pe_call G_is_number (hr.mono (by decide)) rfl T.m_is_number T.F_is_number.kp T.b_is_number .nil pass0 (pa_cons (pv 4) (pa_cons pe_int (pa_cons (pe_glob (v := V.int 63) rfl T.g_LAST_STATE ⟨_, rfl⟩) pa_nil))))))))))), ?_⟩
    refine ⟨_, rfl, _, _, _, _, true, rfl, .ty "tuple", .base (.tup ht), kit_ty (by decide +kernel), true, rfl, ?_⟩
    refine ⟨_, rfl, t, _, rfl, .inr (SqT.of ht), rfl, false, rfl, ?_⟩
    refine ⟨_, rfl, t, _, rfl, SqT.of ht, rfl, ?_⟩
    have e1 : (0 : Int) ≤ ((s1 : Nat) : Int) ∧ ((s1 : Nat) : Int) ≤ 63 := by omega
    have e2 : (0 : Int) ≤ ((g1 : Nat) : Int) ∧ ((g1 : Nat) : Int) ≤ 63 := by have hg' : g1 ≤ 63 := hg; omega
    refine ⟨_, _, rfl, _, _, rfl, _, _, rfl, rfl, ?_⟩
    refine ⟨_, rfl, _, 0, 63, rfl, fun b hb => ⟨b, rfl, ?_⟩⟩
    rw [hb.mpr e1]
    refine ⟨_, rfl, _, rfl, sg, u, rfl, hw, fun H' sm => ⟨true, rfl, ?_⟩⟩
    refine ⟨_, rfl, _, 0, 63, rfl, fun b hb => ?_⟩
    rw [hb.mpr e2]
    exact k H' sm
end
end J


set_option Elab.async false
set_option linter.all false
set_option maxRecDepth 100000
set_option maxHeartbeats 4000000
namespace J
open PySem L2

theorem walk_zipS {x y : Str} : Walk (ItzS x y) (min x.cps.size y.cps.size) (fun _ => True) (fun i H v H' => ∃ T c d, v = .ref T ∧ H T = none ∧ H' = upd H T (.tup [.str ⟨#[c]⟩, .str ⟨#[d]⟩]) ∧ x.cps[i]? = some c ∧ y.cps[i]? = some d) :=
  ⟨fun _ _ h _ => h, fun _ _ => rfl, fun _ _ _ _ _ _ h => h⟩
theorem signs_le {sg : List Nat} (h : Signs sg) : ∀ c ∈ sg, (!decide ([c] < ([97] : List Nat))) = true ∧ (!decide (([122] : List Nat) < [c])) = true := by
  revert sg; unfold Signs; decide
theorem signs_up {sg : List Nat} (h : Signs sg) : ∀ p ∈ sg.zip (sg.drop 1), decide ([p.1] < [p.2]) = true := by
  revert sg; unfold Signs; decide
theorem signs_pair {sg : List Nat} (h : Signs sg) {i c d : Nat} (h1 : sg[i]? = some c) (h2 : (sg.drop 1)[i]? = some d) : decide ([c] < [d]) = true :=
  signs_up h (c, d) (List.mem_of_getElem? (i := i) (by rw [List.getElem?_zip_eq_some]; exact ⟨h1, h2⟩))
section
variable {P : Program} {w : World} {K : PySem.W.Frag} {mg : Str → Option Value} {base : Heap}

theorem ok_is_signs (T : Tx K mg) : FnOk P w K mg base CX0 1 T.f_is_signs T.fd_is_signs P_is_signs spSigns := by
  refine T.F_is_signs.ok sc_is_signs (fun vs H Q E h => ?_) (fun cdv A outer s H vs Q E hr h => ?_)
  · obtain ⟨sg, rfl, _⟩ := h
    rfl
  · obtain ⟨sg, rfl, hsg, k⟩ := h
    refine ⟨_, (pss_cons (ps_if (PW.pt (pw_or (pt_not (pt_val (pe_callB (call_isiK' (K := K) rfl) rfl T.n_isinstance (by decide +kernel) (pa_cons (pv 0) (pa_cons (pe_bltn (v := V.ty "str") (u := .type "str") rfl T.n_str (by decide +kernel) rfl) pa_nil))))) (pw_or1 (pt_not (pt_chain op_le op_le pe_int (pe_callB call_len_str rfl T.n_len (by decide +kernel) (pa_cons (pv 0) pa_nil)) (pe_glob (v := V.int 4) rfl T.g_MOST_SIGNS ⟨_, rfl⟩)))))) (pss_one (ps_ret pe_bl)) pss_nil)
        (pss_cons (ps_set (i := 1) sc_is_signs.nd rfl (Or.inl rfl) (pe_callB (cr_allK (K := K) rfl rfl) rfl T.n_all (by decide +kernel) (pa_cons (pe_lc (own := [("sign", 2)]) (g := (gName 2)) rfl sc_is_signs.nd (pi_str (pv 0)) (blkOk_by (N := N_is_signs) (sc := defScope s_is_signs) (by decide +kernel)) (fun _ _ _ _ _ => (pg_name (i := 2) sc_is_signs.nd rfl (Or.inl rfl))) (fun _ _ _ _ _ => pts_nil) (fun _ _ _ _ _ => (pe_chain op_le_str op_le_str pe_str (pv 2) pe_str))) pa_nil)))
        (pss_one (ps_ret (pe_and (pv 1) (pe_one (pe_callB (cr_allK (K := K) rfl rfl) rfl T.n_all (by decide +kernel) (pa_cons (pe_lc (own := [("one", 3), ("other", 4)]) (g := (gTup K 2 (gCons (gName 3) (gCons (gName 4) gNil)))) rfl sc_is_signs.nd (pi_zipS rfl T.n_zip (pa_cons (pv 0) (pa_cons (pe_slice sl_str (pv 0) (po_some pe_int) po_none) pa_nil))) (blkOk_by (N := N_is_signs) (sc := defScope s_is_signs) (by decide +kernel)) (fun _ _ _ _ _ => (pg_tup rfl (pgs_cons (pg_name (i := 3) sc_is_signs.nd rfl (Or.inl rfl)) (pgs_cons (pg_name (i := 4) sc_is_signs.nd rfl (Or.inl rfl)) pgs_nil)))) (fun _ _ _ _ _ => pts_nil) (fun _ _ _ _ _ => (pe_cmpR op_lt_str (pv 3) (pv 4) (nomark _)))) pa_nil)))))))), ?_⟩
    have hlen := hsg.len
    have hl : (SX.S sg).length ≤ sizeLine := le_size (by rw [SX.S_len]; omega)
    have e : ((SX.S sg).length : Int) = sg.length := by rw [SX.S_len]
    refine ⟨_, rfl, _, _, _, _, true, rfl, .ty "str", .base (.str _), kit_ty (by decide +kernel), true, rfl, ?_⟩
    refine ⟨_, rfl, _, rfl, hl, _, _, rfl, rfl, true, congrArg V.bl (decide_eq_true (by rw [e]; omega)), ?_⟩
    refine ⟨_, _, rfl, rfl, true, congrArg V.bl (decide_eq_true (by rw [e]; omega)), ?_⟩
    refine ⟨_, rfl, _, rfl, fun D hD => lc_it (walk_str (z := SX.S sg)) (fun i H' => H' D = some (.lst ((List.replicate i true).map V.bl)) ∧ Same H H') ⟨upd_same, Same.new _ hD⟩ (fun _ _ _ _ => trivial) ?_ ?_⟩
    · rintro i x H1 H2 hi ⟨hDl, sm⟩ ⟨rfl, c, hc, rfl⟩
      have hcu : c ∈ sg := by
        have q : sg[i]? = some c := by simpa using hc
        exact List.mem_of_getElem? q
      have hi2 : i ≤ 100000 := by
        have q : i < (SX.S sg).length := hi
        rw [SX.S_len] at q
        omega
      obtain ⟨l1, l2⟩ := signs_le hsg c hcu
      refine ⟨rfl, _, rfl, _, _, rfl, rfl, true, congrArg V.bl l1, _, _, rfl, rfl, _, hDl, lt_size (by simp; exact hi2), ?_, sm.updNew hD⟩
      rw [upd_same]
      show some (HO.lst (_ ++ [V.bl (!decide (([122] : List Nat) < [c]))])) = _
      rw [l2, rep_snoc]
    · rintro H1 ⟨hDl, sm⟩
      refine ⟨D, _, rfl, SqL.of hDl, ?_⟩
      rw [all_true]
      refine ⟨_, rfl, true, rfl, ?_⟩
      refine ⟨_, rfl, _, rfl, _, rfl, _, rfl, hl, ?_⟩
      rw [C8.cutS_slice, SX.slice_from (by decide)]
      refine ⟨_, _, rfl, fun D2 hD2 => lc_it (walk_zipS (x := SX.S sg) (y := SX.S (sg.drop 1))) (fun i H' => H' D2 = some (.lst ((List.replicate i true).map V.bl)) ∧ Same H H') ⟨upd_same, sm.trans (Same.new _ hD2)⟩ (fun _ _ _ _ => trivial) ?_ ?_⟩
      · rintro i x H2 H3 hi ⟨hDl2, sm2⟩ ⟨t, c, d, rfl, ht, rfl, hc, hd⟩
        have hcu : sg[i]? = some c := by simpa using hc
        have hdu : (sg.drop 1)[i]? = some d := by simpa using hd
        have hi2 : i ≤ 100000 := by
          have q := (List.getElem?_eq_some_iff.mp hcu).1
          omega
        have nt : D2 ≠ t := fun z => hp_ne hDl2 ht z.symm
        refine ⟨t, _, rfl, SqT.of upd_same, rfl, _, _, rfl, _, _, rfl, rfl, rfl, _, rfl, _, rfl, _, _, rfl, rfl, _, by rw [upd_ne nt]; exact hDl2, lt_size (by simp; exact hi2), ?_, (sm2.trans (Same.new _ ht)).updNew (sm.free hD2)⟩
        rw [upd_same]
        show some (HO.lst (_ ++ [V.bl (decide ([c] < [d]))])) = _
        rw [signs_pair hsg hcu hdu, rep_snoc]
      · rintro H2 ⟨hDl2, sm2⟩
        refine ⟨D2, _, rfl, SqL.of hDl2, ?_⟩
        rw [all_true]
        exact k _ sm2
end
end J


set_option Elab.async false
set_option linter.all false
set_option maxRecDepth 100000
set_option maxHeartbeats 4000000
namespace J
open PySem L2
/-- arcs that a loom may have -/
def OkW (sg : List Nat) (as : List Arc) : Prop := 1 ≤ as.length ∧ as.length ≤ 200 ∧ ∀ a ∈ as, OkArc sg a
theorem OkArcs.w {sg : List Nat} {as : List Arc} (h : OkArcs sg as) : OkW sg as := ⟨h.1, by have := h.2.1; omega, h.2.2.1⟩
/-- a loom's fields -/
def lf (sg : List Nat) (T : Addr) : List (Str × V) := putF "arcs" (.ref T) (putF "signs" (.str (SX.S sg)) [])
theorem ne_sa : ¬ (("signs" : Str) = "arcs") := by decide +kernel
theorem lf_signs (sg : List Nat) (T : Addr) : (lf sg T).lookup ("signs" : Str) = some (.str (SX.S sg)) := by
  unfold lf
  rw [lookup_putF, if_neg ne_sa, lookup_putF, if_pos rfl]
theorem lf_arcs (sg : List Nat) (T : Addr) : (lf sg T).lookup ("arcs" : Str) = some (.ref T) := by
  unfold lf
  rw [lookup_putF, if_pos rfl]
/-- a loom stands at p -/
def LoomAt (C : Addr) (H : Hp) (p : Addr) (sg : List Nat) (us : List V) (as : List Arc) : Prop := ∃ dx T, H p = some (.ins C dx (lf sg T)) ∧ H T = some (.tup us) ∧ Arcs H us as ∧ OkW sg as ∧ Signs sg
def spInit (C : Addr) : Sp := fun vs H Q _ => ∃ (p dx a : Addr) (sg : List Nat) (us : List V) (as : List Arc), vs = [.ref p, .str (SX.S sg), .ref a] ∧ H p = some (.ins C dx []) ∧ H a = some (.lst us) ∧ Arcs H us as ∧ OkW sg as ∧ Signs sg ∧
  ∀ (H' : Hp) (T : Addr), Ex p H H' → H T = none → H' T = some (.tup us) → H' p = some (.ins C dx (lf sg T)) → Q .non H'
theorem take_snoc {α : Type} {l : List α} {i : Nat} {x : α} (h : l[i]? = some x) : l.take i ++ [x] = l.take (i + 1) := by
  rw [List.take_add_one, h]
  rfl
def spChkSigns : Sp := fun vs H Q _ => ∃ sg : List Nat, vs = [.str (SX.S sg)] ∧ Signs sg ∧ ∀ H', Same H H' → Q .non H'
section
variable {P : Program} {w : World} {K : PySem.W.Frag} {mg : Str → Option Value} {base : Heap}
theorem ok_check_signs (T : Tx K mg) : FnOk P w K mg base CX0 2 T.f_check_signs T.fd_check_signs P_check_signs spChkSigns := by
  have G_is_signs : FnOk P w K mg base CX0 1 T.f_is_signs T.fd_is_signs P_is_signs spSigns := ok_is_signs T
  refine T.F_check_signs.ok sc_check_signs (fun vs H Q E h => ?_) (fun cdv A outer s H vs Q E hr h => ?_)
  · obtain ⟨sg, rfl, _⟩ := h
    rfl
  · obtain ⟨sg, rfl, hsg, k⟩ := h
    refine ⟨_, (pss_one (ps_if (pt_not (pt_val (pe_call G_is_signs (hr.mono (by decide)) rfl T.m_is_signs T.F_is_signs.kp T.b_is_signs .nil pass0 (pa_cons (pv 0) pa_nil)))) (pss_one ps_never) pss_nil)), ?_⟩
    refine ⟨_, rfl, sg, rfl, hsg, fun H1 s1 => ⟨true, rfl, ?_⟩⟩
    exact k _ s1
theorem ok_Loom_init (T : Tx K mg) : FnOk P w K mg base CX0 4 T.f_Loom_init T.fd_Loom_init P_Loom_init (spInit T.C_Loom) := by
  have G_check_signs : FnOk P w K mg base CX0 2 T.f_check_signs T.fd_check_signs P_check_signs spChkSigns := ok_check_signs T
  have G_is_sequence : FnOk P w K mg base CX0 1 T.f_is_sequence T.fd_is_sequence P_is_sequence (spSequence K) := ok_is_sequence T
  have G_is_arc : FnOk P w K mg base CX0 3 T.f_is_arc T.fd_is_arc P_is_arc spArc := ok_is_arc T
  refine T.F_Loom_init.ok sc_Loom_init (fun vs H Q E h => ?_) (fun cdv A outer s H vs Q E hr h => ?_)
  · obtain ⟨p, dx, a, sg, us, as, rfl, _⟩ := h
    rfl
  · obtain ⟨p, dx, a, sg, us, as, rfl, hp, ha, harc, hok, hsg, k⟩ := h
    refine ⟨_, (pss_cons (ps_expr (pe_call G_check_signs (hr.mono (by decide)) rfl T.m_check_signs T.F_check_signs.kp T.b_check_signs .nil pass0 (pa_cons (pv 1) pa_nil)))
        (pss_cons (ps_if (pt_not (pt_val (pe_call G_is_sequence (hr.mono (by decide)) rfl T.m_is_sequence T.F_is_sequence.kp T.b_is_sequence .nil pass0 (pa_cons (pv 2) (pa_cons pe_int (pa_cons (pe_glob (v := V.int 200) rfl T.g_MOST_ARCS ⟨_, rfl⟩) pa_nil)))))) (pss_one ps_never) pss_nil)
        (pss_cons (ps_for PassesOwn.never rfl (pi_enum rfl T.n_enumerate (pa_cons (pv 2) pa_nil)) (pg_tup rfl (pgs_cons (pg_name (i := 3) sc_Loom_init.nd rfl (Or.inl rfl)) (pgs_cons (pg_name (i := 4) sc_Loom_init.nd rfl (Or.inl rfl)) pgs_nil))) (pss_one (ps_if (pt_not (pt_val (pe_call G_is_arc (hr.mono (by decide)) rfl T.m_is_arc T.F_is_arc.kp T.b_is_arc .nil pass0 (pa_cons (pv 1) (pa_cons (pv 4) pa_nil))))) (pss_one ps_never) pss_nil)))
        (pss_cons (ps_fld (pv 0) (pv 1) rfl)
        (pss_one (ps_fld (pv 0) (pe_callTy (call_tuple_ofK (K := K) rfl) rfl T.n_tuple (by decide +kernel) (pa_cons (pe_lc (own := [("arc", 4)]) (g := (gName 4)) rfl sc_Loom_init.nd (pi_list (pv 2)) (blkOk_by (N := N_Loom_init) (sc := defScope s_Loom_init) (by decide +kernel)) (fun _ _ _ _ _ => (pg_name (i := 4) sc_Loom_init.nd rfl (Or.inl rfl))) (fun _ _ _ _ _ => pts_nil) (fun _ _ _ _ _ => (pe_callTy (call_tuple_ofK (K := K) rfl) rfl T.n_tuple (by decide +kernel) (pa_cons (pv 4) pa_nil)))) pa_nil)) rfl)))))), ?_⟩
    refine ⟨_, rfl, sg, rfl, hsg, fun H1 s1 => ?_⟩
    refine ⟨_, rfl, a, us, 1, 200, rfl, s1 _ _ ha, fun H2 b s2 hb => ⟨b, rfl, ?_⟩⟩
    have hl := hok.2.1
    have hl0 := hok.1
    have hl2 := harc.1
    rw [hb.mpr ⟨by omega, by omega⟩]
    have s12 := s1.trans s2
    refine ⟨_, rfl, a, us, rfl, SqL.of (s12 _ _ ha), for_it walk_enum (fun i σ H' => ∃ v3 v4, σ = [some (.ref p), some (.str (SX.S sg)), some (.ref a), v3, v4] ∧ Same H H') ⟨_, _, rfl, s12⟩ (fun i σ H' _ ⟨_, _, _, sm⟩ => SqL.of (sm _ _ ha)) ?_ ?_⟩
    · rintro i x σ H3 H4 hi ⟨v3, v4, rfl, s3⟩ ⟨tp, x1, y1, rfl, ht, rfl, hx1, hy1⟩
      cases hx1
      have hia : i < as.length := by omega
      obtain ⟨t, hut, htt⟩ := harc.2 i as[i] (List.getElem?_eq_getElem hia)
      replace hy1 : us[i]? = some y1 := hy1
      rw [hut] at hy1
      cases hy1
      have sn := Same.new (.tup [V.int (i : Int), .ref t]) ht
      refine ⟨tp, _, rfl, SqT.of upd_same, rfl, _, _, rfl, _, _, rfl, rfl, ?_⟩
      refine ⟨_, rfl, _, rfl, sg, t, as[i], rfl, sn _ _ (s3 _ _ htt), hok.2.2 _ (List.getElem_mem hia), fun H5 s5 => ⟨true, rfl, ?_⟩⟩
      exact ⟨_, _, rfl, s3.trans (sn.trans s5)⟩
    · rintro σ H3 ⟨v3, v4, rfl, s3⟩
      have hp3 := s3 _ _ hp
      refine ⟨_, rfl, _, rfl, p, _, dx, _, rfl, hp3, T.cl_Loom, T.na_Loom_signs, (by show 0 < 1000; decide), ?_⟩
      have x3 : Ex p H (upd H3 p (.ins T.C_Loom dx (putF "signs" (.str (SX.S sg)) []))) := (Same.ex s3).trans (Ex.upd _)
      have nap : a ≠ p := fun z => by rw [z, hp] at ha; cases ha
      refine ⟨_, rfl, a, rfl, ⟨_, SqL.of (x3 _ _ nap ha)⟩, fun D hD => lc_list (K := K) (a := a) (xs := us) (fun i H' => H' D = some (.lst (us.take i)) ∧ Ex p H H' ∧ H' p = some (.ins T.C_Loom dx (putF "signs" (.str (SX.S sg)) []))) ?_ ?_ ?_ ?_⟩
      · have nDp : D ≠ p := hp_ne upd_same hD
        exact ⟨upd_same, x3.trans (Ex.new _ hD), by rw [upd_ne nDp.symm]; exact upd_same⟩
      · rintro i H4 hi ⟨_, x4, _⟩
        exact SqL.of (x4 _ _ nap ha)
      · rintro i y H4 hy ⟨hDl, x4, hp4⟩
        have hia : i < us.length := (List.getElem?_eq_some_iff.mp hy).1
        obtain ⟨t, hut, htt⟩ := harc.2 i as[i] (List.getElem?_eq_getElem (by omega))
        rw [hut] at hy
        cases hy
        have ntp : t ≠ p := fun z => by rw [z, hp] at htt; cases htt
        have nDp : D ≠ p := hp_ne upd_same hD
        refine ⟨rfl, _, rfl, t, _, rfl, .inr ⟨SqT.of (x4 _ _ ntp htt), _, hDl, lt_size (by simp; omega), ?_, x4.updNew (x3.free hD nDp), by rw [upd_ne nDp.symm]; exact hp4⟩⟩
        rw [upd_same, take_snoc hut]
      · rintro H4 ⟨hDl, x4, hp4⟩
        rw [List.take_length] at hDl
        refine ⟨D, us, rfl, .inl ⟨SqL.of hDl, fun T1 hT1 => ?_⟩⟩
        have nT : T1 ≠ p := hp_ne hp4 hT1
        refine ⟨_, rfl, p, _, dx, _, rfl, by rw [upd_ne nT.symm]; exact hp4, T.cl_Loom, T.na_Loom_arcs, (by show 1 < 1000; decide), ?_⟩
        exact k _ T1 ((x4.trans (Ex.new _ hT1)).trans (Ex.upd _)) (x4.free hT1 nT) (by rw [upd_ne nT]; exact upd_same) upd_same
end
end J


set_option Elab.async false
set_option linter.all false
set_option maxRecDepth 100000
set_option maxHeartbeats 4000000
namespace J
open PySem L2
abbrev nats (l : List Nat) : List V := l.map fun n : Nat => V.int (n : Int)
def leavTo (as : List Arc) (g : Nat) (i : Nat) : List Nat := (List.range i).filter fun j => decide (as[j]?.map (·.1) = some g)
/-- the numbers of the arcs that leave g -/
def leav (as : List Arc) (g : Nat) : List Nat := leavTo as g as.length
theorem leavTo_snoc {as : List Arc} {g i : Nat} {a : Arc} (h : as[i]? = some a) : leavTo as g (i + 1) = leavTo as g i ++ if a.1 = g then [i] else [] := by
  unfold leavTo
  rw [List.range_succ, List.filter_append]
  congr 1
  by_cases c : a.1 = g
  · simp [h, c]
  · simp [h, c]
theorem leavTo_len (as : List Arc) (g : Nat) : ∀ i, (leavTo as g i).length ≤ i := fun i => by
  unfold leavTo
  exact Nat.le_trans (List.length_filter_le _ _) (by simp)
theorem leav_mem {as : List Arc} {g i : Nat} (h : i ∈ leav as g) : ∃ a, as[i]? = some a ∧ a.1 = g := by
  unfold leav leavTo at h
  have q := (List.mem_filter.mp h).2
  rw [decide_eq_true_eq] at q
  cases e : as[i]? with
  | none => rw [e] at q; cases q
  | some a => rw [e] at q; exact ⟨a, rfl, Option.some.inj q⟩
theorem leav_lt {as : List Arc} {g i : Nat} (h : i ∈ leav as g) : i < as.length := by
  obtain ⟨a, ha, _⟩ := leav_mem h
  exact (List.getElem?_eq_some_iff.mp ha).1
/-- a list of arcs stands at a -/
def ArcL (H : Hp) (a : Addr) (as : List Arc) : Prop := ∃ us, H a = some (.lst us) ∧ Arcs H us as
theorem ArcL.same {H H' : Hp} {a : Addr} {as : List Arc} (h : ArcL H a as) (s : Same H H') : ArcL H' a as := by
  obtain ⟨us, h1, h2⟩ := h
  exact ⟨us, s _ _ h1, h2.same s⟩
theorem ArcL.ex {ns : List Int} {l p : Addr} {H H' : Hp} {a : Addr} {as : List Arc} (h : ArcL H a as) (st : StAt ns l H p) (s : Ex p H H') (n : a ≠ p) : ArcL H' a as := by
  obtain ⟨us, h1, h2⟩ := h
  exact ⟨us, s _ _ n h1, h2.st st s⟩
def spLeaving : Sp := fun vs H Q _ => ∃ (a : Addr) (as : List Arc) (g : Nat), vs = [.ref a, .int (g : Int)] ∧ ArcL H a as ∧ as.length ≤ 100000 ∧
  ∀ (H' : Hp) (p : Addr), Same H H' → H p = none → H' p = some (.lst (nats (leav as g))) → Q (.ref p) H'
def spMade (C : Addr) : Sp := fun vs H Q _ => ∃ (q a : Addr) (sg : List Nat) (us : List V) (as : List Arc), vs = [.ref q] ∧ H q = some (.tup [.str (SX.S sg), .ref a]) ∧ H a = some (.lst us) ∧ Arcs H us as ∧ OkW sg as ∧ Signs sg ∧
  ∀ (H' : Hp) (p : Addr), Same H H' → H p = none → LoomAt C H' p sg us as → Q (.ref p) H'
def spInteger : Sp := fun vs H Q _ => ∃ i : Int, vs = [.int i] ∧ Q (.bl true) H
section
variable {P : Program} {w : World} {K : PySem.W.Frag} {mg : Str → Option Value} {base : Heap}
theorem ok_l_leaving (T : Tx K mg) : FnOk P w K mg base CX0 1 T.f_l_leaving T.fd_l_leaving P_l_leaving spLeaving := by
  refine T.F_l_leaving.ok sc_l_leaving (fun vs H Q E h => ?_) (fun cdv A outer s H vs Q E hr h => ?_)
  · obtain ⟨a, as, g, rfl, _⟩ := h
    rfl
  · obtain ⟨a, as, g, rfl, ⟨us, ha, harc⟩, hl, k⟩ := h
    refine ⟨_, (pss_one (ps_ret (pe_lc (own := [("_law_at", 2)]) (g := (gName 2)) rfl sc_l_leaving.nd (pi_range1 rfl T.n_range (pa_cons (pe_callB (call_len_seqK (K := K) rfl) rfl T.n_len (by decide +kernel) (pa_cons (pv 0) pa_nil)) pa_nil)) (blkOk_by (N := N_l_leaving) (sc := defScope s_l_leaving) (by decide +kernel)) (fun _ _ _ _ _ => (pg_name (i := 2) sc_l_leaving.nd rfl (Or.inl rfl))) (fun _ _ _ _ _ => (pts_one (pt_cmpR op_eq (pe_ix (ix_tupK (K := K) rfl) (pe_ix (ix_listK (K := K) rfl) (pv 0) (pv 2) (fun _ _ => rfl)) pe_int (fun _ _ => rfl)) (pv 1) (nomark _)))) (fun _ _ _ _ _ => (pv 2))))), ?_⟩
    have hl2 := harc.1
    refine ⟨_, rfl, a, us, rfl, .inl (SqL.of ha), _, rfl, by omega, by omega, fun D hD => lc_range (lo := 0) (n := us.length) (fun i H' => H' D = some (.lst (nats (leavTo as g i))) ∧ Same H H') ⟨upd_same, Same.new _ hD⟩ ?_ ?_⟩
    · rintro i H2 hi ⟨hDl, sm⟩
      obtain ⟨t, hut, htt⟩ := harc.2 i as[i] (List.getElem?_eq_getElem (by omega))
      have e0 : (0 : Int) + (i : Int) = (i : Int) := by omega
      refine ⟨rfl, _, rfl, _, rfl, a, us, _, _, rfl, rfl, SqL.of (sm _ _ ha), by rw [e0]; exact atI_nat hut, t, _, _, _, rfl, rfl, SqT.of (sm _ _ htt), rfl, _, rfl, rfl, _, rfl, ?_⟩
      have hs := leavTo_snoc (g := g) (List.getElem?_eq_getElem (by omega : i < as.length))
      refine ite2 (fun c => ?_) (fun c => ?_)
      · have c1 : as[i].1 = g := by
          have q := of_decide_eq_true c
          injection q with q
          omega
        rw [if_pos c1] at hs
        refine ⟨_, rfl, _, hDl, lt_size (by rw [List.length_map]; exact Nat.le_trans (leavTo_len _ _ _) (by omega)), ?_, sm.updNew hD⟩
        rw [upd_same, hs, e0]
        simp
      · have c1 : ¬ as[i].1 = g := fun z => c (decide_eq_true (by rw [z]))
        rw [if_neg c1, List.append_nil] at hs
        exact ⟨by rw [hs]; exact hDl, sm⟩
    · rintro H2 ⟨hDl, sm⟩
      rw [hl2] at hDl
      exact k _ D sm hD hDl
theorem ok_l_made (T : Tx K mg) : FnOk P w K mg base CX0 6 T.f_l_made T.fd_l_made P_l_made (spMade T.C_Loom) := by
  have G_Loom_init : FnOk P w K mg base CX0 4 T.f_Loom_init T.fd_Loom_init P_Loom_init (spInit T.C_Loom) := ok_Loom_init T
  refine T.F_l_made.ok sc_l_made (fun vs H Q E h => ?_) (fun cdv A outer s H vs Q E hr h => ?_)
  · obtain ⟨q, a, sg, us, as, rfl, _⟩ := h
    rfl
  · obtain ⟨q, a, sg, us, as, rfl, hq, ha, harc, hok, hsg, k⟩ := h
    refine ⟨_, (pss_one (ps_ret (pe_make T.M_Loom G_Loom_init (hr.mono (by decide)) rfl T.g_Loom T.b_Loom_init .nil pass0 (pa_cons (pe_ix (ix_tupK (K := K) rfl) (pv 0) pe_int (fun _ _ => rfl)) (pa_cons (pe_callTy (call_list_ofK (K := K) rfl) rfl T.n_list (by decide +kernel) (pa_cons (pe_ix (ix_tupK (K := K) rfl) (pv 0) pe_int (fun _ _ => rfl)) pa_nil)) pa_nil))))), ?_⟩
    refine ⟨_, rfl, q, _, _, _, rfl, rfl, SqT.of hq, rfl, _, rfl, q, _, _, _, rfl, rfl, SqT.of hq, rfl, a, us, rfl, .inl (SqL.of ha), fun l hl => ?_⟩
    have s1 := Same.new (.lst us) hl
    intro x dx hx hdx hne
    have s2 : Same H (upd (upd (upd H l (.lst us)) dx (.own x)) x (.ins T.C_Loom dx [])) := (s1.trans (Same.new _ hdx)).trans (Same.new _ (by rw [upd_ne hne.symm]; exact hx))
    have hx0 : H x = none := s1.free hx
    have nlx : l ≠ x := (hp_ne upd_same hx).symm
    have nld : l ≠ dx := (hp_ne upd_same hdx).symm
    refine ⟨x, dx, l, sg, us, as, rfl, upd_same, by rw [upd_ne nlx, upd_ne nld]; exact upd_same, harc.same s2, hok, hsg, fun H' Tp x3 hTp hTus hx3 => ⟨rfl, ?_⟩⟩
    have s3 : Same H H' := fun b o e => x3 _ _ (ne_of_none e hx0) (s2 _ _ e)
    exact k _ x s3 hx0 ⟨dx, Tp, hx3, hTus, harc.same s3, hok, hsg⟩
end
end J


set_option Elab.async false
set_option linter.all false
set_option maxRecDepth 100000
set_option maxHeartbeats 4000000
namespace J
open PySem L2
theorem pi_or {X : Cx} {tg l : Expr} {ti tj : TI} (h1 : PI X tg l ti) (h2 : PI X tg l tj) : PI X tg l (fun σ H R => ti σ H R ∨ tj σ H R) := ⟨fun pins s σ H R I h => h.elim (h1.run pins s σ H R I) (h2.run pins s σ H R I)⟩
theorem TyZ_same {K : PySem.W.Frag} {H H' : Hp} {x : V} {t : Value} (h : TyZ K H x t) (s : Same H H') : TyZ K H' x t := by
  cases h with
  | x h =>
    refine .x ?_
    cases h with
    | base h =>
      refine .base ?_
      cases h with
      | non => exact .non
      | bl b => exact .bl b
      | int i => exact .int i
      | str z => exact .str z
      | flt z => exact .flt z
      | lst e => exact .lst (s _ _ e)
      | frz e => exact .frz (s _ _ e)
      | tup e => exact .tup (s _ _ e)
      | dK e => exact .dK (s _ _ e)
      | dT e => exact .dT (s _ _ e)
      | ins e cl ha hn htk hm => exact .ins (s _ _ e) cl ha hn htk hm
    | byt b => exact .byt b
    | set e => exact .set (s _ _ e)
    | kList e c => exact .kList e c
    | kTuple e c => exact .kTuple e c
    | kDict e c => exact .kDict e c
    | fTuple e => exact .fTuple (s _ _ e)
    | fDict e => exact .fDict (s _ _ e)
  | exo e c => exact .exo (s _ _ e) c
  | exd e ed c => exact .exd (s _ _ e) (s _ _ ed) c
/-- what may stand in a row -/
inductive It (K : PySem.W.Frag) (H : Hp) : V → Prop
  | int (i : Int) : It K H (.int i)
  | bl (b : Bool) : It K H (.bl b)
  | other {x : V} {t : Value} (h : TyZ K H x t) (n : PySem.W.kitOne K t (.type "int") = some false) (ni : ∀ i, x ≠ .int i) : It K H x
theorem It.same {K : PySem.W.Frag} {H H' : Hp} {x : V} (h : It K H x) (s : Same H H') : It K H' x := by
  cases h with
  | int i => exact .int i
  | bl b => exact .bl b
  | other h n ni => exact .other (TyZ_same h s) n ni
/-- a list or a tuple -/
def Seq (H : Hp) (a : Addr) (xs : List V) : Prop := H a = some (.lst xs) ∨ H a = some (.tup xs)
theorem Seq.same {H H' : Hp} {a : Addr} {xs : List V} (h : Seq H a xs) (s : Same H H') : Seq H' a xs := h.imp (s _ _) (s _ _)
/-- things: sequences of such items, and what is none -/
inductive Thg (K : PySem.W.Frag) (H : Hp) : V → Option (List V) → Prop
  | seq {a : Addr} {xs : List V} (h : Seq H a xs) (hi : ∀ x ∈ xs, It K H x) (hl : xs.length ≤ 100000) : Thg K H (.ref a) (some xs)
  | non {x : V} {t : Value} (h : TyZ K H x t) (n : PySem.W.kitAny K t [.type "list", .type "tuple"] = some false) : Thg K H x none
theorem Thg.same {K : PySem.W.Frag} {H H' : Hp} {x : V} {d : Option (List V)} (h : Thg K H x d) (s : Same H H') : Thg K H' x d := by
  cases h with
  | seq h hi hl => exact .seq (h.same s) (fun x hx => (hi x hx).same s) hl
  | non h n => exact .non (TyZ_same h s) n
/-- the first item that does not fit -/
def flt (as : List Arc) : Nat → List V → Nat → Option Nat
  | _, [], _ => none
  | g, v :: r, i => match v with
    | .int k => if 0 ≤ k ∧ k < as.length then (match as[k.toNat]? with
        | some a => if a.1 = g then flt as a.2.2 r (i + 1) else some i
        | none => some i) else some i
    | _ => some i
def fltV (as : List Arc) (g : Nat) : Option (List V) → V
  | none => .int (-1)
  | some xs => if xs.length ≤ 2000 then (match flt as g xs 0 with
    | none => .non
    | some i => .int (i : Nat)) else .int (-1)
/-- at an item: it fits, and where it leads, or not -/
def fits (as : List Arc) (g : Nat) (v : V) : Option Nat := match v with
  | .int k => if 0 ≤ k ∧ k < as.length then (match as[k.toNat]? with
    | some a => if a.1 = g then some a.2.2 else none
    | none => none) else none
  | _ => none
theorem flt_some {as : List Arc} {g g' i : Nat} {v : V} {r : List V} (h : fits as g v = some g') : flt as g (v :: r) i = flt as g' r (i + 1) := by
  unfold fits at h
  conv => lhs; unfold flt
  cases v with
  | int k =>
    dsimp only at h ⊢
    by_cases c : 0 ≤ k ∧ k < as.length
    · rw [if_pos c] at h ⊢
      cases ea : as[k.toNat]? with
      | none =>
        rw [ea] at h
        cases h
      | some a =>
        rw [ea] at h
        dsimp only at h ⊢
        by_cases e : a.1 = g
        · rw [if_pos e] at h ⊢
          cases h
          rfl
        · rw [if_neg e] at h
          cases h
    · rw [if_neg c] at h
      cases h
  | _ => cases h
theorem flt_none {as : List Arc} {g i : Nat} {v : V} {r : List V} (h : fits as g v = none) : flt as g (v :: r) i = some i := by
  unfold fits at h
  unfold flt
  cases v with
  | int k =>
    dsimp only at h ⊢
    by_cases c : 0 ≤ k ∧ k < as.length
    · rw [if_pos c] at h ⊢
      cases ea : as[k.toNat]? with
      | none => rfl
      | some a =>
        rw [ea] at h
        dsimp only at h ⊢
        by_cases e : a.1 = g
        · rw [if_pos e] at h
          cases h
        · rw [if_neg e]
    · rw [if_neg c]
  | _ => rfl
def spNumG (K : PySem.W.Frag) : Sp := fun vs H Q _ => ∃ (x : V) (hi : Int), vs = [x, .int 0, .int hi] ∧ It K H x ∧ ∀ b : Bool, (b = true ↔ ∃ i, x = .int i ∧ 0 ≤ i ∧ i ≤ hi) → Q (.bl b) H
def spSeqG (K : PySem.W.Frag) : Sp := fun vs H Q _ => ∃ (x : V) (d : Option (List V)) (hi : Int), vs = [x, .int 0, .int hi] ∧ Thg K H x d ∧ ∀ (H' : Hp) (b : Bool), Same H H' → (b = true ↔ ∃ xs, d = some xs ∧ (xs.length : Int) ≤ hi) → Q (.bl b) H'
def spMisfit (K : PySem.W.Frag) (C : Addr) : Sp := fun vs H Q _ => ∃ (q : Addr) (sg : List Nat) (us : List V) (as : List Arc) (g : Nat) (x : V) (d : Option (List V)), vs = [.ref q, .int (g : Nat), x] ∧ LoomAt C H q sg us as ∧ g ≤ 63 ∧ Thg K H x d ∧
  ∀ H', Same H H' → Q (fltV as g d) H'
theorem LoomAt.same {C : Addr} {H H' : Hp} {p : Addr} {sg : List Nat} {us : List V} {as : List Arc} (h : LoomAt C H p sg us as) (s : Same H H') : LoomAt C H' p sg us as := by
  obtain ⟨dx, T, h1, h2, h3, h4, h5⟩ := h
  exact ⟨dx, T, s _ _ h1, s _ _ h2, h3.same s, h4, h5⟩
section
variable {P : Program} {w : World} {K : PySem.W.Frag} {mg : Str → Option Value} {base : Heap}
theorem ok_is_numberG (T : Tx K mg) : FnOk P w K mg base CX0 1 T.f_is_number T.fd_is_number P_is_number (spNumG K) := by
  refine T.F_is_number.ok sc_is_number (fun vs H Q E h => ?_) (fun cdv A outer s H vs Q E hr h => ?_)
  · obtain ⟨x, hi, rfl, _⟩ := h
    rfl
  · obtain ⟨x, hi, rfl, ho, k⟩ := h
    refine ⟨_, (pss_one (ps_ret (pe_and (pe_callB (call_isiZ (K := K) rfl) rfl T.n_isinstance (by decide +kernel) (pa_cons (pv 0) (pa_cons (pe_bltn (v := V.ty "int") (u := .type "int") rfl T.n_int (by decide +kernel) rfl) pa_nil))) (pe_and (pe_not (pe_callB (call_isiZ (K := K) rfl) rfl T.n_isinstance (by decide +kernel) (pa_cons (pv 0) (pa_cons (pe_bltn (v := V.ty "bool") (u := .type "bool") rfl T.n_bool (by decide +kernel) rfl) pa_nil)))) (pe_one (pe_chain op_le op_le (pv 1) (pv 0) (pv 2))))))), ?_⟩
    cases ho with
    | other h n ni => exact ⟨_, rfl, _, _, _, _, false, rfl, .ty "int", h, n, false, rfl, k false ⟨fun z => Bool.noConfusion z, fun ⟨i, e, _⟩ => absurd e (ni i)⟩⟩
    | bl b =>
      refine ⟨_, rfl, _, _, _, _, true, rfl, .ty "int", .x (.base (.bl b)), kit_ty (by decide +kernel), true, rfl, ?_⟩
      exact ⟨_, rfl, _, _, _, _, true, rfl, .ty "bool", .x (.base (.bl b)), kit_ty (by decide +kernel), true, rfl, false, rfl, k false ⟨fun z => Bool.noConfusion z, fun ⟨i, e, _⟩ => nomatch e⟩⟩
    | int i =>
      refine ⟨_, rfl, _, _, _, _, true, rfl, .ty "int", .x (.base (.int i)), kit_ty (by decide +kernel), true, rfl, ?_⟩
      refine ⟨_, rfl, _, _, _, _, false, rfl, .ty "bool", .x (.base (.int i)), kit_ty (by decide +kernel), false, rfl, true, rfl, ?_⟩
      refine ⟨_, rfl, _, rfl, _, _, rfl, rfl, _, rfl, ?_⟩
      refine ite2 (fun c => ?_) (fun c => ?_)
      · refine ⟨_, rfl, _, _, rfl, rfl, k _ ?_⟩
        have c1 := of_decide_eq_true c
        constructor
        · intro h; exact ⟨i, rfl, c1, of_decide_eq_true h⟩
        · rintro ⟨j, e, _, h⟩; cases e; exact decide_eq_true h
      · refine k _ ?_
        constructor
        · intro h; cases h
        · rintro ⟨j, e, h, _⟩; cases e; exact absurd (decide_eq_true h) c
theorem ok_is_sequenceG (T : Tx K mg) : FnOk P w K mg base CX0 1 T.f_is_sequence T.fd_is_sequence P_is_sequence (spSeqG K) := by
  refine T.F_is_sequence.ok sc_is_sequence (fun vs H Q E h => ?_) (fun cdv A outer s H vs Q E hr h => ?_)
  · obtain ⟨x, d, hi, rfl, _⟩ := h
    rfl
  · obtain ⟨x, d, hi, rfl, ho, k⟩ := h
    refine ⟨_, (pss_one (ps_ret (pe_and (pe_callB (call_isiTZ (K := K) rfl) rfl T.n_isinstance (by decide +kernel) (pa_cons (pv 0) (pa_cons (pe_tup (pa_cons (pe_bltn (v := V.ty "list") (u := .type "list") rfl T.n_list (by decide +kernel) rfl) (pa_cons (pe_bltn (v := V.ty "tuple") (u := .type "tuple") rfl T.n_tuple (by decide +kernel) rfl) pa_nil))) pa_nil))) (pe_one (pe_chain op_le op_le (pv 1) (pe_callB (call_len_seqK (K := K) rfl) rfl T.n_len (by decide +kernel) (pa_cons (pv 0) pa_nil)) (pv 2)))))), ?_⟩
    refine ⟨_, rfl, le_size (by decide), fun t ht => ?_⟩
    have st := Same.new (.tup [V.ty "list", V.ty "tuple"]) ht
    cases ho with
    | non h n =>
      exact ⟨_, _, _, _, [.type "list", .type "tuple"], false, rfl, upd_same, .cons (.ty _) (.cons (.ty _) .nil), TyZ_same h st, n, false, rfl, k _ false st ⟨fun z => Bool.noConfusion z, fun ⟨xs, e, _⟩ => nomatch e⟩⟩
    | @seq a xs h hit hl =>
      have two : ∃ tv, TyZ K (upd H t (.tup [V.ty "list", V.ty "tuple"])) (.ref a) tv ∧ PySem.W.kitAny K tv [.type "list", .type "tuple"] = some true := by
        rcases h with ha | ha
        · exact ⟨_, .x (.base (.lst (st _ _ ha))), kitAny_cons (b := true) (kit_ty (by decide +kernel)) (fun q => nomatch q) (fun _ => rfl)⟩
        · exact ⟨_, .x (.base (.tup (st _ _ ha))), kitAny_cons (b := false) (kit_ty (by decide +kernel)) (fun _ => kitAny_cons (b := true) (kit_ty (by decide +kernel)) (fun q => nomatch q) (fun _ => rfl)) (fun q => nomatch q)⟩
      have one : SqL K (upd H t (.tup [V.ty "list", V.ty "tuple"])) a xs ∨ SqT K (upd H t (.tup [V.ty "list", V.ty "tuple"])) a xs := (h.same st).elim (fun z => .inl (SqL.of z)) fun z => .inr (SqT.of z)
      obtain ⟨tv, htv, hkt⟩ := two
      refine ⟨_, _, _, _, [.type "list", .type "tuple"], true, rfl, upd_same, .cons (.ty _) (.cons (.ty _) .nil), htv, hkt, true, rfl, ?_⟩
      refine ⟨_, rfl, _, rfl, a, xs, rfl, one, _, _, rfl, rfl, _, rfl, ?_⟩
      refine ite2 (fun c => ?_) (fun c => ?_)
      · refine ⟨_, rfl, _, _, rfl, rfl, k _ _ st ?_⟩
        constructor
        · intro h; exact ⟨xs, rfl, of_decide_eq_true h⟩
        · rintro ⟨ys, e, h⟩; cases e; exact decide_eq_true h
      · exact absurd (decide_eq_true (by omega)) c
theorem ok_first_misfit (T : Tx K mg) : FnOk P w K mg base CX0 2 T.f_first_misfit T.fd_first_misfit P_first_misfit (spMisfit K T.C_Loom) := by
  have G_is_sequence : FnOk P w K mg base CX0 1 T.f_is_sequence T.fd_is_sequence P_is_sequence (spSeqG K) := ok_is_sequenceG T
  have G_is_number : FnOk P w K mg base CX0 1 T.f_is_number T.fd_is_number P_is_number (spNumG K) := ok_is_numberG T
  refine T.F_first_misfit.ok sc_first_misfit (fun vs H Q E h => ?_) (fun cdv A outer s H vs Q E hr h => ?_)
  · obtain ⟨q, sg, us, as, g, x, d, rfl, _⟩ := h
    rfl
  · obtain ⟨q, sg, us, as, g, x, d, rfl, hL, hg, ho, k⟩ := h
    refine ⟨_, (pss_cons (ps_if (pt_not (pt_val (pe_call G_is_sequence (hr.mono (by decide)) rfl T.m_is_sequence T.F_is_sequence.kp T.b_is_sequence .nil pass0 (pa_cons (pv 2) (pa_cons pe_int (pa_cons (pe_glob (v := V.int 2000) rfl T.g_MOST_ITEMS ⟨_, rfl⟩) pa_nil)))))) (pss_one (ps_ret (pe_un un_neg pe_int))) pss_nil)
        (pss_cons (ps_set (i := 3) sc_first_misfit.nd rfl (Or.inl rfl) (pv 1))
        (pss_cons (ps_for PassesOwn.never rfl (pi_or (pi_enum rfl T.n_enumerate (pa_cons (pv 2) pa_nil)) (pi_enumT rfl T.n_enumerate (pa_cons (pv 2) pa_nil))) (pg_tup rfl (pgs_cons (pg_name (i := 4) sc_first_misfit.nd rfl (Or.inl rfl)) (pgs_cons (pg_name (i := 5) sc_first_misfit.nd rfl (Or.inl rfl)) pgs_nil))) (pss_cons (ps_if (PW.pt (pw_or (pt_not (pt_val (pe_call G_is_number (hr.mono (by decide)) rfl T.m_is_number T.F_is_number.kp T.b_is_number .nil pass0 (pa_cons (pv 5) (pa_cons pe_int (pa_cons (pe_op op_sub (pe_callB (call_len_seqK (K := K) rfl) rfl T.n_len (by decide +kernel) (pa_cons (pe_fld (pv 0) rfl) pa_nil)) pe_int) pa_nil)))))) (pw_or1 (pt_cmpR op_ne (pe_ix (ix_tupK (K := K) rfl) (pe_ix (ix_tupK (K := K) rfl) (pe_fld (pv 0) rfl) (pv 5) (fun _ _ => rfl)) pe_int (fun _ _ => rfl)) (pv 3) (nomark _))))) (pss_one (ps_ret (pv 4))) pss_nil)
        (pss_one (ps_set (i := 3) sc_first_misfit.nd rfl (Or.inl rfl) (pe_ix (ix_tupK (K := K) rfl) (pe_ix (ix_tupK (K := K) rfl) (pe_fld (pv 0) rfl) (pv 5) (fun _ _ => rfl)) pe_int (fun _ _ => rfl))))))
        (pss_one (ps_ret pe_non))))), ?_⟩
    refine ⟨_, rfl, x, d, 2000, rfl, ho, fun H1 b s1 hb => ⟨b, rfl, ?_⟩⟩
    have hL1 := hL.same s1
    obtain ⟨dx, TT, hq, hT, harc, hok, hsg⟩ := hL1
    have h200 := hok.2.1
    have h1 := hok.1
    cases ho with
    | non h n =>
      have e : b = false := by
        cases b with
        | false => rfl
        | true => obtain ⟨xs, z, _⟩ := hb.mp rfl; cases z
      subst e
      refine iteT ⟨_, rfl, ?_⟩
      exact k H1 s1
    | @seq a xs hs hit hl =>
      by_cases hx : xs.length ≤ 2000
      · rw [hb.mpr ⟨xs, rfl, by omega⟩]
        refine iteF ?_
        have kk : ∀ H', Same H H' → Q (match flt as g xs 0 with
            | none => V.non
            | some i => V.int (i : Nat)) H' := fun H' sm => by
          have z := k H' sm
          dsimp only [fltV] at z
          rw [if_pos hx] at z
          exact z
        rcases hs.same s1 with ha1 | ha1
        · refine ⟨_, rfl, .inl ⟨_, rfl, a, xs, rfl, SqL.of ha1, for_it walk_enum (fun i σ H' => ∃ (g' : Nat) (v4 v5 : Option V), σ = [some (.ref q), some (.int (g : Nat)), some (.ref a), some (.int (g' : Nat)), v4, v5] ∧ flt as g xs 0 = flt as g' (xs.drop i) i ∧ Same H1 H') ⟨g, _, _, rfl, rfl, fun _ _ e => e⟩ (fun i σ H' _ ⟨_, _, _, _, _, sm⟩ => SqL.of (sm _ _ ha1)) ?_ ?_⟩⟩
          · rintro i x σ H3 H4 hi ⟨g', v4, v5, rfl, hf, s3⟩ ⟨tp, x1, y1, rfl, ht, rfl, hx1, hy1⟩
            cases hx1
            replace hy1 : xs[i]? = some y1 := hy1
            have sn : Same H1 (upd H3 tp (.tup [V.int (i : Int), y1])) := s3.trans (Same.new _ ht)
            have hy : It K (upd H3 tp (.tup [V.int (i : Int), y1])) y1 := ((hit y1 (List.mem_of_getElem? hy1)).same s1).same sn
            have hd : xs.drop i = y1 :: xs.drop (i + 1) := by
              have hi2 := (List.getElem?_eq_some_iff.mp hy1).1
              rw [List.drop_eq_getElem_cons hi2]
              congr 1
              exact Option.some.inj ((List.getElem?_eq_getElem hi2).symm.trans hy1)
            refine ⟨tp, _, rfl, SqT.of upd_same, rfl, _, _, rfl, _, _, rfl, rfl, ?_⟩
            generalize upd H3 tp (.tup [V.int (i : Int), y1]) = H5 at *
            have hq5 := sn _ _ hq
            have hT5 := sn _ _ hT
            have ul : (us.length : Int) - 1 = (as.length : Int) - 1 := by rw [harc.1]
            refine ⟨_, rfl, _, rfl, q, _, dx, _, _, rfl, hq5, T.cl_Loom, T.na_Loom_arcs, lf_arcs _ _, TT, us, rfl, .inr (SqT.of hT5), _, _, rfl, rfl, y1, _, rfl, hy, fun b hb => ⟨b, rfl, ?_⟩⟩
            rw [hd] at hf
            have stop : fits as g' y1 = none → Q (.int (i : Nat)) H5 := fun e => by
              have z := kk H5 (s1.trans sn)
              rw [hf, flt_none e] at z
              exact z
            cases b with
            | false =>
              refine iteT ⟨_, rfl, stop ?_⟩
              unfold fits
              cases y1 with
              | int k =>
                dsimp only
                rw [if_neg (fun z => by
                  have := hb.mpr ⟨k, rfl, z.1, by omega⟩
                  cases this)]
              | _ => rfl
            | true =>
              obtain ⟨k, rfl, k0, k1⟩ := hb.mp rfl
              obtain ⟨m, rfl⟩ := Int.eq_ofNat_of_zero_le k0
              have hm : m < as.length := by omega
              obtain ⟨t, hut, htt⟩ := harc.2 m as[m] (List.getElem?_eq_getElem hm)
              have ft : fits as g' (.int (m : Nat)) = if as[m].1 = g' then some as[m].2.2 else none := by
                unfold fits
                dsimp only
                rw [if_pos ⟨by omega, by omega⟩, Int.toNat_natCast, List.getElem?_eq_getElem hm]
              refine iteF ?_
              refine ⟨_, rfl, q, _, dx, _, _, rfl, hq5, T.cl_Loom, T.na_Loom_arcs, lf_arcs _ _, _, rfl, TT, us, _, _, rfl, rfl, SqT.of hT5, atI_nat hut, t, _, _, _, rfl, rfl, SqT.of (sn _ _ htt), rfl, _, rfl, rfl, _, rfl, ?_⟩
              refine ite2 (fun c => ?_) (fun c => ?_)
              · have ne : ¬ (as[m].1 = g') := fun z => by simp [z] at c
                exact ⟨_, rfl, stop (by rw [ft, if_neg ne])⟩
              · have e : as[m].1 = g' := by
                  have z : ((as[m].1 : Nat) : Int) = (g' : Int) := by simpa using c
                  exact_mod_cast z
                refine ⟨_, rfl, q, _, dx, _, _, rfl, hq5, T.cl_Loom, T.na_Loom_arcs, lf_arcs _ _, _, rfl, TT, us, _, _, rfl, rfl, SqT.of hT5, atI_nat hut, t, _, _, _, rfl, rfl, SqT.of (sn _ _ htt), rfl, ?_⟩
                exact ⟨as[m].2.2, _, _, rfl, by rw [hf, flt_some (by rw [ft, if_pos e])], sn⟩
          · rintro σ H3 ⟨g', v4, v5, rfl, hf, s3⟩
            rw [List.drop_length] at hf
            have z := kk H3 (s1.trans s3)
            rw [hf] at z
            exact z
        · refine ⟨_, rfl, .inr ⟨_, rfl, a, xs, rfl, SqT.of ha1, for_it walk_enumT (fun i σ H' => ∃ (g' : Nat) (v4 v5 : Option V), σ = [some (.ref q), some (.int (g : Nat)), some (.ref a), some (.int (g' : Nat)), v4, v5] ∧ flt as g xs 0 = flt as g' (xs.drop i) i ∧ Same H1 H') ⟨g, _, _, rfl, rfl, fun _ _ e => e⟩ (fun i σ H' _ ⟨_, _, _, _, _, sm⟩ => SqT.of (sm _ _ ha1)) ?_ ?_⟩⟩
          · rintro i x σ H3 H4 hi ⟨g', v4, v5, rfl, hf, s3⟩ ⟨tp, x1, y1, rfl, ht, rfl, hx1, hy1⟩
            cases hx1
            replace hy1 : xs[i]? = some y1 := hy1
            have sn : Same H1 (upd H3 tp (.tup [V.int (i : Int), y1])) := s3.trans (Same.new _ ht)
            have hy : It K (upd H3 tp (.tup [V.int (i : Int), y1])) y1 := ((hit y1 (List.mem_of_getElem? hy1)).same s1).same sn
            have hd : xs.drop i = y1 :: xs.drop (i + 1) := by
              have hi2 := (List.getElem?_eq_some_iff.mp hy1).1
              rw [List.drop_eq_getElem_cons hi2]
              congr 1
              exact Option.some.inj ((List.getElem?_eq_getElem hi2).symm.trans hy1)
            refine ⟨tp, _, rfl, SqT.of upd_same, rfl, _, _, rfl, _, _, rfl, rfl, ?_⟩
            generalize upd H3 tp (.tup [V.int (i : Int), y1]) = H5 at *
            have hq5 := sn _ _ hq
            have hT5 := sn _ _ hT
            have ul : (us.length : Int) - 1 = (as.length : Int) - 1 := by rw [harc.1]
            refine ⟨_, rfl, _, rfl, q, _, dx, _, _, rfl, hq5, T.cl_Loom, T.na_Loom_arcs, lf_arcs _ _, TT, us, rfl, .inr (SqT.of hT5), _, _, rfl, rfl, y1, _, rfl, hy, fun b hb => ⟨b, rfl, ?_⟩⟩
            rw [hd] at hf
            have stop : fits as g' y1 = none → Q (.int (i : Nat)) H5 := fun e => by
              have z := kk H5 (s1.trans sn)
              rw [hf, flt_none e] at z
              exact z
            cases b with
            | false =>
              refine iteT ⟨_, rfl, stop ?_⟩
              unfold fits
              cases y1 with
              | int k =>
                dsimp only
                rw [if_neg (fun z => by
                  have := hb.mpr ⟨k, rfl, z.1, by omega⟩
                  cases this)]
              | _ => rfl
            | true =>
              obtain ⟨k, rfl, k0, k1⟩ := hb.mp rfl
              obtain ⟨m, rfl⟩ := Int.eq_ofNat_of_zero_le k0
              have hm : m < as.length := by omega
              obtain ⟨t, hut, htt⟩ := harc.2 m as[m] (List.getElem?_eq_getElem hm)
              have ft : fits as g' (.int (m : Nat)) = if as[m].1 = g' then some as[m].2.2 else none := by
                unfold fits
                dsimp only
                rw [if_pos ⟨by omega, by omega⟩, Int.toNat_natCast, List.getElem?_eq_getElem hm]
              refine iteF ?_
              refine ⟨_, rfl, q, _, dx, _, _, rfl, hq5, T.cl_Loom, T.na_Loom_arcs, lf_arcs _ _, _, rfl, TT, us, _, _, rfl, rfl, SqT.of hT5, atI_nat hut, t, _, _, _, rfl, rfl, SqT.of (sn _ _ htt), rfl, _, rfl, rfl, _, rfl, ?_⟩
              refine ite2 (fun c => ?_) (fun c => ?_)
              · have ne : ¬ (as[m].1 = g') := fun z => by simp [z] at c
                exact ⟨_, rfl, stop (by rw [ft, if_neg ne])⟩
              · have e : as[m].1 = g' := by
                  have z : ((as[m].1 : Nat) : Int) = (g' : Int) := by simpa using c
                  exact_mod_cast z
                refine ⟨_, rfl, q, _, dx, _, _, rfl, hq5, T.cl_Loom, T.na_Loom_arcs, lf_arcs _ _, _, rfl, TT, us, _, _, rfl, rfl, SqT.of hT5, atI_nat hut, t, _, _, _, rfl, rfl, SqT.of (sn _ _ htt), rfl, ?_⟩
                exact ⟨as[m].2.2, _, _, rfl, by rw [hf, flt_some (by rw [ft, if_pos e])], sn⟩
          · rintro σ H3 ⟨g', v4, v5, rfl, hf, s3⟩
            rw [List.drop_length] at hf
            have z := kk H3 (s1.trans s3)
            rw [hf] at z
            exact z
      · have e : b = false := by
          cases b with
          | false => rfl
          | true => obtain ⟨ys, z, z2⟩ := hb.mp rfl; cases z; omega
        subst e
        refine iteT ⟨_, rfl, ?_⟩
        have z := k H1 s1
        dsimp only [fltV] at z
        rw [if_neg hx] at z
        exact z
end
end J


set_option Elab.async false
set_option linter.all false
set_option maxRecDepth 100000
set_option maxHeartbeats 4000000
namespace PySem
namespace ExX
section
variable {prog : Program} {w : World} {A : Around} {E : Value → Shared → Prop} {R : Result → Shared → Prop} {s : Shared} {K : W.Frag} {mg : Str → Option Value} {C fI : Addr}
open PySem.W PySem.Calls PyProof.Rows PySem.HandSPX
theorem init_InvalidLoom (T : ExcT K mg C fI "InvalidLoom" ["part", "at"] "InvalidLoom.__init__" J.s_InvalidLoom_init) {x t0 : Addr} {v0 v1 : Value} (X : K.In s.heap) (hlim : s.heap.NoLimit) (hx : s.heap.get? x = some (excO C t0)) (hnx : K.lookup x = none) (hroom : A.depth < recursionLimit)
    (hq : ∀ h' tk dx, (∀ b o, b ≠ x → s.heap.get? b = some o → h'.get? b = some o) → h'.get? x = some { cls := .ref C, dict := some dx, data := .fields #[.ref t0, .none, .none, .none, .bool false, .none] } → s.heap.objs.size ≤ dx → dx ≠ x →
      h'.Ns1 dx (fun y => if y = "at" then some v1 else if y = "part" then some v0 else none) → R (.ok (.ret .none)) { s with heap := h', toks := tk }) :
    codeAny (model prog w) A (.call (.ref fI) ⟨[.ref x, v0, v1], []⟩) R s := by
  obtain ⟨oc, od, kV, doc, pm, an, cdv, ct, osl, ho, hcd⟩ := T.fn
  obtain ⟨nm, q, N, bs, bm, sn, sub, ab, col, dd, k0, k1, k2, k3, k5, hC, hbm⟩ := T.cls
  have hcl : clsIn K C = some { name := nm, bases := bs, mro := .ref C :: bm, ns := N, qualname := q, hasDict := true, slotNames := sn, subclasses := sub, abstract := ab, collection := col, hasDel := false } := by unfold clsIn; rw [hC] <;> rfl
  refine Att.call_fn (binds := [("self", .ref x), ("part", v0), ("at", v1)]) X hlim ho hcd hroom (BindsTo.of_eq (by first | rfl | with_unfolding_all rfl)) (by first | rfl | decide | with_unfolding_all rfl) (fun s₁ IC => ?_) rfl rfl rfl
  obtain ⟨h₁, tk₁, rfl⟩ := IC.toInCall.same
  have k : ∀ b o, s.heap.get? b = some o → h₁.get? b = some o := IC.toInCall.keep
  have hn := IC.toInCall.ns
  have hxL : s.heap.objs.size ≠ x := Nat.ne_of_gt (Heap.lt_size hx)
  have X₁ : K.In h₁ := X.keeps k
  have hx₁ := k _ _ hx
  have z : s.heap.objs.size < h₁.objs.size := hn.lt
  show wpAny _ _ (execs _ _) _ _ _
  refine wpAny_execs_cons (plainObj_wpAny_Assign_Attribute ?_)
  refine ldC (v := v0) hn (by first | rfl | with_unfolding_all rfl | kernel_rfl) (ldC (v := .ref x) hn (by first | rfl | with_unfolding_all rfl | kernel_rfl) ?_)
  refine set_plain X₁ (ox := excO C t0) (od := none) ⟨hx₁, rfl, rfl, trivial⟩ T.sa ?_
  refine osa_new X₁ hx₁ hcl (show refsEX (.ref C :: bm) = true from hbm) rfl (T.no "part" (by simp)) (fun h₃ tk₃ dx k₃ dn dne hx₃ hn₃ => ?_)
  show wpAny _ _ (execs _ _) _ _ _
  have X₃ : K.In h₃ := fun b o e => k₃ b o (fun q => by rw [q, hnx] at e; cases e) (X₁ b o e)
  have hn3 := hn.at fun o q => k₃ _ o hxL q
  refine wpAny_execs_cons (plainObj_wpAny_Assign_Attribute ?_)
  refine ldC (v := v1) hn3 (by first | rfl | with_unfolding_all rfl | kernel_rfl) (ldC (v := .ref x) hn3 (by first | rfl | with_unfolding_all rfl | kernel_rfl) ?_)
  obtain ⟨oD, esD, epD, hoD, hdD, _⟩ := hn₃.count (Within.cons "part" v0 Within.nil)
  refine set_plain X₃ (ox := { cls := .ref C, dict := some dx, data := .fields #[.ref t0, .none, .none, .none, .bool false, .none] }) (od := some oD) ⟨hx₃, rfl, rfl, hoD⟩ T.sa ?_
  refine osa_old X₃ hx₃ hn₃ (Within.cons "part" v0 Within.nil) (by decide) hcl (show refsEX (.ref C :: bm) = true from hbm) rfl (T.no "at" (by simp)) (fun h₄ tk₄ k₄ hn₄ => ?_)
  show wpAny _ _ (execs _ _) _ _ _
  have low : ∀ b o, s.heap.get? b = some o → b ≠ dx := fun b o e q => by
    have lt := Heap.lt_size e
    rw [q] at lt
    exact absurd lt (Nat.not_lt.mpr (Nat.le_of_lt (Nat.lt_of_lt_of_le z dn)))
  exact wpAny_execs_nil (hq h₄ tk₄ dx (fun b o hb e => k₄ b o (low b o e) (k₃ b o hb (k b o e))) (k₄ _ _ dne.symm hx₃) (Nat.le_of_lt (Nat.lt_of_lt_of_le z dn)) dne hn₄)
theorem made_InvalidLoom (T : ExcT K mg C fI "InvalidLoom" ["part", "at"] "InvalidLoom.__init__" J.s_InvalidLoom_init) {v0 v1 : Value} (X : K.In s.heap) (hlim : s.heap.NoLimit) (hroom : A.depth + 1 < recursionLimit)
    (hq : ∀ h' tk e d, OwnMade s.heap h' e C d (fun y => if y = "at" then some v1 else if y = "part" then some v0 else none) → R (.ok (.ret (.ref e))) { s with heap := h', toks := tk }) :
    codeAny (model prog w) A (.call (.ref C) ⟨[v0, v1], []⟩) R s := by
  obtain ⟨nm, q, N, bs, bm, sn, sub, ab, col, dd, k0, k1, k2, k3, k5, hC, hbm⟩ := T.cls
  obtain ⟨hp, g, dr, tk, os⟩ := s
  have k : ∀ b o, hp.get? b = some o → ((hp.push (kdv_tup [v0, v1])).push (excO C hp.objs.size)).get? b = some o := fun b o e => Heap.get?_push_of_some _ (Heap.get?_push_of_some _ e)
  have hget : ((hp.push (kdv_tup [v0, v1])).push (excO C hp.objs.size)).get? (hp.objs.size + 1) = some (excO C hp.objs.size) := by heap_get
  have hnx : K.lookup (hp.objs.size + 1) = none := by
    cases e : K.lookup (hp.objs.size + 1) with
    | none => rfl
    | some o =>
      have z : hp.get? (hp.objs.size + 1) = some o := X _ _ e
      exact absurd (Nat.lt_of_succ_lt (Heap.lt_size z)) (Nat.lt_irrefl _)
  refine call_own F.excBase_Exception (fun X => refsEX_contains X bm hbm) (X _ _ hC) (looks_findIn X T.iC) (fun self => bind_fn X self T.tC) (by show 2 ≤ sizeLine; rw [sizeLine_eq]; decide) ?_
  refine init_InvalidLoom (s := ⟨(hp.push (kdv_tup [v0, v1])).push (excO C hp.objs.size), g, dr, tk, os⟩) T (X.keeps k) (hlim.keeps k) hget hnx ?_ fun h' tk' dx k' hx dn dne hns => ?_
  · show A.depth + 1 < recursionLimit
    exact hroom
  · have old : ∀ b o, hp.get? b = some o → h'.get? b = some o := fun b o e => k' b o (Nat.ne_of_lt (Nat.lt_succ_of_lt (Heap.lt_size e))) (k b o e)
    have z : hp.objs.size + 1 + 1 ≤ dx := by
      first
        | (simpa only [Heap.size_push] using dn)
        | exact dn
        | (have q := dn; rw [Heap.size_push, Heap.size_push] at q; exact q)
    exact ⟨rfl, hq h' tk' (hp.objs.size + 1) dx ⟨old, Nat.le_succ _, ⟨_, _, hx, rfl, rfl, rfl, rfl⟩, Nat.le_trans (Nat.le_trans (Nat.le_succ _) (Nat.le_succ _)) z, dne, hns⟩⟩
end
end ExX
end PySem
namespace L2
open PySem PySem.Spec PyProof.Rows PySem.ExX
def fs_InvalidLoom (x0 x1 : V) : List (Str × V) := [(("at" : Str), x1), (("part" : Str), x0)]
theorem rel_InvalidLoom {x0 x1 : V} {v0 v1 : Value} (r0 : RelV x0 v0) (r1 : RelV x1 v1) (f : Str) : RelO (List.lookup f (fs_InvalidLoom x0 x1)) ((fun y : Str => if y = "at" then some v1 else if y = "part" then some v0 else none) f) := by
  unfold fs_InvalidLoom
  exact (fun g => relO_put (f := "at") r1 (fun g => relO_put (f := "part") (fs := []) (mA := fun _ => none) r0 (fun _ => trivial) g) g) f
section
variable {X : Cx} {C fI : Addr} {es : List Expr} {e : Expr} {ta : TA} {p pos : Pos} {k : Nat}
def tV_InvalidLoom (C : Addr) (ta : TA) : TE := fun σ H Q => ta σ H fun vs H1 => ∃ x0 x1, vs = [x0, x1] ∧ ∀ e d, H1 e = none → H1 d = none → d ≠ e → Q (.ref e) (upd (upd H1 d (.xd (fs_InvalidLoom x0 x1))) e (ExD C d e))
/-- InvalidLoom(..) as a value -/
theorem pe_InvalidLoom (T : ExcT X.K X.mg C fI "InvalidLoom" ["part", "at"] "InvalidLoom.__init__" J.s_InvalidLoom_init) (hr : Room k X.A) (ha : PA X (e :: es) ta) (hg : Gl X "InvalidLoom" := by rfl)
    (he : starEach (e :: es) X.env = (false, eval e X.env) :: starEach es X.env := by rfl) (hpl : (backTo pos (starEach es X.env)).any (·.1) = false := by rfl) :
    PE X (.Call (.Name "InvalidLoom" p) (e :: es) [] pos) (tV_InvalidLoom C ta) := by
  refine ⟨fun pins s σ H Q I h => ?_⟩
  refine wpAny_Call_Name_kw (ld_glob I hg T.gC ?_)
  refine PySem.W.callWith_K (h₀ := X.base) I.ok.mod.kin T.kC (thn (ha.run pos pins s σ H _ I h) fun us s1 hh => ?_) he hpl
  obtain ⟨vs, H1, I1, r1, x0, x1, ev, q1⟩ := hh
  subst ev
  refine ⟨I1.kIn, ?_⟩
  cases r1 with
  | cons r0 rn =>
  cases rn with
  | cons r1 rn =>
  cases rn
  have hlim := I1.nolimit
  obtain ⟨hp, g, dr, tk, os⟩ := s1
  refine wpAny_call (made_InvalidLoom T I1.kIn hlim (by have := hr.dp; omega) fun h' tk' e d M => ?_)
  exact ⟨.ref e, _, own_value (tk' := tk') I1 M (rel_InvalidLoom r0 r1), rfl, q1 e d (I1.hok.fresh M.new) (I1.hok.fresh M.dbig) M.dne⟩
def tMk_InvalidLoom (C : Addr) (ta : TA) : St → Hp → XK → Prop := fun σ H Q => ta σ H fun vs H1 => ∃ x0 x1, vs = [x0, x1] ∧ ∀ d, H1 d = none → Q (.ref C) (some d) (upd H1 d (.xd (fs_InvalidLoom x0 x1)))
/-- InvalidLoom(..) to be raised -/
theorem pmk_InvalidLoom (T : ExcT X.K X.mg C fI "InvalidLoom" ["part", "at"] "InvalidLoom.__init__" J.s_InvalidLoom_init) (hr : Room k X.A) (ha : PA X (e :: es) ta) (hg : Gl X "InvalidLoom" := by rfl)
    (he : starEach (e :: es) X.env = (false, eval e X.env) :: starEach es X.env := by rfl) (hpl : (backTo pos (starEach es X.env)).any (·.1) = false := by rfl) :
    PMk X (.Call (.Name "InvalidLoom" p) (e :: es) [] pos) (tMk_InvalidLoom C ta) := by
  intro pins s σ H Q I h
  refine wpAny_Call_Name_kw (ld_glob I hg T.gC ?_)
  refine PySem.W.callWith_K (h₀ := X.base) I.ok.mod.kin T.kC (thn (ha.run pos pins s σ H _ I h) fun us s1 hh => ?_) he hpl
  obtain ⟨vs, H1, I1, r1, x0, x1, ev, q1⟩ := hh
  subst ev
  refine ⟨I1.kIn, ?_⟩
  cases r1 with
  | cons r0 rn =>
  cases rn with
  | cons r1 rn =>
  cases rn
  have hlim := I1.nolimit
  obtain ⟨hp, g, dr, tk, os⟩ := s1
  refine wpAny_call (made_InvalidLoom T I1.kIn hlim (by have := hr.dp; omega) fun h' tk' e d M => ?_)
  exact own_raise (tk' := tk') I1 M (rel_InvalidLoom r0 r1) (raises_own T.exC T.tyC) q1
end
end L2
namespace PySem
namespace ExX
section
variable {prog : Program} {w : World} {A : Around} {E : Value → Shared → Prop} {R : Result → Shared → Prop} {s : Shared} {K : W.Frag} {mg : Str → Option Value} {C fI : Addr}
open PySem.W PySem.Calls PyProof.Rows PySem.HandSPX
theorem init_InvalidRow (T : ExcT K mg C fI "InvalidRow" ["at"] "InvalidRow.__init__" J.s_InvalidRow_init) {x t0 : Addr} {v0 : Value} (X : K.In s.heap) (hlim : s.heap.NoLimit) (hx : s.heap.get? x = some (excO C t0)) (hnx : K.lookup x = none) (hroom : A.depth < recursionLimit)
    (hq : ∀ h' tk dx, (∀ b o, b ≠ x → s.heap.get? b = some o → h'.get? b = some o) → h'.get? x = some { cls := .ref C, dict := some dx, data := .fields #[.ref t0, .none, .none, .none, .bool false, .none] } → s.heap.objs.size ≤ dx → dx ≠ x →
      h'.Ns1 dx (fun y => if y = "at" then some v0 else none) → R (.ok (.ret .none)) { s with heap := h', toks := tk }) :
    codeAny (model prog w) A (.call (.ref fI) ⟨[.ref x, v0], []⟩) R s := by
  obtain ⟨oc, od, kV, doc, pm, an, cdv, ct, osl, ho, hcd⟩ := T.fn
  obtain ⟨nm, q, N, bs, bm, sn, sub, ab, col, dd, k0, k1, k2, k3, k5, hC, hbm⟩ := T.cls
  have hcl : clsIn K C = some { name := nm, bases := bs, mro := .ref C :: bm, ns := N, qualname := q, hasDict := true, slotNames := sn, subclasses := sub, abstract := ab, collection := col, hasDel := false } := by unfold clsIn; rw [hC] <;> rfl
  refine Att.call_fn (binds := [("self", .ref x), ("at", v0)]) X hlim ho hcd hroom (BindsTo.of_eq (by first | rfl | with_unfolding_all rfl)) (by first | rfl | decide | with_unfolding_all rfl) (fun s₁ IC => ?_) rfl rfl rfl
  obtain ⟨h₁, tk₁, rfl⟩ := IC.toInCall.same
  have k : ∀ b o, s.heap.get? b = some o → h₁.get? b = some o := IC.toInCall.keep
  have hn := IC.toInCall.ns
  have hxL : s.heap.objs.size ≠ x := Nat.ne_of_gt (Heap.lt_size hx)
  have X₁ : K.In h₁ := X.keeps k
  have hx₁ := k _ _ hx
  have z : s.heap.objs.size < h₁.objs.size := hn.lt
  show wpAny _ _ (execs _ _) _ _ _
  refine wpAny_execs_cons (plainObj_wpAny_Assign_Attribute ?_)
  refine ldC (v := v0) hn (by first | rfl | with_unfolding_all rfl | kernel_rfl) (ldC (v := .ref x) hn (by first | rfl | with_unfolding_all rfl | kernel_rfl) ?_)
  refine set_plain X₁ (ox := excO C t0) (od := none) ⟨hx₁, rfl, rfl, trivial⟩ T.sa ?_
  refine osa_new X₁ hx₁ hcl (show refsEX (.ref C :: bm) = true from hbm) rfl (T.no "at" (by simp)) (fun h₃ tk₃ dx k₃ dn dne hx₃ hn₃ => ?_)
  show wpAny _ _ (execs _ _) _ _ _
  exact wpAny_execs_nil (hq h₃ tk₃ dx (fun b o hb e => k₃ b o hb (k b o e)) hx₃ (Nat.le_of_lt (Nat.lt_of_lt_of_le z dn)) dne hn₃)
theorem made_InvalidRow (T : ExcT K mg C fI "InvalidRow" ["at"] "InvalidRow.__init__" J.s_InvalidRow_init) {v0 : Value} (X : K.In s.heap) (hlim : s.heap.NoLimit) (hroom : A.depth + 1 < recursionLimit)
    (hq : ∀ h' tk e d, OwnMade s.heap h' e C d (fun y => if y = "at" then some v0 else none) → R (.ok (.ret (.ref e))) { s with heap := h', toks := tk }) :
    codeAny (model prog w) A (.call (.ref C) ⟨[v0], []⟩) R s := by
  obtain ⟨nm, q, N, bs, bm, sn, sub, ab, col, dd, k0, k1, k2, k3, k5, hC, hbm⟩ := T.cls
  obtain ⟨hp, g, dr, tk, os⟩ := s
  have k : ∀ b o, hp.get? b = some o → ((hp.push (kdv_tup [v0])).push (excO C hp.objs.size)).get? b = some o := fun b o e => Heap.get?_push_of_some _ (Heap.get?_push_of_some _ e)
  have hget : ((hp.push (kdv_tup [v0])).push (excO C hp.objs.size)).get? (hp.objs.size + 1) = some (excO C hp.objs.size) := by heap_get
  have hnx : K.lookup (hp.objs.size + 1) = none := by
    cases e : K.lookup (hp.objs.size + 1) with
    | none => rfl
    | some o =>
      have z : hp.get? (hp.objs.size + 1) = some o := X _ _ e
      exact absurd (Nat.lt_of_succ_lt (Heap.lt_size z)) (Nat.lt_irrefl _)
  refine call_own F.excBase_Exception (fun X => refsEX_contains X bm hbm) (X _ _ hC) (looks_findIn X T.iC) (fun self => bind_fn X self T.tC) (by show 1 ≤ sizeLine; rw [sizeLine_eq]; decide) ?_
  refine init_InvalidRow (s := ⟨(hp.push (kdv_tup [v0])).push (excO C hp.objs.size), g, dr, tk, os⟩) T (X.keeps k) (hlim.keeps k) hget hnx ?_ fun h' tk' dx k' hx dn dne hns => ?_
  · show A.depth + 1 < recursionLimit
    exact hroom
  · have old : ∀ b o, hp.get? b = some o → h'.get? b = some o := fun b o e => k' b o (Nat.ne_of_lt (Nat.lt_succ_of_lt (Heap.lt_size e))) (k b o e)
    have z : hp.objs.size + 1 + 1 ≤ dx := by
      first
        | (simpa only [Heap.size_push] using dn)
        | exact dn
        | (have q := dn; rw [Heap.size_push, Heap.size_push] at q; exact q)
    exact ⟨rfl, hq h' tk' (hp.objs.size + 1) dx ⟨old, Nat.le_succ _, ⟨_, _, hx, rfl, rfl, rfl, rfl⟩, Nat.le_trans (Nat.le_trans (Nat.le_succ _) (Nat.le_succ _)) z, dne, hns⟩⟩
end
end ExX
end PySem
namespace L2
open PySem PySem.Spec PyProof.Rows PySem.ExX
def fs_InvalidRow (x0 : V) : List (Str × V) := [(("at" : Str), x0)]
theorem rel_InvalidRow {x0 : V} {v0 : Value} (r0 : RelV x0 v0) (f : Str) : RelO (List.lookup f (fs_InvalidRow x0)) ((fun y : Str => if y = "at" then some v0 else none) f) := by
  unfold fs_InvalidRow
  exact (fun g => relO_put (f := "at") (fs := []) (mA := fun _ => none) r0 (fun _ => trivial) g) f
section
variable {X : Cx} {C fI : Addr} {es : List Expr} {e : Expr} {ta : TA} {p pos : Pos} {k : Nat}
def tV_InvalidRow (C : Addr) (ta : TA) : TE := fun σ H Q => ta σ H fun vs H1 => ∃ x0, vs = [x0] ∧ ∀ e d, H1 e = none → H1 d = none → d ≠ e → Q (.ref e) (upd (upd H1 d (.xd (fs_InvalidRow x0))) e (ExD C d e))
/-- InvalidRow(..) as a value -/
theorem pe_InvalidRow (T : ExcT X.K X.mg C fI "InvalidRow" ["at"] "InvalidRow.__init__" J.s_InvalidRow_init) (hr : Room k X.A) (ha : PA X (e :: es) ta) (hg : Gl X "InvalidRow" := by rfl)
    (he : starEach (e :: es) X.env = (false, eval e X.env) :: starEach es X.env := by rfl) (hpl : (backTo pos (starEach es X.env)).any (·.1) = false := by rfl) :
    PE X (.Call (.Name "InvalidRow" p) (e :: es) [] pos) (tV_InvalidRow C ta) := by
  refine ⟨fun pins s σ H Q I h => ?_⟩
  refine wpAny_Call_Name_kw (ld_glob I hg T.gC ?_)
  refine PySem.W.callWith_K (h₀ := X.base) I.ok.mod.kin T.kC (thn (ha.run pos pins s σ H _ I h) fun us s1 hh => ?_) he hpl
  obtain ⟨vs, H1, I1, r1, x0, ev, q1⟩ := hh
  subst ev
  refine ⟨I1.kIn, ?_⟩
  cases r1 with
  | cons r0 rn =>
  cases rn
  have hlim := I1.nolimit
  obtain ⟨hp, g, dr, tk, os⟩ := s1
  refine wpAny_call (made_InvalidRow T I1.kIn hlim (by have := hr.dp; omega) fun h' tk' e d M => ?_)
  exact ⟨.ref e, _, own_value (tk' := tk') I1 M (rel_InvalidRow r0), rfl, q1 e d (I1.hok.fresh M.new) (I1.hok.fresh M.dbig) M.dne⟩
def tMk_InvalidRow (C : Addr) (ta : TA) : St → Hp → XK → Prop := fun σ H Q => ta σ H fun vs H1 => ∃ x0, vs = [x0] ∧ ∀ d, H1 d = none → Q (.ref C) (some d) (upd H1 d (.xd (fs_InvalidRow x0)))
/-- InvalidRow(..) to be raised -/
theorem pmk_InvalidRow (T : ExcT X.K X.mg C fI "InvalidRow" ["at"] "InvalidRow.__init__" J.s_InvalidRow_init) (hr : Room k X.A) (ha : PA X (e :: es) ta) (hg : Gl X "InvalidRow" := by rfl)
    (he : starEach (e :: es) X.env = (false, eval e X.env) :: starEach es X.env := by rfl) (hpl : (backTo pos (starEach es X.env)).any (·.1) = false := by rfl) :
    PMk X (.Call (.Name "InvalidRow" p) (e :: es) [] pos) (tMk_InvalidRow C ta) := by
  intro pins s σ H Q I h
  refine wpAny_Call_Name_kw (ld_glob I hg T.gC ?_)
  refine PySem.W.callWith_K (h₀ := X.base) I.ok.mod.kin T.kC (thn (ha.run pos pins s σ H _ I h) fun us s1 hh => ?_) he hpl
  obtain ⟨vs, H1, I1, r1, x0, ev, q1⟩ := hh
  subst ev
  refine ⟨I1.kIn, ?_⟩
  cases r1 with
  | cons r0 rn =>
  cases rn
  have hlim := I1.nolimit
  obtain ⟨hp, g, dr, tk, os⟩ := s1
  refine wpAny_call (made_InvalidRow T I1.kIn hlim (by have := hr.dp; omega) fun h' tk' e d M => ?_)
  exact own_raise (tk' := tk') I1 M (rel_InvalidRow r0) (raises_own T.exC T.tyC) q1
end
end L2

set_option Elab.async false
set_option linter.all false
set_option maxRecDepth 100000
set_option maxHeartbeats 4000000
namespace J
open PySem L2
/-- an item that is no state -/
def BadSt (K : PySem.W.Frag) (H : Hp) (y : V) : Prop := It K H y ∧ ∀ i, y = .int i → ¬ (0 ≤ i ∧ i ≤ 63)
def spStX (K : PySem.W.Frag) (C : Addr) : Sp := fun vs H Q E => ∃ y, vs = [y] ∧ ((∃ g : Nat, y = .int (g : Nat) ∧ g ≤ 63 ∧ Q .non H) ∨ (BadSt K H y ∧ E (.ref C) none H))
/-- what becomes of a row that is asked: the state is none; it does not fit; it does -/
def RowX (K : PySem.W.Frag) (CS CR : Addr) (as : List Arc) (H : Hp) (y : V) (d : Option (List V)) (Ok : Nat → Hp → Prop) (E : XK) : Prop :=
  (BadSt K H y ∧ E (.ref CS) none H) ∨ (∃ g : Nat, y = .int (g : Nat) ∧ g ≤ 63 ∧ ((fltV as g d = .non ∧ ∀ H', Same H H' → Ok g H') ∨
    (∃ i : Int, fltV as g d = .int i ∧ ∀ H' e, Same H H' → H' e = some (.xd (fs_InvalidRow (.int i))) → E (.ref CR) (some e) H')))
def spChkRow (K : PySem.W.Frag) (C CS CR : Addr) : Sp := fun vs H Q E => ∃ (q : Addr) (sg : List Nat) (us : List V) (as : List Arc) (y x : V) (d : Option (List V)), vs = [.ref q, y, x] ∧ LoomAt C H q sg us as ∧ Thg K H x d ∧ RowX K CS CR as H y d (fun _ => Q .non) E
def spIsRow (K : PySem.W.Frag) (C CS : Addr) : Sp := fun vs H Q E => ∃ (q : Addr) (sg : List Nat) (us : List V) (as : List Arc) (y x : V) (d : Option (List V)), vs = [.ref q, y, x] ∧ LoomAt C H q sg us as ∧ Thg K H x d ∧
  ((BadSt K H y ∧ E (.ref CS) none H) ∨ (∃ g : Nat, y = .int (g : Nat) ∧ g ≤ 63 ∧ ∀ H', Same H H' → Q (.bl (decide (fltV as g d = .non))) H'))
section
variable {P : Program} {w : World} {K : PySem.W.Frag} {mg : Str → Option Value} {base : Heap}
theorem ok_check_stateX (T : Tx K mg) : FnOk P w K mg base (L2.CX P w) 2 T.f_check_state T.fd_check_state P_check_state (spStX K T.C_UnknownState) := by
  have G_is_number : FnOk P w K mg base CX0 1 T.f_is_number T.fd_is_number P_is_number (spNumG K) := ok_is_numberG T
  refine T.F_check_state.okX sc_check_state (fun vs H Q E h => ?_) (fun cdv A outer s H vs Q E hr h => ?_)
  · obtain ⟨x, rfl, _⟩ := h
    rfl
  · obtain ⟨y, rfl, h⟩ := h
    refine ⟨_, (pss_one (ps_if (pt_not (pt_val (pe_call G_is_number (hr.mono (by decide)) rfl T.m_is_number T.F_is_number.kp T.b_is_number .nil pass0 (pa_cons (pv 0) (pa_cons pe_int (pa_cons (pe_glob (v := V.int 63) rfl T.g_LAST_STATE ⟨_, rfl⟩) pa_nil)))))) (pss_one (ps_raise rfl (takes_of rfl rfl rfl rfl) (pmk_own0 PySem.F.excBase_Exception T.in_UnknownState T.g_UnknownState T.kc_UnknownState (raises_own T.E_UnknownState.hs T.ty_UnknownState) rfl))) pss_nil)), ?_⟩
    rcases h with ⟨g, rfl, hg, k⟩ | ⟨⟨hi, hn⟩, k⟩
    · refine ⟨_, rfl, _, 63, rfl, .int _, fun b hb => ⟨b, rfl, ?_⟩⟩
      rw [hb.mpr ⟨_, rfl, by omega, by omega⟩]
      exact iteF k
    · refine ⟨_, rfl, y, 63, rfl, hi, fun b hb => ⟨b, rfl, ?_⟩⟩
      cases b with
      | true => obtain ⟨i, e, h0, h1⟩ := hb.mp rfl; exact absurd ⟨h0, h1⟩ (hn i e)
      | false => exact iteT k
theorem ok_check_rowX (T : Tx K mg) : FnOk P w K mg base (L2.CX P w) 4 T.f_check_row T.fd_check_row P_check_row (spChkRow K T.C_Loom T.C_UnknownState T.C_InvalidRow) := by
  have G_check_state : FnOk P w K mg base (L2.CX P w) 2 T.f_check_state T.fd_check_state P_check_state (spStX K T.C_UnknownState) := ok_check_stateX T
  have G_first_misfit : FnOk P w K mg base CX0 2 T.f_first_misfit T.fd_first_misfit P_first_misfit (spMisfit K T.C_Loom) := ok_first_misfit T
  refine T.F_check_row.okX sc_check_row (fun vs H Q E h => ?_) (fun cdv A outer s H vs Q E hr h => ?_)
  · obtain ⟨q, sg, us, as, y, x, d, rfl, _⟩ := h
    rfl
  · obtain ⟨q, sg, us, as, y, x, d, rfl, hL, hx, h⟩ := h
    refine ⟨_, (pss_cons (ps_expr (pe_callS G_check_state (hr.mono (by decide)) rfl T.m_check_state T.F_check_state.kp T.b_check_state (fun σ => passAt (takes_of rfl rfl rfl rfl) σ) (pa_cons (pv 1) pa_nil)))
        (pss_cons (ps_set (i := 3) sc_check_row.nd rfl (Or.inl rfl) (pe_call G_first_misfit (hr.mono (by decide)) rfl T.m_first_misfit T.F_first_misfit.kp T.b_first_misfit .nil pass0 (pa_cons (pv 0) (pa_cons (pv 1) (pa_cons (pv 2) pa_nil)))))
        (pss_one (ps_if (pt_cmpR op_notN (pv 3) pe_non (nomark _)) (pss_one (ps_raise rfl (takes_of rfl rfl rfl rfl) (pmk_InvalidRow (k := 3) T.X_InvalidRow (hr.mono (by decide)) (pa_cons (pv 3) pa_nil)))) pss_nil)))), ?_⟩
    rcases h with ⟨hb, k⟩ | ⟨g, rfl, hg, h⟩
    · exact ⟨_, rfl, y, rfl, .inr ⟨hb, k⟩⟩
    · refine ⟨_, rfl, _, rfl, .inl ⟨g, rfl, hg, ?_⟩⟩
      refine ⟨_, rfl, _, rfl, _, rfl, q, sg, us, as, g, x, d, rfl, hL, hg, hx, fun H1 s1 => ?_⟩
      rcases h with ⟨e, k⟩ | ⟨i, e, k⟩
      · rw [e]
        exact ⟨_, rfl, rfl, false, congrArg V.bl (by simp), iteF (k H1 s1)⟩
      · rw [e]
        refine ⟨_, rfl, rfl, true, congrArg V.bl (by simp), iteT ?_⟩
        refine ⟨_, rfl, _, rfl, fun e he => ?_⟩
        exact k _ e (s1.trans (Same.new _ he)) upd_same
theorem ok_is_rowX (T : Tx K mg) : FnOk P w K mg base (L2.CX P w) 3 T.f_is_row T.fd_is_row P_is_row (spIsRow K T.C_Loom T.C_UnknownState) := by
  have G_check_state : FnOk P w K mg base (L2.CX P w) 2 T.f_check_state T.fd_check_state P_check_state (spStX K T.C_UnknownState) := ok_check_stateX T
  have G_first_misfit : FnOk P w K mg base CX0 2 T.f_first_misfit T.fd_first_misfit P_first_misfit (spMisfit K T.C_Loom) := ok_first_misfit T
  refine T.F_is_row.okX sc_is_row (fun vs H Q E h => ?_) (fun cdv A outer s H vs Q E hr h => ?_)
  · obtain ⟨q, sg, us, as, y, x, d, rfl, _⟩ := h
    rfl
  · obtain ⟨q, sg, us, as, y, x, d, rfl, hL, hx, h⟩ := h
    refine ⟨_, (pss_cons (ps_expr (pe_callS G_check_state (hr.mono (by decide)) rfl T.m_check_state T.F_check_state.kp T.b_check_state (fun σ => passAt (takes_of rfl rfl rfl rfl) σ) (pa_cons (pv 1) pa_nil)))
        (pss_one (ps_ret (pe_cmpR op_isN (pe_call G_first_misfit (hr.mono (by decide)) rfl T.m_first_misfit T.F_first_misfit.kp T.b_first_misfit .nil pass0 (pa_cons (pv 0) (pa_cons (pv 1) (pa_cons (pv 2) pa_nil)))) pe_non (nomark _))))), ?_⟩
    rcases h with ⟨hb, k⟩ | ⟨g, rfl, hg, k⟩
    · exact ⟨_, rfl, y, rfl, .inr ⟨hb, k⟩⟩
    · refine ⟨_, rfl, _, rfl, .inl ⟨g, rfl, hg, ?_⟩⟩
      refine ⟨_, rfl, _, rfl, _, rfl, q, sg, us, as, g, x, d, rfl, hL, hg, hx, fun H1 s1 => ⟨rfl, ?_⟩⟩
      exact k H1 s1
end
end J


set_option Elab.async false
set_option linter.all false
set_option maxRecDepth 100000
set_option maxHeartbeats 4000000
namespace J
open PySem L2
theorem ix_or {X : Cx} {r1 r2 : R2} (h1 : IxR X r1) (h2 : IxR X r2) : IxR X (fun x y H Q => r1 x y H Q ∨ r2 x y H Q) := by
  intro value slice pins s σ H x y v u Q I rx ry h hs
  rcases h with h | h
  · exact h1 value slice pins s σ H x y v u Q I rx ry h hs
  · exact h2 value slice pins s σ H x y v u Q I rx ry h hs
theorem pe_fldK {X : Cx} {K : PySem.W.Frag} (hK : X.K = K) {e : Expr} {ta : TE} {f : Str} {pos : Pos} (he : PE X e ta) (hb : attributeBase e f X.env (eval e X.env) = eval e X.env) : PE X (.Attribute e f pos) (tFld K ta f) := by
  subst hK
  exact pe_fld he hb
/-- a row from a state -/
def Rw (as : List Arc) : Nat → List Nat → Prop
  | _, [] => True
  | g, m :: r => ∃ a : Arc, as[m]? = some a ∧ a.1 = g ∧ Rw as a.2.2 r
theorem fits_some {as : List Arc} {g g' : Nat} {v : V} (h : fits as g v = some g') : ∃ (m : Nat) (a : Arc), v = .int (m : Nat) ∧ as[m]? = some a ∧ a.1 = g ∧ a.2.2 = g' := by
  unfold fits at h
  cases v with
  | int k =>
    dsimp only at h
    by_cases c : 0 ≤ k ∧ k < as.length
    · rw [if_pos c] at h
      obtain ⟨m, rfl⟩ := Int.eq_ofNat_of_zero_le c.1
      cases ea : as[((m : Nat) : Int).toNat]? with
      | none => rw [ea] at h; cases h
      | some a =>
        rw [ea] at h
        dsimp only at h
        by_cases e : a.1 = g
        · rw [if_pos e] at h
          cases h
          exact ⟨m, a, rfl, by rw [Int.toNat_natCast] at ea; exact ea, e, rfl⟩
        · rw [if_neg e] at h; cases h
    · rw [if_neg c] at h; cases h
  | _ => cases h
theorem flt_row {as : List Arc} : ∀ {xs : List V} {g i : Nat}, flt as g xs i = none → ∃ row, xs = nats row ∧ Rw as g row
  | [], g, i, _ => ⟨[], rfl, trivial⟩
  | v :: r, g, i, h => by
    cases e : fits as g v with
    | none => rw [flt_none e] at h; cases h
    | some g' =>
      rw [flt_some e] at h
      obtain ⟨row, rfl, hr⟩ := flt_row h
      obtain ⟨m, a, rfl, ha, e1, e2⟩ := fits_some e
      exact ⟨m :: row, rfl, a, ha, e1, by rw [e2]; exact hr⟩
theorem fltV_row {as : List Arc} {g : Nat} {d : Option (List V)} (h : fltV as g d = .non) : ∃ row, d = some (nats row) ∧ Rw as g row ∧ row.length ≤ 2000 := by
  cases d with
  | none => cases h
  | some xs =>
    dsimp only [fltV] at h
    by_cases c : xs.length ≤ 2000
    · rw [if_pos c] at h
      cases e : flt as g xs 0 with
      | none =>
        obtain ⟨row, rfl, hr⟩ := flt_row e
        exact ⟨row, rfl, hr, by simpa [nats] using c⟩
      | some i => rw [e] at h; cases h
    · rw [if_neg c] at h; cases h
theorem Rw.lt {as : List Arc} : ∀ {row : List Nat} {g : Nat}, Rw as g row → ∀ m ∈ row, m < as.length
  | [], _, _, m, h => nomatch h
  | n :: r, g, ⟨a, ha, _, hr⟩, m, h => by
    rcases List.mem_cons.mp h with rfl | h
    · exact (List.getElem?_eq_some_iff.mp ha).1
    · exact Rw.lt hr m h
def wAt (as : List Arc) (m : Nat) : List Nat := (as[m]?.map (·.2.1)).getD []
def textR (as : List Arc) (row : List Nat) : List Nat := (row.map (wAt as)).flatten
def endR (as : List Arc) (g : Nat) (row : List Nat) : Nat := match row.getLast? with
  | none => g
  | some m => (as[m]?.map (·.2.2)).getD 0
theorem wAt_at {as : List Arc} {m : Nat} {a : Arc} (h : as[m]? = some a) : wAt as m = a.2.1 := by rw [wAt, h]; rfl
theorem wAt_len {sg : List Nat} {as : List Arc} (h : ∀ a ∈ as, OkArc sg a) (m : Nat) : (wAt as m).length ≤ 12 := by
  unfold wAt
  cases e : as[m]? with
  | none => simp
  | some a => exact (h a (List.mem_of_getElem? e)).2.1.2.1
theorem texts_sum {sg : List Nat} {as : List Arc} (h : ∀ a ∈ as, OkArc sg a) : ∀ row : List Nat, (((row.map fun m => SX.S (wAt as m)).map (·.length)).sum) ≤ 12 * row.length
  | [] => by simp
  | m :: r => by
    have h1 := wAt_len h m
    have h2 := texts_sum h r
    simp only [List.map_cons, List.sum_cons, SX.S_len, List.length_cons] at h2 ⊢
    omega
theorem nat_at {ls : List Nat} {i : Nat} {y : V} (h : (nats ls)[i]? = some y) : ∃ l, ls[i]? = some l ∧ y = .int (l : Nat) := by
  rw [List.getElem?_map] at h
  obtain ⟨l, hl, e⟩ := Option.map_eq_some_iff.mp h
  exact ⟨l, hl, e.symm⟩
theorem nats_len2 (ls : List Nat) : (nats ls).length = ls.length := by simp [nats]
theorem at_last {α : Type} {xs : List α} {x : α} (h : xs.getLast? = some x) : atI xs (-1) = some x := by
  have hne : xs ≠ [] := fun z => by rw [z] at h; cases h
  have hl : 0 < xs.length := List.length_pos_iff.mpr hne
  unfold atI ixN
  rw [if_neg (by omega), if_pos (by omega)]
  show xs[((-1 : Int) + xs.length).toNat]? = some x
  rw [List.getLast?_eq_getElem?] at h
  rw [← h]
  congr 1
  omega
def spTextOf (K : PySem.W.Frag) (C CS CR : Addr) : Sp := fun vs H Q E => ∃ (q : Addr) (sg : List Nat) (us : List V) (as : List Arc) (y x : V) (d : Option (List V)), vs = [.ref q, y, x] ∧ LoomAt C H q sg us as ∧ Thg K H x d ∧
  RowX K CS CR as H y d (fun g H' => ∀ row, d = some (nats row) → Rw as g row → Q (.str (SX.S (textR as row))) H') E
def spEndOf (K : PySem.W.Frag) (C CS CR : Addr) : Sp := fun vs H Q E => ∃ (q : Addr) (sg : List Nat) (us : List V) (as : List Arc) (y x : V) (d : Option (List V)), vs = [.ref q, y, x] ∧ LoomAt C H q sg us as ∧ Thg K H x d ∧
  RowX K CS CR as H y d (fun g H' => ∀ row, d = some (nats row) → Rw as g row → Q (.int (endR as g row : Nat)) H') E
section
variable {P : Program} {w : World} {K : PySem.W.Frag} {mg : Str → Option Value} {base : Heap}
theorem ok_text_ofX (T : Tx K mg) : FnOk P w K mg base (L2.CX P w) 5 T.f_text_of T.fd_text_of P_text_of (spTextOf K T.C_Loom T.C_UnknownState T.C_InvalidRow) := by
  have G_check_row : FnOk P w K mg base (L2.CX P w) 4 T.f_check_row T.fd_check_row P_check_row (spChkRow K T.C_Loom T.C_UnknownState T.C_InvalidRow) := ok_check_rowX T
  refine T.F_text_of.okX sc_text_of (fun vs H Q E h => ?_) (fun cdv A outer s H vs Q E hr h => ?_)
  · obtain ⟨q, sg, us, as, y, x, d, rfl, _⟩ := h
    rfl
  · obtain ⟨q, sg, us, as, y, x, d, rfl, hL, hx, h⟩ := h
    refine ⟨_, (pss_cons (ps_expr (pe_callS G_check_row (hr.mono (by decide)) rfl T.m_check_row T.F_check_row.kp T.b_check_row (fun σ => passAt (takes_of rfl rfl rfl rfl) σ) (pa_cons (pv 0) (pa_cons (pv 1) (pa_cons (pv 2) pa_nil)))))
        (pss_one (ps_ret (pe_join pe_str (pe_lc (own := [("number", 3)]) (g := (gName 3)) rfl sc_text_of.nd (pi_or (pi_list (pv 2)) (pi_tup (pv 2))) (blkOk_by (N := N_text_of) (sc := defScope s_text_of) (by decide +kernel)) (fun _ _ _ _ _ => (pg_name (i := 3) sc_text_of.nd rfl (Or.inl rfl))) (fun _ _ _ _ _ => pts_nil) (fun _ _ _ _ _ => (pe_ix (ix_tupK (K := K) rfl) (pe_ix (ix_tupK (K := K) rfl) (pe_fldK (K := K) rfl (pv 0) rfl) (pv 3) (fun _ _ => rfl)) pe_int (fun _ _ => rfl)))))))), ?_⟩
    refine ⟨_, rfl, _, rfl, _, rfl, q, sg, us, as, y, x, d, rfl, hL, hx, ?_⟩
    rcases h with hb | ⟨g, rfl, hg, ⟨e, k⟩ | hb⟩
    · exact .inl hb
    · refine .inr ⟨g, rfl, hg, .inl ⟨e, fun H1 s1 => ?_⟩⟩
      obtain ⟨row, rfl, hrw, hrl⟩ := fltV_row e
      replace k := fun H' sm => k H' sm row rfl hrw
      obtain ⟨dx, TT, hq, hT, harc, hok, hsg⟩ := hL.same s1
      cases hx with
      | @seq a _ hs hit hl =>
        rcases hs.same s1 with ha1 | ha1
        · refine ⟨⟨_, rfl⟩, .inl ⟨_, rfl, a, rfl, ⟨_, SqL.of ha1⟩, fun D hD => lc_list (K := K) (a := a) (xs := nats row) (fun i H' => H' D = some (.lst (((row.take i).map fun m => SX.S (wAt as m)).map V.str)) ∧ Same H1 H') ⟨upd_same, Same.new _ hD⟩ (fun i H' _ ⟨_, sm⟩ => SqL.of (sm _ _ ha1)) ?_ ?_⟩⟩
          · rintro i y H2 hy ⟨hDl, sm⟩
            obtain ⟨m, hm, rfl⟩ := nat_at hy
            have hi := (List.getElem?_eq_some_iff.mp hm).1
            have hml := hrw.lt m (List.mem_of_getElem? hm)
            obtain ⟨t, hut, htt⟩ := harc.2 m as[m] (List.getElem?_eq_getElem hml)
            refine ⟨rfl, _, rfl, q, _, dx, _, _, rfl, sm _ _ hq, T.cl_Loom, T.na_Loom_arcs, lf_arcs _ _, _, rfl, TT, us, _, _, rfl, rfl, SqT.of (sm _ _ hT), atI_nat hut, t, _, _, _, rfl, rfl, SqT.of (sm _ _ htt), rfl, _, hDl, lt_size (by rw [List.length_map, List.length_map, List.length_take]; omega), ?_, sm.updNew hD⟩
            rw [upd_same, ← take_snoc hm, List.map_append, List.map_append, ← wAt_at (List.getElem?_eq_getElem hml)]
            rfl
          · rintro H2 ⟨hDl, sm⟩
            rw [nats_len2, List.take_length] at hDl
            refine ⟨_, _, row.map fun m => SX.S (wAt as m), rfl, rfl, .inl (SqL.of hDl), ?_, ?_⟩
            · have z := texts_sum hok.2.2 row
              rw [emptyS, SX.S_len]
              simp only [List.length_nil, Nat.mul_zero, Nat.add_zero]
              omega
            · have e : row.map (fun m => SX.S (wAt as m)) = (row.map (wAt as)).map SX.S := by rw [List.map_map]; rfl
              rw [e, emptyS, join_flat]
              exact k _ (s1.trans sm)
        · refine ⟨⟨_, rfl⟩, .inr ⟨_, rfl, a, rfl, ⟨_, SqT.of ha1⟩, fun D hD => lc_tup (K := K) (a := a) (xs := nats row) (fun i H' => H' D = some (.lst (((row.take i).map fun m => SX.S (wAt as m)).map V.str)) ∧ Same H1 H') ⟨upd_same, Same.new _ hD⟩ (fun i H' _ ⟨_, sm⟩ => SqT.of (sm _ _ ha1)) ?_ ?_⟩⟩
          · rintro i y H2 hy ⟨hDl, sm⟩
            obtain ⟨m, hm, rfl⟩ := nat_at hy
            have hi := (List.getElem?_eq_some_iff.mp hm).1
            have hml := hrw.lt m (List.mem_of_getElem? hm)
            obtain ⟨t, hut, htt⟩ := harc.2 m as[m] (List.getElem?_eq_getElem hml)
            refine ⟨rfl, _, rfl, q, _, dx, _, _, rfl, sm _ _ hq, T.cl_Loom, T.na_Loom_arcs, lf_arcs _ _, _, rfl, TT, us, _, _, rfl, rfl, SqT.of (sm _ _ hT), atI_nat hut, t, _, _, _, rfl, rfl, SqT.of (sm _ _ htt), rfl, _, hDl, lt_size (by rw [List.length_map, List.length_map, List.length_take]; omega), ?_, sm.updNew hD⟩
            rw [upd_same, ← take_snoc hm, List.map_append, List.map_append, ← wAt_at (List.getElem?_eq_getElem hml)]
            rfl
          · rintro H2 ⟨hDl, sm⟩
            rw [nats_len2, List.take_length] at hDl
            refine ⟨_, _, row.map fun m => SX.S (wAt as m), rfl, rfl, .inl (SqL.of hDl), ?_, ?_⟩
            · have z := texts_sum hok.2.2 row
              rw [emptyS, SX.S_len]
              simp only [List.length_nil, Nat.mul_zero, Nat.add_zero]
              omega
            · have e : row.map (fun m => SX.S (wAt as m)) = (row.map (wAt as)).map SX.S := by rw [List.map_map]; rfl
              rw [e, emptyS, join_flat]
              exact k _ (s1.trans sm)
    · exact .inr ⟨g, rfl, hg, .inr hb⟩
theorem ok_end_ofX (T : Tx K mg) : FnOk P w K mg base (L2.CX P w) 5 T.f_end_of T.fd_end_of P_end_of (spEndOf K T.C_Loom T.C_UnknownState T.C_InvalidRow) := by
  have G_check_row : FnOk P w K mg base (L2.CX P w) 4 T.f_check_row T.fd_check_row P_check_row (spChkRow K T.C_Loom T.C_UnknownState T.C_InvalidRow) := ok_check_rowX T
  refine T.F_end_of.okX sc_end_of (fun vs H Q E h => ?_) (fun cdv A outer s H vs Q E hr h => ?_)
  · obtain ⟨q, sg, us, as, y, x, d, rfl, _⟩ := h
    rfl
  · obtain ⟨q, sg, us, as, y, x, d, rfl, hL, hx, h⟩ := h
    refine ⟨_, (pss_cons (ps_expr (pe_callS G_check_row (hr.mono (by decide)) rfl T.m_check_row T.F_check_row.kp T.b_check_row (fun σ => passAt (takes_of rfl rfl rfl rfl) σ) (pa_cons (pv 0) (pa_cons (pv 1) (pa_cons (pv 2) pa_nil)))))
        (pss_one (ps_ret (pe_ifExp (pt_truth (pv 2) (by intro _; rfl)) (pe_ix (ix_tupK (K := K) rfl) (pe_ix (ix_tupK (K := K) rfl) (pe_fld (pv 0) rfl) (pe_ix (ix_or (ix_listK (K := K) rfl) (ix_tupK (K := K) rfl)) (pv 2) (pe_un un_neg pe_int) (fun _ _ => rfl)) (fun _ _ => rfl)) pe_int (fun _ _ => rfl)) (pv 1))))), ?_⟩
    refine ⟨_, rfl, _, rfl, _, rfl, q, sg, us, as, y, x, d, rfl, hL, hx, ?_⟩
    rcases h with hb | ⟨g, rfl, hg, ⟨e, k⟩ | hb⟩
    · exact .inl hb
    · refine .inr ⟨g, rfl, hg, .inl ⟨e, fun H1 s1 => ?_⟩⟩
      obtain ⟨row, rfl, hrw, hrl⟩ := fltV_row e
      replace k := fun H' sm => k H' sm row rfl hrw
      obtain ⟨dx, TT, hq, hT, harc, hok, hsg⟩ := hL.same s1
      cases hx with
      | @seq a _ hs hit hl =>
        rcases hs.same s1 with ha1 | ha1
        · refine ⟨_, rfl, !(nats row).isEmpty, .inl ⟨_, SqL.of ha1, rfl⟩, ?_⟩
          refine ite2 (fun c => ?_) (fun c => ?_)
          · have hne : row ≠ [] := fun z => by subst z; cases c
            obtain ⟨m, hm⟩ : ∃ m, row.getLast? = some m := ⟨row.getLast hne, List.getLast?_eq_some_getLast hne⟩
            have hml := hrw.lt m (List.mem_of_getLast? hm)
            obtain ⟨t, hut, htt⟩ := harc.2 m as[m] (List.getElem?_eq_getElem hml)
            have hla : (nats row).getLast? = some (V.int (m : Nat)) := by rw [List.getLast?_map, hm]; rfl
            refine ⟨_, rfl, q, _, dx, _, _, rfl, hq, T.cl_Loom, T.na_Loom_arcs, lf_arcs _ _, _, rfl, _, rfl, .inl ⟨a, _, _, _, rfl, rfl, SqL.of ha1, at_last hla, ?_⟩⟩
            refine ⟨TT, us, _, _, rfl, rfl, SqT.of hT, atI_nat hut, t, _, _, _, rfl, rfl, SqT.of htt, rfl, ?_⟩
            have e : endR as g row = as[m].2.2 := by unfold endR; rw [hm]; dsimp only; rw [List.getElem?_eq_getElem hml]; rfl
            have z := k _ s1
            rw [e] at z
            exact z
          · have he : row = [] := by
              cases row with
              | nil => rfl
              | cons b r => exact absurd rfl c
            subst he
            exact ⟨_, rfl, k _ s1⟩
        · refine ⟨_, rfl, !(nats row).isEmpty, .inr (.inl ⟨_, SqT.of ha1, rfl⟩), ?_⟩
          refine ite2 (fun c => ?_) (fun c => ?_)
          · have hne : row ≠ [] := fun z => by subst z; cases c
            obtain ⟨m, hm⟩ : ∃ m, row.getLast? = some m := ⟨row.getLast hne, List.getLast?_eq_some_getLast hne⟩
            have hml := hrw.lt m (List.mem_of_getLast? hm)
            obtain ⟨t, hut, htt⟩ := harc.2 m as[m] (List.getElem?_eq_getElem hml)
            have hla : (nats row).getLast? = some (V.int (m : Nat)) := by rw [List.getLast?_map, hm]; rfl
            refine ⟨_, rfl, q, _, dx, _, _, rfl, hq, T.cl_Loom, T.na_Loom_arcs, lf_arcs _ _, _, rfl, _, rfl, .inr ⟨a, _, _, _, rfl, rfl, SqT.of ha1, at_last hla, ?_⟩⟩
            refine ⟨TT, us, _, _, rfl, rfl, SqT.of hT, atI_nat hut, t, _, _, _, rfl, rfl, SqT.of htt, rfl, ?_⟩
            have e : endR as g row = as[m].2.2 := by unfold endR; rw [hm]; dsimp only; rw [List.getElem?_eq_getElem hml]; rfl
            have z := k _ s1
            rw [e] at z
            exact z
          · have he : row = [] := by
              cases row with
              | nil => rfl
              | cons b r => exact absurd rfl c
            subst he
            exact ⟨_, rfl, k _ s1⟩
    · exact .inr ⟨g, rfl, hg, .inr hb⟩
end
end J


set_option Elab.async false
set_option linter.all false
set_option maxRecDepth 100000
set_option maxHeartbeats 4000000
namespace J
open PySem L2
theorem Rw.in {as : List Arc} {g : Nat} {row : List Nat} (h : Rw as g row) : ∀ m ∈ row, m < as.length := h.lt
theorem Rw.snoc {as : List Arc} {j : Nat} {a : Arc} (ha : as[j]? = some a) : ∀ {row : List Nat} {g : Nat}, Rw as g row → a.1 = endR as g row → Rw as g (row ++ [j])
  | [], g, _, e => ⟨a, ha, e, trivial⟩
  | n :: r, g, ⟨b, hb, e1, hr⟩, e => by
    refine ⟨b, hb, e1, Rw.snoc ha hr ?_⟩
    rw [e]
    cases r with
    | nil =>
      unfold endR
      rw [List.getLast?_singleton]
      dsimp only
      rw [hb]
      rfl
    | cons m r =>
      unfold endR
      rw [List.getLast?_cons_cons]
      obtain ⟨z, hz⟩ : ∃ z, (m :: r).getLast? = some z := ⟨_, List.getLast?_eq_some_getLast (by simp)⟩
      rw [hz]
theorem Rw.take {as : List Arc} : ∀ {row : List Nat} {g : Nat} (n : Nat), Rw as g row → Rw as g (row.take n)
  | _, _, 0, _ => by rw [List.take_zero]; trivial
  | [], _, n + 1, _ => trivial
  | m :: r, g, n + 1, ⟨a, ha, e, hr⟩ => ⟨a, ha, e, Rw.take n hr⟩
theorem textR_len {sg : List Nat} {as : List Arc} (h : OkW sg as) (row : List Nat) : (textR as row).length ≤ 12 * row.length := by
  have := texts_sum h.2.2 row
  unfold textR
  rw [List.length_flatten, List.map_map]
  rw [List.map_map] at this
  exact this
def spIntG (K : PySem.W.Frag) : Sp := fun vs H Q _ => ∃ x, vs = [x] ∧ It K H x ∧ ∀ b : Bool, (b = true ↔ ∃ i, x = .int i) → Q (.bl b) H
def spJoined : Sp := fun vs H Q _ => ∃ (a r : Addr) (sg : List Nat) (as : List Arc) (row : List Nat), vs = [.ref a, .ref r] ∧ ArcL H a as ∧ OkW sg as ∧ Seq H r (nats row) ∧ (∀ m ∈ row, m < as.length) ∧ row.length ≤ 10000 ∧
  ∀ H' : Hp, Same H H' → Q (.str (SX.S (textR as row))) H'
def spEnd : Sp := fun vs H Q _ => ∃ (a r : Addr) (as : List Arc) (g : Nat) (row : List Nat), vs = [.ref a, .int (g : Int), .ref r] ∧ ArcL H a as ∧ Seq H r (nats row) ∧ (∀ m ∈ row, m < as.length) ∧
  Q (.int (endR as g row : Nat)) H
def spWalk (ns : List Int) : Sp := fun vs H Q _ => ∃ (p l a : Addr) (sg : List Nat) (as : List Arc) (g : Nat) (m : Int), vs = [.ref p, .ref a, .int (g : Int), .int m] ∧ StAt ns l H p ∧ a ≠ p ∧ ArcL H a as ∧ OkW sg as ∧ 0 ≤ m ∧ m ≤ 10000 ∧
  ∀ (H' : Hp) (r : Addr) (row : List Nat), Ex p H H' → StAt ns l H' p → H r = none → r ≠ p → H' r = some (.lst (nats row)) → Rw as g row → row.length ≤ m.toNat → Q (.ref r) H'
def spFault (K : PySem.W.Frag) : Sp := fun vs H Q _ => ∃ (a : Addr) (sg : List Nat) (as : List Arc) (g : Nat) (x : V) (d : Option (List V)), vs = [.ref a, .int (g : Nat), x] ∧ ArcL H a as ∧ OkW sg as ∧ Thg K H x d ∧
  ∀ H', Same H H' → Q (fltV as g d) H'
theorem eqv_nil (ns : List Int) : (!PyData.eqv (.list (ns.map PyData.int)) (.list [])) = decide (ns ≠ []) := by
  cases ns with
  | nil => rfl
  | cons a r => rfl
theorem dp_ints {K : PySem.W.Frag} {H : Hp} : ∀ ns : List Int, DpAll K H (ns.map V.int) (ns.map PyData.int)
  | [] => .nil
  | n :: r => .cons (.int n) (dp_ints r)
theorem nats_map (l : List Nat) : nats l = (l.map fun n : Nat => (n : Int)).map V.int := by simp [nats, List.map_map, Function.comp_def]
section
variable {P : Program} {w : World} {K : PySem.W.Frag} {mg : Str → Option Value} {base : Heap}
theorem ok_l_is_integerG (T : Tx K mg) : FnOk P w K mg base CX0 1 T.f_l_is_integer T.fd_l_is_integer P_l_is_integer (spIntG K) := by
  refine T.F_l_is_integer.ok sc_l_is_integer (fun vs H Q E h => ?_) (fun cdv A outer s H vs Q E hr h => ?_)
  · obtain ⟨x, rfl, _⟩ := h
    rfl
  · obtain ⟨x, rfl, ho, k⟩ := h
    refine ⟨_, (pss_one (ps_ret (pe_and (pe_callB (call_isiZ (K := K) rfl) rfl T.n_isinstance (by decide +kernel) (pa_cons (pv 0) (pa_cons (pe_bltn (v := V.ty "int") (u := .type "int") rfl T.n_int (by decide +kernel) rfl) pa_nil))) (pe_one (pe_not (pe_callB (call_isiZ (K := K) rfl) rfl T.n_isinstance (by decide +kernel) (pa_cons (pv 0) (pa_cons (pe_bltn (v := V.ty "bool") (u := .type "bool") rfl T.n_bool (by decide +kernel) rfl) pa_nil)))))))), ?_⟩
    cases ho with
    | other h n ni => exact ⟨_, rfl, _, _, _, _, false, rfl, .ty "int", h, n, false, rfl, k false ⟨fun z => Bool.noConfusion z, fun ⟨i, e⟩ => absurd e (ni i)⟩⟩
    | bl b =>
      refine ⟨_, rfl, _, _, _, _, true, rfl, .ty "int", .x (.base (.bl b)), kit_ty (by decide +kernel), true, rfl, ?_⟩
      exact ⟨_, rfl, _, _, _, _, true, rfl, .ty "bool", .x (.base (.bl b)), kit_ty (by decide +kernel), true, rfl, k _ ⟨fun z => Bool.noConfusion z, fun ⟨i, e⟩ => nomatch e⟩⟩
    | int i =>
      refine ⟨_, rfl, _, _, _, _, true, rfl, .ty "int", .x (.base (.int i)), kit_ty (by decide +kernel), true, rfl, ?_⟩
      exact ⟨_, rfl, _, _, _, _, false, rfl, .ty "bool", .x (.base (.int i)), kit_ty (by decide +kernel), false, rfl, k _ ⟨fun _ => ⟨i, rfl⟩, fun _ => rfl⟩⟩
theorem ok_l_joined (T : Tx K mg) : FnOk P w K mg base CX0 1 T.f_l_joined T.fd_l_joined P_l_joined spJoined := by
  refine T.F_l_joined.ok sc_l_joined (fun vs H Q E h => ?_) (fun cdv A outer s H vs Q E hr h => ?_)
  · obtain ⟨a, r, sg, as, row, rfl, _⟩ := h
    rfl
  · obtain ⟨a, r, sg, as, row, rfl, ⟨us, ha, harc⟩, hok, hs, hin, hl, k⟩ := h
    refine ⟨_, (pss_one (ps_ret (pe_join pe_str (pe_lc (own := [("_law_at", 2)]) (g := (gName 2)) rfl sc_l_joined.nd (pi_or (pi_list (pv 1)) (pi_tup (pv 1))) (blkOk_by (N := N_l_joined) (sc := defScope s_l_joined) (by decide +kernel)) (fun _ _ _ _ _ => (pg_name (i := 2) sc_l_joined.nd rfl (Or.inl rfl))) (fun _ _ _ _ _ => pts_nil) (fun _ _ _ _ _ => (pe_ix (ix_tupK (K := K) rfl) (pe_ix (ix_listK (K := K) rfl) (pv 0) (pv 2) (fun _ _ => rfl)) pe_int (fun _ _ => rfl))))))), ?_⟩
    rcases hs with hs | hs
    · refine ⟨⟨_, rfl⟩, .inl ⟨_, rfl, r, rfl, ⟨_, SqL.of hs⟩, fun D hD => lc_list (K := K) (a := r) (xs := nats row) (fun i H' => H' D = some (.lst (((row.take i).map fun m => SX.S (wAt as m)).map V.str)) ∧ Same H H') ⟨upd_same, Same.new _ hD⟩ (fun i H' _ ⟨_, sm⟩ => SqL.of (sm _ _ hs)) ?_ ?_⟩⟩
      · rintro i y H2 hy ⟨hDl, sm⟩
        obtain ⟨m, hm, rfl⟩ := nat_at hy
        have hi := (List.getElem?_eq_some_iff.mp hm).1
        have hml := hin m (List.mem_of_getElem? hm)
        obtain ⟨t, hut, htt⟩ := harc.2 m as[m] (List.getElem?_eq_getElem hml)
        refine ⟨rfl, _, rfl, _, rfl, a, us, _, _, rfl, rfl, SqL.of (sm _ _ ha), atI_nat hut, t, _, _, _, rfl, rfl, SqT.of (sm _ _ htt), rfl, _, hDl, lt_size (by rw [List.length_map, List.length_map, List.length_take]; omega), ?_, sm.updNew hD⟩
        rw [upd_same, ← take_snoc hm, List.map_append, List.map_append, ← wAt_at (List.getElem?_eq_getElem hml)]
        rfl
      · rintro H2 ⟨hDl, sm⟩
        rw [nats_len2, List.take_length] at hDl
        refine ⟨_, _, row.map fun m => SX.S (wAt as m), rfl, rfl, .inl (SqL.of hDl), ?_, ?_⟩
        · have z := texts_sum hok.2.2 row
          rw [emptyS, SX.S_len]
          simp only [List.length_nil, Nat.mul_zero, Nat.add_zero]
          omega
        · have e : row.map (fun m => SX.S (wAt as m)) = (row.map (wAt as)).map SX.S := by rw [List.map_map]; rfl
          rw [e, emptyS, join_flat]
          exact k _ sm
    · refine ⟨⟨_, rfl⟩, .inr ⟨_, rfl, r, rfl, ⟨_, SqT.of hs⟩, fun D hD => lc_tup (K := K) (a := r) (xs := nats row) (fun i H' => H' D = some (.lst (((row.take i).map fun m => SX.S (wAt as m)).map V.str)) ∧ Same H H') ⟨upd_same, Same.new _ hD⟩ (fun i H' _ ⟨_, sm⟩ => SqT.of (sm _ _ hs)) ?_ ?_⟩⟩
      · rintro i y H2 hy ⟨hDl, sm⟩
        obtain ⟨m, hm, rfl⟩ := nat_at hy
        have hi := (List.getElem?_eq_some_iff.mp hm).1
        have hml := hin m (List.mem_of_getElem? hm)
        obtain ⟨t, hut, htt⟩ := harc.2 m as[m] (List.getElem?_eq_getElem hml)
        refine ⟨rfl, _, rfl, _, rfl, a, us, _, _, rfl, rfl, SqL.of (sm _ _ ha), atI_nat hut, t, _, _, _, rfl, rfl, SqT.of (sm _ _ htt), rfl, _, hDl, lt_size (by rw [List.length_map, List.length_map, List.length_take]; omega), ?_, sm.updNew hD⟩
        rw [upd_same, ← take_snoc hm, List.map_append, List.map_append, ← wAt_at (List.getElem?_eq_getElem hml)]
        rfl
      · rintro H2 ⟨hDl, sm⟩
        rw [nats_len2, List.take_length] at hDl
        refine ⟨_, _, row.map fun m => SX.S (wAt as m), rfl, rfl, .inl (SqL.of hDl), ?_, ?_⟩
        · have z := texts_sum hok.2.2 row
          rw [emptyS, SX.S_len]
          simp only [List.length_nil, Nat.mul_zero, Nat.add_zero]
          omega
        · have e : row.map (fun m => SX.S (wAt as m)) = (row.map (wAt as)).map SX.S := by rw [List.map_map]; rfl
          rw [e, emptyS, join_flat]
          exact k _ sm
theorem ok_l_end (T : Tx K mg) : FnOk P w K mg base CX0 1 T.f_l_end T.fd_l_end P_l_end spEnd := by
  refine T.F_l_end.ok sc_l_end (fun vs H Q E h => ?_) (fun cdv A outer s H vs Q E hr h => ?_)
  · obtain ⟨a, r, as, g, row, rfl, _⟩ := h
    rfl
  · obtain ⟨a, r, as, g, row, rfl, ⟨us, ha, harc⟩, hs, hin, k⟩ := h
    refine ⟨_, (pss_one (ps_ret (pe_ifExp (pt_cmpR op_gt (pe_callB (call_len_seqK (K := K) rfl) rfl T.n_len (by decide +kernel) (pa_cons (pv 2) pa_nil)) pe_int (nomark _)) (pe_ix (ix_tupK (K := K) rfl) (pe_ix (ix_listK (K := K) rfl) (pv 0) (pe_ix (ix_or (ix_listK (K := K) rfl) (ix_tupK (K := K) rfl)) (pv 2) (pe_un un_neg pe_int) (fun _ _ => rfl)) (fun _ _ => rfl)) pe_int (fun _ _ => rfl)) (pv 1)))), ?_⟩
    rcases hs with hs | hs
    · refine ⟨_, rfl, r, _, rfl, .inl (SqL.of hs), _, _, rfl, rfl, _, rfl, ?_⟩
      refine ite2 (fun c => ?_) (fun c => ?_)
      · have hne : row ≠ [] := fun z => by subst z; exact absurd (of_decide_eq_true c) (by decide)
        obtain ⟨m, hm⟩ : ∃ m, row.getLast? = some m := ⟨row.getLast hne, List.getLast?_eq_some_getLast hne⟩
        have hml := hin m (List.mem_of_getLast? hm)
        obtain ⟨t, hut, htt⟩ := harc.2 m as[m] (List.getElem?_eq_getElem hml)
        have hla : (nats row).getLast? = some (V.int (m : Nat)) := by rw [List.getLast?_map, hm]; rfl
        refine ⟨_, rfl, _, rfl, _, rfl, .inl ⟨r, _, _, _, rfl, rfl, SqL.of hs, at_last hla, ?_⟩⟩
        refine ⟨a, us, _, _, rfl, rfl, SqL.of ha, atI_nat hut, t, _, _, _, rfl, rfl, SqT.of htt, rfl, ?_⟩
        have e : endR as g row = as[m].2.2 := by unfold endR; rw [hm]; dsimp only; rw [List.getElem?_eq_getElem hml]; rfl
        rw [e] at k
        exact k
      · have he : row = [] := by
          cases row with
          | nil => rfl
          | cons b q => exact absurd (decide_eq_true (by simp [nats])) c
        subst he
        exact ⟨_, rfl, k⟩
    · refine ⟨_, rfl, r, _, rfl, .inr (SqT.of hs), _, _, rfl, rfl, _, rfl, ?_⟩
      refine ite2 (fun c => ?_) (fun c => ?_)
      · have hne : row ≠ [] := fun z => by subst z; exact absurd (of_decide_eq_true c) (by decide)
        obtain ⟨m, hm⟩ : ∃ m, row.getLast? = some m := ⟨row.getLast hne, List.getLast?_eq_some_getLast hne⟩
        have hml := hin m (List.mem_of_getLast? hm)
        obtain ⟨t, hut, htt⟩ := harc.2 m as[m] (List.getElem?_eq_getElem hml)
        have hla : (nats row).getLast? = some (V.int (m : Nat)) := by rw [List.getLast?_map, hm]; rfl
        refine ⟨_, rfl, _, rfl, _, rfl, .inr ⟨r, _, _, _, rfl, rfl, SqT.of hs, at_last hla, ?_⟩⟩
        refine ⟨a, us, _, _, rfl, rfl, SqL.of ha, atI_nat hut, t, _, _, _, rfl, rfl, SqT.of htt, rfl, ?_⟩
        have e : endR as g row = as[m].2.2 := by unfold endR; rw [hm]; dsimp only; rw [List.getElem?_eq_getElem hml]; rfl
        rw [e] at k
        exact k
      · have he : row = [] := by
          cases row with
          | nil => rfl
          | cons b q => exact absurd (decide_eq_true (by simp [nats])) c
        subst he
        exact ⟨_, rfl, k⟩
theorem ok_l_walk (T : Tx K mg) (ns : List Int) : FnOk P w K mg base CX0 2 T.f_l_walk T.fd_l_walk P_l_walk (spWalk ns) := by
  have G_l_draw : FnOk P w K mg base CX0 1 T.f_l_draw T.fd_l_draw P_l_draw (spDraw ns) := ok_l_draw T ns
  have G_l_leaving : FnOk P w K mg base CX0 1 T.f_l_leaving T.fd_l_leaving P_l_leaving spLeaving := ok_l_leaving T
  have G_l_end : FnOk P w K mg base CX0 1 T.f_l_end T.fd_l_end P_l_end spEnd := ok_l_end T
  refine T.F_l_walk.ok sc_l_walk (fun vs H Q E h => ?_) (fun cdv A outer s H vs Q E hr h => ?_)
  · obtain ⟨p, l, a, sg, as, g, m, rfl, _⟩ := h
    rfl
  · obtain ⟨p, l, a, sg, as, g, m, rfl, hst, nap, harc, hok, hm0, hm1, k⟩ := h
    refine ⟨_, (pss_cons (ps_set (i := 4) sc_l_walk.nd rfl (Or.inl rfl) (pe_lst pa_nil))
        (pss_cons (ps_for PassesOwn.never rfl (pi_range1 rfl T.n_range (pa_cons (pv 3) pa_nil)) (pg_name (i := 5) sc_l_walk.nd rfl (Or.inl rfl)) (pss_cons (ps_set (i := 6) sc_l_walk.nd rfl (Or.inl rfl) (pe_call G_l_leaving (hr.mono (by decide)) rfl T.m_l_leaving T.F_l_leaving.kp T.b_l_leaving .nil pass0 (pa_cons (pv 1) (pa_cons (pe_call G_l_end (hr.mono (by decide)) rfl T.m_l_end T.F_l_end.kp T.b_l_end .nil pass0 (pa_cons (pv 1) (pa_cons (pv 2) (pa_cons (pv 4) pa_nil)))) pa_nil))))
        (pss_one (ps_if (pt_cmpR (op_neD hr.units) (pv 6) (pe_lst pa_nil) (nomark _)) (pss_one (ps_expr (pe_bm PySem.F.plainAttrs_list PySem.F.slot_list_append PySem.F.type_list_append mt_append (pv 4) (pa_cons (pe_ix (ix_listK (K := K) rfl) (pv 6) (pe_call G_l_draw (hr.mono (by decide)) rfl T.m_l_draw T.F_l_draw.kp T.b_l_draw .nil pass0 (pa_cons (pv 0) (pa_cons (pe_callB (call_len_seqK (K := K) rfl) rfl T.n_len (by decide +kernel) (pa_cons (pv 6) pa_nil)) pa_nil))) (fun _ _ => rfl)) pa_nil)))) pss_nil))))
        (pss_one (ps_ret (pv 4))))), ?_⟩
    refine ⟨Nat.zero_le _, fun r hr0 => ?_⟩
    have nr := hst.ne hr0
    have sr := Same.new (.lst []) hr0
    have hra : r ≠ a := by
      obtain ⟨us, h1, _⟩ := harc
      exact hp_ne h1 hr0
    refine ⟨_, rfl, _, rfl, by omega, by omega, for_range (lo := 0) (n := m.toNat) (fun i σ H' => ∃ (row : List Nat) (v5 v6 : Option V), σ = [some (.ref p), some (.ref a), some (.int (g : Int)), some (.int m), some (.ref r), v5, v6] ∧ row.length ≤ i ∧ Rw as g row ∧ H' r = some (.lst (nats row)) ∧ Ex p H H' ∧ StAt ns l H' p) ?_ ?_ ?_⟩
    · exact ⟨[], none, none, rfl, Nat.le_refl _, trivial, upd_same, Same.ex sr, hst.same sr⟩
    · rintro i σ H1 hi ⟨row, v5, v6, rfl, hl, hin, hrow, x1, st1⟩
      have arc1 : ArcL H1 a as := harc.ex hst x1 nap
      refine ⟨_, rfl, _, rfl, _, rfl, _, rfl, a, r, as, g, row, rfl, arc1, .inl hrow, hin.lt, ?_⟩
      refine ⟨a, as, _, rfl, arc1, (by have := hok.2.1; omega), fun H2 gl s2 hgl hgls => ?_⟩
      have st2 := st1.same s2
      have ngl := st1.ne hgl
      have hrow2 := s2 _ _ hrow
      refine ⟨_, rfl, Nat.zero_le _, fun e he => ?_⟩
      have s3 := Same.new (.lst []) he
      refine ⟨_, _, .lst (SqL.of (s3 _ _ hgls)) (by rw [nats_map]; exact dp_ints _), .lst (SqL.of upd_same) .nil, PySem.W.ke_shaped_ints _, PySem.W.ke_shaped_ints [], _, rfl, ?_⟩
      rw [eqv_nil]
      have st3 := st2.same s3
      have x3 : Ex p H _ := x1.trans ((Same.ex s2).trans (Same.ex s3))
      refine ite2 (fun c => ?_) (fun c => ?_)
      · have c1 := of_decide_eq_true c
        have hgl0 : 0 < (leav as (endR as g row)).length := by
          cases e : leav as (endR as g row) with
          | nil => rw [e] at c1; exact absurd rfl c1
          | cons x y => simp
        have hgl1 : (leav as (endR as g row)).length ≤ 100000 := Nat.le_trans (leavTo_len _ _ _) (by have := hok.2.1; omega)
        refine ⟨_, rfl, .inl ⟨rfl, _, SqL.of (s3 _ _ hrow2)⟩, _, rfl, _, rfl, _, rfl, gl, _, rfl, .inl (SqL.of (s3 _ _ hgls)), p, l, _, rfl, st3, by rw [List.length_map]; omega, by rw [List.length_map]; omega, fun H4 r4 x4 st4 r40 r41 => ?_⟩
        rw [List.length_map] at r41
        obtain ⟨j, rfl⟩ := Int.eq_ofNat_of_zero_le r40
        have hj : j < (leav as (endR as g row)).length := by exact_mod_cast r41
        refine ⟨gl, _, _, _, rfl, rfl, SqL.of (x4 _ _ ngl.1 (s3 _ _ hgls)), atI_nat (by rw [List.getElem?_map, List.getElem?_eq_getElem hj]; rfl), r, _, _, rfl, rfl, x4 _ _ nr.1 (s3 _ _ hrow2), lt_size (by rw [List.length_map]; omega), ?_⟩
        refine ⟨row ++ [(leav as (endR as g row))[j]], _, _, rfl, by simp; omega, ?_, by rw [upd_same]; simp [nats], (x3.trans x4).updNew hr0, st4.upd nr⟩
        obtain ⟨b, hb1, hb2⟩ := leav_mem (List.getElem_mem hj)
        exact hin.snoc hb1 hb2
      · exact ⟨row, _, _, rfl, by omega, hin, s3 _ _ hrow2, x3, st3⟩
    · rintro σ H1 ⟨row, v5, v6, rfl, hl, hin, hrow, x1, st1⟩
      exact ⟨_, rfl, k _ r row x1 st1 hr0 nr.1 hrow hin hl⟩
theorem ok_l_fault (T : Tx K mg) : FnOk P w K mg base CX0 2 T.f_l_fault T.fd_l_fault P_l_fault (spFault K) := by
  have G_l_is_integer : FnOk P w K mg base CX0 1 T.f_l_is_integer T.fd_l_is_integer P_l_is_integer (spIntG K) := ok_l_is_integerG T
  refine T.F_l_fault.ok sc_l_fault (fun vs H Q E h => ?_) (fun cdv A outer s H vs Q E hr h => ?_)
  · obtain ⟨a, sg, as, g, x, d, rfl, _⟩ := h
    rfl
  · obtain ⟨a, sg, as, g, x, d, rfl, ⟨us, ha, harc⟩, hok, ho, k⟩ := h
    refine ⟨_, (pss_cons (ps_if (PW.pt (pw_or (pt_not (pt_val (pe_callB (call_isiTZ (K := K) rfl) rfl T.n_isinstance (by decide +kernel) (pa_cons (pv 2) (pa_cons (pe_tup (pa_cons (pe_bltn (v := V.ty "list") (u := .type "list") rfl T.n_list (by decide +kernel) rfl) (pa_cons (pe_bltn (v := V.ty "tuple") (u := .type "tuple") rfl T.n_tuple (by decide +kernel) rfl) pa_nil))) pa_nil))))) (pw_or1 (pt_cmpR op_gt (pe_callB (call_len_seqK (K := K) rfl) rfl T.n_len (by decide +kernel) (pa_cons (pv 2) pa_nil)) pe_int (nomark _))))) (pss_one (ps_ret (pe_un un_neg pe_int))) pss_nil)
        (pss_cons (ps_for PassesOwn.never rfl (pi_range1 rfl T.n_range (pa_cons (pe_callB (call_len_seqK (K := K) rfl) rfl T.n_len (by decide +kernel) (pa_cons (pv 2) pa_nil)) pa_nil)) (pg_name (i := 3) sc_l_fault.nd rfl (Or.inl rfl)) (pss_cons (ps_set (i := 4) sc_l_fault.nd rfl (Or.inl rfl) (pe_ix (ix_or (ix_listK (K := K) rfl) (ix_tupK (K := K) rfl)) (pv 2) (pv 3) (fun _ _ => rfl)))
        (pss_cons (ps_if (PW.pt (pw_or (pt_not (pt_val (pe_call G_l_is_integer (hr.mono (by decide)) rfl T.m_l_is_integer T.F_l_is_integer.kp T.b_l_is_integer .nil pass0 (pa_cons (pv 4) pa_nil)))) (pw_or (pt_not (pt_chain op_le op_lt pe_int (pv 4) (pe_callB (call_len_seqK (K := K) rfl) rfl T.n_len (by decide +kernel) (pa_cons (pv 0) pa_nil)))) (pw_or1 (pt_cmpR op_ne (pe_ix (ix_tupK (K := K) rfl) (pe_ix (ix_listK (K := K) rfl) (pv 0) (pv 4) (fun _ _ => rfl)) pe_int (fun _ _ => rfl)) (pv 1) (nomark _)))))) (pss_one (ps_ret (pv 3))) pss_nil)
        (pss_one (ps_set (i := 1) sc_l_fault.nd rfl (Or.inl rfl) (pe_ix (ix_tupK (K := K) rfl) (pe_ix (ix_listK (K := K) rfl) (pv 0) (pv 4) (fun _ _ => rfl)) pe_int (fun _ _ => rfl)))))))
        (pss_one (ps_ret pe_non)))), ?_⟩
    refine ⟨_, rfl, le_size (by decide), fun t ht => ?_⟩
    have st := Same.new (.tup [V.ty "list", V.ty "tuple"]) ht
    have h200 := hok.2.1
    cases ho with
    | non h n =>
      exact ⟨_, _, _, _, [.type "list", .type "tuple"], false, rfl, upd_same, .cons (.ty _) (.cons (.ty _) .nil), TyZ_same h st, n, false, rfl, iteT (iteT ⟨_, rfl, k _ st⟩)⟩
    | @seq a0 xs hs hit hl =>
      have two : ∃ tv, TyZ K (upd H t (.tup [V.ty "list", V.ty "tuple"])) (.ref a0) tv ∧ PySem.W.kitAny K tv [.type "list", .type "tuple"] = some true := by
        rcases hs with ha | ha
        · exact ⟨_, .x (.base (.lst (st _ _ ha))), kitAny_cons (b := true) (kit_ty (by decide +kernel)) (fun q => nomatch q) (fun _ => rfl)⟩
        · exact ⟨_, .x (.base (.tup (st _ _ ha))), kitAny_cons (b := false) (kit_ty (by decide +kernel)) (fun _ => kitAny_cons (b := true) (kit_ty (by decide +kernel)) (fun q => nomatch q) (fun _ => rfl)) (fun q => nomatch q)⟩
      have one : SqL K (upd H t (.tup [V.ty "list", V.ty "tuple"])) a0 xs ∨ SqT K (upd H t (.tup [V.ty "list", V.ty "tuple"])) a0 xs := (hs.same st).elim (fun z => .inl (SqL.of z)) fun z => .inr (SqT.of z)
      obtain ⟨tv, htv, hkt⟩ := two
      refine ⟨_, _, _, _, [.type "list", .type "tuple"], true, rfl, upd_same, .cons (.ty _) (.cons (.ty _) .nil), htv, hkt, true, rfl, iteF ?_⟩
      have s1 : Same H (upd H t (.tup [V.ty "list", V.ty "tuple"])) := st
      generalize upd H t (.tup [V.ty "list", V.ty "tuple"]) = H1 at *
      refine ⟨_, rfl, a0, xs, rfl, one, _, _, rfl, rfl, _, rfl, ?_⟩
      refine ite2 (fun c => ?_) (fun c => ?_)
      · have c1 := of_decide_eq_true c
        have hx : ¬ xs.length ≤ 2000 := by omega
        refine ⟨_, rfl, ?_⟩
        have z := k H1 s1
        dsimp only [fltV] at z
        rw [if_neg hx] at z
        exact z
      · have hx : xs.length ≤ 2000 := by
          by_cases z : xs.length ≤ 2000
          · exact z
          · exact absurd (decide_eq_true (by omega)) c
        have kk : ∀ H', Same H H' → Q (match flt as g xs 0 with
            | none => V.non
            | some i => V.int (i : Nat)) H' := fun H' sm => by
          have z := k H' sm
          dsimp only [fltV] at z
          rw [if_pos hx] at z
          exact z
        rcases hs.same s1 with ha1 | ha1
        · refine ⟨_, rfl, a0, xs, rfl, .inl (SqL.of ha1), _, rfl, by omega, by omega, for_range (lo := 0) (n := xs.length) (fun i σ H' => ∃ (g' : Nat) (v3 v4 : Option V), σ = [some (.ref a), some (.int (g' : Nat)), some (.ref a0), v3, v4] ∧ flt as g xs 0 = flt as g' (xs.drop i) i ∧ Same H1 H') ⟨g, _, _, rfl, rfl, fun _ _ e => e⟩ ?_ ?_⟩
          · rintro i σ H3 hi ⟨g', v3, v4, rfl, hf, sn⟩
            have e0 : (0 : Int) + (i : Int) = (i : Int) := by omega
            have hd : xs.drop i = xs[i] :: xs.drop (i + 1) := List.drop_eq_getElem_cons hi
            rw [hd] at hf
            have hy : It K H3 xs[i] := ((hit _ (List.getElem_mem hi)).same s1).same sn
            have stop : fits as g' xs[i] = none → Q (.int (i : Nat)) H3 := fun e => by
              have z := kk H3 (s1.trans sn)
              rw [hf, flt_none e] at z
              exact z
            have hA3 := (s1.trans sn) _ _ ha
            have ul : (us.length : Int) = (as.length : Int) := by rw [harc.1]
            refine ⟨_, rfl, _, rfl, .inl ⟨a0, xs, _, _, rfl, rfl, SqL.of (sn _ _ ha1), by rw [e0]; exact atI_nat (List.getElem?_eq_getElem hi), ?_⟩⟩
            generalize xs[i] = y1 at *
            refine ⟨_, rfl, y1, rfl, hy, fun b hb => ⟨b, rfl, ?_⟩⟩
            cases b with
            | false =>
              refine iteT (iteT ?_)
              refine ⟨_, rfl, ?_⟩
              rw [e0]
              refine stop ?_
              unfold fits
              cases y1 with
              | int k => have := hb.mpr ⟨k, rfl⟩; cases this
              | _ => rfl
            | true =>
              obtain ⟨k, rfl⟩ := hb.mp rfl
              have bad : ¬ (0 ≤ k ∧ k < as.length) → Q (.int (i : Nat)) H3 := fun z => stop (by unfold fits; dsimp only; rw [if_neg z])
              refine iteF ?_
              refine ⟨_, rfl, _, _, rfl, rfl, _, rfl, ?_⟩
              refine ite2 (fun c => ?_) (fun c => ?_)
              · have k0 := of_decide_eq_true c
                obtain ⟨m, rfl⟩ := Int.eq_ofNat_of_zero_le k0
                refine ⟨_, rfl, a, us, rfl, .inl (SqL.of hA3), _, _, rfl, rfl, _, rfl, ?_⟩
                by_cases c2 : (m : Int) < (us.length : Int)
                · rw [decide_eq_true c2]
                  refine iteF ?_
                  have hm : m < as.length := by omega
                  obtain ⟨t, hut, htt⟩ := harc.2 m as[m] (List.getElem?_eq_getElem hm)
                  have ft : fits as g' (.int (m : Nat)) = if as[m].1 = g' then some as[m].2.2 else none := by
                    unfold fits
                    dsimp only
                    rw [if_pos ⟨by omega, by omega⟩, Int.toNat_natCast, List.getElem?_eq_getElem hm]
                  refine ⟨_, rfl, _, rfl, a, us, _, _, rfl, rfl, SqL.of hA3, atI_nat hut, t, _, _, _, rfl, rfl, SqT.of (s1.trans sn _ _ htt), rfl, _, rfl, rfl, _, rfl, ?_⟩
                  refine ite2 (fun c => ?_) (fun c => ?_)
                  · have ne : ¬ (as[m].1 = g') := fun z => by simp [z] at c
                    refine ⟨_, rfl, ?_⟩
                    rw [e0]
                    exact stop (by rw [ft, if_neg ne])
                  · have e : as[m].1 = g' := by
                      have z : ((as[m].1 : Nat) : Int) = (g' : Int) := by simpa using c
                      exact_mod_cast z
                    refine ⟨_, rfl, _, rfl, a, us, _, _, rfl, rfl, SqL.of hA3, atI_nat hut, t, _, _, _, rfl, rfl, SqT.of (s1.trans sn _ _ htt), rfl, ?_⟩
                    exact ⟨as[m].2.2, _, _, rfl, by rw [hf, flt_some (by rw [ft, if_pos e])], sn⟩
                · rw [decide_eq_false c2]
                  refine iteT (iteT ⟨_, rfl, ?_⟩)
                  rw [e0]
                  exact bad (fun z => c2 (by omega))
              · refine ⟨false, rfl, iteT (iteT ⟨_, rfl, ?_⟩)⟩
                rw [e0]
                exact bad (fun z => c (decide_eq_true z.1))
          · rintro σ H3 ⟨g', v4, v5, rfl, hf, s3⟩
            rw [List.drop_length] at hf
            have z := kk H3 (s1.trans s3)
            rw [hf] at z
            exact z
        · refine ⟨_, rfl, a0, xs, rfl, .inr (SqT.of ha1), _, rfl, by omega, by omega, for_range (lo := 0) (n := xs.length) (fun i σ H' => ∃ (g' : Nat) (v3 v4 : Option V), σ = [some (.ref a), some (.int (g' : Nat)), some (.ref a0), v3, v4] ∧ flt as g xs 0 = flt as g' (xs.drop i) i ∧ Same H1 H') ⟨g, _, _, rfl, rfl, fun _ _ e => e⟩ ?_ ?_⟩
          · rintro i σ H3 hi ⟨g', v3, v4, rfl, hf, sn⟩
            have e0 : (0 : Int) + (i : Int) = (i : Int) := by omega
            have hd : xs.drop i = xs[i] :: xs.drop (i + 1) := List.drop_eq_getElem_cons hi
            rw [hd] at hf
            have hy : It K H3 xs[i] := ((hit _ (List.getElem_mem hi)).same s1).same sn
            have stop : fits as g' xs[i] = none → Q (.int (i : Nat)) H3 := fun e => by
              have z := kk H3 (s1.trans sn)
              rw [hf, flt_none e] at z
              exact z
            have hA3 := (s1.trans sn) _ _ ha
            have ul : (us.length : Int) = (as.length : Int) := by rw [harc.1]
            refine ⟨_, rfl, _, rfl, .inr ⟨a0, xs, _, _, rfl, rfl, SqT.of (sn _ _ ha1), by rw [e0]; exact atI_nat (List.getElem?_eq_getElem hi), ?_⟩⟩
            generalize xs[i] = y1 at *
            refine ⟨_, rfl, y1, rfl, hy, fun b hb => ⟨b, rfl, ?_⟩⟩
            cases b with
            | false =>
              refine iteT (iteT ?_)
              refine ⟨_, rfl, ?_⟩
              rw [e0]
              refine stop ?_
              unfold fits
              cases y1 with
              | int k => have := hb.mpr ⟨k, rfl⟩; cases this
              | _ => rfl
            | true =>
              obtain ⟨k, rfl⟩ := hb.mp rfl
              have bad : ¬ (0 ≤ k ∧ k < as.length) → Q (.int (i : Nat)) H3 := fun z => stop (by unfold fits; dsimp only; rw [if_neg z])
              refine iteF ?_
              refine ⟨_, rfl, _, _, rfl, rfl, _, rfl, ?_⟩
              refine ite2 (fun c => ?_) (fun c => ?_)
              · have k0 := of_decide_eq_true c
                obtain ⟨m, rfl⟩ := Int.eq_ofNat_of_zero_le k0
                refine ⟨_, rfl, a, us, rfl, .inl (SqL.of hA3), _, _, rfl, rfl, _, rfl, ?_⟩
                by_cases c2 : (m : Int) < (us.length : Int)
                · rw [decide_eq_true c2]
                  refine iteF ?_
                  have hm : m < as.length := by omega
                  obtain ⟨t, hut, htt⟩ := harc.2 m as[m] (List.getElem?_eq_getElem hm)
                  have ft : fits as g' (.int (m : Nat)) = if as[m].1 = g' then some as[m].2.2 else none := by
                    unfold fits
                    dsimp only
                    rw [if_pos ⟨by omega, by omega⟩, Int.toNat_natCast, List.getElem?_eq_getElem hm]
                  refine ⟨_, rfl, _, rfl, a, us, _, _, rfl, rfl, SqL.of hA3, atI_nat hut, t, _, _, _, rfl, rfl, SqT.of (s1.trans sn _ _ htt), rfl, _, rfl, rfl, _, rfl, ?_⟩
                  refine ite2 (fun c => ?_) (fun c => ?_)
                  · have ne : ¬ (as[m].1 = g') := fun z => by simp [z] at c
                    refine ⟨_, rfl, ?_⟩
                    rw [e0]
                    exact stop (by rw [ft, if_neg ne])
                  · have e : as[m].1 = g' := by
                      have z : ((as[m].1 : Nat) : Int) = (g' : Int) := by simpa using c
                      exact_mod_cast z
                    refine ⟨_, rfl, _, rfl, a, us, _, _, rfl, rfl, SqL.of hA3, atI_nat hut, t, _, _, _, rfl, rfl, SqT.of (s1.trans sn _ _ htt), rfl, ?_⟩
                    exact ⟨as[m].2.2, _, _, rfl, by rw [hf, flt_some (by rw [ft, if_pos e])], sn⟩
                · rw [decide_eq_false c2]
                  refine iteT (iteT ⟨_, rfl, ?_⟩)
                  rw [e0]
                  exact bad (fun z => c2 (by omega))
              · refine ⟨false, rfl, iteT (iteT ⟨_, rfl, ?_⟩)⟩
                rw [e0]
                exact bad (fun z => c (decide_eq_true z.1))
          · rintro σ H3 ⟨g', v4, v5, rfl, hf, s3⟩
            rw [List.drop_length] at hf
            have z := kk H3 (s1.trans s3)
            rw [hf] at z
            exact z
end
end J


set_option Elab.async false
set_option linter.all false
set_option maxRecDepth 100000
set_option maxHeartbeats 4000000
namespace J
open PySem L2
/-- a drawn thing: no state, and a thing that can be asked about -/
def OddAt (K : PySem.W.Frag) (H : Hp) (x : V) (d : Option (List V)) : Prop := BadSt K H x ∧ Thg K H x d
def OddP (K : PySem.W.Frag) (p : Addr) (H : Hp) (x : V) : Prop := ∃ d, ∀ H', Ex p H H' → OddAt K H' x d
def ThgP (K : PySem.W.Frag) (p : Addr) (H : Hp) (x : V) (d : Option (List V)) : Prop := ∀ H', Ex p H H' → Thg K H' x d
theorem OddP.ex {K : PySem.W.Frag} {p : Addr} {H H' : Hp} {x : V} (h : OddP K p H x) (s : Ex p H H') : OddP K p H' x := by
  obtain ⟨d, h⟩ := h
  exact ⟨d, fun H2 x2 => h H2 (s.trans x2)⟩
theorem ThgP.ex {K : PySem.W.Frag} {p : Addr} {H H' : Hp} {x : V} {d : Option (List V)} (h : ThgP K p H x d) (s : Ex p H H') : ThgP K p H' x d := fun H2 x2 => h H2 (s.trans x2)
theorem ThgP.now {K : PySem.W.Frag} {p : Addr} {H : Hp} {x : V} {d : Option (List V)} (h : ThgP K p H x d) : Thg K H x d := h H (Same.ex (Same.refl H))
theorem AllOddP.nil {K : PySem.W.Frag} {p : Addr} {H : Hp} : ∀ v ∈ ([] : List V), OddP K p H v := fun x hx => nomatch hx
theorem AllOddP.cons {K : PySem.W.Frag} {p : Addr} {H : Hp} {x : V} {xs : List V} (h : OddP K p H x) (t : ∀ v ∈ xs, OddP K p H v) : ∀ v ∈ (x :: xs), OddP K p H v := fun y hy => by
  rcases List.mem_cons.mp hy with rfl | h'
  · exact h
  · exact t y h'
theorem AllIt.nil {K : PySem.W.Frag} {H : Hp} : ∀ v ∈ ([] : List V), It K H v := fun x hx => nomatch hx
theorem AllIt.cons {K : PySem.W.Frag} {H : Hp} {x : V} {xs : List V} (h : It K H x) (t : ∀ v ∈ xs, It K H v) : ∀ v ∈ (x :: xs), It K H v := fun y hy => by
  rcases List.mem_cons.mp hy with rfl | h'
  · exact h
  · exact t y h'
theorem kit_cls {K : PySem.W.Frag} {C : Addr} {s : String} (hm : PySem.W.kitMeta s = true) (h : PySem.W.subIn K (.ref C) (.type s) = some false) : PySem.W.kitOne K (.ref C) (.type s) = some false := by
  unfold PySem.W.kitOne
  have e : ¬ ((Value.ref C == Value.type s) = true) := fun z => nomatch (eq_of_beq z)
  rw [if_neg e]
  show (if PySem.W.kitMeta s = true then PySem.W.subIn K (.ref C) (.type s) else none) = some false
  rw [if_pos hm]
  exact h
theorem kit_no {K : PySem.W.Frag} {t : Value} (h1 : PySem.W.kitOne K t (.type "list") = some false) (h2 : PySem.W.kitOne K t (.type "tuple") = some false) : PySem.W.kitAny K t [.type "list", .type "tuple"] = some false :=
  kitAny_cons (b := false) h1 (fun _ => kitAny_cons (b := false) h2 (fun _ => rfl) (fun q => nomatch q)) (fun q => nomatch q)
def spOdd (K : PySem.W.Frag) (ns : List Int) : Sp := fun vs H Q _ => ∃ (p l : Addr), vs = [.ref p] ∧ StAt ns l H p ∧ ∀ (H' : Hp) (x : V), Ex p H H' → StAt ns l H' p → OddP K p H' x → Q x H'
theorem arcs_one {H : Hp} {t : Addr} (h : H t = some (.tup [V.int 0, V.str "a", V.int 0])) : Arcs H [V.ref t] [(0, [97], 0)] := by
  refine ⟨rfl, fun i a e => ?_⟩
  cases i with
  | zero => cases e; exact ⟨t, rfl, h⟩
  | succ j => simp at e
theorem okw_one : OkW [97] [(0, [97], 0)] := by
  refine ⟨by decide, by decide, fun a ha => ?_⟩
  rw [List.mem_singleton.mp ha]
  exact ⟨by decide, ⟨by decide, by decide, by decide⟩, by decide⟩
theorem sig_one : Signs [97] := by unfold Signs; decide
section
variable {P : Program} {w : World} {K : PySem.W.Frag} {mg : Str → Option Value} {base : Heap}
theorem ok_l_odd (T : Tx K mg) (ns : List Int) : FnOk P w K mg base CX0 6 T.f_l_odd T.fd_l_odd P_l_odd (spOdd K ns) := by
  have G_l_draw : FnOk P w K mg base CX0 1 T.f_l_draw T.fd_l_draw P_l_draw (spDraw ns) := ok_l_draw T ns
  have G_Loom_init : FnOk P w K mg base CX0 4 T.f_Loom_init T.fd_Loom_init P_Loom_init (spInit T.C_Loom) := ok_Loom_init T
  refine T.F_l_odd.ok sc_l_odd (fun vs H Q E h => ?_) (fun cdv A outer s H vs Q E hr h => ?_)
  · obtain ⟨p, l, rfl, _⟩ := h
    rfl
  · obtain ⟨p, l, rfl, hst, k⟩ := h
    refine ⟨_, (pss_cons (ps_set (i := 1) sc_l_odd.nd rfl (Or.inl rfl) (pe_lst (pa_cons pe_non (pa_cons pe_bl (pa_cons pe_bl (pa_cons (pe_un un_neg pe_int) (pa_cons pe_int (pa_cons pe_str (pa_cons pe_str (pa_cons pe_str (pa_cons (pe_tup pa_nil) (pa_cons (pe_lst pa_nil) (pa_cons pe_dnewK (pa_cons (pe_lst (pa_cons (pe_lst (pa_cons pe_int pa_nil)) pa_nil)) (pa_cons (pe_tup (pa_cons pe_int (pa_cons pe_int (pa_cons pe_int pa_nil)))) (pa_cons (pe_disp (pps_cons pe_str pe_int pps_nil) rfl rfl (by simp) (by decide)) (pa_cons (pe_lst (pa_cons pe_non pa_nil)) (pa_cons (pe_tup (pa_cons pe_str pa_nil)) (pa_cons (pe_op op_pow pe_int pe_int) pa_nil)))))))))))))))))))
        (pss_cons (ps_set (i := 1) sc_l_odd.nd rfl (Or.inl rfl) (pe_op op_cat (pv 1) (pe_lst (pa_cons (pe_make T.M_Loom G_Loom_init (hr.mono (by decide)) rfl T.g_Loom T.b_Loom_init .nil pass0 (pa_cons pe_str (pa_cons (pe_lst (pa_cons (pe_tup (pa_cons pe_int (pa_cons pe_str (pa_cons pe_int pa_nil)))) pa_nil)) pa_nil))) (pa_cons (pe_lst (pa_cons (pe_make T.M_Loom G_Loom_init (hr.mono (by decide)) rfl T.g_Loom T.b_Loom_init .nil pass0 (pa_cons pe_str (pa_cons (pe_lst (pa_cons (pe_tup (pa_cons pe_int (pa_cons pe_str (pa_cons pe_int pa_nil)))) pa_nil)) pa_nil))) pa_nil)) (pa_cons (pe_InvalidLoom (k := 3) T.X_InvalidLoom (hr.mono (by decide)) (pa_cons pe_str (pa_cons (pe_un un_neg pe_int) pa_nil))) (pa_cons pe_str (pa_cons pe_str (pa_cons (pe_lst (pa_cons (pe_lst (pa_cons (pe_lst (pa_cons (pe_lst pa_nil) pa_nil)) pa_nil)) pa_nil)) pa_nil)))))))))
        (pss_one (ps_ret (pe_ix (ix_listK (K := K) rfl) (pv 1) (pe_call G_l_draw (hr.mono (by decide)) rfl T.m_l_draw T.F_l_draw.kp T.b_l_draw .nil pass0 (pa_cons (pv 0) (pa_cons (pe_callB (call_len_seqK (K := K) rfl) rfl T.n_len (by decide +kernel) (pa_cons (pv 1) pa_nil)) pa_nil))) (fun _ _ => rfl)))))), ?_⟩
    refine ⟨_, rfl, ?_⟩
    have sm0 : Same H H := fun _ _ e => e
    refine ⟨le_size (by simp), fun a1 h1 => ?_⟩
    have p1 := ((hst.same sm0).ne h1).1
    have s1 : Same H (upd H a1 (HO.tup [])) := Same.new _ h1
    have g1 : upd H a1 (HO.tup []) a1 = some (HO.tup []) := upd_same
    generalize upd H a1 (HO.tup []) = H1 at *
    have sm1 : Same H H1 := sm0.trans s1
    refine ⟨le_size (by simp), fun a2 h2 => ?_⟩
    have p2 := ((hst.same sm1).ne h2).1
    have s2 : Same H1 (upd H1 a2 (HO.lst [])) := Same.new _ h2
    have g2 : upd H1 a2 (HO.lst []) a2 = some (HO.lst []) := upd_same
    generalize upd H1 a2 (HO.lst []) = H2 at *
    replace g1 := s2 _ _ g1
    have sm2 : Same H H2 := sm1.trans s2
    intro a3 h3
    have p3 := ((hst.same sm2).ne h3).1
    have s3 : Same H2 (upd H2 a3 (HO.dK [])) := Same.new _ h3
    have g3 : upd H2 a3 (HO.dK []) a3 = some (HO.dK []) := upd_same
    generalize upd H2 a3 (HO.dK []) = H3 at *
    replace g1 := s3 _ _ g1
    replace g2 := s3 _ _ g2
    have sm3 : Same H H3 := sm2.trans s3
    refine ⟨le_size (by simp), fun a4 h4 => ?_⟩
    have p4 := ((hst.same sm3).ne h4).1
    have s4 : Same H3 (upd H3 a4 (HO.lst [V.int 0])) := Same.new _ h4
    have g4 : upd H3 a4 (HO.lst [V.int 0]) a4 = some (HO.lst [V.int 0]) := upd_same
    generalize upd H3 a4 (HO.lst [V.int 0]) = H4 at *
    replace g1 := s4 _ _ g1
    replace g2 := s4 _ _ g2
    replace g3 := s4 _ _ g3
    have sm4 : Same H H4 := sm3.trans s4
    refine ⟨le_size (by simp), fun a5 h5 => ?_⟩
    have p5 := ((hst.same sm4).ne h5).1
    have s5 : Same H4 (upd H4 a5 (HO.lst [V.ref a4])) := Same.new _ h5
    have g5 : upd H4 a5 (HO.lst [V.ref a4]) a5 = some (HO.lst [V.ref a4]) := upd_same
    generalize upd H4 a5 (HO.lst [V.ref a4]) = H5 at *
    replace g1 := s5 _ _ g1
    replace g2 := s5 _ _ g2
    replace g3 := s5 _ _ g3
    replace g4 := s5 _ _ g4
    have sm5 : Same H H5 := sm4.trans s5
    refine ⟨le_size (by simp), fun a6 h6 => ?_⟩
    have p6 := ((hst.same sm5).ne h6).1
    have s6 : Same H5 (upd H5 a6 (HO.tup [V.int 0, V.int 1, V.int 2])) := Same.new _ h6
    have g6 : upd H5 a6 (HO.tup [V.int 0, V.int 1, V.int 2]) a6 = some (HO.tup [V.int 0, V.int 1, V.int 2]) := upd_same
    generalize upd H5 a6 (HO.tup [V.int 0, V.int 1, V.int 2]) = H6 at *
    replace g1 := s6 _ _ g1
    replace g2 := s6 _ _ g2
    replace g3 := s6 _ _ g3
    replace g4 := s6 _ _ g4
    replace g5 := s6 _ _ g5
    have sm6 : Same H H6 := sm5.trans s6
    intro a7 h7
    refine ⟨upd_same, [(.inr "a", V.int 1)], rfl, by decide, ?_⟩
    rw [upd_upd]
    have p7 := ((hst.same sm6).ne h7).1
    have s7 : Same H6 (upd H6 a7 (HO.dK (mergeK [] [(Sum.inr "a", V.int 1)]))) := Same.new _ h7
    have g7 : upd H6 a7 (HO.dK (mergeK [] [(Sum.inr "a", V.int 1)])) a7 = some (HO.dK (mergeK [] [(Sum.inr "a", V.int 1)])) := upd_same
    generalize upd H6 a7 (HO.dK (mergeK [] [(Sum.inr "a", V.int 1)])) = H7 at *
    replace g1 := s7 _ _ g1
    replace g2 := s7 _ _ g2
    replace g3 := s7 _ _ g3
    replace g4 := s7 _ _ g4
    replace g5 := s7 _ _ g5
    replace g6 := s7 _ _ g6
    have sm7 : Same H H7 := sm6.trans s7
    refine ⟨le_size (by simp), fun a8 h8 => ?_⟩
    have p8 := ((hst.same sm7).ne h8).1
    have s8 : Same H7 (upd H7 a8 (HO.lst [V.non])) := Same.new _ h8
    have g8 : upd H7 a8 (HO.lst [V.non]) a8 = some (HO.lst [V.non]) := upd_same
    generalize upd H7 a8 (HO.lst [V.non]) = H8 at *
    replace g1 := s8 _ _ g1
    replace g2 := s8 _ _ g2
    replace g3 := s8 _ _ g3
    replace g4 := s8 _ _ g4
    replace g5 := s8 _ _ g5
    replace g6 := s8 _ _ g6
    replace g7 := s8 _ _ g7
    have sm8 : Same H H8 := sm7.trans s8
    refine ⟨le_size (by simp), fun a9 h9 => ?_⟩
    have p9 := ((hst.same sm8).ne h9).1
    have s9 : Same H8 (upd H8 a9 (HO.tup [V.str "a"])) := Same.new _ h9
    have g9 : upd H8 a9 (HO.tup [V.str "a"]) a9 = some (HO.tup [V.str "a"]) := upd_same
    generalize upd H8 a9 (HO.tup [V.str "a"]) = H9 at *
    replace g1 := s9 _ _ g1
    replace g2 := s9 _ _ g2
    replace g3 := s9 _ _ g3
    replace g4 := s9 _ _ g4
    replace g5 := s9 _ _ g5
    replace g6 := s9 _ _ g6
    replace g7 := s9 _ _ g7
    replace g8 := s9 _ _ g8
    have sm9 : Same H H9 := sm8.trans s9
    refine ⟨_, _, rfl, rfl, ⟨by decide, by decide, by decide⟩, ?_⟩
    refine ⟨le_size (by simp), fun a10 h10 => ?_⟩
    dsimp only
    have p10 := ((hst.same sm9).ne h10).1
    have s10 : Same H9 (upd H9 a10 (HO.lst [V.non, V.bl true, V.bl false, V.int (-1), V.int 64, V.str "0", V.str "A", V.str "-", V.ref a1, V.ref a2, V.ref a3, V.ref a5, V.ref a6, V.ref a7, V.ref a8, V.ref a9, V.int (10 ^ (20 : Int).toNat)])) := Same.new _ h10
    have g10 : upd H9 a10 (HO.lst [V.non, V.bl true, V.bl false, V.int (-1), V.int 64, V.str "0", V.str "A", V.str "-", V.ref a1, V.ref a2, V.ref a3, V.ref a5, V.ref a6, V.ref a7, V.ref a8, V.ref a9, V.int (10 ^ (20 : Int).toNat)]) a10 = some (HO.lst [V.non, V.bl true, V.bl false, V.int (-1), V.int 64, V.str "0", V.str "A", V.str "-", V.ref a1, V.ref a2, V.ref a3, V.ref a5, V.ref a6, V.ref a7, V.ref a8, V.ref a9, V.int (10 ^ (20 : Int).toNat)]) := upd_same
    generalize upd H9 a10 (HO.lst [V.non, V.bl true, V.bl false, V.int (-1), V.int 64, V.str "0", V.str "A", V.str "-", V.ref a1, V.ref a2, V.ref a3, V.ref a5, V.ref a6, V.ref a7, V.ref a8, V.ref a9, V.int (10 ^ (20 : Int).toNat)]) = H10 at *
    replace g1 := s10 _ _ g1
    replace g2 := s10 _ _ g2
    replace g3 := s10 _ _ g3
    replace g4 := s10 _ _ g4
    replace g5 := s10 _ _ g5
    replace g6 := s10 _ _ g6
    replace g7 := s10 _ _ g7
    replace g8 := s10 _ _ g8
    replace g9 := s10 _ _ g9
    have sm10 : Same H H10 := sm9.trans s10
    refine ⟨_, rfl, ?_⟩
    refine ⟨le_size (by simp), fun a11 h11 => ?_⟩
    have p11 := ((hst.same sm10).ne h11).1
    have s11 : Same H10 (upd H10 a11 (HO.tup [V.int 0, V.str "a", V.int 0])) := Same.new _ h11
    have g11 : upd H10 a11 (HO.tup [V.int 0, V.str "a", V.int 0]) a11 = some (HO.tup [V.int 0, V.str "a", V.int 0]) := upd_same
    generalize upd H10 a11 (HO.tup [V.int 0, V.str "a", V.int 0]) = H11 at *
    replace g1 := s11 _ _ g1
    replace g2 := s11 _ _ g2
    replace g3 := s11 _ _ g3
    replace g4 := s11 _ _ g4
    replace g5 := s11 _ _ g5
    replace g6 := s11 _ _ g6
    replace g7 := s11 _ _ g7
    replace g8 := s11 _ _ g8
    replace g9 := s11 _ _ g9
    replace g10 := s11 _ _ g10
    have sm11 : Same H H11 := sm10.trans s11
    refine ⟨le_size (by simp), fun a12 h12 => ?_⟩
    have p12 := ((hst.same sm11).ne h12).1
    have s12 : Same H11 (upd H11 a12 (HO.lst [V.ref a11])) := Same.new _ h12
    have g12 : upd H11 a12 (HO.lst [V.ref a11]) a12 = some (HO.lst [V.ref a11]) := upd_same
    generalize upd H11 a12 (HO.lst [V.ref a11]) = H12 at *
    replace g1 := s12 _ _ g1
    replace g2 := s12 _ _ g2
    replace g3 := s12 _ _ g3
    replace g4 := s12 _ _ g4
    replace g5 := s12 _ _ g5
    replace g6 := s12 _ _ g6
    replace g7 := s12 _ _ g7
    replace g8 := s12 _ _ g8
    replace g9 := s12 _ _ g9
    replace g10 := s12 _ _ g10
    replace g11 := s12 _ _ g11
    have sm12 : Same H H12 := sm11.trans s12
    intro a13 dx13 h13 hd13 hne13
    have S13 : Same H12 (upd (upd H12 dx13 (.own a13)) a13 (.ins T.C_Loom dx13 [])) := (Same.new _ hd13).trans (Same.new _ (by rw [upd_ne hne13.symm]; exact h13))
    refine ⟨a13, dx13, a12, [97], [V.ref a11], [(0, [97], 0)], rfl, upd_same, S13 _ _ g12, arcs_one (S13 _ _ g11), okw_one, sig_one, fun H13 T13 x3 hT hTus g13 => ⟨rfl, ?_⟩⟩
    have s13 : Same H12 H13 := fun b o e => x3 _ _ (ne_of_none e h13) (S13 _ _ e)
    have p13 := ((hst.same sm12).ne h13).1
    clear x3 hT hTus S13 hd13 hne13
    have sm13 : Same H H13 := sm12.trans s13
    replace g1 := s13 _ _ g1
    replace g2 := s13 _ _ g2
    replace g3 := s13 _ _ g3
    replace g4 := s13 _ _ g4
    replace g5 := s13 _ _ g5
    replace g6 := s13 _ _ g6
    replace g7 := s13 _ _ g7
    replace g8 := s13 _ _ g8
    replace g9 := s13 _ _ g9
    replace g10 := s13 _ _ g10
    replace g11 := s13 _ _ g11
    replace g12 := s13 _ _ g12
    refine ⟨le_size (by simp), fun a14 h14 => ?_⟩
    have p14 := ((hst.same sm13).ne h14).1
    have s14 : Same H13 (upd H13 a14 (HO.tup [V.int 0, V.str "a", V.int 0])) := Same.new _ h14
    have g14 : upd H13 a14 (HO.tup [V.int 0, V.str "a", V.int 0]) a14 = some (HO.tup [V.int 0, V.str "a", V.int 0]) := upd_same
    generalize upd H13 a14 (HO.tup [V.int 0, V.str "a", V.int 0]) = H14 at *
    replace g1 := s14 _ _ g1
    replace g2 := s14 _ _ g2
    replace g3 := s14 _ _ g3
    replace g4 := s14 _ _ g4
    replace g5 := s14 _ _ g5
    replace g6 := s14 _ _ g6
    replace g7 := s14 _ _ g7
    replace g8 := s14 _ _ g8
    replace g9 := s14 _ _ g9
    replace g10 := s14 _ _ g10
    replace g11 := s14 _ _ g11
    replace g12 := s14 _ _ g12
    replace g13 := s14 _ _ g13
    have sm14 : Same H H14 := sm13.trans s14
    refine ⟨le_size (by simp), fun a15 h15 => ?_⟩
    have p15 := ((hst.same sm14).ne h15).1
    have s15 : Same H14 (upd H14 a15 (HO.lst [V.ref a14])) := Same.new _ h15
    have g15 : upd H14 a15 (HO.lst [V.ref a14]) a15 = some (HO.lst [V.ref a14]) := upd_same
    generalize upd H14 a15 (HO.lst [V.ref a14]) = H15 at *
    replace g1 := s15 _ _ g1
    replace g2 := s15 _ _ g2
    replace g3 := s15 _ _ g3
    replace g4 := s15 _ _ g4
    replace g5 := s15 _ _ g5
    replace g6 := s15 _ _ g6
    replace g7 := s15 _ _ g7
    replace g8 := s15 _ _ g8
    replace g9 := s15 _ _ g9
    replace g10 := s15 _ _ g10
    replace g11 := s15 _ _ g11
    replace g12 := s15 _ _ g12
    replace g13 := s15 _ _ g13
    replace g14 := s15 _ _ g14
    have sm15 : Same H H15 := sm14.trans s15
    intro a16 dx16 h16 hd16 hne16
    have S16 : Same H15 (upd (upd H15 dx16 (.own a16)) a16 (.ins T.C_Loom dx16 [])) := (Same.new _ hd16).trans (Same.new _ (by rw [upd_ne hne16.symm]; exact h16))
    refine ⟨a16, dx16, a15, [97], [V.ref a14], [(0, [97], 0)], rfl, upd_same, S16 _ _ g15, arcs_one (S16 _ _ g14), okw_one, sig_one, fun H16 T16 x3 hT hTus g16 => ⟨rfl, ?_⟩⟩
    have s16 : Same H15 H16 := fun b o e => x3 _ _ (ne_of_none e h16) (S16 _ _ e)
    have p16 := ((hst.same sm15).ne h16).1
    clear x3 hT hTus S16 hd16 hne16
    have sm16 : Same H H16 := sm15.trans s16
    replace g1 := s16 _ _ g1
    replace g2 := s16 _ _ g2
    replace g3 := s16 _ _ g3
    replace g4 := s16 _ _ g4
    replace g5 := s16 _ _ g5
    replace g6 := s16 _ _ g6
    replace g7 := s16 _ _ g7
    replace g8 := s16 _ _ g8
    replace g9 := s16 _ _ g9
    replace g10 := s16 _ _ g10
    replace g11 := s16 _ _ g11
    replace g12 := s16 _ _ g12
    replace g13 := s16 _ _ g13
    replace g14 := s16 _ _ g14
    replace g15 := s16 _ _ g15
    refine ⟨le_size (by simp), fun a17 h17 => ?_⟩
    have p17 := ((hst.same sm16).ne h17).1
    have s17 : Same H16 (upd H16 a17 (HO.lst [V.ref a16])) := Same.new _ h17
    have g17 : upd H16 a17 (HO.lst [V.ref a16]) a17 = some (HO.lst [V.ref a16]) := upd_same
    generalize upd H16 a17 (HO.lst [V.ref a16]) = H17 at *
    replace g1 := s17 _ _ g1
    replace g2 := s17 _ _ g2
    replace g3 := s17 _ _ g3
    replace g4 := s17 _ _ g4
    replace g5 := s17 _ _ g5
    replace g6 := s17 _ _ g6
    replace g7 := s17 _ _ g7
    replace g8 := s17 _ _ g8
    replace g9 := s17 _ _ g9
    replace g10 := s17 _ _ g10
    replace g11 := s17 _ _ g11
    replace g12 := s17 _ _ g12
    replace g13 := s17 _ _ g13
    replace g14 := s17 _ _ g14
    replace g15 := s17 _ _ g15
    replace g16 := s17 _ _ g16
    have sm17 : Same H H17 := sm16.trans s17
    refine ⟨_, rfl, ?_⟩
    refine ⟨_, _, rfl, fun a18 d18 h18 hd18 hde18 => ?_⟩
    dsimp only
    have s18 : Same H17 (upd (upd H17 d18 (.xd (fs_InvalidLoom (V.str "signs") (V.int (-1))))) a18 (ExD T.C_InvalidLoom d18 a18)) := (Same.new _ hd18).trans (Same.new _ (by rw [upd_ne hde18.symm]; exact h18))
    have g18 : (upd (upd H17 d18 (.xd (fs_InvalidLoom (V.str "signs") (V.int (-1))))) a18 (ExD T.C_InvalidLoom d18 a18)) a18 = some (ExD T.C_InvalidLoom d18 a18) := upd_same
    have gd : (upd (upd H17 d18 (.xd (fs_InvalidLoom (V.str "signs") (V.int (-1))))) a18 (ExD T.C_InvalidLoom d18 a18)) d18 = some (.xd (fs_InvalidLoom (V.str "signs") (V.int (-1)))) := by rw [upd_ne hde18]; exact upd_same
    have p18 := ((hst.same sm17).ne h18).1
    have pd := ((hst.same sm17).ne hd18).1
    generalize upd (upd H17 d18 (.xd (fs_InvalidLoom (V.str "signs") (V.int (-1))))) a18 (ExD T.C_InvalidLoom d18 a18) = H18 at *
    have sm18 : Same H H18 := sm17.trans s18
    replace g1 := s18 _ _ g1
    replace g2 := s18 _ _ g2
    replace g3 := s18 _ _ g3
    replace g4 := s18 _ _ g4
    replace g5 := s18 _ _ g5
    replace g6 := s18 _ _ g6
    replace g7 := s18 _ _ g7
    replace g8 := s18 _ _ g8
    replace g9 := s18 _ _ g9
    replace g10 := s18 _ _ g10
    replace g11 := s18 _ _ g11
    replace g12 := s18 _ _ g12
    replace g13 := s18 _ _ g13
    replace g14 := s18 _ _ g14
    replace g15 := s18 _ _ g15
    replace g16 := s18 _ _ g16
    replace g17 := s18 _ _ g17
    refine ⟨le_size (by simp), fun a19 h19 => ?_⟩
    have p19 := ((hst.same sm18).ne h19).1
    have s19 : Same H18 (upd H18 a19 (HO.lst [])) := Same.new _ h19
    have g19 : upd H18 a19 (HO.lst []) a19 = some (HO.lst []) := upd_same
    generalize upd H18 a19 (HO.lst []) = H19 at *
    replace g1 := s19 _ _ g1
    replace g2 := s19 _ _ g2
    replace g3 := s19 _ _ g3
    replace g4 := s19 _ _ g4
    replace g5 := s19 _ _ g5
    replace g6 := s19 _ _ g6
    replace g7 := s19 _ _ g7
    replace g8 := s19 _ _ g8
    replace g9 := s19 _ _ g9
    replace g10 := s19 _ _ g10
    replace g11 := s19 _ _ g11
    replace g12 := s19 _ _ g12
    replace g13 := s19 _ _ g13
    replace g14 := s19 _ _ g14
    replace g15 := s19 _ _ g15
    replace g16 := s19 _ _ g16
    replace g17 := s19 _ _ g17
    replace g18 := s19 _ _ g18
    have sm19 : Same H H19 := sm18.trans s19
    replace gd := s19 _ _ gd
    refine ⟨le_size (by simp), fun a20 h20 => ?_⟩
    have p20 := ((hst.same sm19).ne h20).1
    have s20 : Same H19 (upd H19 a20 (HO.lst [V.ref a19])) := Same.new _ h20
    have g20 : upd H19 a20 (HO.lst [V.ref a19]) a20 = some (HO.lst [V.ref a19]) := upd_same
    generalize upd H19 a20 (HO.lst [V.ref a19]) = H20 at *
    replace g1 := s20 _ _ g1
    replace g2 := s20 _ _ g2
    replace g3 := s20 _ _ g3
    replace g4 := s20 _ _ g4
    replace g5 := s20 _ _ g5
    replace g6 := s20 _ _ g6
    replace g7 := s20 _ _ g7
    replace g8 := s20 _ _ g8
    replace g9 := s20 _ _ g9
    replace g10 := s20 _ _ g10
    replace g11 := s20 _ _ g11
    replace g12 := s20 _ _ g12
    replace g13 := s20 _ _ g13
    replace g14 := s20 _ _ g14
    replace g15 := s20 _ _ g15
    replace g16 := s20 _ _ g16
    replace g17 := s20 _ _ g17
    replace g18 := s20 _ _ g18
    replace g19 := s20 _ _ g19
    have sm20 : Same H H20 := sm19.trans s20
    replace gd := s20 _ _ gd
    refine ⟨le_size (by simp), fun a21 h21 => ?_⟩
    have p21 := ((hst.same sm20).ne h21).1
    have s21 : Same H20 (upd H20 a21 (HO.lst [V.ref a20])) := Same.new _ h21
    have g21 : upd H20 a21 (HO.lst [V.ref a20]) a21 = some (HO.lst [V.ref a20]) := upd_same
    generalize upd H20 a21 (HO.lst [V.ref a20]) = H21 at *
    replace g1 := s21 _ _ g1
    replace g2 := s21 _ _ g2
    replace g3 := s21 _ _ g3
    replace g4 := s21 _ _ g4
    replace g5 := s21 _ _ g5
    replace g6 := s21 _ _ g6
    replace g7 := s21 _ _ g7
    replace g8 := s21 _ _ g8
    replace g9 := s21 _ _ g9
    replace g10 := s21 _ _ g10
    replace g11 := s21 _ _ g11
    replace g12 := s21 _ _ g12
    replace g13 := s21 _ _ g13
    replace g14 := s21 _ _ g14
    replace g15 := s21 _ _ g15
    replace g16 := s21 _ _ g16
    replace g17 := s21 _ _ g17
    replace g18 := s21 _ _ g18
    replace g19 := s21 _ _ g19
    replace g20 := s21 _ _ g20
    have sm21 : Same H H21 := sm20.trans s21
    replace gd := s21 _ _ gd
    refine ⟨le_size (by simp), fun a22 h22 => ?_⟩
    have p22 := ((hst.same sm21).ne h22).1
    have s22 : Same H21 (upd H21 a22 (HO.lst [V.ref a21])) := Same.new _ h22
    have g22 : upd H21 a22 (HO.lst [V.ref a21]) a22 = some (HO.lst [V.ref a21]) := upd_same
    generalize upd H21 a22 (HO.lst [V.ref a21]) = H22 at *
    replace g1 := s22 _ _ g1
    replace g2 := s22 _ _ g2
    replace g3 := s22 _ _ g3
    replace g4 := s22 _ _ g4
    replace g5 := s22 _ _ g5
    replace g6 := s22 _ _ g6
    replace g7 := s22 _ _ g7
    replace g8 := s22 _ _ g8
    replace g9 := s22 _ _ g9
    replace g10 := s22 _ _ g10
    replace g11 := s22 _ _ g11
    replace g12 := s22 _ _ g12
    replace g13 := s22 _ _ g13
    replace g14 := s22 _ _ g14
    replace g15 := s22 _ _ g15
    replace g16 := s22 _ _ g16
    replace g17 := s22 _ _ g17
    replace g18 := s22 _ _ g18
    replace g19 := s22 _ _ g19
    replace g20 := s22 _ _ g20
    replace g21 := s22 _ _ g21
    have sm22 : Same H H22 := sm21.trans s22
    replace gd := s22 _ _ gd
    refine ⟨le_size (by simp), fun a23 h23 => ?_⟩
    have p23 := ((hst.same sm22).ne h23).1
    have s23 : Same H22 (upd H22 a23 (HO.lst [V.ref a13, V.ref a17, V.ref a18, V.str "a\n", V.str "~", V.ref a22])) := Same.new _ h23
    have g23 : upd H22 a23 (HO.lst [V.ref a13, V.ref a17, V.ref a18, V.str "a\n", V.str "~", V.ref a22]) a23 = some (HO.lst [V.ref a13, V.ref a17, V.ref a18, V.str "a\n", V.str "~", V.ref a22]) := upd_same
    generalize upd H22 a23 (HO.lst [V.ref a13, V.ref a17, V.ref a18, V.str "a\n", V.str "~", V.ref a22]) = H23 at *
    replace g1 := s23 _ _ g1
    replace g2 := s23 _ _ g2
    replace g3 := s23 _ _ g3
    replace g4 := s23 _ _ g4
    replace g5 := s23 _ _ g5
    replace g6 := s23 _ _ g6
    replace g7 := s23 _ _ g7
    replace g8 := s23 _ _ g8
    replace g9 := s23 _ _ g9
    replace g10 := s23 _ _ g10
    replace g11 := s23 _ _ g11
    replace g12 := s23 _ _ g12
    replace g13 := s23 _ _ g13
    replace g14 := s23 _ _ g14
    replace g15 := s23 _ _ g15
    replace g16 := s23 _ _ g16
    replace g17 := s23 _ _ g17
    replace g18 := s23 _ _ g18
    replace g19 := s23 _ _ g19
    replace g20 := s23 _ _ g20
    replace g21 := s23 _ _ g21
    replace g22 := s23 _ _ g22
    have sm23 : Same H H23 := sm22.trans s23
    replace gd := s23 _ _ gd
    refine ⟨_, _, _, _, rfl, rfl, g10, g23, le_size (by simp), fun a24 h24 => ?_⟩
    have p24 := ((hst.same sm23).ne h24).1
    have s24 : Same H23 (upd H23 a24 (HO.lst ([V.non, V.bl true, V.bl false, V.int (-1), V.int 64, V.str "0", V.str "A", V.str "-", V.ref a1, V.ref a2, V.ref a3, V.ref a5, V.ref a6, V.ref a7, V.ref a8, V.ref a9, V.int (10 ^ (20 : Int).toNat)] ++ [V.ref a13, V.ref a17, V.ref a18, V.str "a\n", V.str "~", V.ref a22]))) := Same.new _ h24
    have g24 : upd H23 a24 (HO.lst ([V.non, V.bl true, V.bl false, V.int (-1), V.int 64, V.str "0", V.str "A", V.str "-", V.ref a1, V.ref a2, V.ref a3, V.ref a5, V.ref a6, V.ref a7, V.ref a8, V.ref a9, V.int (10 ^ (20 : Int).toNat)] ++ [V.ref a13, V.ref a17, V.ref a18, V.str "a\n", V.str "~", V.ref a22])) a24 = some (HO.lst ([V.non, V.bl true, V.bl false, V.int (-1), V.int 64, V.str "0", V.str "A", V.str "-", V.ref a1, V.ref a2, V.ref a3, V.ref a5, V.ref a6, V.ref a7, V.ref a8, V.ref a9, V.int (10 ^ (20 : Int).toNat)] ++ [V.ref a13, V.ref a17, V.ref a18, V.str "a\n", V.str "~", V.ref a22])) := upd_same
    generalize upd H23 a24 (HO.lst ([V.non, V.bl true, V.bl false, V.int (-1), V.int 64, V.str "0", V.str "A", V.str "-", V.ref a1, V.ref a2, V.ref a3, V.ref a5, V.ref a6, V.ref a7, V.ref a8, V.ref a9, V.int (10 ^ (20 : Int).toNat)] ++ [V.ref a13, V.ref a17, V.ref a18, V.str "a\n", V.str "~", V.ref a22])) = H24 at *
    replace g1 := s24 _ _ g1
    replace g2 := s24 _ _ g2
    replace g3 := s24 _ _ g3
    replace g4 := s24 _ _ g4
    replace g5 := s24 _ _ g5
    replace g6 := s24 _ _ g6
    replace g7 := s24 _ _ g7
    replace g8 := s24 _ _ g8
    replace g9 := s24 _ _ g9
    replace g10 := s24 _ _ g10
    replace g11 := s24 _ _ g11
    replace g12 := s24 _ _ g12
    replace g13 := s24 _ _ g13
    replace g14 := s24 _ _ g14
    replace g15 := s24 _ _ g15
    replace g16 := s24 _ _ g16
    replace g17 := s24 _ _ g17
    replace g18 := s24 _ _ g18
    replace g19 := s24 _ _ g19
    replace g20 := s24 _ _ g20
    replace g21 := s24 _ _ g21
    replace g22 := s24 _ _ g22
    replace g23 := s24 _ _ g23
    have sm24 : Same H H24 := sm23.trans s24
    replace gd := s24 _ _ gd
    refine ⟨_, rfl, _, rfl, _, rfl, a24, _, rfl, .inl (SqL.of g24), p, l, 23, rfl, hst.same sm24, by decide, by decide, fun H' r x1 st1 r0 r1 => ?_⟩
    obtain ⟨v, hv, hat⟩ := atI_mem (xs := [V.non, V.bl true, V.bl false, V.int (-1), V.int 64, V.str "0", V.str "A", V.str "-", V.ref a1, V.ref a2, V.ref a3, V.ref a5, V.ref a6, V.ref a7, V.ref a8, V.ref a9, V.int (10 ^ (20 : Int).toNat)] ++ [V.ref a13, V.ref a17, V.ref a18, V.str "a\n", V.str "~", V.ref a22]) r0 (by simpa using r1)
    refine ⟨_, _, _, v, rfl, rfl, SqL.of (x1 _ _ p24 g24), hat, ?_⟩
    replace g1 := x1 _ _ p1 g1
    replace g2 := x1 _ _ p2 g2
    replace g3 := x1 _ _ p3 g3
    replace g4 := x1 _ _ p4 g4
    replace g5 := x1 _ _ p5 g5
    replace g6 := x1 _ _ p6 g6
    replace g7 := x1 _ _ p7 g7
    replace g8 := x1 _ _ p8 g8
    replace g9 := x1 _ _ p9 g9
    replace g10 := x1 _ _ p10 g10
    replace g11 := x1 _ _ p11 g11
    replace g12 := x1 _ _ p12 g12
    replace g13 := x1 _ _ p13 g13
    replace g14 := x1 _ _ p14 g14
    replace g15 := x1 _ _ p15 g15
    replace g16 := x1 _ _ p16 g16
    replace g17 := x1 _ _ p17 g17
    replace g18 := x1 _ _ p18 g18
    replace g19 := x1 _ _ p19 g19
    replace g20 := x1 _ _ p20 g20
    replace g21 := x1 _ _ p21 g21
    replace g22 := x1 _ _ p22 g22
    replace g23 := x1 _ _ p23 g23
    replace g24 := x1 _ _ p24 g24
    replace gd := x1 _ _ pd gd
    have all : ∀ v ∈ ([V.non, V.bl true, V.bl false, V.int (-1), V.int 64, V.str "0", V.str "A", V.str "-", V.ref a1, V.ref a2, V.ref a3, V.ref a5, V.ref a6, V.ref a7, V.ref a8, V.ref a9, V.int (10 ^ (20 : Int).toNat)] ++ [V.ref a13, V.ref a17, V.ref a18, V.str "a\n", V.str "~", V.ref a22] : List V), OddP K p H' v := by
      have o0 : OddP K p H' (V.non) := ⟨none, fun H2 x2 => ⟨⟨(.other (.x (.base .non)) (kit_ty (by decide +kernel)) (fun i e => nomatch e)), fun i e => nomatch e⟩, (.non (.x (.base .non)) (kit_no (kit_ty (by decide +kernel)) (kit_ty (by decide +kernel))))⟩⟩
      have o1 : OddP K p H' (V.bl true) := ⟨none, fun H2 x2 => ⟨⟨.bl _, fun i e => nomatch e⟩, (.non (.x (.base (.bl _))) (kit_no (kit_ty (by decide +kernel)) (kit_ty (by decide +kernel))))⟩⟩
      have o2 : OddP K p H' (V.bl false) := ⟨none, fun H2 x2 => ⟨⟨.bl _, fun i e => nomatch e⟩, (.non (.x (.base (.bl _))) (kit_no (kit_ty (by decide +kernel)) (kit_ty (by decide +kernel))))⟩⟩
      have o3 : OddP K p H' (V.int (-1)) := ⟨none, fun H2 x2 => ⟨⟨.int _, fun i e => by cases e; decide⟩, (.non (.x (.base (.int _))) (kit_no (kit_ty (by decide +kernel)) (kit_ty (by decide +kernel))))⟩⟩
      have o4 : OddP K p H' (V.int 64) := ⟨none, fun H2 x2 => ⟨⟨.int _, fun i e => by cases e; decide⟩, (.non (.x (.base (.int _))) (kit_no (kit_ty (by decide +kernel)) (kit_ty (by decide +kernel))))⟩⟩
      have o5 : OddP K p H' (V.str "0") := ⟨none, fun H2 x2 => ⟨⟨(.other (.x (.base (.str _))) (kit_ty (by decide +kernel)) (fun i e => nomatch e)), fun i e => nomatch e⟩, (.non (.x (.base (.str _))) (kit_no (kit_ty (by decide +kernel)) (kit_ty (by decide +kernel))))⟩⟩
      have o6 : OddP K p H' (V.str "A") := ⟨none, fun H2 x2 => ⟨⟨(.other (.x (.base (.str _))) (kit_ty (by decide +kernel)) (fun i e => nomatch e)), fun i e => nomatch e⟩, (.non (.x (.base (.str _))) (kit_no (kit_ty (by decide +kernel)) (kit_ty (by decide +kernel))))⟩⟩
      have o7 : OddP K p H' (V.str "-") := ⟨none, fun H2 x2 => ⟨⟨(.other (.x (.base (.str _))) (kit_ty (by decide +kernel)) (fun i e => nomatch e)), fun i e => nomatch e⟩, (.non (.x (.base (.str _))) (kit_no (kit_ty (by decide +kernel)) (kit_ty (by decide +kernel))))⟩⟩
      have o8 : OddP K p H' (V.ref a1) := ⟨some [], fun H2 x2 => ⟨⟨(.other (.x (.base (.tup (x2 _ _ p1 g1)))) (kit_ty (by decide +kernel)) (fun i e => nomatch e)), fun i e => nomatch e⟩, (.seq (.inr (x2 _ _ p1 g1)) AllIt.nil (by simp))⟩⟩
      have o9 : OddP K p H' (V.ref a2) := ⟨some [], fun H2 x2 => ⟨⟨(.other (.x (.base (.lst (x2 _ _ p2 g2)))) (kit_ty (by decide +kernel)) (fun i e => nomatch e)), fun i e => nomatch e⟩, (.seq (.inl (x2 _ _ p2 g2)) AllIt.nil (by simp))⟩⟩
      have o10 : OddP K p H' (V.ref a3) := ⟨none, fun H2 x2 => ⟨⟨(.other (.x (.base (.dK (x2 _ _ p3 g3)))) (kit_ty (by decide +kernel)) (fun i e => nomatch e)), fun i e => nomatch e⟩, (.non (.x (.base (.dK (x2 _ _ p3 g3)))) (kit_no (kit_ty (by decide +kernel)) (kit_ty (by decide +kernel))))⟩⟩
      have o11 : OddP K p H' (V.ref a5) := ⟨some [V.ref a4], fun H2 x2 => ⟨⟨(.other (.x (.base (.lst (x2 _ _ p5 g5)))) (kit_ty (by decide +kernel)) (fun i e => nomatch e)), fun i e => nomatch e⟩, (.seq (.inl (x2 _ _ p5 g5)) (AllIt.cons (.other (.x (.base (.lst (x2 _ _ p4 g4)))) (kit_ty (by decide +kernel)) (fun i e => nomatch e)) AllIt.nil) (by simp))⟩⟩
      have o12 : OddP K p H' (V.ref a6) := ⟨some [V.int 0, V.int 1, V.int 2], fun H2 x2 => ⟨⟨(.other (.x (.base (.tup (x2 _ _ p6 g6)))) (kit_ty (by decide +kernel)) (fun i e => nomatch e)), fun i e => nomatch e⟩, (.seq (.inr (x2 _ _ p6 g6)) (AllIt.cons (.int _) (AllIt.cons (.int _) (AllIt.cons (.int _) AllIt.nil))) (by simp))⟩⟩
      have o13 : OddP K p H' (V.ref a7) := ⟨none, fun H2 x2 => ⟨⟨(.other (.x (.base (.dK (x2 _ _ p7 g7)))) (kit_ty (by decide +kernel)) (fun i e => nomatch e)), fun i e => nomatch e⟩, (.non (.x (.base (.dK (x2 _ _ p7 g7)))) (kit_no (kit_ty (by decide +kernel)) (kit_ty (by decide +kernel))))⟩⟩
      have o14 : OddP K p H' (V.ref a8) := ⟨some [V.non], fun H2 x2 => ⟨⟨(.other (.x (.base (.lst (x2 _ _ p8 g8)))) (kit_ty (by decide +kernel)) (fun i e => nomatch e)), fun i e => nomatch e⟩, (.seq (.inl (x2 _ _ p8 g8)) (AllIt.cons (.other (.x (.base .non)) (kit_ty (by decide +kernel)) (fun i e => nomatch e)) AllIt.nil) (by simp))⟩⟩
      have o15 : OddP K p H' (V.ref a9) := ⟨some [V.str "a"], fun H2 x2 => ⟨⟨(.other (.x (.base (.tup (x2 _ _ p9 g9)))) (kit_ty (by decide +kernel)) (fun i e => nomatch e)), fun i e => nomatch e⟩, (.seq (.inr (x2 _ _ p9 g9)) (AllIt.cons (.other (.x (.base (.str _))) (kit_ty (by decide +kernel)) (fun i e => nomatch e)) AllIt.nil) (by simp))⟩⟩
      have o16 : OddP K p H' (V.int (10 ^ (20 : Int).toNat)) := ⟨none, fun H2 x2 => ⟨⟨.int _, fun i e => by cases e; decide⟩, (.non (.x (.base (.int _))) (kit_no (kit_ty (by decide +kernel)) (kit_ty (by decide +kernel))))⟩⟩
      have o17 : OddP K p H' (V.ref a13) := ⟨none, fun H2 x2 => ⟨⟨(.other (.x (.base (.ins (x2 _ _ p13 g13) T.cl_Loom T.ic_Loom T.ig T.it T.im_Loom))) (kit_cls (by decide +kernel) T.si_Loom) (fun i e => nomatch e)), fun i e => nomatch e⟩, (.non (.x (.base (.ins (x2 _ _ p13 g13) T.cl_Loom T.ic_Loom T.ig T.it T.im_Loom))) (kit_no (kit_cls (by decide +kernel) T.sl_Loom) (kit_cls (by decide +kernel) T.st_Loom)))⟩⟩
      have o18 : OddP K p H' (V.ref a17) := ⟨some [V.ref a16], fun H2 x2 => ⟨⟨(.other (.x (.base (.lst (x2 _ _ p17 g17)))) (kit_ty (by decide +kernel)) (fun i e => nomatch e)), fun i e => nomatch e⟩, (.seq (.inl (x2 _ _ p17 g17)) (AllIt.cons (.other (.x (.base (.ins (x2 _ _ p16 g16) T.cl_Loom T.ic_Loom T.ig T.it T.im_Loom))) (kit_cls (by decide +kernel) T.si_Loom) (fun i e => nomatch e)) AllIt.nil) (by simp))⟩⟩
      have o19 : OddP K p H' (V.ref a18) := ⟨none, fun H2 x2 => ⟨⟨(.other (.exd (x2 _ _ p18 g18) (x2 _ _ pd gd) T.E_InvalidLoom) (kit_cls (by decide +kernel) T.si_InvalidLoom) (fun i e => nomatch e)), fun i e => nomatch e⟩, (.non (.exd (x2 _ _ p18 g18) (x2 _ _ pd gd) T.E_InvalidLoom) (kit_no (kit_cls (by decide +kernel) T.sl_InvalidLoom) (kit_cls (by decide +kernel) T.st_InvalidLoom)))⟩⟩
      have o20 : OddP K p H' (V.str "a\n") := ⟨none, fun H2 x2 => ⟨⟨(.other (.x (.base (.str _))) (kit_ty (by decide +kernel)) (fun i e => nomatch e)), fun i e => nomatch e⟩, (.non (.x (.base (.str _))) (kit_no (kit_ty (by decide +kernel)) (kit_ty (by decide +kernel))))⟩⟩
      have o21 : OddP K p H' (V.str "~") := ⟨none, fun H2 x2 => ⟨⟨(.other (.x (.base (.str _))) (kit_ty (by decide +kernel)) (fun i e => nomatch e)), fun i e => nomatch e⟩, (.non (.x (.base (.str _))) (kit_no (kit_ty (by decide +kernel)) (kit_ty (by decide +kernel))))⟩⟩
      have o22 : OddP K p H' (V.ref a22) := ⟨some [V.ref a21], fun H2 x2 => ⟨⟨(.other (.x (.base (.lst (x2 _ _ p22 g22)))) (kit_ty (by decide +kernel)) (fun i e => nomatch e)), fun i e => nomatch e⟩, (.seq (.inl (x2 _ _ p22 g22)) (AllIt.cons (.other (.x (.base (.lst (x2 _ _ p21 g21)))) (kit_ty (by decide +kernel)) (fun i e => nomatch e)) AllIt.nil) (by simp))⟩⟩
      exact (AllOddP.cons o0 (AllOddP.cons o1 (AllOddP.cons o2 (AllOddP.cons o3 (AllOddP.cons o4 (AllOddP.cons o5 (AllOddP.cons o6 (AllOddP.cons o7 (AllOddP.cons o8 (AllOddP.cons o9 (AllOddP.cons o10 (AllOddP.cons o11 (AllOddP.cons o12 (AllOddP.cons o13 (AllOddP.cons o14 (AllOddP.cons o15 (AllOddP.cons o16 (AllOddP.cons o17 (AllOddP.cons o18 (AllOddP.cons o19 (AllOddP.cons o20 (AllOddP.cons o21 (AllOddP.cons o22 AllOddP.nil)))))))))))))))))))))))
    exact k H' v (Ex.trans (Same.ex sm24) x1) st1 (all v hv)
end
end J


set_option Elab.async false
set_option linter.all false
set_option maxRecDepth 100000
set_option maxHeartbeats 4000000
namespace J
open PySem L2
theorem exm_own {K : PySem.W.Frag} {D : Addr} (b : PySem.W.subIn K (.ref D) (.type "BaseException") = some true) (c : PySem.W.isClsIn K D = true) (t : PySem.W.typeIn K (.ref D) = some (.type "type")) (q : PySem.W.subIn K (.ref D) (.ref D) = some true) :
    PySem.W.exmOne K (.ref D) (.ref D) = some true := by
  have c' : (PySem.W.clsIn K D).isSome = true := c
  unfold PySem.W.exmOne
  simp [b, c', t, q, PySem.W.kitCls]
theorem exm_no {K : PySem.W.Frag} {D D' : Addr} (b : PySem.W.subIn K (.ref D) (.type "BaseException") = some true) (c : PySem.W.isClsIn K D = true) (t : PySem.W.typeIn K (.ref D) = some (.type "type")) (q : PySem.W.subIn K (.ref D') (.ref D) = some false) :
    PySem.W.exmOne K (.ref D') (.ref D) = some false := by
  have c' : (PySem.W.clsIn K D).isSome = true := c
  unfold PySem.W.exmOne
  simp [b, c', t, q, PySem.W.kitCls]
theorem nats_inj {a b : List Nat} (h : nats a = nats b) : a = b := by
  have e : ∀ {a b : List Nat}, nats a = nats b → a = b := by
    intro a
    induction a with
    | nil => intro b h; cases b with
      | nil => rfl
      | cons => cases h
    | cons x r ih => intro b h; cases b with
      | nil => cases h
      | cons y t =>
        simp only [nats, List.map_cons, List.cons.injEq, V.int.injEq] at h
        rw [Int.ofNat.inj h.1, ih h.2]
  exact e h
def toldV (w : Int) (as : List Arc) (g : Nat) (row : List Nat) : V := if w = 0 then .str (SX.S (textR as row)) else .int (endR as g row : Nat)
def spTold (K : PySem.W.Frag) (C : Addr) : Sp := fun vs H Q _ => ∃ (w : Int) (q : Addr) (sg : List Nat) (us : List V) (as : List Arc) (y x : V) (d : Option (List V)), vs = [.int w, .ref q, y, x] ∧ LoomAt C H q sg us as ∧ Thg K H x d ∧
  ((BadSt K H y ∧ ∀ (H' : Hp) (r : Addr), Same H H' → H r = none → H' r = some (.tup [.str "state"]) → Q (.ref r) H') ∨ (∃ g : Nat, y = .int (g : Nat) ∧ g ≤ 63 ∧
    ((∃ row, d = some (nats row) ∧ fltV as g d = .non ∧ ∀ (H' : Hp) (r : Addr), Same H H' → H r = none → H' r = some (.tup [.str "told", toldV w as g row]) → Q (.ref r) H') ∨
    (∃ i : Int, fltV as g d = .int i ∧ ∀ (H' : Hp) (r : Addr), Same H H' → H r = none → H' r = some (.tup [.str "row", .int i]) → Q (.ref r) H'))))
section
variable {P : Program} {w : World} {K : PySem.W.Frag} {mg : Str → Option Value} {base : Heap}
theorem ok_l_told (T : Tx K mg) : FnOk P w K mg base CX0 6 T.f_l_told T.fd_l_told P_l_told (spTold K T.C_Loom) := by
  have G_text_of : FnOk P w K mg base (L2.CX P w) 5 T.f_text_of T.fd_text_of P_text_of (spTextOf K T.C_Loom T.C_UnknownState T.C_InvalidRow) := ok_text_ofX T
  have G_end_of : FnOk P w K mg base (L2.CX P w) 5 T.f_end_of T.fd_end_of P_end_of (spEndOf K T.C_Loom T.C_UnknownState T.C_InvalidRow) := ok_end_ofX T
  refine T.F_l_told.ok sc_l_told (fun vs H Q E h => ?_) (fun cdv A outer s H vs Q E hr h => ?_)
  · obtain ⟨w, q, sg, us, as, y, x, d, rfl, _⟩ := h
    rfl
  · obtain ⟨w, q, sg, us, as, y, x, d, rfl, hL, hx, h⟩ := h
    have xf : XfC K T.C_InvalidRow := ⟨T.E_InvalidRow.hg, T.E_InvalidRow.hk, T.E_InvalidRow.hs, T.E_InvalidRow.hd⟩
    refine ⟨_, pss_cons (ps_try_cls (Wout := fun _ _ _ _ => False) rfl rfl takes0
      (fun W pn xe tk _ => pss_one (ps_set (i := 4) sc_l_told.nd rfl (Or.inl rfl) (by exact (pe_tup (pa_cons pe_str (pa_cons (pe_ifExp (pt_cmpR op_eq (pv 0) pe_int (nomark _)) (pe_callS G_text_of (hr.mono (by decide)) rfl T.m_text_of T.F_text_of.kp T.b_text_of (fun σ => passAt tk σ) (pa_cons (pv 1) (pa_cons (pv 2) (pa_cons (pv 3) pa_nil)))) (pe_callS G_end_of (hr.mono (by decide)) rfl T.m_end_of T.F_end_of.kp T.b_end_of (fun σ => passAt tk σ) (pa_cons (pv 1) (pa_cons (pv 2) (pa_cons (pv 3) pa_nil))))) pa_nil))))))
      (.plain ⟨rfl, by decide, Or.inl T.g_UnknownState⟩ (fun g oe cls d pn hz hf => pss_one (ps_set (i := 4) sc_l_told.nd rfl (Or.inl rfl) (by exact (pe_tup (pa_cons pe_str pa_nil)))))
       (.named (i := 5) ⟨rfl, by decide, Or.inl T.g_InvalidRow⟩ sc_l_told.nd rfl rfl (fun g oe cls d pn hz hf => pss_one (ps_set (i := 4) sc_l_told.nd rfl (Or.inl rfl) (by exact (pe_tup (pa_cons pe_str (pa_cons (pe_xf xf T.nx_InvalidRow_at hz hf (pv 5)) pa_nil)))))) .nil)))
      (pss_one (ps_ret (pv 4))), ?_⟩
    refine ⟨_, rfl, rfl, _, rfl, ?_⟩
    refine ite2 (fun c => ?_) (fun c => ?_)
    · have c1 : w = 0 := by simpa using c
      rcases h with ⟨hb, k⟩ | ⟨g, rfl, hg, h⟩
      · refine ⟨_, rfl, _, rfl, _, rfl, q, sg, us, as, y, x, d, rfl, hL, hx, .inl ⟨hb, ?_⟩⟩
        refine ⟨true, exm_own T.E_UnknownState.hs T.cl_UnknownState T.ty_UnknownState T.ss_UnknownState, fun _ e he => ?_, fun e => Bool.noConfusion e⟩
        refine ⟨le_size (by decide), fun r hr => ?_⟩
        exact ⟨_, rfl, k _ r (Same.new _ hr) hr upd_same⟩
      · refine ⟨_, rfl, _, rfl, _, rfl, q, sg, us, as, _, x, d, rfl, hL, hx, .inr ⟨g, rfl, hg, ?_⟩⟩
        rcases h with ⟨row, hd, e, k⟩ | ⟨i, e, k⟩
        · refine .inl ⟨e, fun H1 s1 row' hd' hrw => ?_⟩
          obtain rfl : row' = row := nats_inj (Option.some.inj (hd'.symm.trans hd))
          refine ⟨le_size (by simp), fun r hr => ?_⟩
          exact ⟨_, rfl, k _ r (s1.trans (Same.new _ hr)) (s1.free hr) (by rw [upd_same]; unfold toldV; rw [if_pos c1])⟩
        · refine .inr ⟨i, e, fun H1 e1 s1 he1 => ?_⟩
          refine ⟨false, exm_no T.E_UnknownState.hs T.cl_UnknownState T.ty_UnknownState T.su_InvalidRow, fun e => Bool.noConfusion e, fun _ => ?_⟩
          refine ⟨true, exm_own T.E_InvalidRow.hs T.cl_InvalidRow T.ty_InvalidRow T.ss_InvalidRow, fun _ e he => ?_, fun e => Bool.noConfusion e⟩
          refine ⟨_, rfl, rfl, rfl, e1, _, _, rfl, he1, rfl, ?_⟩
          refine ⟨le_size (by simp), fun r hr => ?_⟩
          exact ⟨_, rfl, k _ r (s1.trans (Same.new _ hr)) (s1.free hr) upd_same⟩
    · have c1 : ¬ w = 0 := by simpa using c
      rcases h with ⟨hb, k⟩ | ⟨g, rfl, hg, h⟩
      · refine ⟨_, rfl, _, rfl, _, rfl, q, sg, us, as, y, x, d, rfl, hL, hx, .inl ⟨hb, ?_⟩⟩
        refine ⟨true, exm_own T.E_UnknownState.hs T.cl_UnknownState T.ty_UnknownState T.ss_UnknownState, fun _ e he => ?_, fun e => Bool.noConfusion e⟩
        refine ⟨le_size (by decide), fun r hr => ?_⟩
        exact ⟨_, rfl, k _ r (Same.new _ hr) hr upd_same⟩
      · refine ⟨_, rfl, _, rfl, _, rfl, q, sg, us, as, _, x, d, rfl, hL, hx, .inr ⟨g, rfl, hg, ?_⟩⟩
        rcases h with ⟨row, hd, e, k⟩ | ⟨i, e, k⟩
        · refine .inl ⟨e, fun H1 s1 row' hd' hrw => ?_⟩
          obtain rfl : row' = row := nats_inj (Option.some.inj (hd'.symm.trans hd))
          refine ⟨le_size (by simp), fun r hr => ?_⟩
          exact ⟨_, rfl, k _ r (s1.trans (Same.new _ hr)) (s1.free hr) (by rw [upd_same]; unfold toldV; rw [if_neg c1])⟩
        · refine .inr ⟨i, e, fun H1 e1 s1 he1 => ?_⟩
          refine ⟨false, exm_no T.E_UnknownState.hs T.cl_UnknownState T.ty_UnknownState T.su_InvalidRow, fun e => Bool.noConfusion e, fun _ => ?_⟩
          refine ⟨true, exm_own T.E_InvalidRow.hs T.cl_InvalidRow T.ty_InvalidRow T.ss_InvalidRow, fun _ e he => ?_, fun e => Bool.noConfusion e⟩
          refine ⟨_, rfl, rfl, rfl, e1, _, _, rfl, he1, rfl, ?_⟩
          refine ⟨le_size (by simp), fun r hr => ?_⟩
          exact ⟨_, rfl, k _ r (s1.trans (Same.new _ hr)) (s1.free hr) upd_same⟩
end
end J


set_option Elab.async false
set_option linter.all false
set_option maxRecDepth 100000
set_option maxHeartbeats 4000000
namespace J
open PySem L2
def ItP (K : PySem.W.Frag) (p : Addr) (H : Hp) (x : V) : Prop := ∀ H', Ex p H H' → It K H' x
theorem ItP.ex {K : PySem.W.Frag} {p : Addr} {H H' : Hp} {x : V} (h : ItP K p H x) (s : Ex p H H') : ItP K p H' x := fun H2 x2 => h H2 (s.trans x2)
theorem ItP.int {K : PySem.W.Frag} {p : Addr} {H : Hp} (i : Int) : ItP K p H (.int i) := fun _ _ => .int i
theorem OddP.it {K : PySem.W.Frag} {p : Addr} {H : Hp} {x : V} (h : OddP K p H x) : ItP K p H x := fun H2 x2 => by
  obtain ⟨d, h⟩ := h
  exact (h H2 x2).1.1
theorem thgP_list {K : PySem.W.Frag} {p r : Addr} {H : Hp} {zs : List V} (n : r ≠ p) (h : H r = some (.lst zs)) (hi : ∀ x ∈ zs, ItP K p H x) (hl : zs.length ≤ 100000) : ThgP K p H (.ref r) (some zs) :=
  fun H2 x2 => .seq (.inl (x2 _ _ n h)) (fun x hx => hi x hx H2 x2) hl
theorem thgP_tup {K : PySem.W.Frag} {p r : Addr} {H : Hp} {zs : List V} (n : r ≠ p) (h : H r = some (.tup zs)) (hi : ∀ x ∈ zs, ItP K p H x) (hl : zs.length ≤ 100000) : ThgP K p H (.ref r) (some zs) :=
  fun H2 x2 => .seq (.inr (x2 _ _ n h)) (fun x hx => hi x hx H2 x2) hl
theorem cut_mem {xs : List V} {lo hi : Option Int} {x : V} (h : x ∈ cutV xs lo hi) : x ∈ xs := by
  unfold cutV at h
  exact List.mem_of_mem_drop (List.mem_of_mem_take h)
theorem nats_int {K : PySem.W.Frag} {p : Addr} {H : Hp} {row : List Nat} : ∀ x ∈ nats row, ItP K p H x := fun x hx => by
  obtain ⟨n, _, rfl⟩ := List.mem_map.mp hx
  exact .int _
def spBent (K : PySem.W.Frag) (ns : List Int) : Sp := fun vs H Q _ => ∃ (p l a r : Addr) (as : List Arc) (row : List Nat), vs = [.ref p, .ref a, .ref r] ∧ StAt ns l H p ∧ a ≠ p ∧ r ≠ p ∧ ArcL H a as ∧ as.length ≤ 200 ∧ H r = some (.lst (nats row)) ∧ row.length ≤ 100 ∧
  ∀ (H' : Hp) (x : V) (d : Option (List V)), Ex p H H' → StAt ns l H' p → ThgP K p H' x d → Q x H'
section
variable {P : Program} {w : World} {K : PySem.W.Frag} {mg : Str → Option Value} {base : Heap}
theorem ok_l_bent (T : Tx K mg) (ns : List Int) : FnOk P w K mg base CX0 7 T.f_l_bent T.fd_l_bent P_l_bent (spBent K ns) := by
  have G_l_draw : FnOk P w K mg base CX0 1 T.f_l_draw T.fd_l_draw P_l_draw (spDraw ns) := ok_l_draw T ns
  have G_l_odd : FnOk P w K mg base CX0 6 T.f_l_odd T.fd_l_odd P_l_odd (spOdd K ns) := ok_l_odd T ns
  refine T.F_l_bent.ok sc_l_bent (fun vs H Q E h => ?_) (fun cdv A outer s H vs Q E hr h => ?_)
  · obtain ⟨p, l, a, r, as, row, rfl, _⟩ := h
    rfl
  · obtain ⟨p, l, a, r, as, row, rfl, hst, nap, nrp, ⟨us, ha, harc⟩, hal, hrow, hrl, k⟩ := h
    refine ⟨_, (pss_cons (ps_set (i := 3) sc_l_bent.nd rfl (Or.inl rfl) (pe_call G_l_draw (hr.mono (by decide)) rfl T.m_l_draw T.F_l_draw.kp T.b_l_draw .nil pass0 (pa_cons (pv 0) (pa_cons pe_int pa_nil))))
        (pss_cons (ps_set (i := 4) sc_l_bent.nd rfl (Or.inl rfl) (pe_call G_l_draw (hr.mono (by decide)) rfl T.m_l_draw T.F_l_draw.kp T.b_l_draw .nil pass0 (pa_cons (pv 0) (pa_cons (pe_op op_add (pe_callB (call_len_seqK (K := K) rfl) rfl T.n_len (by decide +kernel) (pa_cons (pv 2) pa_nil)) pe_int) pa_nil))))
        (pss_cons (ps_if (pt_cmpR op_eq (pv 3) pe_int (nomark _)) (pss_one (ps_ret (pe_op op_cat (pe_op op_cat (pe_slice (sl_listK (K := K) rfl) (pv 2) po_none (po_some (pv 4))) (pe_lst (pa_cons (pe_call G_l_odd (hr.mono (by decide)) rfl T.m_l_odd T.F_l_odd.kp T.b_l_odd .nil pass0 (pa_cons (pv 0) pa_nil)) pa_nil))) (pe_slice (sl_listK (K := K) rfl) (pv 2) (po_some (pv 4)) po_none)))) pss_nil)
        (pss_cons (ps_if (pt_cmpR op_eq (pv 3) pe_int (nomark _)) (pss_one (ps_ret (pe_op op_cat (pe_op op_cat (pe_slice (sl_listK (K := K) rfl) (pv 2) po_none (po_some (pv 4))) (pe_lst (pa_cons (pe_call G_l_draw (hr.mono (by decide)) rfl T.m_l_draw T.F_l_draw.kp T.b_l_draw .nil pass0 (pa_cons (pv 0) (pa_cons (pe_op op_add (pe_callB (call_len_seqK (K := K) rfl) rfl T.n_len (by decide +kernel) (pa_cons (pv 1) pa_nil)) pe_int) pa_nil))) pa_nil))) (pe_slice (sl_listK (K := K) rfl) (pv 2) (po_some (pv 4)) po_none)))) pss_nil)
        (pss_cons (ps_if (pt_cmpR op_eq (pv 3) pe_int (nomark _)) (pss_one (ps_ret (pe_slice (sl_listK (K := K) rfl) (pv 2) (po_some pe_int) po_none))) pss_nil)
        (pss_cons (ps_if (pt_cmpR op_eq (pv 3) pe_int (nomark _)) (pss_one (ps_ret (pe_call G_l_odd (hr.mono (by decide)) rfl T.m_l_odd T.F_l_odd.kp T.b_l_odd .nil pass0 (pa_cons (pv 0) pa_nil)))) pss_nil)
        (pss_cons (ps_if (pt_cmpR op_eq (pv 3) pe_int (nomark _)) (pss_one (ps_ret (pe_revL (pv 2)))) pss_nil)
        (pss_one (ps_ret (pe_op op_cat (pe_slice (sl_listK (K := K) rfl) (pv 2) po_none (po_some (pv 4))) (pe_slice (sl_listK (K := K) rfl) (pv 2) (po_some (pe_op op_add (pv 4) pe_int)) po_none))))))))))), ?_⟩
    have nl := nats_len2 row
    have fin : ∀ (H' : Hp) (r' : Addr) (zs : List V), Ex p H H' → StAt ns l H' p → r' ≠ p → H' r' = some (.lst zs) → (∀ x ∈ zs, ItP K p H' x) → zs.length ≤ 400 → Q (.ref r') H' := fun H' r' zs x st n h hi hl => k H' _ _ x st (thgP_list n h hi (by omega))
    have cm : ∀ {lo hi : Option Int} {H' : Hp}, ∀ x ∈ cutV (nats row) lo hi, ItP K p H' x := fun x hx => nats_int x (cut_mem hx)
    have cl : ∀ {lo hi : Option Int}, (cutV (nats row) lo hi).length ≤ 100 := fun {lo hi} => by have := cutV_length (nats row) lo hi; omega
    refine ⟨_, rfl, p, l, 6, rfl, hst, by decide, by decide, fun H1 kd x1 st1 k0 k1 => ?_⟩
    have hrow1 := x1 _ _ nrp hrow
    refine ⟨_, rfl, _, rfl, r, _, rfl, .inl (SqL.of hrow1), _, _, rfl, rfl, p, l, _, rfl, st1, by omega, by omega, fun H2 at_ x2 st2 a0 a1 => ?_⟩
    have hrow2 := x2 _ _ nrp hrow1
    have x12 := x1.trans x2
    refine ⟨_, rfl, rfl, _, rfl, ?_⟩
    refine ite2 (fun c => ?_) (fun c => ?_)
    · skip
      refine ⟨_, rfl, _, rfl, _, rfl, r, _, rfl, SqL.of hrow2, fun b1 hb1 => ?_⟩
      have s3 := Same.new (.lst (cutV (nats row) none (some at_))) hb1
      have e1 : (upd H2 b1 (.lst (cutV (nats row) none (some at_)))) b1 = some (.lst (cutV (nats row) none (some at_))) := upd_same
      have n1 := (st2.ne hb1).1
      have st3 := st2.same s3
      have hrow3 := s3 _ _ hrow2
      generalize upd H2 b1 (.lst (cutV (nats row) none (some at_))) = H3 at *
      refine ⟨_, rfl, p, l, rfl, st3, fun H4 v x4 st4 hv0 => ⟨le_size (by simp), fun b2 hb2 => ?_⟩⟩
      have hv := hv0.it
      have s5 := Same.new (.lst [v]) hb2
      have e2 : (upd H4 b2 (.lst [v])) b2 = some (.lst [v]) := upd_same
      have n2 := (st4.ne hb2).1
      have st5 := st4.same s5
      have e15 := s5 _ _ (x4 _ _ n1 e1)
      have hrow5 := s5 _ _ (x4 _ _ nrp hrow3)
      have x5 := (x12.trans (Same.ex s3)).trans (x4.trans (Same.ex s5))
      have it5 := hv.ex (Same.ex s5)
      generalize upd H4 b2 (.lst [v]) = H5 at *
      refine ⟨_, _, _, _, rfl, rfl, e15, e2, le_size (by have := @cl none (some at_); simp; omega), fun b3 hb3 => ?_⟩
      have s6 := Same.new (.lst (cutV (nats row) none (some at_) ++ [v])) hb3
      have e3 : (upd H5 b3 (.lst (cutV (nats row) none (some at_) ++ [v]))) b3 = some (.lst (cutV (nats row) none (some at_) ++ [v])) := upd_same
      have st6 := st5.same s6
      have hrow6 := s6 _ _ hrow5
      have x6 := x5.trans (Same.ex s6)
      have it6 := it5.ex (Same.ex s6)
      generalize upd H5 b3 (.lst (cutV (nats row) none (some at_) ++ [v])) = H6 at *
      refine ⟨_, rfl, _, rfl, _, rfl, r, _, rfl, SqL.of hrow6, fun b4 hb4 => ?_⟩
      have s7 := Same.new (.lst (cutV (nats row) (some at_) none)) hb4
      have e4 : (upd H6 b4 (.lst (cutV (nats row) (some at_) none))) b4 = some (.lst (cutV (nats row) (some at_) none)) := upd_same
      have st7 := st6.same s7
      have e37 := s7 _ _ e3
      have x7 := x6.trans (Same.ex s7)
      have it7 := it6.ex (Same.ex s7)
      generalize upd H6 b4 (.lst (cutV (nats row) (some at_) none)) = H7 at *
      refine ⟨_, _, _, _, rfl, rfl, e37, e4, le_size (by have := @cl none (some at_); have := @cl (some at_) none; simp; omega), fun b5 hb5 => ?_⟩
      have s8 := Same.new (.lst ((cutV (nats row) none (some at_) ++ [v]) ++ cutV (nats row) (some at_) none)) hb5
      refine fin _ b5 _ (x7.trans (Same.ex s8)) (st7.same s8) (st7.ne hb5).1 upd_same (fun x hx => ?_) (by have := @cl none (some at_); have := @cl (some at_) none; simp; omega)
      rcases List.mem_append.mp hx with hx | hx
      · rcases List.mem_append.mp hx with hx | hx
        · exact cm x hx
        · rw [List.mem_singleton.mp hx]
          exact it7.ex (Same.ex s8)
      · exact cm x hx
    refine ⟨_, rfl, rfl, _, rfl, ?_⟩
    refine ite2 (fun c => ?_) (fun c => ?_)
    · skip
      refine ⟨_, rfl, _, rfl, _, rfl, r, _, rfl, SqL.of hrow2, fun b1 hb1 => ?_⟩
      have s3 := Same.new (.lst (cutV (nats row) none (some at_))) hb1
      have e1 : (upd H2 b1 (.lst (cutV (nats row) none (some at_)))) b1 = some (.lst (cutV (nats row) none (some at_))) := upd_same
      have n1 := (st2.ne hb1).1
      have st3 := st2.same s3
      have hrow3 := s3 _ _ hrow2
      generalize upd H2 b1 (.lst (cutV (nats row) none (some at_))) = H3 at *
      refine ⟨_, rfl, _, rfl, a, us, rfl, .inl (SqL.of (s3 _ _ (x12 _ _ nap ha))), _, _, rfl, rfl, p, l, _, rfl, st3, by rw [harc.1]; omega, by rw [harc.1]; omega, fun H4 v x4 st4 v0 v1 => ⟨le_size (by simp), fun b2 hb2 => ?_⟩⟩
      have hv : ItP K p H4 (.int v) := .int v
      have s5 := Same.new (.lst [V.int v]) hb2
      have e2 : (upd H4 b2 (.lst [V.int v])) b2 = some (.lst [V.int v]) := upd_same
      have n2 := (st4.ne hb2).1
      have st5 := st4.same s5
      have e15 := s5 _ _ (x4 _ _ n1 e1)
      have hrow5 := s5 _ _ (x4 _ _ nrp hrow3)
      have x5 := (x12.trans (Same.ex s3)).trans (x4.trans (Same.ex s5))
      have it5 := hv.ex (Same.ex s5)
      generalize upd H4 b2 (.lst [V.int v]) = H5 at *
      refine ⟨_, _, _, _, rfl, rfl, e15, e2, le_size (by have := @cl none (some at_); simp; omega), fun b3 hb3 => ?_⟩
      have s6 := Same.new (.lst (cutV (nats row) none (some at_) ++ [V.int v])) hb3
      have e3 : (upd H5 b3 (.lst (cutV (nats row) none (some at_) ++ [V.int v]))) b3 = some (.lst (cutV (nats row) none (some at_) ++ [V.int v])) := upd_same
      have st6 := st5.same s6
      have hrow6 := s6 _ _ hrow5
      have x6 := x5.trans (Same.ex s6)
      have it6 := it5.ex (Same.ex s6)
      generalize upd H5 b3 (.lst (cutV (nats row) none (some at_) ++ [V.int v])) = H6 at *
      refine ⟨_, rfl, _, rfl, _, rfl, r, _, rfl, SqL.of hrow6, fun b4 hb4 => ?_⟩
      have s7 := Same.new (.lst (cutV (nats row) (some at_) none)) hb4
      have e4 : (upd H6 b4 (.lst (cutV (nats row) (some at_) none))) b4 = some (.lst (cutV (nats row) (some at_) none)) := upd_same
      have st7 := st6.same s7
      have e37 := s7 _ _ e3
      have x7 := x6.trans (Same.ex s7)
      have it7 := it6.ex (Same.ex s7)
      generalize upd H6 b4 (.lst (cutV (nats row) (some at_) none)) = H7 at *
      refine ⟨_, _, _, _, rfl, rfl, e37, e4, le_size (by have := @cl none (some at_); have := @cl (some at_) none; simp; omega), fun b5 hb5 => ?_⟩
      have s8 := Same.new (.lst ((cutV (nats row) none (some at_) ++ [V.int v]) ++ cutV (nats row) (some at_) none)) hb5
      refine fin _ b5 _ (x7.trans (Same.ex s8)) (st7.same s8) (st7.ne hb5).1 upd_same (fun x hx => ?_) (by have := @cl none (some at_); have := @cl (some at_) none; simp; omega)
      rcases List.mem_append.mp hx with hx | hx
      · rcases List.mem_append.mp hx with hx | hx
        · exact cm x hx
        · rw [List.mem_singleton.mp hx]
          exact it7.ex (Same.ex s8)
      · exact cm x hx
    refine ⟨_, rfl, rfl, _, rfl, ?_⟩
    refine ite2 (fun c => ?_) (fun c => ?_)
    · refine ⟨_, rfl, _, rfl, r, _, rfl, SqL.of hrow2, fun b1 hb1 => ?_⟩
      have s3 := Same.new (.lst (cutV (nats row) (some 1) none)) hb1
      exact fin _ b1 _ (x12.trans (Same.ex s3)) (st2.same s3) (st2.ne hb1).1 upd_same cm (Nat.le_trans cl (by decide))
    refine ⟨_, rfl, rfl, _, rfl, ?_⟩
    refine ite2 (fun c => ?_) (fun c => ?_)
    · refine ⟨_, rfl, p, l, rfl, st2, fun H4 v x4 st4 hv0 => ?_⟩
      obtain ⟨d, hv⟩ := hv0
      exact k H4 v d (x12.trans x4) st4 (fun H' x' => (hv H' x').2)
    refine ⟨_, rfl, rfl, _, rfl, ?_⟩
    refine ite2 (fun c => ?_) (fun c => ?_)
    · refine ⟨_, rfl, r, _, rfl, SqL.of hrow2, fun b1 hb1 => ?_⟩
      have s3 := Same.new (.lst (nats row).reverse) hb1
      exact fin _ b1 _ (x12.trans (Same.ex s3)) (st2.same s3) (st2.ne hb1).1 upd_same (fun x hx => nats_int x (List.mem_reverse.mp hx)) (by rw [List.length_reverse]; omega)
    refine ⟨_, rfl, _, rfl, _, rfl, r, _, rfl, SqL.of hrow2, fun b1 hb1 => ?_⟩
    have s3 := Same.new (.lst (cutV (nats row) none (some at_))) hb1
    have e1 : (upd H2 b1 (.lst (cutV (nats row) none (some at_)))) b1 = some (.lst (cutV (nats row) none (some at_))) := upd_same
    have st3 := st2.same s3
    have hrow3 := s3 _ _ hrow2
    have x3 := x12.trans (Same.ex s3)
    generalize upd H2 b1 (.lst (cutV (nats row) none (some at_))) = H3 at *
    refine ⟨_, rfl, _, rfl, _, _, rfl, rfl, _, rfl, r, _, rfl, SqL.of hrow3, fun b2 hb2 => ?_⟩
    have s4 := Same.new (.lst (cutV (nats row) (some (at_ + 1)) none)) hb2
    have e2 : (upd H3 b2 (.lst (cutV (nats row) (some (at_ + 1)) none))) b2 = some (.lst (cutV (nats row) (some (at_ + 1)) none)) := upd_same
    have st4 := st3.same s4
    have e14 := s4 _ _ e1
    have x4 := x3.trans (Same.ex s4)
    generalize upd H3 b2 (.lst (cutV (nats row) (some (at_ + 1)) none)) = H4 at *
    refine ⟨_, _, _, _, rfl, rfl, e14, e2, le_size (by have := @cl none (some at_); have := @cl (some (at_ + 1)) none; omega), fun b5 hb5 => ?_⟩
    have s5 := Same.new (.lst (cutV (nats row) none (some at_) ++ cutV (nats row) (some (at_ + 1)) none)) hb5
    refine fin _ b5 _ (x4.trans (Same.ex s5)) (st4.same s5) (st4.ne hb5).1 upd_same (fun x hx => ?_) (by have := @cl none (some at_); have := @cl (some (at_ + 1)) none; rw [List.length_append]; omega)
    rcases List.mem_append.mp hx with hx | hx
    · exact cm x hx
    · exact cm x hx
end
end J


set_option Elab.async false
set_option linter.all false
set_option maxRecDepth 100000
set_option maxHeartbeats 4000000
namespace J
open PySem L2
theorem LoomAt.st {ns : List Int} {l q : Addr} {C : Addr} {H H' : Hp} {p : Addr} {sg : List Nat} {us : List V} {as : List Arc} (h : LoomAt C H p sg us as) (st : StAt ns l H q) (x : Ex q H H') : LoomAt C H' p sg us as := by
  obtain ⟨dx, Tp, h1, h2, h3, h4⟩ := h
  have arc := h3.st st x
  obtain ⟨a, b, c, d, e, _, hq, _⟩ := st
  exact ⟨dx, Tp, x _ _ (fun z => by rw [z, hq] at h1; cases h1) h1, x _ _ (fun z => by rw [z, hq] at h2; cases h2) h2, arc, h4⟩
theorem rev_vals {zs : List V} {ws : List Value} (h : Vals zs ws) : Vals zs.reverse ws.reverse := by
  induction h with
  | nil => exact .nil
  | cons r _ ih =>
    rw [List.reverse_cons, List.reverse_cons]
    exact ih.append (.cons r .nil)
theorem str_ok {u : List Nat} (h : ∀ c ∈ u, c < 1114112) : PyData.strOk (SX.S u) = true := by
  unfold PyData.strOk SX.S
  simp only [List.all_toArray, List.all_eq_true, decide_eq_true_eq]
  exact h
theorem Signs.small {sg : List Nat} (h : Signs sg) : ∀ c ∈ sg, c < 1114112 := by
  revert sg; unfold Signs; decide
theorem text_ok {sg : List Nat} {as : List Arc} (hs : Signs sg) (h : OkW sg as) (row : List Nat) : PyData.strOk (SX.S (textR as row)) = true := by
  refine str_ok fun c hc => ?_
  unfold textR at hc
  obtain ⟨u, hu, hcu⟩ := List.mem_flatten.mp hc
  obtain ⟨m, _, rfl⟩ := List.mem_map.mp hu
  unfold wAt at hcu
  cases e : as[m]? with
  | none => rw [e] at hcu; cases hcu
  | some a =>
    rw [e] at hcu
    exact hs.small c ((h.2.2 a (List.mem_of_getElem? e)).2.1.2.2 c hcu)
theorem fits_arc {as : List Arc} {m : Nat} {a : Arc} (h : as[m]? = some a) : fits as a.1 (.int (m : Nat)) = some a.2.2 := by
  have hm := (List.getElem?_eq_some_iff.mp h).1
  unfold fits
  dsimp only
  rw [if_pos ⟨by omega, by omega⟩, Int.toNat_natCast, h]
  dsimp only
  rw [if_pos rfl]
theorem flt_of_row {as : List Arc} : ∀ {row : List Nat} {g i : Nat}, Rw as g row → flt as g (nats row) i = none
  | [], _, _, _ => rfl
  | m :: r, g, i, ⟨a, ha, e, hr⟩ => by
    subst e
    rw [show nats (m :: r) = V.int (m : Nat) :: nats r from rfl, flt_some (fits_arc ha)]
    exact flt_of_row hr
theorem fltV_of_row {as : List Arc} {g : Nat} {row : List Nat} (h : Rw as g row) (hl : row.length ≤ 2000) : fltV as g (some (nats row)) = .non := by
  dsimp only [fltV]
  rw [if_pos (by rw [nats_len2]; exact hl), flt_of_row h]
theorem fltV_two {as : List Arc} {g : Nat} {d : Option (List V)} : fltV as g d = .non ∨ ∃ i, fltV as g d = .int i := by
  cases d with
  | none => exact .inr ⟨_, rfl⟩
  | some xs =>
    dsimp only [fltV]
    by_cases c : xs.length ≤ 2000
    · rw [if_pos c]
      cases flt as g xs 0 with
      | none => exact .inl rfl
      | some i => exact .inr ⟨_, rfl⟩
    · rw [if_neg c]
      exact .inr ⟨_, rfl⟩
theorem cut_to {row : List Nat} {n : Nat} (h : n ≤ row.length) : cutV (nats row) none (some (n : Int)) = nats (row.take n) := by
  unfold cutV
  rw [HT.sIx_none, HT.sIx_nat, nats_len2, List.drop_zero, Nat.sub_zero, Nat.min_eq_left h, ← List.map_take]
def tCallNS (m : Nat) (sp : Sp) (gV : List V → List V → List V) (E : St → XK) (tk : TA) : TE := fun σ H Q => tk σ H fun zs H2 => zs.length = m ∧ sp (gV [] zs) H2 Q (E σ)
section
variable {X : Cx} {CX : CXT} {k : Nat} {f : Addr} {fd : FuncData} {ps ks : List Str} {sp : Sp} {E : St → XK} {x : Str} {p pos : Pos} {kws : List Keyword} {tk : TA} {g : List Value → List Value → List Value} {gV : List V → List V → List V}
theorem run_fnNS {pins : List (Addr × Obj)} {σ : St} {H : Hp} {s : Shared} {Q : VK} {ws : List Value} {zs : List V} (F : FnOk X.prog X.w X.K X.mg X.base CX k f fd ps sp) (hr : Room k X.A) (hb : KBn X.K fd ps 0 ks g gV) (hx : PassesAt CX X σ (E σ))
    (I : Inv X pins σ H s) (rz : Vals zs ws) (l2 : zs.length = ks.length) (h : sp (gV [] zs) H Q (E σ)) : wpAny (model X.prog X.w) X.A (call (.ref f) [] (ks.zip ws)) (EP X pins σ Q) X.xe s := by
  have r2 := hb.rel .nil rz
  refine wpAny_call (codeAny_mono (F.run X.A X.stack s H ⟨[], ks.zip ws⟩ (g [] ws) (gV [] zs) Q (E σ) hr I.env0 (hb.to s [] ws I.kIn rfl (rz.length.symm.trans l2)) r2 h) fun r s' hq => ?_)
  cases r with
  | error e => exact hx pins H s e s' I hq
  | ok fl =>
    cases fl with
    | ret u => exact I.after hq
    | next => exact False.elim hq
    | brk => exact False.elim hq
    | cont => exact False.elim hq
/-- a call by keywords alone that may raise -/
theorem pe_callNS (F : FnOk X.prog X.w X.K X.mg X.base CX k f fd ps sp) (hr : Room k X.A) (hg : Gl X x) (hm : X.mg x = some (.ref f)) (hk : PySem.W.keepIn X.K (.ref f) = true) (hb : KBn X.K fd ps 0 ks g gV) (hx : ∀ σ, PassesAt CX X σ (E σ))
    (hkw : PK X kws tk) (hall : (backToKw pos (keywordEach kws X.env)).all (·.1.isSome) = true := by rfl) (hks : (backToKw pos (keywordEach kws X.env)).filterMap (·.1) = ks := by rfl)
    (hdb : (x == ("__debug__" : Str)) = false := by decide)
    (hpl : ((backTo pos (starEach [] X.env)).any (·.1) || (backToKw pos (keywordEach kws X.env)).any (·.1.isNone)) = false := by rfl) :
    PE X (.Call (.Name x p) [] kws pos) (tCallNS ks.length sp gV E tk) := by
  refine ⟨fun pins s σ H Q I h => ?_⟩
  refine wpAny_Call_Name_kw (ld_glob I hg hm ?_ hdb)
  refine PySem.W.callWith_KW0 (h₀ := X.base) I.ok.mod.kin hk hall ?_ hpl
  refine thn (hkw.run pos pins s σ H _ I h) fun ws s2 ⟨zs, H2, I2, rz, l2, q2⟩ => ⟨I2.kIn, ?_⟩
  rw [hks]
  exact run_fnNS F hr hb (hx σ) I2 rz l2 q2
end
theorem here_of {v : V} (h : v ∈ ([V.int 0, V.int 0, V.int 1, V.int 2, V.int 63, V.int 5] : List V)) : ∃ g : Nat, v = .int (g : Int) ∧ g ≤ 63 := by
  simp only [List.mem_cons, List.not_mem_nil, or_false] at h
  rcases h with rfl | rfl | rfl | rfl | rfl | rfl
  · exact ⟨0, rfl, by decide⟩
  · exact ⟨0, rfl, by decide⟩
  · exact ⟨1, rfl, by decide⟩
  · exact ⟨2, rfl, by decide⟩
  · exact ⟨63, rfl, by decide⟩
  · exact ⟨5, rfl, by decide⟩
theorem ne_same {K : PySem.W.Frag} {H : Hp} {x y : V} {d : PyData} {Q : VK} (hx : Dp K H x d) (hy : Dp K H y d) (sh : SeqAt.shaped d = true) (q : Q (.bl false) H) : rNeD K x y H Q := by
  refine ⟨_, _, hx, hy, sh, sh, ?_⟩
  rw [SeqAt.eqv_refl _ (SeqAt.canLay_of_shaped sh)]
  exact q
theorem sh_pair {z : Str} {y : PyData} (hz : PyData.strOk z = true) (h : PyData.canLay0 y = true) (hd : PyData.depth y = 0) : SeqAt.shaped (.tuple [.str z, y]) = true := by
  have e : PyData.canLayAll0 [PyData.str z, y] = true := by
    show (PyData.strOk z && (PyData.canLay0 y && true)) = true
    rw [hz, h]; rfl
  have e1 : PyData.canLay0 (.tuple [.str z, y]) = true := e
  have e2 : PyData.depth (.tuple [.str z, y]) ≤ 64 := by
    simp [PyData.depth, PyData.depthAll, hd]
  unfold SeqAt.shaped
  rw [e1, decide_eq_true e2]
  rfl
theorem sh_pairs {z1 z2 : Str} {y1 y2 : PyData} (hz1 : PyData.strOk z1 = true) (h1 : PyData.canLay0 y1 = true) (hd1 : PyData.depth y1 = 0) (hz2 : PyData.strOk z2 = true) (h2 : PyData.canLay0 y2 = true) (hd2 : PyData.depth y2 = 0) : SeqAt.shaped (.list [.tuple [.str z1, y1], .tuple [.str z2, y2]]) = true := by
  have e1 : PyData.canLay0 (.list [.tuple [.str z1, y1], .tuple [.str z2, y2]]) = true := by
    show ((PyData.strOk z1 && (PyData.canLay0 y1 && true)) && ((PyData.strOk z2 && (PyData.canLay0 y2 && true)) && true)) = true
    rw [hz1, h1, hz2, h2]; rfl
  have e2 : PyData.depth (.list [.tuple [.str z1, y1], .tuple [.str z2, y2]]) ≤ 64 := by
    simp [PyData.depth, PyData.depthAll, hd1, hd2]
  unfold SeqAt.shaped
  rw [e1, decide_eq_true e2]
  rfl
theorem dp_pair {K : PySem.W.Frag} {H : Hp} {r : Addr} {z : Str} {y : V} {d : PyData} (h : H r = some (.tup [.str z, y])) (hy : Dp K H y d) : Dp K H (.ref r) (.tuple [.str z, d]) := .tup (SqT.of h) (.cons (.str z) (.cons hy .nil))
def spLaw (K : PySem.W.Frag) : Sp := fun vs H Q _ => ∃ (a : Addr) (ns : List Int), vs = [.ref a] ∧ SqL K H a (ns.map V.int) ∧ ns.length ≤ 63 ∧ ∀ H', Q (.bl true) H'
end J


set_option Elab.async false
set_option linter.all false
set_option maxRecDepth 100000
set_option maxHeartbeats 4000000
namespace J
open PySem L2
section
variable {P : Program} {w : World} {K : PySem.W.Frag} {mg : Str → Option Value} {base : Heap}
theorem ok_law (T : Tx K mg) : FnOk P w K mg base CX0 8 T.f_law T.fd_law P_law (spLaw K) := by
  refine T.F_law.ok sc_law (fun vs H Q E h => ?_) (fun cdv A outer s0 H vs Q E hr h => ?_)
  · obtain ⟨a, ns, rfl, _⟩ := h
    rfl
  · obtain ⟨a, ns, rfl, hS, hlen, k⟩ := h
    have G_l_state : FnOk P w K mg base CX0 1 T.f_l_state T.fd_l_state P_l_state (spState K ns) := ok_l_state T ns
    have G_l_draw : FnOk P w K mg base CX0 1 T.f_l_draw T.fd_l_draw P_l_draw (spDraw ns) := ok_l_draw T ns
    have G_l_loom : FnOk P w K mg base CX0 3 T.f_l_loom T.fd_l_loom P_l_loom (spLoom ns) := ok_l_loom T ns
    have G_l_made : FnOk P w K mg base CX0 6 T.f_l_made T.fd_l_made P_l_made (spMade T.C_Loom) := ok_l_made T
    have G_l_joined : FnOk P w K mg base CX0 1 T.f_l_joined T.fd_l_joined P_l_joined spJoined := ok_l_joined T
    have G_l_end : FnOk P w K mg base CX0 1 T.f_l_end T.fd_l_end P_l_end spEnd := ok_l_end T
    have G_l_walk : FnOk P w K mg base CX0 2 T.f_l_walk T.fd_l_walk P_l_walk (spWalk ns) := ok_l_walk T ns
    have G_l_fault : FnOk P w K mg base CX0 2 T.f_l_fault T.fd_l_fault P_l_fault (spFault K) := ok_l_fault T
    have G_l_odd : FnOk P w K mg base CX0 6 T.f_l_odd T.fd_l_odd P_l_odd (spOdd K ns) := ok_l_odd T ns
    have G_l_bent : FnOk P w K mg base CX0 7 T.f_l_bent T.fd_l_bent P_l_bent (spBent K ns) := ok_l_bent T ns
    have G_l_told : FnOk P w K mg base CX0 6 T.f_l_told T.fd_l_told P_l_told (spTold K T.C_Loom) := ok_l_told T
    have G_is_row : FnOk P w K mg base (L2.CX P w) 3 T.f_is_row T.fd_is_row P_is_row (spIsRow K T.C_Loom T.C_UnknownState) := ok_is_rowX T
    have G_text_of : FnOk P w K mg base (L2.CX P w) 5 T.f_text_of T.fd_text_of P_text_of (spTextOf K T.C_Loom T.C_UnknownState T.C_InvalidRow) := ok_text_ofX T
    have G_end_of : FnOk P w K mg base (L2.CX P w) 5 T.f_end_of T.fd_end_of P_end_of (spEndOf K T.C_Loom T.C_UnknownState T.C_InvalidRow) := ok_end_ofX T
    have KB_text_of_row_state_loom : KBn K T.fd_text_of P_text_of 0 ["row", "state", "loom"] (fun _ ws => ws.reverse) (fun _ zs => zs.reverse) :=
      T.F_text_of.kbinds List.reverse (fun _ _ _ _ _ _ ws hl => match ws, hl with | [_, _, _], _ => rfl) rev_vals
    have KB_end_of_row_state_loom : KBn K T.fd_end_of P_end_of 0 ["row", "state", "loom"] (fun _ ws => ws.reverse) (fun _ zs => zs.reverse) :=
      T.F_end_of.kbinds List.reverse (fun _ _ _ _ _ _ ws hl => match ws, hl with | [_, _, _], _ => rfl) rev_vals
    have KB_is_row_thing_state_loom : KBn K T.fd_is_row P_is_row 0 ["thing", "state", "loom"] (fun _ ws => ws.reverse) (fun _ zs => zs.reverse) :=
      T.F_is_row.kbinds List.reverse (fun _ _ _ _ _ _ ws hl => match ws, hl with | [_, _, _], _ => rfl) rev_vals
    refine ⟨_, (pss_cons (ps_set (i := 1) sc_law.nd rfl (Or.inl rfl) (pe_call G_l_state (hr.mono (by decide)) rfl T.m_l_state T.F_l_state.kp T.b_l_state .nil pass0 (pa_cons (pv 0) pa_nil)))
        (pss_cons (ps_for PassesOwn.never rfl (pi_range1 rfl T.n_range (pa_cons pe_int pa_nil)) (pg_name (i := 2) sc_law.nd rfl (Or.inl rfl)) (pss_cons (ps_set (i := 3) sc_law.nd rfl (Or.inl rfl) (pe_call G_l_loom (hr.mono (by decide)) rfl T.m_l_loom T.F_l_loom.kp T.b_l_loom .nil pass0 (pa_cons (pv 1) pa_nil)))
        (pss_cons (ps_set (i := 4) sc_law.nd rfl (Or.inl rfl) (pe_ix (ix_tupK (K := K) rfl) (pv 3) pe_int (fun _ _ => rfl)))
        (pss_cons (ps_set (i := 5) sc_law.nd rfl (Or.inl rfl) (pe_call G_l_made (hr.mono (by decide)) rfl T.m_l_made T.F_l_made.kp T.b_l_made .nil pass0 (pa_cons (pv 3) pa_nil)))
        (pss_cons (ps_for PassesOwn.never rfl (pi_range1 rfl T.n_range (pa_cons pe_int pa_nil)) (pg_name (i := 6) sc_law.nd rfl (Or.inl rfl)) (pss_cons (ps_set (i := 7) sc_law.nd rfl (Or.inl rfl) (pe_ix (ix_listK (K := K) rfl) (pe_lst (pa_cons pe_int (pa_cons pe_int (pa_cons pe_int (pa_cons pe_int (pa_cons pe_int (pa_cons pe_int pa_nil))))))) (pe_call G_l_draw (hr.mono (by decide)) rfl T.m_l_draw T.F_l_draw.kp T.b_l_draw .nil pass0 (pa_cons (pv 1) (pa_cons pe_int pa_nil))) (fun _ _ => rfl)))
        (pss_cons (ps_set (i := 8) sc_law.nd rfl (Or.inl rfl) (pe_call G_l_walk (hr.mono (by decide)) rfl T.m_l_walk T.F_l_walk.kp T.b_l_walk .nil pass0 (pa_cons (pv 1) (pa_cons (pv 4) (pa_cons (pv 7) (pa_cons (pe_call G_l_draw (hr.mono (by decide)) rfl T.m_l_draw T.F_l_draw.kp T.b_l_draw .nil pass0 (pa_cons (pv 1) (pa_cons pe_int pa_nil))) pa_nil))))))
        (pss_cons (ps_for PassesOwn.never rfl (pi_list (pe_lst (pa_cons (pv 8) (pa_cons (pe_callTy (call_tuple_ofK (K := K) rfl) rfl T.n_tuple (by decide +kernel) (pa_cons (pv 8) pa_nil)) (pa_cons (pe_call G_l_bent (hr.mono (by decide)) rfl T.m_l_bent T.F_l_bent.kp T.b_l_bent .nil pass0 (pa_cons (pv 1) (pa_cons (pv 4) (pa_cons (pv 8) pa_nil)))) (pa_cons (pe_call G_l_bent (hr.mono (by decide)) rfl T.m_l_bent T.F_l_bent.kp T.b_l_bent .nil pass0 (pa_cons (pv 1) (pa_cons (pv 4) (pa_cons (pv 8) pa_nil)))) pa_nil)))))) (pg_name (i := 9) sc_law.nd rfl (Or.inl rfl)) (pss_cons (ps_set (i := 10) sc_law.nd rfl (Or.inl rfl) (pe_call G_l_fault (hr.mono (by decide)) rfl T.m_l_fault T.F_l_fault.kp T.b_l_fault .nil pass0 (pa_cons (pv 4) (pa_cons (pv 7) (pa_cons (pv 9) pa_nil)))))
        (pss_cons (ps_set (i := 11) sc_law.nd rfl (Or.inl rfl) (pe_call G_is_row (hr.mono (by decide)) rfl T.m_is_row T.F_is_row.kp T.b_is_row .nil passL (pa_cons (pv 5) (pa_cons (pv 7) (pa_cons (pv 9) pa_nil)))))
        (pss_cons (ps_if (PW.pt (pw_or (pt_not (pt_val (pe_callB (call_isiK' (K := K) rfl) rfl T.n_isinstance (by decide +kernel) (pa_cons (pv 11) (pa_cons (pe_bltn (v := V.ty "bool") (u := .type "bool") rfl T.n_bool (by decide +kernel) rfl) pa_nil))))) (pw_or1 (pt_cmpR (op_neD hr.units) (pv 11) (pe_cmpR op_isN (pv 10) pe_non (nomark _)) (nomark _))))) (pss_one (ps_ret pe_bl)) pss_nil)
        (pss_cons (ps_set (i := 12) sc_law.nd rfl (Or.inl rfl) (pe_lst (pa_cons (pe_tup (pa_cons pe_str (pa_cons (pv 10) pa_nil))) (pa_cons (pe_tup (pa_cons pe_str (pa_cons (pv 10) pa_nil))) pa_nil))))
        (pss_cons (ps_if (pt_cmpR op_isN (pv 10) pe_non (nomark _)) (pss_one (ps_set (i := 12) sc_law.nd rfl (Or.inl rfl) (pe_lst (pa_cons (pe_tup (pa_cons pe_str (pa_cons (pe_call G_l_joined (hr.mono (by decide)) rfl T.m_l_joined T.F_l_joined.kp T.b_l_joined .nil pass0 (pa_cons (pv 4) (pa_cons (pv 9) pa_nil))) pa_nil))) (pa_cons (pe_tup (pa_cons pe_str (pa_cons (pe_call G_l_end (hr.mono (by decide)) rfl T.m_l_end T.F_l_end.kp T.b_l_end .nil pass0 (pa_cons (pv 4) (pa_cons (pv 7) (pa_cons (pv 9) pa_nil)))) pa_nil))) pa_nil))))) pss_nil)
        (pss_cons (ps_if (pt_cmpR (op_neD hr.units) (pe_lst (pa_cons (pe_call G_l_told (hr.mono (by decide)) rfl T.m_l_told T.F_l_told.kp T.b_l_told .nil pass0 (pa_cons pe_int (pa_cons (pv 5) (pa_cons (pv 7) (pa_cons (pv 9) pa_nil))))) (pa_cons (pe_call G_l_told (hr.mono (by decide)) rfl T.m_l_told T.F_l_told.kp T.b_l_told .nil pass0 (pa_cons pe_int (pa_cons (pv 5) (pa_cons (pv 7) (pa_cons (pv 9) pa_nil))))) pa_nil))) (pv 12) (nomark _)) (pss_one (ps_ret pe_bl)) pss_nil)
        (pss_cons (ps_if (PW.pt (pw_and (pt_cmpR op_isN (pv 10) pe_non (nomark _)) (pw_and1 (pt_cmpR op_ne (pe_callN0 G_text_of (hr.mono (by decide)) rfl T.m_text_of T.F_text_of.kp KB_text_of_row_state_loom passL (pk_cons (pv 9) (pk_cons (pv 7) (pk_cons (pv 5) pk_nil)))) (pe_ix (ix_tupK (K := K) rfl) (pe_ix (ix_listK (K := K) rfl) (pv 12) pe_int (fun _ _ => rfl)) pe_int (fun _ _ => rfl)) (nomark _))))) (pss_one (ps_ret pe_bl)) pss_nil)
        (pss_one (ps_if (PW.pt (pw_and (pt_cmpR op_isN (pv 10) pe_non (nomark _)) (pw_and1 (pt_cmpR op_ne (pe_callN0 G_end_of (hr.mono (by decide)) rfl T.m_end_of T.F_end_of.kp KB_end_of_row_state_loom passL (pk_cons (pv 9) (pk_cons (pv 7) (pk_cons (pv 5) pk_nil)))) (pe_ix (ix_tupK (K := K) rfl) (pe_ix (ix_listK (K := K) rfl) (pv 12) pe_int (fun _ _ => rfl)) pe_int (fun _ _ => rfl)) (nomark _))))) (pss_one (ps_ret pe_bl)) pss_nil))))))))))
        (pss_cons (ps_set (i := 13) sc_law.nd rfl (Or.inl rfl) (pe_call G_l_odd (hr.mono (by decide)) rfl T.m_l_odd T.F_l_odd.kp T.b_l_odd .nil pass0 (pa_cons (pv 1) pa_nil)))
        (pss_cons (ps_if (PW.pt (pw_or (pt_cmpR (op_neD hr.units) (pe_call G_l_told (hr.mono (by decide)) rfl T.m_l_told T.F_l_told.kp T.b_l_told .nil pass0 (pa_cons pe_int (pa_cons (pv 5) (pa_cons (pv 13) (pa_cons pe_non pa_nil))))) (pe_tup (pa_cons pe_str pa_nil)) (nomark _)) (pw_or1 (pt_cmpR (op_neD hr.units) (pe_call G_l_told (hr.mono (by decide)) rfl T.m_l_told T.F_l_told.kp T.b_l_told .nil pass0 (pa_cons pe_int (pa_cons (pv 5) (pa_cons (pv 13) (pa_cons (pv 8) pa_nil))))) (pe_tup (pa_cons pe_str pa_nil)) (nomark _))))) (pss_one (ps_ret pe_bl)) pss_nil)
        (pss_cons (ps_set (i := 11) sc_law.nd rfl (Or.inl rfl) pe_str)
        (pss_cons (ps_try_cls (Wout := fun _ _ _ _ => False) rfl rfl takes0 (fun W pn xe tk _ => pss_one (ps_expr (by exact (pe_callNS G_is_row (hr.mono (by decide)) rfl T.m_is_row T.F_is_row.kp KB_is_row_thing_state_loom (fun σ => passAt tk σ) (pk_cons (pv 8) (pk_cons (pv 13) (pk_cons (pv 5) pk_nil))))))) (.plain ⟨rfl, by decide, Or.inl T.g_UnknownState⟩ (fun g oe cls d pn hz hf => pss_one (ps_set (i := 11) sc_law.nd rfl (Or.inl rfl) (by exact pe_str))) .nil))
        (pss_one (ps_if (pt_cmpR (op_neD hr.units) (pv 11) pe_str (nomark _)) (pss_one (ps_ret pe_bl)) pss_nil))))))))))
        (pss_cons (ps_set (i := 14) sc_law.nd rfl (Or.inl rfl) (pe_call G_l_walk (hr.mono (by decide)) rfl T.m_l_walk T.F_l_walk.kp T.b_l_walk .nil pass0 (pa_cons (pv 1) (pa_cons (pv 4) (pa_cons pe_int (pa_cons pe_int pa_nil))))))
        (pss_one (ps_if (pt_cmpR op_eq (pe_callB (call_len_seqK (K := K) rfl) rfl T.n_len (by decide +kernel) (pa_cons (pv 14) pa_nil)) pe_int (nomark _)) (pss_cons (ps_if (PW.pt (pw_or (pt_cmpR op_notBl (pe_call G_is_row (hr.mono (by decide)) rfl T.m_is_row T.F_is_row.kp T.b_is_row .nil passL (pa_cons (pv 5) (pa_cons pe_int (pa_cons (pv 14) pa_nil)))) pe_bl (nomark _)) (pw_or1 (pt_cmpR (op_neD hr.units) (pe_call G_l_told (hr.mono (by decide)) rfl T.m_l_told T.F_l_told.kp T.b_l_told .nil pass0 (pa_cons pe_int (pa_cons (pv 5) (pa_cons pe_int (pa_cons (pv 14) pa_nil))))) (pe_tup (pa_cons pe_str (pa_cons (pe_un un_neg pe_int) pa_nil))) (nomark _))))) (pss_one (ps_ret pe_bl)) pss_nil)
        (pss_one (ps_if (pt_cmpR (op_neD hr.units) (pe_call G_l_told (hr.mono (by decide)) rfl T.m_l_told T.F_l_told.kp T.b_l_told .nil pass0 (pa_cons pe_int (pa_cons (pv 5) (pa_cons pe_int (pa_cons (pe_slice (sl_listK (K := K) rfl) (pv 14) po_none (po_some pe_int)) pa_nil))))) (pe_tup (pa_cons pe_str (pa_cons (pe_call G_l_joined (hr.mono (by decide)) rfl T.m_l_joined T.F_l_joined.kp T.b_l_joined .nil pass0 (pa_cons (pv 4) (pa_cons (pe_slice (sl_listK (K := K) rfl) (pv 14) po_none (po_some pe_int)) pa_nil))) pa_nil))) (nomark _)) (pss_one (ps_ret pe_bl)) pss_nil))) pss_nil))))))))
        (pss_one (ps_ret pe_bl)))), ?_⟩
    refine ⟨_, rfl, a, rfl, hS, fun H1 p l s1 hp hl st1 => ?_⟩
    refine ⟨4, rfl, by decide, by decide, for_range (lo := 0) (n := 4) (fun i σ H' => ∃ v2 v3 v4 v5 v6 v7 v8 v9 v10 v11 v12 v13 v14 : Option V, σ = [some (.ref a), some (.ref p), v2, v3, v4, v5, v6, v7, v8, v9, v10, v11, v12, v13, v14] ∧ StAt ns l H' p) ?_ ?_ ?_⟩
    · exact ⟨none, none, none, none, none, none, none, none, none, none, none, none, none, rfl, st1⟩
    · rintro i σ H2 hi ⟨v2, v3, v4, v5, v6, v7, v8, v9, v10, v11, v12, v13, v14, rfl, st2⟩
      refine ⟨_, rfl, p, l, rfl, st2, fun H3 q r sg us as x3 st3 hq hr0 htup hlst harc hok hsg => ?_⟩
      refine ⟨_, rfl, q, _, _, _, rfl, rfl, SqT.of htup, rfl, ?_⟩
      refine ⟨_, rfl, q, r, sg, us, as, rfl, htup, hlst, harc, hok.w, hsg, fun H4 lm s4 hlm hloom => ?_⟩
      have okw := hok.w
      have nrp : r ≠ p := (st2.ne hr0).1
      have st4 := st3.same s4
      have arc4 : ArcL H4 r as := ⟨us, s4 _ _ hlst, harc.same s4⟩
      refine ⟨6, rfl, by decide, by decide, for_range (lo := 0) (n := 6) (fun i σ H' => ∃ v2 v6 v7 v8 v9 v10 v11 v12 v13 v14 : Option V, σ = [some (.ref a), some (.ref p), v2, some (.ref q), some (.ref r), some (.ref lm), v6, v7, v8, v9, v10, v11, v12, v13, v14] ∧ StAt ns l H' p ∧ Ex p H4 H') ?_ ?_ ?_⟩
      · exact ⟨_, _, _, _, _, _, _, _, _, _, rfl, st4, Ex.refl _ _⟩
      · rintro i2 σ H5 hi2 ⟨v2, v6, v7, v8, v9, v10, v11, v12, v13, v14, rfl, st5, x5⟩
        refine ⟨le_size (by simp), fun L hL => ?_⟩
        have nL := (st5.ne hL).1
        have sL := Same.new (.lst [V.int 0, V.int 0, V.int 1, V.int 2, V.int 63, V.int 5]) hL
        refine ⟨_, rfl, p, l, 6, rfl, st5.same sL, by decide, by decide, fun H6 r6 x6 st6 r60 r61 => ?_⟩
        obtain ⟨v, hv, hat⟩ := atI_mem (xs := [V.int 0, V.int 0, V.int 1, V.int 2, V.int 63, V.int 5]) r60 (by simpa using r61)
        obtain ⟨g, rfl, hg⟩ := here_of hv
        refine ⟨L, _, _, _, rfl, rfl, SqL.of (x6 _ _ nL upd_same), hat, ?_⟩
        have x46 : Ex p H4 H6 := (x5.trans (Same.ex sL)).trans x6
        have arc6 := arc4.ex st4 x46 nrp
        refine ⟨_, rfl, _, rfl, _, rfl, _, rfl, p, l, 8, rfl, st6, by decide, by decide, fun H7 m x7 st7 m0 m1 => ?_⟩
        refine ⟨p, l, r, sg, as, g, m, rfl, st7, nrp, arc6.ex st6 x7 nrp, okw, m0, by omega, fun H8 rw row x8 st8 hrw0 nrwp hrwl hRw hlen => ?_⟩
        have x48 : Ex p H4 H8 := (x46.trans x7).trans x8
        have row7 : row.length ≤ 7 := by omega
        refine ⟨_, rfl, _, rfl, rw, _, rfl, .inl ⟨SqL.of hrwl, fun tu htu => ?_⟩⟩
        have s9 := Same.new (.tup (nats row)) htu
        have e9 : (upd H8 tu (.tup (nats row))) tu = some (.tup (nats row)) := upd_same
        have st9 := st8.same s9
        have ntu := (st8.ne htu).1
        have hrw9 := s9 _ _ hrwl
        have x49 := x48.trans (Same.ex s9)
        generalize upd H8 tu (.tup (nats row)) = H9 at *
        refine ⟨_, rfl, _, rfl, _, rfl, p, l, r, rw, as, row, rfl, st9, nrp, nrwp, arc4.ex st4 x49 nrp, okw.2.1, hrw9, by omega, fun H10 b1 d1 x10 st10 hb1 => ?_⟩
        have x410 := x49.trans x10
        refine ⟨_, rfl, _, rfl, _, rfl, p, l, r, rw, as, row, rfl, st10, nrp, nrwp, arc4.ex st4 x410 nrp, okw.2.1, x10 _ _ nrwp hrw9, by omega, fun H11 b2 d2 x11 st11 hb2 => ?_⟩
        have x411 := x410.trans x11
        refine ⟨le_size (by simp), fun LL hLL => ?_⟩
        have s12 := Same.new (.lst [V.ref rw, V.ref tu, b1, b2]) hLL
        have eLL : (upd H11 LL (.lst [V.ref rw, V.ref tu, b1, b2])) LL = some (.lst [V.ref rw, V.ref tu, b1, b2]) := upd_same
        have st12 := st11.same s12
        have x412 := x411.trans (Same.ex s12)
        have nLL := (st11.ne hLL).1
        have hrw12 := s12 _ _ (x11 _ _ nrwp (x10 _ _ nrwp hrw9))
        have htu12 := s12 _ _ (x11 _ _ ntu (x10 _ _ ntu e9))
        have tb1 := (hb1.ex x11).ex (Same.ex s12)
        have tb2 := hb2.ex (Same.ex s12)
        generalize upd H11 LL (.lst [V.ref rw, V.ref tu, b1, b2]) = H12 at *
        have loom12 := hloom.st st4 x412
        have arc12 := arc4.ex st4 x412 nrp
        have trw : ThgP K p H12 (.ref rw) (some (nats row)) := thgP_list nrwp hrw12 nats_int (by rw [nats_len2]; omega)
        have ttu : ThgP K p H12 (.ref tu) (some (nats row)) := thgP_tup ntu htu12 nats_int (by rw [nats_len2]; omega)
        have things : ∀ x ∈ [V.ref rw, V.ref tu, b1, b2], ∃ d, Thg K H12 x d := fun x hx => by
          simp only [List.mem_cons, List.not_mem_nil, or_false] at hx
          rcases hx with rfl | rfl | rfl | rfl
          · exact ⟨_, trw.now⟩
          · exact ⟨_, ttu.now⟩
          · exact ⟨_, tb1.now⟩
          · exact ⟨_, tb2.now⟩
        refine ⟨LL, rfl, ⟨_, SqL.of eLL⟩, for_list (K := K) (a := LL) (xs := [V.ref rw, V.ref tu, b1, b2]) (fun i σ H' => ∃ v6 v9 v10 v11 v12 v13 v14 : Option V, σ = [some (.ref a), some (.ref p), v2, some (.ref q), some (.ref r), some (.ref lm), v6, some (.int (g : Int)), some (.ref rw), v9, v10, v11, v12, v13, v14] ∧ Same H12 H') ?_ ?_ ?_ ?_⟩
        · exact ⟨_, _, _, _, _, _, _, rfl, Same.refl _⟩
        · rintro i σ H' _ ⟨_, _, _, _, _, _, _, _, s⟩
          exact SqL.of (s _ _ eLL)
        · rintro i3 x σ H13 hx ⟨v6, v9, v10, v11, v12, v13, v14, rfl, s13⟩
          obtain ⟨d, hd12⟩ := things x (List.mem_of_getElem? hx)
          have hd := hd12.same s13
          have loom13 := loom12.same s13
          have arc13 := arc12.same s13
          refine ⟨_, rfl, _, rfl, _, rfl, r, sg, as, g, x, d, rfl, arc13, okw, hd, fun H14 s14 => ?_⟩
          refine ⟨_, rfl, _, rfl, _, rfl, lm, sg, us, as, _, x, d, rfl, loom13.same s14, hd.same s14, .inr ⟨g, rfl, hg, fun H15 s15 => ?_⟩⟩
          have S15 := s14.trans s15
          refine ⟨_, rfl, _, _, _, _, true, rfl, .ty "bool", .base (.bl _), kit_ty (by decide +kernel), true, rfl, iteF ?_⟩
          refine ⟨_, rfl, _, rfl, rfl, ne_same (.bl _) (.bl _) rfl ⟨false, rfl, iteF ?_⟩⟩
          refine ⟨_, rfl, le_size (by simp), fun t1 ht1 => ⟨_, rfl, le_size (by simp), fun t2 ht2 => ⟨le_size (by simp), fun L2 hL2 => ?_⟩⟩⟩
          have g1 : (upd H15 t1 (.tup [V.str "row", fltV as g d])) t1 = some (.tup [V.str "row", fltV as g d]) := upd_same
          have u1 := Same.new (.tup [V.str "row", fltV as g d]) ht1
          generalize upd H15 t1 (.tup [V.str "row", fltV as g d]) = H16 at *
          have g2 : (upd H16 t2 (.tup [V.str "row", fltV as g d])) t2 = some (.tup [V.str "row", fltV as g d]) := upd_same
          have u2 := Same.new (.tup [V.str "row", fltV as g d]) ht2
          replace g1 := u2 _ _ g1
          generalize upd H16 t2 (.tup [V.str "row", fltV as g d]) = H17 at *
          have g3 : (upd H17 L2 (.lst [V.ref t1, V.ref t2])) L2 = some (.lst [V.ref t1, V.ref t2]) := upd_same
          have u3 := Same.new (.lst [V.ref t1, V.ref t2]) hL2
          replace g1 := u3 _ _ g1
          replace g2 := u3 _ _ g2
          have S18 := ((S15.trans u1).trans u2).trans u3
          generalize upd H17 L2 (.lst [V.ref t1, V.ref t2]) = H18 at *
          rcases fltV_two (as := as) (g := g) (d := d) with e | ⟨fi, e⟩
          · rw [e] at g1 g2 ⊢
            obtain ⟨row', rfl, hRw', hl'⟩ := fltV_row e
            obtain ⟨a0, rfl, hs0⟩ : ∃ a0, x = .ref a0 ∧ Seq H13 a0 (nats row') := by
              cases hd with
              | @seq a0 _ hs _ _ => exact ⟨a0, rfl, hs⟩
            refine ⟨_, rfl, rfl, true, congrArg V.bl (by simp), iteT ?_⟩
            refine ⟨_, rfl, _, rfl, r, a0, sg, as, row', rfl, arc13.same S18, okw, hs0.same S18, hRw'.lt, by omega, fun H19 s19 => ⟨le_size (by simp), fun t3 ht3 => ?_⟩⟩
            have oks := text_ok hsg okw row'
            have g4 : (upd H19 t3 (.tup [V.str "told", V.str (SX.S (textR as row'))])) t3 = some (.tup [V.str "told", V.str (SX.S (textR as row'))]) := upd_same
            have u4 := s19.trans (Same.new (.tup [V.str "told", V.str (SX.S (textR as row'))]) ht3)
            generalize upd H19 t3 (.tup [V.str "told", V.str (SX.S (textR as row'))]) = H20 at *
            have S20 := S18.trans u4
            refine ⟨_, rfl, _, rfl, _, rfl, r, a0, as, g, row', rfl, arc13.same S20, hs0.same S20, hRw'.lt, ⟨le_size (by simp), fun t4 ht4 => ⟨le_size (by simp), fun L3 hL3 => ?_⟩⟩⟩
            have g5 : (upd H20 t4 (.tup [V.str "told", V.int (endR as g row' : Nat)])) t4 = some (.tup [V.str "told", V.int (endR as g row' : Nat)]) := upd_same
            have u5 := Same.new (.tup [V.str "told", V.int (endR as g row' : Nat)]) ht4
            replace g4 := u5 _ _ g4
            generalize upd H20 t4 (.tup [V.str "told", V.int (endR as g row' : Nat)]) = H21 at *
            have g6 : (upd H21 L3 (.lst [V.ref t3, V.ref t4])) L3 = some (.lst [V.ref t3, V.ref t4]) := upd_same
            have u6 := Same.new (.lst [V.ref t3, V.ref t4]) hL3
            replace g4 := u6 _ _ g4
            replace g5 := u6 _ _ g5
            generalize upd H21 L3 (.lst [V.ref t3, V.ref t4]) = H22 at *
            have S22 := (S20.trans u5).trans u6
            refine ⟨_, rfl, _, rfl, _, rfl, 0, lm, sg, us, as, _, _, _, rfl, loom13.same S22, hd.same S22, .inr ⟨g, rfl, hg, .inl ⟨row', rfl, e, fun H23 q1 s23 hq1 hq1t => ?_⟩⟩⟩
            have S23 := S22.trans s23
            refine ⟨_, rfl, _, rfl, _, rfl, 1, lm, sg, us, as, _, _, _, rfl, loom13.same S23, hd.same S23, .inr ⟨g, rfl, hg, .inl ⟨row', rfl, e, fun H24 q2 s24 hq2 hq2t => ?_⟩⟩⟩
            have S24 := S23.trans s24
            refine ⟨le_size (by simp), fun L4 hL4 => ?_⟩
            have u7 := Same.new (.lst [V.ref q1, V.ref q2]) hL4
            have g7 : (upd H24 L4 (.lst [V.ref q1, V.ref q2])) L4 = some (.lst [V.ref q1, V.ref q2]) := upd_same
            generalize upd H24 L4 (.lst [V.ref q1, V.ref q2]) = H25 at *
            have up := (s23.trans s24).trans u7
            have z1 := u7 _ _ (s24 _ _ hq1t)
            have z2 := u7 _ _ hq2t
            rw [show toldV 0 as g row' = V.str (SX.S (textR as row')) from rfl] at z1
            rw [show toldV 1 as g row' = V.int (endR as g row' : Nat) from rfl] at z2
            refine ⟨_, rfl, ne_same (.lst (SqL.of g7) (.cons (dp_pair z1 (.str _)) (.cons (dp_pair z2 (.int _)) .nil))) (.lst (SqL.of (up _ _ g6)) (.cons (dp_pair (up _ _ g4) (.str _)) (.cons (dp_pair (up _ _ g5) (.int _)) .nil))) (sh_pairs (by decide +kernel) oks rfl (by decide +kernel) rfl rfl) ⟨false, rfl, iteF ?_⟩⟩
            have S25 := S22.trans up
            replace g4 := up _ _ g4
            replace g5 := up _ _ g5
            replace g6 := up _ _ g6
            refine ⟨_, rfl, rfl, true, congrArg V.bl (by simp), iteT ?_⟩
            refine ⟨_, rfl, _, rfl, _, rfl, rfl, rfl, lm, sg, us, as, _, _, _, rfl, loom13.same S25, hd.same S25, .inr ⟨g, rfl, hg, .inl ⟨e, fun H26 s26 row2 hr2 hRw2 => ?_⟩⟩⟩
            obtain rfl : row2 = row' := nats_inj (Option.some.inj hr2).symm
            refine ⟨_, rfl, L3, _, _, _, rfl, rfl, SqL.of (s26 _ _ g6), rfl, t3, _, _, _, rfl, rfl, SqT.of (s26 _ _ g4), rfl, rfl, false, congrArg V.bl (by simp), iteF ?_⟩
            refine ⟨_, rfl, rfl, true, congrArg V.bl (by simp), iteT ?_⟩
            refine ⟨_, rfl, _, rfl, _, rfl, rfl, rfl, lm, sg, us, as, _, _, _, rfl, loom13.same (S25.trans s26), hd.same (S25.trans s26), .inr ⟨g, rfl, hg, .inl ⟨e, fun H27 s27 row3 hr3 hRw3 => ?_⟩⟩⟩
            obtain rfl : row3 = row2 := nats_inj (Option.some.inj hr3).symm
            refine ⟨_, rfl, L3, _, _, _, rfl, rfl, SqL.of (s27 _ _ (s26 _ _ g6)), rfl, t4, _, _, _, rfl, rfl, SqT.of (s27 _ _ (s26 _ _ g5)), rfl, rfl, false, congrArg V.bl (by simp), iteF ?_⟩
            exact ⟨_, _, _, _, _, _, _, rfl, s13.trans ((S25.trans s26).trans s27)⟩
          · rw [e] at g1 g2 ⊢
            refine ⟨_, rfl, rfl, false, congrArg V.bl (by simp), iteF ?_⟩
            refine ⟨_, rfl, _, rfl, _, rfl, 0, lm, sg, us, as, _, x, d, rfl, loom13.same S18, hd.same S18, .inr ⟨g, rfl, hg, .inr ⟨fi, e, fun H23 q1 s23 hq1 hq1t => ?_⟩⟩⟩
            have S23 := S18.trans s23
            refine ⟨_, rfl, _, rfl, _, rfl, 1, lm, sg, us, as, _, x, d, rfl, loom13.same S23, hd.same S23, .inr ⟨g, rfl, hg, .inr ⟨fi, e, fun H24 q2 s24 hq2 hq2t => ?_⟩⟩⟩
            refine ⟨le_size (by simp), fun L4 hL4 => ?_⟩
            have u7 := Same.new (.lst [V.ref q1, V.ref q2]) hL4
            have g7 : (upd H24 L4 (.lst [V.ref q1, V.ref q2])) L4 = some (.lst [V.ref q1, V.ref q2]) := upd_same
            generalize upd H24 L4 (.lst [V.ref q1, V.ref q2]) = H25 at *
            have up := (s23.trans s24).trans u7
            have z1 := u7 _ _ (s24 _ _ hq1t)
            have z2 := u7 _ _ hq2t
            refine ⟨_, rfl, ne_same (.lst (SqL.of g7) (.cons (dp_pair z1 (.int _)) (.cons (dp_pair z2 (.int _)) .nil))) (.lst (SqL.of (up _ _ g3)) (.cons (dp_pair (up _ _ g1) (.int _)) (.cons (dp_pair (up _ _ g2) (.int _)) .nil))) (sh_pairs (by decide +kernel) rfl rfl (by decide +kernel) rfl rfl) ⟨false, rfl, iteF ?_⟩⟩
            refine ⟨_, rfl, rfl, false, congrArg V.bl (by simp), iteF (iteF ?_)⟩
            refine ⟨_, rfl, rfl, false, congrArg V.bl (by simp), iteF (iteF ?_)⟩
            exact ⟨_, _, _, _, _, _, _, rfl, s13.trans (S18.trans up)⟩
        · rintro σ H13 ⟨v6, v9, v10, v11, v12, v13, v14, rfl, s13⟩
          have st13 := st12.same s13
          refine ⟨_, rfl, p, l, rfl, st13, fun H14 y x14 st14 hodd => ?_⟩
          have x1214 : Ex p H12 H14 := (Same.ex s13).trans x14
          have loom14 := loom12.st st12 x1214
          obtain ⟨dy, hod⟩ := hodd
          have hb14 : ∀ H', Same H14 H' → BadSt K H' y := fun H' s => (hod H' (Same.ex s)).1
          have hr14 : ∀ H', Same H14 H' → Thg K H' (.ref rw) (some (nats row)) := fun H' s => (trw.ex x1214) H' (Same.ex s)
          have shs : SeqAt.shaped (.tuple [.str "state"]) = true := by decide +kernel
          refine ⟨_, rfl, _, rfl, 0, lm, sg, us, as, y, .non, none, rfl, loom14, .non (.x (.base .non)) (kit_no (kit_ty (by decide +kernel)) (kit_ty (by decide +kernel))), .inl ⟨hb14 _ (Same.refl _), fun H15 q1 s15 hq1 hq1t => ?_⟩⟩
          refine ⟨le_size (by simp), fun t1 ht1 => ?_⟩
          have u1 := Same.new (.tup [V.str "state"]) ht1
          refine ne_same (.tup (SqT.of (u1 _ _ hq1t)) (.cons (.str _) .nil)) (.tup (SqT.of upd_same) (.cons (.str _) .nil)) shs ⟨false, rfl, iteF ?_⟩
          have S16 := s15.trans u1
          generalize upd H15 t1 (.tup [V.str "state"]) = H16 at *
          refine ⟨_, rfl, _, rfl, _, rfl, 1, lm, sg, us, as, y, _, _, rfl, loom14.same S16, hr14 _ S16, .inl ⟨hb14 _ S16, fun H17 q2 s17 hq2 hq2t => ?_⟩⟩
          refine ⟨le_size (by simp), fun t2 ht2 => ?_⟩
          have u2 := Same.new (.tup [V.str "state"]) ht2
          refine ne_same (.tup (SqT.of (u2 _ _ hq2t)) (.cons (.str _) .nil)) (.tup (SqT.of upd_same) (.cons (.str _) .nil)) shs ⟨false, rfl, iteF ?_⟩
          have S18 := (S16.trans s17).trans u2
          generalize upd H17 t2 (.tup [V.str "state"]) = H18 at *
          refine ⟨_, rfl, _, rfl, _, rfl, rfl, lm, sg, us, as, y, _, _, rfl, loom14.same S18, hr14 _ S18, .inl ⟨hb14 _ S18, ?_⟩⟩
          refine ⟨true, exm_own T.E_UnknownState.hs T.cl_UnknownState T.ty_UnknownState T.ss_UnknownState, fun _ e he => ?_, fun e => Bool.noConfusion e⟩
          refine ⟨_, rfl, PyData.str "state", PyData.str "state", .str _, .str _, by decide +kernel, by decide +kernel, false, congrArg V.bl (by rw [SeqAt.eqv_refl (.str "state") (by decide +kernel)]; rfl), iteF ?_⟩
          exact ⟨_, _, _, _, _, _, _, _, _, _, rfl, st14.same S18, x412.trans (x1214.trans (Same.ex S18))⟩
      · rintro σ H5 ⟨v2, v6, v7, v8, v9, v10, v11, v12, v13, v14, rfl, st5, x5⟩
        have arc5 := arc4.ex st4 x5 nrp
        refine ⟨_, rfl, _, rfl, p, l, r, sg, as, 0, 2001, rfl, st5, nrp, arc5, okw, by decide, by decide, fun H6 rg row x6 st6 hrg nrg hrgl hRw hlen => ?_⟩
        have x46 := x5.trans x6
        have loom6 := hloom.st st4 x46
        have arc6 := arc4.ex st4 x46 nrp
        refine ⟨_, rfl, rg, _, rfl, .inl (SqL.of hrgl), rfl, _, rfl, ?_⟩
        refine ite2 (fun c => ?_) (fun c => ?_)
        · have hl : row.length = 2001 := by
            have z := of_decide_eq_true c
            injection z with z
            rw [nats_len2] at z
            omega
          have trg : ThgP K p H6 (.ref rg) (some (nats row)) := thgP_list nrg hrgl nats_int (by rw [nats_len2]; omega)
          have t6 : ∀ H', Same H6 H' → Thg K H' (.ref rg) (some (nats row)) := fun H' s => trg H' (Same.ex s)
          have e : fltV as 0 (some (nats row)) = .int (-1) := by
            dsimp only [fltV]
            rw [if_neg (by rw [nats_len2]; omega)]
          refine ⟨_, rfl, _, rfl, lm, sg, us, as, _, .ref rg, _, rfl, loom6, trg.now, .inr ⟨0, rfl, by decide, fun H7 s7 => ?_⟩⟩
          rw [e]
          refine ⟨_, _, rfl, rfl, false, congrArg V.bl (by simp), iteF ?_⟩
          refine ⟨_, rfl, _, rfl, 0, lm, sg, us, as, _, _, _, rfl, loom6.same s7, t6 _ s7, .inr ⟨0, rfl, by decide, .inr ⟨-1, e, fun H8 q1 s8 hq1 hq1t => ?_⟩⟩⟩
          refine ⟨_, rfl, le_size (by simp), fun t1 ht1 => ?_⟩
          have u1 := Same.new (.tup [V.str "row", V.int (-1)]) ht1
          refine ne_same (dp_pair (u1 _ _ hq1t) (.int _)) (dp_pair upd_same (.int _)) (sh_pair (by decide +kernel) rfl rfl) ⟨false, rfl, iteF ?_⟩
          have S9 := (s7.trans s8).trans u1
          generalize upd H8 t1 (.tup [V.str "row", V.int (-1)]) = H9 at *
          have ct : cutV (nats row) none (some 2000) = nats (row.take 2000) := cut_to (n := 2000) (by omega)
          have hRt := hRw.take 2000
          have lt2 : (row.take 2000).length = 2000 := by rw [List.length_take]; omega
          refine ⟨_, rfl, _, rfl, _, rfl, rg, _, rfl, SqL.of (S9 _ _ hrgl), fun c1 hc1 => ?_⟩
          rw [ct]
          have u2 := Same.new (.lst (nats (row.take 2000))) hc1
          have gc1 : (upd H9 c1 (.lst (nats (row.take 2000)))) c1 = some (.lst (nats (row.take 2000))) := upd_same
          have S10 := S9.trans u2
          generalize upd H9 c1 (.lst (nats (row.take 2000))) = H10 at *
          refine ⟨0, lm, sg, us, as, _, .ref c1, some (nats (row.take 2000)), rfl, loom6.same S10, .seq (.inl gc1) (fun x hx => nats_int (p := p) x hx H10 (Ex.refl _ _)) (by rw [nats_len2, lt2]; decide), .inr ⟨0, rfl, by decide, .inl ⟨row.take 2000, rfl, fltV_of_row hRt (by omega), fun H11 q2 s11 hq2 hq2t => ?_⟩⟩⟩
          have S11 := S10.trans s11
          refine ⟨_, rfl, _, rfl, _, rfl, rg, _, rfl, SqL.of (S11 _ _ hrgl), fun c2 hc2 => ?_⟩
          rw [ct]
          have u3 := Same.new (.lst (nats (row.take 2000))) hc2
          have gc2 : (upd H11 c2 (.lst (nats (row.take 2000)))) c2 = some (.lst (nats (row.take 2000))) := upd_same
          have S12 := S11.trans u3
          have hq12 := u3 _ _ hq2t
          generalize upd H11 c2 (.lst (nats (row.take 2000))) = H12 at *
          refine ⟨r, c2, sg, as, row.take 2000, rfl, arc6.same S12, okw, .inl gc2, hRt.lt, by omega, fun H13 s13 => ⟨le_size (by simp), fun t2 ht2 => ?_⟩⟩
          have u4 := Same.new (.tup [V.str "told", V.str (SX.S (textR as (row.take 2000)))]) ht2
          rw [show toldV 0 as 0 (row.take 2000) = V.str (SX.S (textR as (row.take 2000))) from rfl] at hq12
          refine ne_same (dp_pair (u4 _ _ (s13 _ _ hq12)) (.str _)) (dp_pair upd_same (.str _)) (sh_pair (by decide +kernel) (text_ok hsg okw _) rfl) ⟨false, rfl, iteF ?_⟩
          exact ⟨_, _, _, _, _, _, _, _, _, _, _, _, _, rfl, st6.same ((S12.trans s13).trans u4)⟩
        · exact ⟨_, _, _, _, _, _, _, _, _, _, _, _, _, rfl, st6⟩
    · rintro σ H2 ⟨v2, v3, v4, v5, v6, v7, v8, v9, v10, v11, v12, v13, v14, rfl, st2⟩
      exact k _
end
end J


set_option Elab.async false
set_option linter.all false
set_option maxRecDepth 100000
set_option maxHeartbeats 4000000
namespace J
open PySem L2
theorem all_mk {l : PySem.W.OpenLaw} {w : World} {K : PySem.W.Frag} {h : Heap} {mg : Str → Option Value} {fa f_InvalidLoom_init f_InvalidRow_init f_is_number f_is_sequence f_is_signs f_is_string_over f_is_word f_check_signs f_check_state f_first_misfit f_check_row f_is_row f_text_of f_end_of f_is_arc f_Loom_init f_Loom_eq f_l_state f_l_draw f_l_is_integer f_l_word f_l_loom f_l_made f_l_leaving f_l_joined f_l_end f_l_walk f_l_odd f_l_fault f_l_told f_l_bent f_law C_InvalidLoom C_InvalidRow C_Loom C_ReadError C_UnknownState : Addr} (X : K.In h) (G : h.Ns mainGlobals mg) (hfa : mg "law" = some (.ref fa))
    {od_InvalidLoom_init an_InvalidLoom_init : Option Addr} {sl_InvalidLoom_init : Array (Option Value)} {oc_InvalidLoom_init kV_InvalidLoom_init dc_InvalidLoom_init pm_InvalidLoom_init cd_InvalidLoom_init ct_InvalidLoom_init : Value}
    {od_InvalidRow_init an_InvalidRow_init : Option Addr} {sl_InvalidRow_init : Array (Option Value)} {oc_InvalidRow_init kV_InvalidRow_init dc_InvalidRow_init pm_InvalidRow_init cd_InvalidRow_init ct_InvalidRow_init : Value}
    {od_is_number an_is_number : Option Addr} {sl_is_number : Array (Option Value)} {oc_is_number kV_is_number dc_is_number pm_is_number cd_is_number ct_is_number : Value}
    {od_is_sequence an_is_sequence : Option Addr} {sl_is_sequence : Array (Option Value)} {oc_is_sequence kV_is_sequence dc_is_sequence pm_is_sequence cd_is_sequence ct_is_sequence : Value}
    {od_is_signs an_is_signs : Option Addr} {sl_is_signs : Array (Option Value)} {oc_is_signs kV_is_signs dc_is_signs pm_is_signs cd_is_signs ct_is_signs : Value}
    {od_is_string_over an_is_string_over : Option Addr} {sl_is_string_over : Array (Option Value)} {oc_is_string_over kV_is_string_over dc_is_string_over pm_is_string_over cd_is_string_over ct_is_string_over : Value}
    {od_is_word an_is_word : Option Addr} {sl_is_word : Array (Option Value)} {oc_is_word kV_is_word dc_is_word pm_is_word cd_is_word ct_is_word : Value}
    {od_check_signs an_check_signs : Option Addr} {sl_check_signs : Array (Option Value)} {oc_check_signs kV_check_signs dc_check_signs pm_check_signs cd_check_signs ct_check_signs : Value}
    {od_check_state an_check_state : Option Addr} {sl_check_state : Array (Option Value)} {oc_check_state kV_check_state dc_check_state pm_check_state cd_check_state ct_check_state : Value}
    {od_first_misfit an_first_misfit : Option Addr} {sl_first_misfit : Array (Option Value)} {oc_first_misfit kV_first_misfit dc_first_misfit pm_first_misfit cd_first_misfit ct_first_misfit : Value}
    {od_check_row an_check_row : Option Addr} {sl_check_row : Array (Option Value)} {oc_check_row kV_check_row dc_check_row pm_check_row cd_check_row ct_check_row : Value}
    {od_is_row an_is_row : Option Addr} {sl_is_row : Array (Option Value)} {oc_is_row kV_is_row dc_is_row pm_is_row cd_is_row ct_is_row : Value}
    {od_text_of an_text_of : Option Addr} {sl_text_of : Array (Option Value)} {oc_text_of kV_text_of dc_text_of pm_text_of cd_text_of ct_text_of : Value}
    {od_end_of an_end_of : Option Addr} {sl_end_of : Array (Option Value)} {oc_end_of kV_end_of dc_end_of pm_end_of cd_end_of ct_end_of : Value}
    {od_is_arc an_is_arc : Option Addr} {sl_is_arc : Array (Option Value)} {oc_is_arc kV_is_arc dc_is_arc pm_is_arc cd_is_arc ct_is_arc : Value}
    {od_Loom_init an_Loom_init : Option Addr} {sl_Loom_init : Array (Option Value)} {oc_Loom_init kV_Loom_init dc_Loom_init pm_Loom_init cd_Loom_init ct_Loom_init : Value}
    {od_Loom_eq an_Loom_eq : Option Addr} {sl_Loom_eq : Array (Option Value)} {oc_Loom_eq kV_Loom_eq dc_Loom_eq pm_Loom_eq cd_Loom_eq ct_Loom_eq : Value}
    {od_l_state an_l_state : Option Addr} {sl_l_state : Array (Option Value)} {oc_l_state kV_l_state dc_l_state pm_l_state cd_l_state ct_l_state : Value}
    {od_l_draw an_l_draw : Option Addr} {sl_l_draw : Array (Option Value)} {oc_l_draw kV_l_draw dc_l_draw pm_l_draw cd_l_draw ct_l_draw : Value}
    {od_l_is_integer an_l_is_integer : Option Addr} {sl_l_is_integer : Array (Option Value)} {oc_l_is_integer kV_l_is_integer dc_l_is_integer pm_l_is_integer cd_l_is_integer ct_l_is_integer : Value}
    {od_l_word an_l_word : Option Addr} {sl_l_word : Array (Option Value)} {oc_l_word kV_l_word dc_l_word pm_l_word cd_l_word ct_l_word : Value}
    {od_l_loom an_l_loom : Option Addr} {sl_l_loom : Array (Option Value)} {oc_l_loom kV_l_loom dc_l_loom pm_l_loom cd_l_loom ct_l_loom : Value}
    {od_l_made an_l_made : Option Addr} {sl_l_made : Array (Option Value)} {oc_l_made kV_l_made dc_l_made pm_l_made cd_l_made ct_l_made : Value}
    {od_l_leaving an_l_leaving : Option Addr} {sl_l_leaving : Array (Option Value)} {oc_l_leaving kV_l_leaving dc_l_leaving pm_l_leaving cd_l_leaving ct_l_leaving : Value}
    {od_l_joined an_l_joined : Option Addr} {sl_l_joined : Array (Option Value)} {oc_l_joined kV_l_joined dc_l_joined pm_l_joined cd_l_joined ct_l_joined : Value}
    {od_l_end an_l_end : Option Addr} {sl_l_end : Array (Option Value)} {oc_l_end kV_l_end dc_l_end pm_l_end cd_l_end ct_l_end : Value}
    {od_l_walk an_l_walk : Option Addr} {sl_l_walk : Array (Option Value)} {oc_l_walk kV_l_walk dc_l_walk pm_l_walk cd_l_walk ct_l_walk : Value}
    {od_l_odd an_l_odd : Option Addr} {sl_l_odd : Array (Option Value)} {oc_l_odd kV_l_odd dc_l_odd pm_l_odd cd_l_odd ct_l_odd : Value}
    {od_l_fault an_l_fault : Option Addr} {sl_l_fault : Array (Option Value)} {oc_l_fault kV_l_fault dc_l_fault pm_l_fault cd_l_fault ct_l_fault : Value}
    {od_l_told an_l_told : Option Addr} {sl_l_told : Array (Option Value)} {oc_l_told kV_l_told dc_l_told pm_l_told cd_l_told ct_l_told : Value}
    {od_l_bent an_l_bent : Option Addr} {sl_l_bent : Array (Option Value)} {oc_l_bent kV_l_bent dc_l_bent pm_l_bent cd_l_bent ct_l_bent : Value}
    {od_law an_law : Option Addr} {sl_law : Array (Option Value)} {oc_law kV_law dc_law pm_law cd_law ct_law : Value}
    {nm_InvalidLoom q_InvalidLoom : Str} {ns_InvalidLoom : Addr} {bs_InvalidLoom : List Value} {sn_InvalidLoom : List Str} {sub_InvalidLoom : List Value} {ab_InvalidLoom : Bool} {col_InvalidLoom : Option Bool} {dd_InvalidLoom : Option Addr} {m0_InvalidLoom m1_InvalidLoom m2_InvalidLoom m3_InvalidLoom m5_InvalidLoom : Option Value}
    {nm_InvalidRow q_InvalidRow : Str} {ns_InvalidRow : Addr} {bs_InvalidRow : List Value} {sn_InvalidRow : List Str} {sub_InvalidRow : List Value} {ab_InvalidRow : Bool} {col_InvalidRow : Option Bool} {dd_InvalidRow : Option Addr} {m0_InvalidRow m1_InvalidRow m2_InvalidRow m3_InvalidRow m5_InvalidRow : Option Value}
    {t_MOST_SIGNS : Tok}
    {t_LONGEST_WORD : Tok}
    {t_LAST_STATE : Tok}
    {t_MOST_ITEMS : Tok}
    {t_MOST_ARCS : Tok}
    (a_CUnknownState : PySem.W.nsIn K mainGlobals "UnknownState" = some (some (.ref C_UnknownState)))
    (a_CReadError : PySem.W.nsIn K mainGlobals "ReadError" = some (some (.ref C_ReadError)))
    (a_CLoom : PySem.W.nsIn K mainGlobals "Loom" = some (some (.ref C_Loom)))
    (a_CInvalidRow : PySem.W.nsIn K mainGlobals "InvalidRow" = some (some (.ref C_InvalidRow)))
    (a_CInvalidLoom : PySem.W.nsIn K mainGlobals "InvalidLoom" = some (some (.ref C_InvalidLoom)))
    (a_InvalidLoom_init : PySem.W.findIn K (.ref C_InvalidLoom) "__init__" = some (some (.ref f_InvalidLoom_init)))
    (i_InvalidLoom_init : PySem.W.isFn K (.ref f_InvalidLoom_init) = true)
    (l_InvalidLoom_init : K.lookup f_InvalidLoom_init = some ⟨oc_InvalidLoom_init, od_InvalidLoom_init, .func (PySem.W.fnOf "__init__" "InvalidLoom.__init__" (defArgs s_InvalidLoom_init) (defBody s_InvalidLoom_init) (defScope s_InvalidLoom_init) .none kV_InvalidLoom_init dc_InvalidLoom_init pm_InvalidLoom_init an_InvalidLoom_init cd_InvalidLoom_init ct_InvalidLoom_init), sl_InvalidLoom_init⟩)
    (c_InvalidLoom_init : PySem.W.codeIn K cd_InvalidLoom_init "InvalidLoom.__init__" = true)
    (k_InvalidLoom_init : PySem.W.keepIn K (.ref f_InvalidLoom_init) = true)
    (a_InvalidRow_init : PySem.W.findIn K (.ref C_InvalidRow) "__init__" = some (some (.ref f_InvalidRow_init)))
    (i_InvalidRow_init : PySem.W.isFn K (.ref f_InvalidRow_init) = true)
    (l_InvalidRow_init : K.lookup f_InvalidRow_init = some ⟨oc_InvalidRow_init, od_InvalidRow_init, .func (PySem.W.fnOf "__init__" "InvalidRow.__init__" (defArgs s_InvalidRow_init) (defBody s_InvalidRow_init) (defScope s_InvalidRow_init) .none kV_InvalidRow_init dc_InvalidRow_init pm_InvalidRow_init an_InvalidRow_init cd_InvalidRow_init ct_InvalidRow_init), sl_InvalidRow_init⟩)
    (c_InvalidRow_init : PySem.W.codeIn K cd_InvalidRow_init "InvalidRow.__init__" = true)
    (k_InvalidRow_init : PySem.W.keepIn K (.ref f_InvalidRow_init) = true)
    (a_is_number : PySem.W.nsIn K mainGlobals "is_number" = some (some (.ref f_is_number)))
    (l_is_number : K.lookup f_is_number = some ⟨oc_is_number, od_is_number, .func (PySem.W.fnOf "is_number" "is_number" (defArgs s_is_number) (defBody s_is_number) (defScope s_is_number) .none kV_is_number dc_is_number pm_is_number an_is_number cd_is_number ct_is_number), sl_is_number⟩)
    (c_is_number : PySem.W.codeIn K cd_is_number "is_number" = true)
    (k_is_number : PySem.W.keepIn K (.ref f_is_number) = true)
    (a_is_sequence : PySem.W.nsIn K mainGlobals "is_sequence" = some (some (.ref f_is_sequence)))
    (l_is_sequence : K.lookup f_is_sequence = some ⟨oc_is_sequence, od_is_sequence, .func (PySem.W.fnOf "is_sequence" "is_sequence" (defArgs s_is_sequence) (defBody s_is_sequence) (defScope s_is_sequence) .none kV_is_sequence dc_is_sequence pm_is_sequence an_is_sequence cd_is_sequence ct_is_sequence), sl_is_sequence⟩)
    (c_is_sequence : PySem.W.codeIn K cd_is_sequence "is_sequence" = true)
    (k_is_sequence : PySem.W.keepIn K (.ref f_is_sequence) = true)
    (a_is_signs : PySem.W.nsIn K mainGlobals "is_signs" = some (some (.ref f_is_signs)))
    (l_is_signs : K.lookup f_is_signs = some ⟨oc_is_signs, od_is_signs, .func (PySem.W.fnOf "is_signs" "is_signs" (defArgs s_is_signs) (defBody s_is_signs) (defScope s_is_signs) .none kV_is_signs dc_is_signs pm_is_signs an_is_signs cd_is_signs ct_is_signs), sl_is_signs⟩)
    (c_is_signs : PySem.W.codeIn K cd_is_signs "is_signs" = true)
    (k_is_signs : PySem.W.keepIn K (.ref f_is_signs) = true)
    (a_is_string_over : PySem.W.nsIn K mainGlobals "is_string_over" = some (some (.ref f_is_string_over)))
    (l_is_string_over : K.lookup f_is_string_over = some ⟨oc_is_string_over, od_is_string_over, .func (PySem.W.fnOf "is_string_over" "is_string_over" (defArgs s_is_string_over) (defBody s_is_string_over) (defScope s_is_string_over) .none kV_is_string_over dc_is_string_over pm_is_string_over an_is_string_over cd_is_string_over ct_is_string_over), sl_is_string_over⟩)
    (c_is_string_over : PySem.W.codeIn K cd_is_string_over "is_string_over" = true)
    (k_is_string_over : PySem.W.keepIn K (.ref f_is_string_over) = true)
    (a_is_word : PySem.W.nsIn K mainGlobals "is_word" = some (some (.ref f_is_word)))
    (l_is_word : K.lookup f_is_word = some ⟨oc_is_word, od_is_word, .func (PySem.W.fnOf "is_word" "is_word" (defArgs s_is_word) (defBody s_is_word) (defScope s_is_word) .none kV_is_word dc_is_word pm_is_word an_is_word cd_is_word ct_is_word), sl_is_word⟩)
    (c_is_word : PySem.W.codeIn K cd_is_word "is_word" = true)
    (k_is_word : PySem.W.keepIn K (.ref f_is_word) = true)
    (a_check_signs : PySem.W.nsIn K mainGlobals "check_signs" = some (some (.ref f_check_signs)))
    (l_check_signs : K.lookup f_check_signs = some ⟨oc_check_signs, od_check_signs, .func (PySem.W.fnOf "check_signs" "check_signs" (defArgs s_check_signs) (defBody s_check_signs) (defScope s_check_signs) .none kV_check_signs dc_check_signs pm_check_signs an_check_signs cd_check_signs ct_check_signs), sl_check_signs⟩)
    (c_check_signs : PySem.W.codeIn K cd_check_signs "check_signs" = true)
    (k_check_signs : PySem.W.keepIn K (.ref f_check_signs) = true)
    (a_check_state : PySem.W.nsIn K mainGlobals "check_state" = some (some (.ref f_check_state)))
    (l_check_state : K.lookup f_check_state = some ⟨oc_check_state, od_check_state, .func (PySem.W.fnOf "check_state" "check_state" (defArgs s_check_state) (defBody s_check_state) (defScope s_check_state) .none kV_check_state dc_check_state pm_check_state an_check_state cd_check_state ct_check_state), sl_check_state⟩)
    (c_check_state : PySem.W.codeIn K cd_check_state "check_state" = true)
    (k_check_state : PySem.W.keepIn K (.ref f_check_state) = true)
    (a_first_misfit : PySem.W.nsIn K mainGlobals "first_misfit" = some (some (.ref f_first_misfit)))
    (l_first_misfit : K.lookup f_first_misfit = some ⟨oc_first_misfit, od_first_misfit, .func (PySem.W.fnOf "first_misfit" "first_misfit" (defArgs s_first_misfit) (defBody s_first_misfit) (defScope s_first_misfit) .none kV_first_misfit dc_first_misfit pm_first_misfit an_first_misfit cd_first_misfit ct_first_misfit), sl_first_misfit⟩)
    (c_first_misfit : PySem.W.codeIn K cd_first_misfit "first_misfit" = true)
    (k_first_misfit : PySem.W.keepIn K (.ref f_first_misfit) = true)
    (a_check_row : PySem.W.nsIn K mainGlobals "check_row" = some (some (.ref f_check_row)))
    (l_check_row : K.lookup f_check_row = some ⟨oc_check_row, od_check_row, .func (PySem.W.fnOf "check_row" "check_row" (defArgs s_check_row) (defBody s_check_row) (defScope s_check_row) .none kV_check_row dc_check_row pm_check_row an_check_row cd_check_row ct_check_row), sl_check_row⟩)
    (c_check_row : PySem.W.codeIn K cd_check_row "check_row" = true)
    (k_check_row : PySem.W.keepIn K (.ref f_check_row) = true)
    (a_is_row : PySem.W.nsIn K mainGlobals "is_row" = some (some (.ref f_is_row)))
    (l_is_row : K.lookup f_is_row = some ⟨oc_is_row, od_is_row, .func (PySem.W.fnOf "is_row" "is_row" (defArgs s_is_row) (defBody s_is_row) (defScope s_is_row) .none kV_is_row dc_is_row pm_is_row an_is_row cd_is_row ct_is_row), sl_is_row⟩)
    (c_is_row : PySem.W.codeIn K cd_is_row "is_row" = true)
    (k_is_row : PySem.W.keepIn K (.ref f_is_row) = true)
    (a_text_of : PySem.W.nsIn K mainGlobals "text_of" = some (some (.ref f_text_of)))
    (l_text_of : K.lookup f_text_of = some ⟨oc_text_of, od_text_of, .func (PySem.W.fnOf "text_of" "text_of" (defArgs s_text_of) (defBody s_text_of) (defScope s_text_of) .none kV_text_of dc_text_of pm_text_of an_text_of cd_text_of ct_text_of), sl_text_of⟩)
    (c_text_of : PySem.W.codeIn K cd_text_of "text_of" = true)
    (k_text_of : PySem.W.keepIn K (.ref f_text_of) = true)
    (a_end_of : PySem.W.nsIn K mainGlobals "end_of" = some (some (.ref f_end_of)))
    (l_end_of : K.lookup f_end_of = some ⟨oc_end_of, od_end_of, .func (PySem.W.fnOf "end_of" "end_of" (defArgs s_end_of) (defBody s_end_of) (defScope s_end_of) .none kV_end_of dc_end_of pm_end_of an_end_of cd_end_of ct_end_of), sl_end_of⟩)
    (c_end_of : PySem.W.codeIn K cd_end_of "end_of" = true)
    (k_end_of : PySem.W.keepIn K (.ref f_end_of) = true)
    (a_is_arc : PySem.W.nsIn K mainGlobals "is_arc" = some (some (.ref f_is_arc)))
    (l_is_arc : K.lookup f_is_arc = some ⟨oc_is_arc, od_is_arc, .func (PySem.W.fnOf "is_arc" "is_arc" (defArgs s_is_arc) (defBody s_is_arc) (defScope s_is_arc) .none kV_is_arc dc_is_arc pm_is_arc an_is_arc cd_is_arc ct_is_arc), sl_is_arc⟩)
    (c_is_arc : PySem.W.codeIn K cd_is_arc "is_arc" = true)
    (k_is_arc : PySem.W.keepIn K (.ref f_is_arc) = true)
    (a_Loom_init : PySem.W.findIn K (.ref C_Loom) "__init__" = some (some (.ref f_Loom_init)))
    (i_Loom_init : PySem.W.isFn K (.ref f_Loom_init) = true)
    (l_Loom_init : K.lookup f_Loom_init = some ⟨oc_Loom_init, od_Loom_init, .func (PySem.W.fnOf "__init__" "Loom.__init__" (defArgs s_Loom_init) (defBody s_Loom_init) (defScope s_Loom_init) .none kV_Loom_init dc_Loom_init pm_Loom_init an_Loom_init cd_Loom_init ct_Loom_init), sl_Loom_init⟩)
    (c_Loom_init : PySem.W.codeIn K cd_Loom_init "Loom.__init__" = true)
    (k_Loom_init : PySem.W.keepIn K (.ref f_Loom_init) = true)
    (a_Loom_eq : PySem.W.findIn K (.ref C_Loom) "__eq__" = some (some (.ref f_Loom_eq)))
    (l_Loom_eq : K.lookup f_Loom_eq = some ⟨oc_Loom_eq, od_Loom_eq, .func (PySem.W.fnOf "__eq__" "Loom.__eq__" (defArgs s_Loom_eq) (defBody s_Loom_eq) (defScope s_Loom_eq) .none kV_Loom_eq dc_Loom_eq pm_Loom_eq an_Loom_eq cd_Loom_eq ct_Loom_eq), sl_Loom_eq⟩)
    (c_Loom_eq : PySem.W.codeIn K cd_Loom_eq "Loom.__eq__" = true)
    (k_Loom_eq : PySem.W.keepIn K (.ref f_Loom_eq) = true)
    (a_l_state : PySem.W.nsIn K mainGlobals "_law_state" = some (some (.ref f_l_state)))
    (l_l_state : K.lookup f_l_state = some ⟨oc_l_state, od_l_state, .func (PySem.W.fnOf "_law_state" "_law_state" (defArgs s_l_state) (defBody s_l_state) (defScope s_l_state) .none kV_l_state dc_l_state pm_l_state an_l_state cd_l_state ct_l_state), sl_l_state⟩)
    (c_l_state : PySem.W.codeIn K cd_l_state "_law_state" = true)
    (k_l_state : PySem.W.keepIn K (.ref f_l_state) = true)
    (a_l_draw : PySem.W.nsIn K mainGlobals "_law_draw" = some (some (.ref f_l_draw)))
    (l_l_draw : K.lookup f_l_draw = some ⟨oc_l_draw, od_l_draw, .func (PySem.W.fnOf "_law_draw" "_law_draw" (defArgs s_l_draw) (defBody s_l_draw) (defScope s_l_draw) .none kV_l_draw dc_l_draw pm_l_draw an_l_draw cd_l_draw ct_l_draw), sl_l_draw⟩)
    (c_l_draw : PySem.W.codeIn K cd_l_draw "_law_draw" = true)
    (k_l_draw : PySem.W.keepIn K (.ref f_l_draw) = true)
    (a_l_is_integer : PySem.W.nsIn K mainGlobals "_law_is_integer" = some (some (.ref f_l_is_integer)))
    (l_l_is_integer : K.lookup f_l_is_integer = some ⟨oc_l_is_integer, od_l_is_integer, .func (PySem.W.fnOf "_law_is_integer" "_law_is_integer" (defArgs s_l_is_integer) (defBody s_l_is_integer) (defScope s_l_is_integer) .none kV_l_is_integer dc_l_is_integer pm_l_is_integer an_l_is_integer cd_l_is_integer ct_l_is_integer), sl_l_is_integer⟩)
    (c_l_is_integer : PySem.W.codeIn K cd_l_is_integer "_law_is_integer" = true)
    (k_l_is_integer : PySem.W.keepIn K (.ref f_l_is_integer) = true)
    (a_l_word : PySem.W.nsIn K mainGlobals "_law_word" = some (some (.ref f_l_word)))
    (l_l_word : K.lookup f_l_word = some ⟨oc_l_word, od_l_word, .func (PySem.W.fnOf "_law_word" "_law_word" (defArgs s_l_word) (defBody s_l_word) (defScope s_l_word) .none kV_l_word dc_l_word pm_l_word an_l_word cd_l_word ct_l_word), sl_l_word⟩)
    (c_l_word : PySem.W.codeIn K cd_l_word "_law_word" = true)
    (k_l_word : PySem.W.keepIn K (.ref f_l_word) = true)
    (a_l_loom : PySem.W.nsIn K mainGlobals "_law_loom" = some (some (.ref f_l_loom)))
    (l_l_loom : K.lookup f_l_loom = some ⟨oc_l_loom, od_l_loom, .func (PySem.W.fnOf "_law_loom" "_law_loom" (defArgs s_l_loom) (defBody s_l_loom) (defScope s_l_loom) .none kV_l_loom dc_l_loom pm_l_loom an_l_loom cd_l_loom ct_l_loom), sl_l_loom⟩)
    (c_l_loom : PySem.W.codeIn K cd_l_loom "_law_loom" = true)
    (k_l_loom : PySem.W.keepIn K (.ref f_l_loom) = true)
    (a_l_made : PySem.W.nsIn K mainGlobals "_law_made" = some (some (.ref f_l_made)))
    (l_l_made : K.lookup f_l_made = some ⟨oc_l_made, od_l_made, .func (PySem.W.fnOf "_law_made" "_law_made" (defArgs s_l_made) (defBody s_l_made) (defScope s_l_made) .none kV_l_made dc_l_made pm_l_made an_l_made cd_l_made ct_l_made), sl_l_made⟩)
    (c_l_made : PySem.W.codeIn K cd_l_made "_law_made" = true)
    (k_l_made : PySem.W.keepIn K (.ref f_l_made) = true)
    (a_l_leaving : PySem.W.nsIn K mainGlobals "_law_leaving" = some (some (.ref f_l_leaving)))
    (l_l_leaving : K.lookup f_l_leaving = some ⟨oc_l_leaving, od_l_leaving, .func (PySem.W.fnOf "_law_leaving" "_law_leaving" (defArgs s_l_leaving) (defBody s_l_leaving) (defScope s_l_leaving) .none kV_l_leaving dc_l_leaving pm_l_leaving an_l_leaving cd_l_leaving ct_l_leaving), sl_l_leaving⟩)
    (c_l_leaving : PySem.W.codeIn K cd_l_leaving "_law_leaving" = true)
    (k_l_leaving : PySem.W.keepIn K (.ref f_l_leaving) = true)
    (a_l_joined : PySem.W.nsIn K mainGlobals "_law_joined" = some (some (.ref f_l_joined)))
    (l_l_joined : K.lookup f_l_joined = some ⟨oc_l_joined, od_l_joined, .func (PySem.W.fnOf "_law_joined" "_law_joined" (defArgs s_l_joined) (defBody s_l_joined) (defScope s_l_joined) .none kV_l_joined dc_l_joined pm_l_joined an_l_joined cd_l_joined ct_l_joined), sl_l_joined⟩)
    (c_l_joined : PySem.W.codeIn K cd_l_joined "_law_joined" = true)
    (k_l_joined : PySem.W.keepIn K (.ref f_l_joined) = true)
    (a_l_end : PySem.W.nsIn K mainGlobals "_law_end" = some (some (.ref f_l_end)))
    (l_l_end : K.lookup f_l_end = some ⟨oc_l_end, od_l_end, .func (PySem.W.fnOf "_law_end" "_law_end" (defArgs s_l_end) (defBody s_l_end) (defScope s_l_end) .none kV_l_end dc_l_end pm_l_end an_l_end cd_l_end ct_l_end), sl_l_end⟩)
    (c_l_end : PySem.W.codeIn K cd_l_end "_law_end" = true)
    (k_l_end : PySem.W.keepIn K (.ref f_l_end) = true)
    (a_l_walk : PySem.W.nsIn K mainGlobals "_law_walk" = some (some (.ref f_l_walk)))
    (l_l_walk : K.lookup f_l_walk = some ⟨oc_l_walk, od_l_walk, .func (PySem.W.fnOf "_law_walk" "_law_walk" (defArgs s_l_walk) (defBody s_l_walk) (defScope s_l_walk) .none kV_l_walk dc_l_walk pm_l_walk an_l_walk cd_l_walk ct_l_walk), sl_l_walk⟩)
    (c_l_walk : PySem.W.codeIn K cd_l_walk "_law_walk" = true)
    (k_l_walk : PySem.W.keepIn K (.ref f_l_walk) = true)
    (a_l_odd : PySem.W.nsIn K mainGlobals "_law_odd" = some (some (.ref f_l_odd)))
    (l_l_odd : K.lookup f_l_odd = some ⟨oc_l_odd, od_l_odd, .func (PySem.W.fnOf "_law_odd" "_law_odd" (defArgs s_l_odd) (defBody s_l_odd) (defScope s_l_odd) .none kV_l_odd dc_l_odd pm_l_odd an_l_odd cd_l_odd ct_l_odd), sl_l_odd⟩)
    (c_l_odd : PySem.W.codeIn K cd_l_odd "_law_odd" = true)
    (k_l_odd : PySem.W.keepIn K (.ref f_l_odd) = true)
    (a_l_fault : PySem.W.nsIn K mainGlobals "_law_fault" = some (some (.ref f_l_fault)))
    (l_l_fault : K.lookup f_l_fault = some ⟨oc_l_fault, od_l_fault, .func (PySem.W.fnOf "_law_fault" "_law_fault" (defArgs s_l_fault) (defBody s_l_fault) (defScope s_l_fault) .none kV_l_fault dc_l_fault pm_l_fault an_l_fault cd_l_fault ct_l_fault), sl_l_fault⟩)
    (c_l_fault : PySem.W.codeIn K cd_l_fault "_law_fault" = true)
    (k_l_fault : PySem.W.keepIn K (.ref f_l_fault) = true)
    (a_l_told : PySem.W.nsIn K mainGlobals "_law_told" = some (some (.ref f_l_told)))
    (l_l_told : K.lookup f_l_told = some ⟨oc_l_told, od_l_told, .func (PySem.W.fnOf "_law_told" "_law_told" (defArgs s_l_told) (defBody s_l_told) (defScope s_l_told) .none kV_l_told dc_l_told pm_l_told an_l_told cd_l_told ct_l_told), sl_l_told⟩)
    (c_l_told : PySem.W.codeIn K cd_l_told "_law_told" = true)
    (k_l_told : PySem.W.keepIn K (.ref f_l_told) = true)
    (a_l_bent : PySem.W.nsIn K mainGlobals "_law_bent" = some (some (.ref f_l_bent)))
    (l_l_bent : K.lookup f_l_bent = some ⟨oc_l_bent, od_l_bent, .func (PySem.W.fnOf "_law_bent" "_law_bent" (defArgs s_l_bent) (defBody s_l_bent) (defScope s_l_bent) .none kV_l_bent dc_l_bent pm_l_bent an_l_bent cd_l_bent ct_l_bent), sl_l_bent⟩)
    (c_l_bent : PySem.W.codeIn K cd_l_bent "_law_bent" = true)
    (k_l_bent : PySem.W.keepIn K (.ref f_l_bent) = true)
    (a_law : PySem.W.nsIn K mainGlobals "law" = some (some (.ref f_law)))
    (l_law : K.lookup f_law = some ⟨oc_law, od_law, .func (PySem.W.fnOf "law" "law" (defArgs s_law) (defBody s_law) (defScope s_law) .none kV_law dc_law pm_law an_law cd_law ct_law), sl_law⟩)
    (c_law : PySem.W.codeIn K cd_law "law" = true)
    (k_law : PySem.W.keepIn K (.ref f_law) = true)
    (pg_Loom : PySem.W.plainGet K C_Loom Str.empty = true)
    (hd_Loom : PySem.W.hasDictIn K C_Loom = true)
    (po_Loom : PySem.W.plainOver K C_Loom = true)
    (sa_Loom : PySem.W.findIn K (.ref C_Loom) "__setattr__" = some (some (.builtin "object.__setattr__")))
    (mk_Loom : PySem.W.makesIn K C_Loom = true)
    (kc_Loom : PySem.W.keepIn K (.ref C_Loom) = true)
    (na_Loom_signs : PySem.W.findIn K (.ref C_Loom) "signs" = some none)
    (na_Loom_arcs : PySem.W.findIn K (.ref C_Loom) "arcs" = some none)
    (kc_ReadError : PySem.W.keepIn K (.ref C_ReadError) = true)
    (e1_ReadError : PySem.W.findIn K (.ref C_ReadError) "__getattribute__" = some (some (.builtin "BaseException.__getattribute__")))
    (e2_ReadError : PySem.W.findIn K (.ref C_ReadError) "__getattr__" = some none)
    (e3_ReadError : PySem.W.subIn K (.ref C_ReadError) (.type "BaseException") = some true)
    (e4_ReadError : PySem.W.hasDictIn K C_ReadError = true)
    (e5_ReadError : PySem.W.findIn K (.ref C_ReadError) "__class__" = some (some (.builtin "object.__class__")))
    (e8_ReadError : PySem.W.mroIn K C_ReadError (.type "object") = some true)
    (ty_ReadError : PySem.W.typeIn K (.ref C_ReadError) = some (.type "type"))
    (in_ReadError : PySem.W.excIn K C_ReadError [.type "Exception", .type "BaseException", .type "object"] "Exception.__new__" = true)
    (kc_UnknownState : PySem.W.keepIn K (.ref C_UnknownState) = true)
    (e1_UnknownState : PySem.W.findIn K (.ref C_UnknownState) "__getattribute__" = some (some (.builtin "BaseException.__getattribute__")))
    (e2_UnknownState : PySem.W.findIn K (.ref C_UnknownState) "__getattr__" = some none)
    (e3_UnknownState : PySem.W.subIn K (.ref C_UnknownState) (.type "BaseException") = some true)
    (e4_UnknownState : PySem.W.hasDictIn K C_UnknownState = true)
    (e5_UnknownState : PySem.W.findIn K (.ref C_UnknownState) "__class__" = some (some (.builtin "object.__class__")))
    (e8_UnknownState : PySem.W.mroIn K C_UnknownState (.type "object") = some true)
    (ty_UnknownState : PySem.W.typeIn K (.ref C_UnknownState) = some (.type "type"))
    (in_UnknownState : PySem.W.excIn K C_UnknownState [.type "Exception", .type "BaseException", .type "object"] "Exception.__new__" = true)
    (kc_InvalidLoom : PySem.W.keepIn K (.ref C_InvalidLoom) = true)
    (e1_InvalidLoom : PySem.W.findIn K (.ref C_InvalidLoom) "__getattribute__" = some (some (.builtin "BaseException.__getattribute__")))
    (e2_InvalidLoom : PySem.W.findIn K (.ref C_InvalidLoom) "__getattr__" = some none)
    (e3_InvalidLoom : PySem.W.subIn K (.ref C_InvalidLoom) (.type "BaseException") = some true)
    (e4_InvalidLoom : PySem.W.hasDictIn K C_InvalidLoom = true)
    (e5_InvalidLoom : PySem.W.findIn K (.ref C_InvalidLoom) "__class__" = some (some (.builtin "object.__class__")))
    (e8_InvalidLoom : PySem.W.mroIn K C_InvalidLoom (.type "object") = some true)
    (ty_InvalidLoom : PySem.W.typeIn K (.ref C_InvalidLoom) = some (.type "type"))
    (xi_InvalidLoom : K.lookup C_InvalidLoom = some (excClassObj nm_InvalidLoom q_InvalidLoom C_InvalidLoom ns_InvalidLoom bs_InvalidLoom [.ref C_ReadError, .type "Exception", .type "BaseException", .type "object"] true sn_InvalidLoom sub_InvalidLoom ab_InvalidLoom col_InvalidLoom dd_InvalidLoom m0_InvalidLoom m1_InvalidLoom m2_InvalidLoom m3_InvalidLoom m5_InvalidLoom "Exception.__new__"))
    (tf_InvalidLoom : PySem.W.typeIn K (.ref f_InvalidLoom_init) = some (.type "function"))
    (sa_InvalidLoom : PySem.W.findIn K (.ref C_InvalidLoom) "__setattr__" = some (some (.builtin "object.__setattr__")))
    (no_InvalidLoom_part : PySem.W.findIn K (.ref C_InvalidLoom) "part" = some none)
    (no_InvalidLoom_at : PySem.W.findIn K (.ref C_InvalidLoom) "at" = some none)
    (kc_InvalidRow : PySem.W.keepIn K (.ref C_InvalidRow) = true)
    (e1_InvalidRow : PySem.W.findIn K (.ref C_InvalidRow) "__getattribute__" = some (some (.builtin "BaseException.__getattribute__")))
    (e2_InvalidRow : PySem.W.findIn K (.ref C_InvalidRow) "__getattr__" = some none)
    (e3_InvalidRow : PySem.W.subIn K (.ref C_InvalidRow) (.type "BaseException") = some true)
    (e4_InvalidRow : PySem.W.hasDictIn K C_InvalidRow = true)
    (e5_InvalidRow : PySem.W.findIn K (.ref C_InvalidRow) "__class__" = some (some (.builtin "object.__class__")))
    (e8_InvalidRow : PySem.W.mroIn K C_InvalidRow (.type "object") = some true)
    (ty_InvalidRow : PySem.W.typeIn K (.ref C_InvalidRow) = some (.type "type"))
    (xi_InvalidRow : K.lookup C_InvalidRow = some (excClassObj nm_InvalidRow q_InvalidRow C_InvalidRow ns_InvalidRow bs_InvalidRow [.ref C_ReadError, .type "Exception", .type "BaseException", .type "object"] true sn_InvalidRow sub_InvalidRow ab_InvalidRow col_InvalidRow dd_InvalidRow m0_InvalidRow m1_InvalidRow m2_InvalidRow m3_InvalidRow m5_InvalidRow "Exception.__new__"))
    (tf_InvalidRow : PySem.W.typeIn K (.ref f_InvalidRow_init) = some (.type "function"))
    (sa_InvalidRow : PySem.W.findIn K (.ref C_InvalidRow) "__setattr__" = some (some (.builtin "object.__setattr__")))
    (no_InvalidRow_at : PySem.W.findIn K (.ref C_InvalidRow) "at" = some none)
    (e6 : PySem.W.specialIn K (.builtin "object.__class__") "__get__" = some (some (.builtin "getset_descriptor.__get__")))
    (e7 : PySem.W.takesIn K (.builtin "object.__class__") = some true)
    (ic_Loom : PySem.W.findIn K (.ref C_Loom) "__class__" = some (some (.builtin "object.__class__")))
    (ig : PySem.W.specialIn K (.builtin "object.__class__") "__get__" = some (some (.builtin "getset_descriptor.__get__")))
    (it : PySem.W.takesIn K (.builtin "object.__class__") = some true)
    (im_Loom : PySem.W.mroIn K C_Loom (.type "object") = some true)
    (cl_UnknownState : PySem.W.isClsIn K C_UnknownState = true)
    (ss_UnknownState : PySem.W.subIn K (.ref C_UnknownState) (.ref C_UnknownState) = some true)
    (si_InvalidLoom : PySem.W.subIn K (.ref C_InvalidLoom) (.type "int") = some false)
    (si_Loom : PySem.W.subIn K (.ref C_Loom) (.type "int") = some false)
    (cl_InvalidRow : PySem.W.isClsIn K C_InvalidRow = true)
    (ss_InvalidRow : PySem.W.subIn K (.ref C_InvalidRow) (.ref C_InvalidRow) = some true)
    (su_InvalidRow : PySem.W.subIn K (.ref C_InvalidRow) (.ref C_UnknownState) = some false)
    (nx_InvalidRow_at : PySem.W.findIn K (.ref C_InvalidRow) "at" = some none)
    (sl_InvalidLoom : PySem.W.subIn K (.ref C_InvalidLoom) (.type "list") = some false)
    (st_InvalidLoom : PySem.W.subIn K (.ref C_InvalidLoom) (.type "tuple") = some false)
    (sl_Loom : PySem.W.subIn K (.ref C_Loom) (.type "list") = some false)
    (st_Loom : PySem.W.subIn K (.ref C_Loom) (.type "tuple") = some false)
    (z_all : PySem.W.nsIn K mainGlobals "all" = some none)
    (z_bool : PySem.W.nsIn K mainGlobals "bool" = some none)
    (z_enumerate : PySem.W.nsIn K mainGlobals "enumerate" = some none)
    (z_int : PySem.W.nsIn K mainGlobals "int" = some none)
    (z_isinstance : PySem.W.nsIn K mainGlobals "isinstance" = some none)
    (z_len : PySem.W.nsIn K mainGlobals "len" = some none)
    (z_list : PySem.W.nsIn K mainGlobals "list" = some none)
    (z_range : PySem.W.nsIn K mainGlobals "range" = some none)
    (z_str : PySem.W.nsIn K mainGlobals "str" = some none)
    (z_tuple : PySem.W.nsIn K mainGlobals "tuple" = some none)
    (z_zip : PySem.W.nsIn K mainGlobals "zip" = some none)
    (g_MOST_SIGNS : PySem.W.nsIn K mainGlobals "MOST_SIGNS" = some (some (.int 4 t_MOST_SIGNS)))
    (g_LONGEST_WORD : PySem.W.nsIn K mainGlobals "LONGEST_WORD" = some (some (.int 12 t_LONGEST_WORD)))
    (g_LAST_STATE : PySem.W.nsIn K mainGlobals "LAST_STATE" = some (some (.int 63 t_LAST_STATE)))
    (g_MOST_ITEMS : PySem.W.nsIn K mainGlobals "MOST_ITEMS" = some (some (.int 2000 t_MOST_ITEMS)))
    (g_MOST_ARCS : PySem.W.nsIn K mainGlobals "MOST_ARCS" = some (some (.int 200 t_MOST_ARCS)))
    : ∃ fd : FuncData, (∀ (s : Shared) (v : Value), BindsTo s fd ⟨[v], []⟩ [("_law_script", v)]) ∧ ∀ base : Heap, K.In base → base.Ns mainGlobals mg → FnOk l.prog w K mg base CX0 8 fa fd P_law (spLaw K) := by
  have e := hfa.symm.trans (PySem.W.mg_of X G a_law)
  cases e
  have F_InvalidLoom_init := fun_mk (st := s_InvalidLoom_init) l_InvalidLoom_init c_InvalidLoom_init k_InvalidLoom_init
  have b_InvalidLoom_init := F_InvalidLoom_init.binds (ps := P_InvalidLoom_init) fun _ _ _ _ _ _ us hl => match us, hl with | [_, _, _], _ => rfl
  have F_InvalidRow_init := fun_mk (st := s_InvalidRow_init) l_InvalidRow_init c_InvalidRow_init k_InvalidRow_init
  have b_InvalidRow_init := F_InvalidRow_init.binds (ps := P_InvalidRow_init) fun _ _ _ _ _ _ us hl => match us, hl with | [_, _], _ => rfl
  have F_is_number := fun_mk (st := s_is_number) l_is_number c_is_number k_is_number
  have b_is_number := F_is_number.binds (ps := P_is_number) fun _ _ _ _ _ _ us hl => match us, hl with | [_, _, _], _ => rfl
  have F_is_sequence := fun_mk (st := s_is_sequence) l_is_sequence c_is_sequence k_is_sequence
  have b_is_sequence := F_is_sequence.binds (ps := P_is_sequence) fun _ _ _ _ _ _ us hl => match us, hl with | [_, _, _], _ => rfl
  have F_is_signs := fun_mk (st := s_is_signs) l_is_signs c_is_signs k_is_signs
  have b_is_signs := F_is_signs.binds (ps := P_is_signs) fun _ _ _ _ _ _ us hl => match us, hl with | [_], _ => rfl
  have F_is_string_over := fun_mk (st := s_is_string_over) l_is_string_over c_is_string_over k_is_string_over
  have b_is_string_over := F_is_string_over.binds (ps := P_is_string_over) fun _ _ _ _ _ _ us hl => match us, hl with | [_, _, _, _], _ => rfl
  have F_is_word := fun_mk (st := s_is_word) l_is_word c_is_word k_is_word
  have b_is_word := F_is_word.binds (ps := P_is_word) fun _ _ _ _ _ _ us hl => match us, hl with | [_, _], _ => rfl
  have F_check_signs := fun_mk (st := s_check_signs) l_check_signs c_check_signs k_check_signs
  have b_check_signs := F_check_signs.binds (ps := P_check_signs) fun _ _ _ _ _ _ us hl => match us, hl with | [_], _ => rfl
  have F_check_state := fun_mk (st := s_check_state) l_check_state c_check_state k_check_state
  have b_check_state := F_check_state.binds (ps := P_check_state) fun _ _ _ _ _ _ us hl => match us, hl with | [_], _ => rfl
  have F_first_misfit := fun_mk (st := s_first_misfit) l_first_misfit c_first_misfit k_first_misfit
  have b_first_misfit := F_first_misfit.binds (ps := P_first_misfit) fun _ _ _ _ _ _ us hl => match us, hl with | [_, _, _], _ => rfl
  have F_check_row := fun_mk (st := s_check_row) l_check_row c_check_row k_check_row
  have b_check_row := F_check_row.binds (ps := P_check_row) fun _ _ _ _ _ _ us hl => match us, hl with | [_, _, _], _ => rfl
  have F_is_row := fun_mk (st := s_is_row) l_is_row c_is_row k_is_row
  have b_is_row := F_is_row.binds (ps := P_is_row) fun _ _ _ _ _ _ us hl => match us, hl with | [_, _, _], _ => rfl
  have F_text_of := fun_mk (st := s_text_of) l_text_of c_text_of k_text_of
  have b_text_of := F_text_of.binds (ps := P_text_of) fun _ _ _ _ _ _ us hl => match us, hl with | [_, _, _], _ => rfl
  have F_end_of := fun_mk (st := s_end_of) l_end_of c_end_of k_end_of
  have b_end_of := F_end_of.binds (ps := P_end_of) fun _ _ _ _ _ _ us hl => match us, hl with | [_, _, _], _ => rfl
  have F_is_arc := fun_mk (st := s_is_arc) l_is_arc c_is_arc k_is_arc
  have b_is_arc := F_is_arc.binds (ps := P_is_arc) fun _ _ _ _ _ _ us hl => match us, hl with | [_, _], _ => rfl
  have F_Loom_init := fun_mk (st := s_Loom_init) l_Loom_init c_Loom_init k_Loom_init
  have b_Loom_init := F_Loom_init.binds (ps := P_Loom_init) fun _ _ _ _ _ _ us hl => match us, hl with | [_, _, _], _ => rfl
  have F_Loom_eq := fun_mk (st := s_Loom_eq) l_Loom_eq c_Loom_eq k_Loom_eq
  have b_Loom_eq := F_Loom_eq.binds (ps := P_Loom_eq) fun _ _ _ _ _ _ us hl => match us, hl with | [_, _], _ => rfl
  have F_l_state := fun_mk (st := s_l_state) l_l_state c_l_state k_l_state
  have b_l_state := F_l_state.binds (ps := P_l_state) fun _ _ _ _ _ _ us hl => match us, hl with | [_], _ => rfl
  have F_l_draw := fun_mk (st := s_l_draw) l_l_draw c_l_draw k_l_draw
  have b_l_draw := F_l_draw.binds (ps := P_l_draw) fun _ _ _ _ _ _ us hl => match us, hl with | [_, _], _ => rfl
  have F_l_is_integer := fun_mk (st := s_l_is_integer) l_l_is_integer c_l_is_integer k_l_is_integer
  have b_l_is_integer := F_l_is_integer.binds (ps := P_l_is_integer) fun _ _ _ _ _ _ us hl => match us, hl with | [_], _ => rfl
  have F_l_word := fun_mk (st := s_l_word) l_l_word c_l_word k_l_word
  have b_l_word := F_l_word.binds (ps := P_l_word) fun _ _ _ _ _ _ us hl => match us, hl with | [_, _, _], _ => rfl
  have F_l_loom := fun_mk (st := s_l_loom) l_l_loom c_l_loom k_l_loom
  have b_l_loom := F_l_loom.binds (ps := P_l_loom) fun _ _ _ _ _ _ us hl => match us, hl with | [_], _ => rfl
  have F_l_made := fun_mk (st := s_l_made) l_l_made c_l_made k_l_made
  have b_l_made := F_l_made.binds (ps := P_l_made) fun _ _ _ _ _ _ us hl => match us, hl with | [_], _ => rfl
  have F_l_leaving := fun_mk (st := s_l_leaving) l_l_leaving c_l_leaving k_l_leaving
  have b_l_leaving := F_l_leaving.binds (ps := P_l_leaving) fun _ _ _ _ _ _ us hl => match us, hl with | [_, _], _ => rfl
  have F_l_joined := fun_mk (st := s_l_joined) l_l_joined c_l_joined k_l_joined
  have b_l_joined := F_l_joined.binds (ps := P_l_joined) fun _ _ _ _ _ _ us hl => match us, hl with | [_, _], _ => rfl
  have F_l_end := fun_mk (st := s_l_end) l_l_end c_l_end k_l_end
  have b_l_end := F_l_end.binds (ps := P_l_end) fun _ _ _ _ _ _ us hl => match us, hl with | [_, _, _], _ => rfl
  have F_l_walk := fun_mk (st := s_l_walk) l_l_walk c_l_walk k_l_walk
  have b_l_walk := F_l_walk.binds (ps := P_l_walk) fun _ _ _ _ _ _ us hl => match us, hl with | [_, _, _, _], _ => rfl
  have F_l_odd := fun_mk (st := s_l_odd) l_l_odd c_l_odd k_l_odd
  have b_l_odd := F_l_odd.binds (ps := P_l_odd) fun _ _ _ _ _ _ us hl => match us, hl with | [_], _ => rfl
  have F_l_fault := fun_mk (st := s_l_fault) l_l_fault c_l_fault k_l_fault
  have b_l_fault := F_l_fault.binds (ps := P_l_fault) fun _ _ _ _ _ _ us hl => match us, hl with | [_, _, _], _ => rfl
  have F_l_told := fun_mk (st := s_l_told) l_l_told c_l_told k_l_told
  have b_l_told := F_l_told.binds (ps := P_l_told) fun _ _ _ _ _ _ us hl => match us, hl with | [_, _, _, _], _ => rfl
  have F_l_bent := fun_mk (st := s_l_bent) l_l_bent c_l_bent k_l_bent
  have b_l_bent := F_l_bent.binds (ps := P_l_bent) fun _ _ _ _ _ _ us hl => match us, hl with | [_, _, _], _ => rfl
  have F_law := fun_mk (st := s_law) l_law c_law k_law
  have b_law := F_law.binds (ps := P_law) fun _ _ _ _ _ _ us hl => match us, hl with | [_], _ => rfl
  exact ⟨_, fun s v => .of_eq rfl, fun base _ _ => ok_law {
    f_InvalidLoom_init := _
    fd_InvalidLoom_init := _
    F_InvalidLoom_init := F_InvalidLoom_init
    b_InvalidLoom_init := b_InvalidLoom_init
    f_InvalidRow_init := _
    fd_InvalidRow_init := _
    F_InvalidRow_init := F_InvalidRow_init
    b_InvalidRow_init := b_InvalidRow_init
    f_is_number := _
    fd_is_number := _
    F_is_number := F_is_number
    b_is_number := b_is_number
    m_is_number := PySem.W.mg_of X G a_is_number
    f_is_sequence := _
    fd_is_sequence := _
    F_is_sequence := F_is_sequence
    b_is_sequence := b_is_sequence
    m_is_sequence := PySem.W.mg_of X G a_is_sequence
    f_is_signs := _
    fd_is_signs := _
    F_is_signs := F_is_signs
    b_is_signs := b_is_signs
    m_is_signs := PySem.W.mg_of X G a_is_signs
    f_is_string_over := _
    fd_is_string_over := _
    F_is_string_over := F_is_string_over
    b_is_string_over := b_is_string_over
    m_is_string_over := PySem.W.mg_of X G a_is_string_over
    f_is_word := _
    fd_is_word := _
    F_is_word := F_is_word
    b_is_word := b_is_word
    m_is_word := PySem.W.mg_of X G a_is_word
    f_check_signs := _
    fd_check_signs := _
    F_check_signs := F_check_signs
    b_check_signs := b_check_signs
    m_check_signs := PySem.W.mg_of X G a_check_signs
    f_check_state := _
    fd_check_state := _
    F_check_state := F_check_state
    b_check_state := b_check_state
    m_check_state := PySem.W.mg_of X G a_check_state
    f_first_misfit := _
    fd_first_misfit := _
    F_first_misfit := F_first_misfit
    b_first_misfit := b_first_misfit
    m_first_misfit := PySem.W.mg_of X G a_first_misfit
    f_check_row := _
    fd_check_row := _
    F_check_row := F_check_row
    b_check_row := b_check_row
    m_check_row := PySem.W.mg_of X G a_check_row
    f_is_row := _
    fd_is_row := _
    F_is_row := F_is_row
    b_is_row := b_is_row
    m_is_row := PySem.W.mg_of X G a_is_row
    f_text_of := _
    fd_text_of := _
    F_text_of := F_text_of
    b_text_of := b_text_of
    m_text_of := PySem.W.mg_of X G a_text_of
    f_end_of := _
    fd_end_of := _
    F_end_of := F_end_of
    b_end_of := b_end_of
    m_end_of := PySem.W.mg_of X G a_end_of
    f_is_arc := _
    fd_is_arc := _
    F_is_arc := F_is_arc
    b_is_arc := b_is_arc
    m_is_arc := PySem.W.mg_of X G a_is_arc
    f_Loom_init := _
    fd_Loom_init := _
    F_Loom_init := F_Loom_init
    b_Loom_init := b_Loom_init
    f_Loom_eq := _
    fd_Loom_eq := _
    F_Loom_eq := F_Loom_eq
    b_Loom_eq := b_Loom_eq
    f_l_state := _
    fd_l_state := _
    F_l_state := F_l_state
    b_l_state := b_l_state
    m_l_state := PySem.W.mg_of X G a_l_state
    f_l_draw := _
    fd_l_draw := _
    F_l_draw := F_l_draw
    b_l_draw := b_l_draw
    m_l_draw := PySem.W.mg_of X G a_l_draw
    f_l_is_integer := _
    fd_l_is_integer := _
    F_l_is_integer := F_l_is_integer
    b_l_is_integer := b_l_is_integer
    m_l_is_integer := PySem.W.mg_of X G a_l_is_integer
    f_l_word := _
    fd_l_word := _
    F_l_word := F_l_word
    b_l_word := b_l_word
    m_l_word := PySem.W.mg_of X G a_l_word
    f_l_loom := _
    fd_l_loom := _
    F_l_loom := F_l_loom
    b_l_loom := b_l_loom
    m_l_loom := PySem.W.mg_of X G a_l_loom
    f_l_made := _
    fd_l_made := _
    F_l_made := F_l_made
    b_l_made := b_l_made
    m_l_made := PySem.W.mg_of X G a_l_made
    f_l_leaving := _
    fd_l_leaving := _
    F_l_leaving := F_l_leaving
    b_l_leaving := b_l_leaving
    m_l_leaving := PySem.W.mg_of X G a_l_leaving
    f_l_joined := _
    fd_l_joined := _
    F_l_joined := F_l_joined
    b_l_joined := b_l_joined
    m_l_joined := PySem.W.mg_of X G a_l_joined
    f_l_end := _
    fd_l_end := _
    F_l_end := F_l_end
    b_l_end := b_l_end
    m_l_end := PySem.W.mg_of X G a_l_end
    f_l_walk := _
    fd_l_walk := _
    F_l_walk := F_l_walk
    b_l_walk := b_l_walk
    m_l_walk := PySem.W.mg_of X G a_l_walk
    f_l_odd := _
    fd_l_odd := _
    F_l_odd := F_l_odd
    b_l_odd := b_l_odd
    m_l_odd := PySem.W.mg_of X G a_l_odd
    f_l_fault := _
    fd_l_fault := _
    F_l_fault := F_l_fault
    b_l_fault := b_l_fault
    m_l_fault := PySem.W.mg_of X G a_l_fault
    f_l_told := _
    fd_l_told := _
    F_l_told := F_l_told
    b_l_told := b_l_told
    m_l_told := PySem.W.mg_of X G a_l_told
    f_l_bent := _
    fd_l_bent := _
    F_l_bent := F_l_bent
    b_l_bent := b_l_bent
    m_l_bent := PySem.W.mg_of X G a_l_bent
    f_law := _
    fd_law := _
    F_law := F_law
    b_law := b_law
    m_law := PySem.W.mg_of X G a_law
    n_all := PySem.W.mg_none_of X G z_all
    n_bool := PySem.W.mg_none_of X G z_bool
    n_enumerate := PySem.W.mg_none_of X G z_enumerate
    n_int := PySem.W.mg_none_of X G z_int
    n_isinstance := PySem.W.mg_none_of X G z_isinstance
    n_len := PySem.W.mg_none_of X G z_len
    n_list := PySem.W.mg_none_of X G z_list
    n_range := PySem.W.mg_none_of X G z_range
    n_str := PySem.W.mg_none_of X G z_str
    n_tuple := PySem.W.mg_none_of X G z_tuple
    n_zip := PySem.W.mg_none_of X G z_zip
    t_MOST_SIGNS := t_MOST_SIGNS
    g_MOST_SIGNS := PySem.W.mg_of X G g_MOST_SIGNS
    t_LONGEST_WORD := t_LONGEST_WORD
    g_LONGEST_WORD := PySem.W.mg_of X G g_LONGEST_WORD
    t_LAST_STATE := t_LAST_STATE
    g_LAST_STATE := PySem.W.mg_of X G g_LAST_STATE
    t_MOST_ITEMS := t_MOST_ITEMS
    g_MOST_ITEMS := PySem.W.mg_of X G g_MOST_ITEMS
    t_MOST_ARCS := t_MOST_ARCS
    g_MOST_ARCS := PySem.W.mg_of X G g_MOST_ARCS
    C_Loom := C_Loom
    M_Loom := ⟨mk_Loom, a_Loom_init, i_Loom_init, kc_Loom⟩
    cl_Loom := ⟨pg_Loom, hd_Loom, po_Loom, sa_Loom⟩
    g_Loom := PySem.W.mg_of X G a_CLoom
    na_Loom_signs := na_Loom_signs
    na_Loom_arcs := na_Loom_arcs
    C_ReadError := C_ReadError
    g_ReadError := PySem.W.mg_of X G a_CReadError
    kc_ReadError := kc_ReadError
    E_ReadError := ⟨e1_ReadError, e2_ReadError, e3_ReadError, e4_ReadError, e5_ReadError, e6, e7, e8_ReadError⟩
    ty_ReadError := ty_ReadError
    in_ReadError := in_ReadError
    C_UnknownState := C_UnknownState
    g_UnknownState := PySem.W.mg_of X G a_CUnknownState
    kc_UnknownState := kc_UnknownState
    E_UnknownState := ⟨e1_UnknownState, e2_UnknownState, e3_UnknownState, e4_UnknownState, e5_UnknownState, e6, e7, e8_UnknownState⟩
    ty_UnknownState := ty_UnknownState
    in_UnknownState := in_UnknownState
    C_InvalidLoom := C_InvalidLoom
    g_InvalidLoom := PySem.W.mg_of X G a_CInvalidLoom
    kc_InvalidLoom := kc_InvalidLoom
    E_InvalidLoom := ⟨e1_InvalidLoom, e2_InvalidLoom, e3_InvalidLoom, e4_InvalidLoom, e5_InvalidLoom, e6, e7, e8_InvalidLoom⟩
    ty_InvalidLoom := ty_InvalidLoom
    X_InvalidLoom := { gC := PySem.W.mg_of X G a_CInvalidLoom, cls := ⟨_, _, _, _, _, _, _, _, _, _, _, _, _, _, _, xi_InvalidLoom, by first | rfl | decide +kernel⟩, sa := sa_InvalidLoom, ga := e1_InvalidLoom, gg := e2_InvalidLoom, no := fun f hf => by simp only [List.mem_cons, List.not_mem_nil, or_false] at hf; rcases hf with rfl | rfl <;> assumption, iC := a_InvalidLoom_init, tC := tf_InvalidLoom, kC := kc_InvalidLoom, exC := e3_InvalidLoom, tyC := ty_InvalidLoom, hdC := e4_InvalidLoom, fn := ⟨_, _, _, _, _, _, _, _, _, l_InvalidLoom_init, c_InvalidLoom_init⟩ }
    C_InvalidRow := C_InvalidRow
    g_InvalidRow := PySem.W.mg_of X G a_CInvalidRow
    kc_InvalidRow := kc_InvalidRow
    E_InvalidRow := ⟨e1_InvalidRow, e2_InvalidRow, e3_InvalidRow, e4_InvalidRow, e5_InvalidRow, e6, e7, e8_InvalidRow⟩
    ty_InvalidRow := ty_InvalidRow
    X_InvalidRow := { gC := PySem.W.mg_of X G a_CInvalidRow, cls := ⟨_, _, _, _, _, _, _, _, _, _, _, _, _, _, _, xi_InvalidRow, by first | rfl | decide +kernel⟩, sa := sa_InvalidRow, ga := e1_InvalidRow, gg := e2_InvalidRow, no := fun f hf => by rw [List.mem_singleton.mp hf]; assumption, iC := a_InvalidRow_init, tC := tf_InvalidRow, kC := kc_InvalidRow, exC := e3_InvalidRow, tyC := ty_InvalidRow, hdC := e4_InvalidRow, fn := ⟨_, _, _, _, _, _, _, _, _, l_InvalidRow_init, c_InvalidRow_init⟩ }
    ic_Loom := ic_Loom
    ig := ig
    it := it
    im_Loom := im_Loom
    cl_UnknownState := cl_UnknownState
    ss_UnknownState := ss_UnknownState
    si_InvalidLoom := si_InvalidLoom
    si_Loom := si_Loom
    cl_InvalidRow := cl_InvalidRow
    ss_InvalidRow := ss_InvalidRow
    su_InvalidRow := su_InvalidRow
    nx_InvalidRow_at := nx_InvalidRow_at
    sl_InvalidLoom := sl_InvalidLoom
    st_InvalidLoom := st_InvalidLoom
    sl_Loom := sl_Loom
    st_Loom := st_Loom }⟩
theorem walk {l : PySem.W.OpenLaw} {q : Program} {loose : List Str} {XP : (Str → Option Value) → Heap → Prop} {YP : World → Heap → Prop} {d : DefRec} {K : Params → PySem.W.Frag} (hn : l.most = some 63) (hdf : d.params.defaults = [])
    (hY : ∀ (w : World) (h : Heap), YP w h → (K w.params).In h)
    (F : ∀ (w : World) (mg : Str → Option Value) (fa : Addr) (h : Heap), (K w.params).In h → h.Ns mainGlobals mg → mg d.name = some (.ref fa) →
      ∃ fd : FuncData, (∀ (s : Shared) (u : Value), BindsTo s fd ⟨[u], []⟩ [("_law_script", u)]) ∧ ∀ base : Heap, (K w.params).In base → base.Ns mainGlobals mg → FnOk l.prog w (K w.params) mg base CX0 8 fa fd P_law (spLaw (K w.params))) :
    PySem.W.WalkO q loose XP YP l.row.toRowW d [] (fun f vs => PySem.call f vs) :=
  L2.walk_of (n := 63) (k := 8) (x := "_law_script") (CX := fun _ => CX0) (sp := fun w => spLaw (K w.params)) hn (by decide) hdf ⟨rfl, by decide, by decide⟩ hY F (fun _ _ a ns hl _ hS => ⟨a, ns, rfl, hS, hl, fun _ => rfl⟩) fun _ _ _ _ _ z => z
end J

open PySem PySem.W PyProof.Rows in
set_option maxRecDepth 100000 in
set_option maxHeartbeats 0 in
theorem PySem.Challenge.cw_onewayread_k02_rows_judged_and_read_holds : PySem.Challenge.rw_onewayread_k02_rows_judged_and_read.Holds := by
  w_on; o_law; k_head; (case hw => w_witness2)
  k_fill
  refine J.walk (l := PySem.Challenge.rw_onewayread_k02_rows_judged_and_read) rfl rfl (fun w h Y => PySem.W.kIn_of Y) ?F
  case F =>
    intro w mg fa h KX G hmg
    refine' J.all_mk KX G hmg ?a_CUnknownState ?a_CReadError ?a_CLoom ?a_CInvalidRow ?a_CInvalidLoom ?a_InvalidLoom_init ?i_InvalidLoom_init ?l_InvalidLoom_init ?c_InvalidLoom_init ?k_InvalidLoom_init ?a_InvalidRow_init ?i_InvalidRow_init ?l_InvalidRow_init ?c_InvalidRow_init ?k_InvalidRow_init ?a_is_number ?l_is_number ?c_is_number ?k_is_number ?a_is_sequence ?l_is_sequence ?c_is_sequence ?k_is_sequence ?a_is_signs ?l_is_signs ?c_is_signs ?k_is_signs ?a_is_string_over ?l_is_string_over ?c_is_string_over ?k_is_string_over ?a_is_word ?l_is_word ?c_is_word ?k_is_word ?a_check_signs ?l_check_signs ?c_check_signs ?k_check_signs ?a_check_state ?l_check_state ?c_check_state ?k_check_state ?a_first_misfit ?l_first_misfit ?c_first_misfit ?k_first_misfit ?a_check_row ?l_check_row ?c_check_row ?k_check_row ?a_is_row ?l_is_row ?c_is_row ?k_is_row ?a_text_of ?l_text_of ?c_text_of ?k_text_of ?a_end_of ?l_end_of ?c_end_of ?k_end_of ?a_is_arc ?l_is_arc ?c_is_arc ?k_is_arc ?a_Loom_init ?i_Loom_init ?l_Loom_init ?c_Loom_init ?k_Loom_init ?a_Loom_eq ?l_Loom_eq ?c_Loom_eq ?k_Loom_eq ?a_l_state ?l_l_state ?c_l_state ?k_l_state ?a_l_draw ?l_l_draw ?c_l_draw ?k_l_draw ?a_l_is_integer ?l_l_is_integer ?c_l_is_integer ?k_l_is_integer ?a_l_word ?l_l_word ?c_l_word ?k_l_word ?a_l_loom ?l_l_loom ?c_l_loom ?k_l_loom ?a_l_made ?l_l_made ?c_l_made ?k_l_made ?a_l_leaving ?l_l_leaving ?c_l_leaving ?k_l_leaving ?a_l_joined ?l_l_joined ?c_l_joined ?k_l_joined ?a_l_end ?l_l_end ?c_l_end ?k_l_end ?a_l_walk ?l_l_walk ?c_l_walk ?k_l_walk ?a_l_odd ?l_l_odd ?c_l_odd ?k_l_odd ?a_l_fault ?l_l_fault ?c_l_fault ?k_l_fault ?a_l_told ?l_l_told ?c_l_told ?k_l_told ?a_l_bent ?l_l_bent ?c_l_bent ?k_l_bent ?a_law ?l_law ?c_law ?k_law ?pg_Loom ?hd_Loom ?po_Loom ?sa_Loom ?mk_Loom ?kc_Loom ?na_Loom_signs ?na_Loom_arcs ?kc_ReadError ?e1_ReadError ?e2_ReadError ?e3_ReadError ?e4_ReadError ?e5_ReadError ?e8_ReadError ?ty_ReadError ?in_ReadError ?kc_UnknownState ?e1_UnknownState ?e2_UnknownState ?e3_UnknownState ?e4_UnknownState ?e5_UnknownState ?e8_UnknownState ?ty_UnknownState ?in_UnknownState ?kc_InvalidLoom ?e1_InvalidLoom ?e2_InvalidLoom ?e3_InvalidLoom ?e4_InvalidLoom ?e5_InvalidLoom ?e8_InvalidLoom ?ty_InvalidLoom ?xi_InvalidLoom ?tf_InvalidLoom ?sa_InvalidLoom ?no_InvalidLoom_part ?no_InvalidLoom_at ?kc_InvalidRow ?e1_InvalidRow ?e2_InvalidRow ?e3_InvalidRow ?e4_InvalidRow ?e5_InvalidRow ?e8_InvalidRow ?ty_InvalidRow ?xi_InvalidRow ?tf_InvalidRow ?sa_InvalidRow ?no_InvalidRow_at ?e6 ?e7 ?ic_Loom ?ig ?it ?im_Loom ?cl_UnknownState ?ss_UnknownState ?si_InvalidLoom ?si_Loom ?cl_InvalidRow ?ss_InvalidRow ?su_InvalidRow ?nx_InvalidRow_at ?sl_InvalidLoom ?st_InvalidLoom ?sl_Loom ?st_Loom ?z_all ?z_bool ?z_enumerate ?z_int ?z_isinstance ?z_len ?z_list ?z_range ?z_str ?z_tuple ?z_zip ?g_MOST_SIGNS ?g_LONGEST_WORD ?g_LAST_STATE ?g_MOST_ITEMS ?g_MOST_ARCS
    (case a_CUnknownState => k_is)
    (case a_CReadError => k_is)
    (case a_CLoom => k_is)
    (case a_CInvalidRow => k_is)
    (case a_CInvalidLoom => k_is)
    (case a_InvalidLoom_init => k_is)
    (case i_InvalidLoom_init => k_is)
    (case l_InvalidLoom_init => k_is)
    (case c_InvalidLoom_init => k_is)
    (case k_InvalidLoom_init => k_is)
    (case a_InvalidRow_init => k_is)
    (case i_InvalidRow_init => k_is)
    (case l_InvalidRow_init => k_is)
    (case c_InvalidRow_init => k_is)
    (case k_InvalidRow_init => k_is)
    (case a_is_number => k_is)
    (case l_is_number => k_is)
    (case c_is_number => k_is)
    (case k_is_number => k_is)
    (case a_is_sequence => k_is)
    (case l_is_sequence => k_is)
    (case c_is_sequence => k_is)
    (case k_is_sequence => k_is)
    (case a_is_signs => k_is)
    (case l_is_signs => k_is)
    (case c_is_signs => k_is)
    (case k_is_signs => k_is)
    (case a_is_string_over => k_is)
    (case l_is_string_over => k_is)
    (case c_is_string_over => k_is)
    (case k_is_string_over => k_is)
    (case a_is_word => k_is)
    (case l_is_word => k_is)
    (case c_is_word => k_is)
    (case k_is_word => k_is)
    (case a_check_signs => k_is)
    (case l_check_signs => k_is)
    (case c_check_signs => k_is)
    (case k_check_signs => k_is)
    (case a_check_state => k_is)
    (case l_check_state => k_is)
    (case c_check_state => k_is)
    (case k_check_state => k_is)
    (case a_first_misfit => k_is)
    (case l_first_misfit => k_is)
    (case c_first_misfit => k_is)
    (case k_first_misfit => k_is)
    (case a_check_row => k_is)
    (case l_check_row => k_is)
    (case c_check_row => k_is)
    (case k_check_row => k_is)
    (case a_is_row => k_is)
    (case l_is_row => k_is)
    (case c_is_row => k_is)
    (case k_is_row => k_is)
    (case a_text_of => k_is)
    (case l_text_of => k_is)
    (case c_text_of => k_is)
    (case k_text_of => k_is)
    (case a_end_of => k_is)
    (case l_end_of => k_is)
    (case c_end_of => k_is)
    (case k_end_of => k_is)
    (case a_is_arc => k_is)
    (case l_is_arc => k_is)
    (case c_is_arc => k_is)
    (case k_is_arc => k_is)
    (case a_Loom_init => k_is)
    (case i_Loom_init => k_is)
    (case l_Loom_init => k_is)
    (case c_Loom_init => k_is)
    (case k_Loom_init => k_is)
    (case a_Loom_eq => k_is)
    (case l_Loom_eq => k_is)
    (case c_Loom_eq => k_is)
    (case k_Loom_eq => k_is)
    (case a_l_state => k_is)
    (case l_l_state => k_is)
    (case c_l_state => k_is)
    (case k_l_state => k_is)
    (case a_l_draw => k_is)
    (case l_l_draw => k_is)
    (case c_l_draw => k_is)
    (case k_l_draw => k_is)
    (case a_l_is_integer => k_is)
    (case l_l_is_integer => k_is)
    (case c_l_is_integer => k_is)
    (case k_l_is_integer => k_is)
    (case a_l_word => k_is)
    (case l_l_word => k_is)
    (case c_l_word => k_is)
    (case k_l_word => k_is)
    (case a_l_loom => k_is)
    (case l_l_loom => k_is)
    (case c_l_loom => k_is)
    (case k_l_loom => k_is)
    (case a_l_made => k_is)
    (case l_l_made => k_is)
    (case c_l_made => k_is)
    (case k_l_made => k_is)
    (case a_l_leaving => k_is)
    (case l_l_leaving => k_is)
    (case c_l_leaving => k_is)
    (case k_l_leaving => k_is)
    (case a_l_joined => k_is)
    (case l_l_joined => k_is)
    (case c_l_joined => k_is)
    (case k_l_joined => k_is)
    (case a_l_end => k_is)
    (case l_l_end => k_is)
    (case c_l_end => k_is)
    (case k_l_end => k_is)
    (case a_l_walk => k_is)
    (case l_l_walk => k_is)
    (case c_l_walk => k_is)
    (case k_l_walk => k_is)
    (case a_l_odd => k_is)
    (case l_l_odd => k_is)
    (case c_l_odd => k_is)
    (case k_l_odd => k_is)
    (case a_l_fault => k_is)
    (case l_l_fault => k_is)
    (case c_l_fault => k_is)
    (case k_l_fault => k_is)
    (case a_l_told => k_is)
    (case l_l_told => k_is)
    (case c_l_told => k_is)
    (case k_l_told => k_is)
    (case a_l_bent => k_is)
    (case l_l_bent => k_is)
    (case c_l_bent => k_is)
    (case k_l_bent => k_is)
    (case a_law => k_is)
    (case l_law => k_is)
    (case c_law => k_is)
    (case k_law => k_is)
    (case pg_Loom => k_is)
    (case hd_Loom => k_is)
    (case po_Loom => k_is)
    (case sa_Loom => k_is)
    (case mk_Loom => k_is)
    (case kc_Loom => k_is)
    (case na_Loom_signs => k_is)
    (case na_Loom_arcs => k_is)
    (case kc_ReadError => k_is)
    (case e1_ReadError => k_is)
    (case e2_ReadError => k_is)
    (case e3_ReadError => k_is)
    (case e4_ReadError => k_is)
    (case e5_ReadError => k_is)
    (case e8_ReadError => k_is)
    (case ty_ReadError => k_is)
    (case in_ReadError => k_exc)
    (case kc_UnknownState => k_is)
    (case e1_UnknownState => k_is)
    (case e2_UnknownState => k_is)
    (case e3_UnknownState => k_is)
    (case e4_UnknownState => k_is)
    (case e5_UnknownState => k_is)
    (case e8_UnknownState => k_is)
    (case ty_UnknownState => k_is)
    (case in_UnknownState => k_exc)
    (case kc_InvalidLoom => k_is)
    (case e1_InvalidLoom => k_is)
    (case e2_InvalidLoom => k_is)
    (case e3_InvalidLoom => k_is)
    (case e4_InvalidLoom => k_is)
    (case e5_InvalidLoom => k_is)
    (case e8_InvalidLoom => k_is)
    (case ty_InvalidLoom => k_is)
    (case xi_InvalidLoom => k_is)
    (case tf_InvalidLoom => k_is)
    (case sa_InvalidLoom => k_is)
    (case no_InvalidLoom_part => k_is)
    (case no_InvalidLoom_at => k_is)
    (case kc_InvalidRow => k_is)
    (case e1_InvalidRow => k_is)
    (case e2_InvalidRow => k_is)
    (case e3_InvalidRow => k_is)
    (case e4_InvalidRow => k_is)
    (case e5_InvalidRow => k_is)
    (case e8_InvalidRow => k_is)
    (case ty_InvalidRow => k_is)
    (case xi_InvalidRow => k_is)
    (case tf_InvalidRow => k_is)
    (case sa_InvalidRow => k_is)
    (case no_InvalidRow_at => k_is)
    (case e6 => k_is)
    (case e7 => k_is)
    (case ic_Loom => k_is)
    (case ig => k_is)
    (case it => k_is)
    (case im_Loom => k_is)
    (case cl_UnknownState => k_is)
    (case ss_UnknownState => k_is)
    (case si_InvalidLoom => k_is)
    (case si_Loom => k_is)
    (case cl_InvalidRow => k_is)
    (case ss_InvalidRow => k_is)
    (case su_InvalidRow => k_is)
    (case nx_InvalidRow_at => k_is)
    (case sl_InvalidLoom => k_is)
    (case st_InvalidLoom => k_is)
    (case sl_Loom => k_is)
    (case st_Loom => k_is)
    (case z_all => k_is)
    (case z_bool => k_is)
    (case z_enumerate => k_is)
    (case z_int => k_is)
    (case z_isinstance => k_is)
    (case z_len => k_is)
    (case z_list => k_is)
    (case z_range => k_is)
    (case z_str => k_is)
    (case z_tuple => k_is)
    (case z_zip => k_is)
    (case g_MOST_SIGNS => k_is)
    (case g_LONGEST_WORD => k_is)
    (case g_LAST_STATE => k_is)
    (case g_MOST_ITEMS => k_is)
    (case g_MOST_ARCS => k_is)

import PyProof.Rows.All
import Wide.All
import OpenK.AllK
import Wide.FinOn
import HandS.ForExc
import HandS.ExcValue
import HandS.ExcIs
import HandS.ExcInit
import HandS.IsInst
import HandS.OwnEq
import HandS.More
import KE.KExcInit
import HandS.ForMost
import HandS.Walk
import KE.GoesEnum
import KE.GoesMore
import HandS.Defaults
import KE.KxIndex
import HandS.List
import HandS.SortOrd
import HandS.SortRule
import KE.KSortTup
import PyProof.EqKinds
import KE.KSortKey
import HandS.SortKw
import HandS.SetBool
import HandS.SetFor
import HandS.Strs
import HandS.Codes
import HandS.StrMore
import HandS.Conv
import HandS.Style
import HandS.Replace
import PyProof.P3Eq
import HandS.ListItems
import HandS.Sort
import KE.KDictList
import PySem.Challenge.RW_onewayread_k32_same_texts_by_all_texts
set_option Elab.async false
set_option linter.all false
set_option maxRecDepth 100000
set_option maxHeartbeats 4000000
/-! own exceptions without arguments: raised, and as values -/
namespace L2
open PySem PySem.Spec PyProof.Rows
section
variable {X : Cx} {C : Addr} {bmB : List Value} {B newId initId : String}
theorem pmk_own0 {x : Str} {p pos : Pos} (F : ExcBaseFacts B newId initId bmB) (q : PySem.W.excIn X.K C bmB newId = true) (gC : X.mg x = some (.ref C)) (kC : PySem.W.keepIn X.K (.ref C) = true) (r : Raises X (.ref C)) (hg : Gl X x)
    (hdb : (x == ("__debug__" : Str)) = false := by decide) : PMk X (.Call (.Name x p) [] [] pos) (fun _ H Q => Q (.ref C) none H) := by
  intro pins s σ H Q I h
  refine wpAny_Call_Name_kw (ld_glob I hg gC ?_ hdb)
  refine PySem.W.callWith_K0 I.kIn kC ?_
  obtain ⟨bm, N, nm, qn, bs, hdct, sn, sub, ab, col, dd, k0, k1, k2, k3, k5, mN, hC, hN, hni, T⟩ := exc_obj I.kIn q
  refine wpAny_call_exc_subT F T hC hN hni (fun h' e hm => ?_) (by show 0 ≤ sizeLine; exact Nat.zero_le _)
  exact mk_of I hm r h (I.hok.gone hm.new)
/-- X(), as a value -/
theorem pe_exc0 {x : Str} {p pos : Pos} (F : ExcBaseFacts B newId initId bmB) (q : PySem.W.excIn X.K C bmB newId = true) (gC : X.mg x = some (.ref C)) (kC : PySem.W.keepIn X.K (.ref C) = true) (hg : Gl X x)
    (hdb : (x == ("__debug__" : Str)) = false := by decide) : PE X (.Call (.Name x p) [] [] pos) (fun σ H Q => ∀ a, H a = none → Q (.ref a) (upd H a (ExO (.ref C) a))) := by
  refine ⟨fun pins s σ H Q I h => ?_⟩
  refine wpAny_Call_Name_kw (ld_glob I hg gC ?_ hdb)
  refine PySem.W.callWith_K0 I.kIn kC ?_
  obtain ⟨bm, N, nm, qn, bs, hdct, sn, sub, ab, col, dd, k0, k1, k2, k3, k5, mN, hC, hN, hni, T⟩ := exc_obj I.kIn q
  refine wpAny_call_exc_subT F T hC hN hni (fun h' a hm => ?_) (by show 0 ≤ sizeLine; exact Nat.zero_le _)
  have hn : H a = none := I.hok.gone hm.new
  obtain ⟨t, ht, _, _⟩ := hm.there
  exact ⟨.ref a, upd H a (ExO (.ref C) a), I.laidN hm.keeps hm.new hn (exO_ok ht ⟨rfl, rfl⟩ rfl rfl rfl (show 4 < 6 by decide)), rfl, h a hn⟩
end
end L2

set_option Elab.async false
set_option linter.all false
set_option maxRecDepth 100000
set_option maxHeartbeats 4000000
/-! own exceptions with an __init__ of their own that stores its arguments, over Exception: the stores -/
namespace PySem
namespace ExX
open Builtin Builtin.ObjectAttr PySem.W PySem.Calls PyProof.Rows PySem.HandSPX
abbrev exTail : List Value := [.type "Exception", .type "BaseException", .type "object"]
/-- own classes, then Exception's mro -/
def refsEX : List Value → Bool
  | .ref _ :: r => refsEX r
  | l => l == exTail
theorem refsEX_cases : ∀ l : List Value, refsEX l = true → (∃ c r, l = .ref c :: r ∧ refsEX r = true) ∨ l = exTail := by
  intro l e
  unfold refsEX at e
  split at e
  · exact .inl ⟨_, _, rfl, e⟩
  · exact .inr (beq_iff_eq.mp e)
theorem refsEX_pass (self : Value) : ∀ l : List Value, refsEX l = true → refuseLoop self "__setattr__" l = pure () := by
  intro l
  induction l with
  | nil => intro e; exact absurd e (by decide)
  | cons a r ih =>
    intro e
    rcases refsEX_cases (a :: r) e with ⟨c, r', q, h⟩ | q
    · obtain ⟨rfl, rfl⟩ := List.cons.inj q
      rw [refuseLoop_ref]; exact ih h
    · rw [q]; exact F.store_Exception.passes self
theorem refsEX_contains (X : String) : ∀ l : List Value, refsEX l = true → l.contains (.type X) = exTail.contains (.type X) := by
  intro l
  induction l with
  | nil => intro e; exact absurd e (by decide)
  | cons a r ih =>
    intro e
    rcases refsEX_cases (a :: r) e with ⟨c, r', q, h⟩ | q
    · obtain ⟨rfl, rfl⟩ := List.cons.inj q
      rw [List.contains_cons, ih h]; rfl
    · rw [q]
theorem refsEX_ne {l : List Value} (e : refsEX l = true) : l.isEmpty = false := by
  cases l with
  | nil => exact absurd e (by decide)
  | cons _ _ => rfl
section
variable {prog : Program} {w : World} {A : Around} {E : Value → Shared → Prop} {R : Result → Shared → Prop} {hp : Heap} {g : Array GenState} {d : Drawn} {t : Nat} {os : OsState}
theorem osa_new {K : W.Frag} {name : Str} {tk : Tok} {v : Value} {x C : Addr} {fv : Array Value} {cd : ClassData}
    (X : K.In hp) (hx : hp.get? x = some { cls := .ref C, data := .fields fv }) (hcd : W.clsIn K C = some cd) (hm : refsEX cd.mro = true) (hh : cd.hasDict = true) (ha : W.findIn K (.ref C) name = some none)
    (hq : ∀ h' tk' dx, (∀ b o, b ≠ x → hp.get? b = some o → h'.get? b = some o) → hp.objs.size ≤ dx → dx ≠ x → h'.get? x = some { cls := .ref C, dict := some dx, data := .fields fv } →
      h'.Ns1 dx (fun y => if y = name then some v else none) → R (.ok (.ret .none)) ⟨h', g, d, tk', os⟩) :
    codeAny (model prog w) A (.call (.builtin "object.__setattr__") ⟨[.ref x, .str name tk, v], []⟩) R ⟨hp, g, d, t, os⟩ := by
  have I : W.InstAt hp x { cls := .ref C, data := .fields fv } C none := ⟨hx, rfl, rfl, trivial⟩
  have SF := F.store_object
  have ne := refsEX_ne hm
  have hob : cd.mro.contains (.type "object") = true := (refsEX_contains "object" _ hm).trans (by decide +kernel)
  have hxs : x ≠ hp.objs.size := Nat.ne_of_lt (Heap.lt_size hx)
  have sub : W.Looks (model prog w) hp (isInstance (.ref x) (.type "object")) true := I.type.andThen (W.looks_mroIn X (by unfold W.mroIn; rw [hcd, Option.bind_some, if_neg (by rw [ne]; decide), hob]))
  refine codeAny_call_builtin SF.slot.plain SF.entry (@W.check_slot (model prog w) _ _ ⟨hp, g, d, t, os⟩ "object.__setattr__" "object" "__setattr__" (.ref x) [.str name tk, v] [] _ SF.kind SF.split sub (SF.args (.ref x) (.str name tk) v) ?_)
  have hmr : W.Looks (model prog w) hp (mroOf (.ref C)) cd.mro := (W.looks_clsIn X hcd).andThen .now
  have L3 : W.Looks (model prog w) hp (storeTaker? none) none := .now
  have hcls : W.Looks (model prog w) hp (classData C) cd := W.looks_clsIn X hcd
  rw [W.osa_eq, refuse_eq]
  refine wpAny_bind (wpAny_bind (I.type.at (wpAny_bind (hmr.at ?_))))
  rw [refsEX_pass _ _ hm]
  refine wpAny_pure (wpAny_bind (I.type.at (wpAny_bind ((W.looks_findIn X ha).at (wpAny_bind (L3.at ?_))))))
  show wpAny _ _ (storeInOwnDict (.ref x) (.ref C) (.str name tk) name v false) _ _ _
  obtain ⟨nm, bs, mro, ns, qn, hd, sn, sb, ab, col, del⟩ := cd
  dsimp only at hh
  subst hh
  unfold storeInOwnDict ownDictForStores
  repeat (first | with_reducible refine store_in_new ?_ ?_ | with_reducible refine wpAny_loadPart_at hx ?_ | with_reducible refine hcls.at ?_ | wp_step)
  · exact ⟨_, #[], _, (Heap.get?_update_ne _ _ _ _ hxs.symm).trans (Heap.get?_push_at rfl rfl), rfl, fun e he => absurd he (by simp), fun _ => rfl⟩
  · intro h' tk' hn' hs
    have hx₁ : (hp.push { cls := .type "dict", data := .dict #[] }).get? x = some { cls := .ref C, data := .fields fv } := Heap.get?_push_of_some _ hx
    refine hq h' tk' hp.objs.size (fun b o hb ho => ?_) (Nat.le_refl _) hxs.symm ?_ hn'
    · exact (hs.2 b (Nat.ne_of_lt (Heap.lt_size ho))).trans ((Heap.get?_update_ne _ _ _ _ hb).trans (Heap.get?_push_of_some _ ho))
    · exact (hs.2 x hxs).trans (Heap.get?_update_self _ hx₁ rfl)
theorem osa_old {K : W.Frag} {name : Str} {tk : Tok} {v : Value} {x C dx : Addr} {fv : Array Value} {cd : ClassData} {m0 : Str → Option Value} {nl : List Str}
    (X : K.In hp) (hx : hp.get? x = some { cls := .ref C, dict := some dx, data := .fields fv }) (hns : hp.Ns1 dx m0) (hw : Within m0 nl) (hz : nl.length ≤ 1000) (hcd : W.clsIn K C = some cd) (hm : refsEX cd.mro = true) (hh : cd.hasDict = true)
    (ha : W.findIn K (.ref C) name = some none)
    (hq : ∀ h' tk', (∀ b o, b ≠ dx → hp.get? b = some o → h'.get? b = some o) → h'.Ns1 dx (fun y => if y = name then some v else m0 y) → R (.ok (.ret .none)) ⟨h', g, d, tk', os⟩) :
    codeAny (model prog w) A (.call (.builtin "object.__setattr__") ⟨[.ref x, .str name tk, v], []⟩) R ⟨hp, g, d, t, os⟩ := by
  obtain ⟨oD, esD, epD, hoD, hdD, _⟩ := hns.count hw
  have I : W.InstAt hp x { cls := .ref C, dict := some dx, data := .fields fv } C (some oD) := ⟨hx, rfl, rfl, hoD⟩
  have SF := F.store_object
  have ne := refsEX_ne hm
  have hob : cd.mro.contains (.type "object") = true := (refsEX_contains "object" _ hm).trans (by decide +kernel)
  have sub : W.Looks (model prog w) hp (isInstance (.ref x) (.type "object")) true := I.type.andThen (W.looks_mroIn X (by unfold W.mroIn; rw [hcd, Option.bind_some, if_neg (by rw [ne]; decide), hob]))
  refine codeAny_call_builtin SF.slot.plain SF.entry (@W.check_slot (model prog w) _ _ ⟨hp, g, d, t, os⟩ "object.__setattr__" "object" "__setattr__" (.ref x) [.str name tk, v] [] _ SF.kind SF.split sub (SF.args (.ref x) (.str name tk) v) ?_)
  have hmr : W.Looks (model prog w) hp (mroOf (.ref C)) cd.mro := (W.looks_clsIn X hcd).andThen .now
  have L3 : W.Looks (model prog w) hp (storeTaker? none) none := .now
  have hcls : W.Looks (model prog w) hp (classData C) cd := W.looks_clsIn X hcd
  rw [W.osa_eq, refuse_eq]
  refine wpAny_bind (wpAny_bind (I.type.at (wpAny_bind (hmr.at ?_))))
  rw [refsEX_pass _ _ hm]
  refine wpAny_pure (wpAny_bind (I.type.at (wpAny_bind ((W.looks_findIn X ha).at (wpAny_bind (L3.at ?_))))))
  show wpAny _ _ (storeInOwnDict (.ref x) (.ref C) (.str name tk) name v false) _ _ _
  obtain ⟨nm, bs, mro, ns, qn, hd, sn, sb, ab, col, del⟩ := cd
  dsimp only at hh
  subst hh
  unfold storeInOwnDict ownDictForStores
  repeat (first | with_reducible refine PySem.OEX.store_in_old hns hw hz ?_ | with_reducible refine wpAny_loadPart_at hx ?_ | with_reducible refine hcls.at ?_ | wp_step)
  intro h' tk' hn' hs
  exact hq h' tk' (fun b o hb ho => (hs.2 b hb).trans ho) hn'
end
end ExX
end PySem

set_option Elab.async false
set_option linter.all false
set_option maxRecDepth 100000
set_option maxHeartbeats 4000000
namespace PySem
namespace ExX
open PySem.W PySem.Calls PyProof.Rows PySem.HandSPX
/-- what the written part says of an own exception class, at C, over Exception, and of its __init__, at fI -/
structure ExcT (K : W.Frag) (mg : Str → Option Value) (C fI : Addr) (cn : Str) (fs : List Str) (qual : Str) (st : Stmt) : Prop where
  gC : mg cn = some (.ref C)
  cls : ∃ nm q N bs bm sn sub ab col dd k0 k1 k2 k3 k5, K.lookup C = some (excClassObj nm q C N bs bm true sn sub ab col dd k0 k1 k2 k3 k5 "Exception.__new__") ∧ refsEX bm = true
  sa : findIn K (.ref C) "__setattr__" = some (some (.builtin "object.__setattr__"))
  ga : findIn K (.ref C) "__getattribute__" = some (some (.builtin "BaseException.__getattribute__"))
  gg : findIn K (.ref C) "__getattr__" = some none
  no : ∀ f ∈ fs, findIn K (.ref C) f = some none
  iC : findIn K (.ref C) "__init__" = some (some (.ref fI))
  tC : typeIn K (.ref fI) = some (.type "function")
  kC : keepIn K (.ref C) = true
  exC : subIn K (.ref C) (.type "BaseException") = some true
  tyC : typeIn K (.ref C) = some (.type "type")
  hdC : hasDictIn K C = true
  fn : ∃ (oc : Value) (od : Option Addr) (kV doc pm : Value) (an : Option Addr) (cdv ct : Value) (osl : Array (Option Value)),
    K.lookup fI = some ⟨oc, od, .func (fnOf "__init__" qual (L2.defArgs st) (L2.defBody st) (L2.defScope st) .none kV doc pm an cdv ct), osl⟩ ∧ codeIn K cdv qual = true
theorem ldC {M : Model} {s : Shared} {name : Str} {scope : Scope} {L a : Addr} {cd : Value} {m : Str → Option Value} {x : Str} {pos : Pos} {v : Value} {Q : Value → Shared → Prop} {A : Around} {E : Value → Shared → Prop} (hn : s.heap.Ns L m) (hv : m x = some v) (h : Q v s)
    (hk : scope.kind = .function := by rfl) (hl : (envOfC name scope L a cd).kindOf x = some .local := by rfl) (hd : (x == ("__debug__" : Str)) = false := by decide) :
    wpAny M A (eval (.Name x pos) (envOfC name scope L a cd)) Q E s := wpAny_Name (wpAny_loadName_local hk hl hn hv h) hd
end ExX
end PySem
namespace PySem
namespace ExX
open PySem.W PySem.Calls PyProof.Rows PySem.HandSPX
/-- a made exception of the class at C: itself at e, its dict at d, the fields m -/
structure OwnMade (h h' : Heap) (e C d : Addr) (m : Str → Option Value) : Prop where
  keep : ∀ b o, h.get? b = some o → h'.get? b = some o
  new : h.objs.size ≤ e
  obj : ∃ oe vs, h'.get? e = some oe ∧ oe.cls = .ref C ∧ oe.dict = some d ∧ oe.data = .fields vs ∧ vs[1]? = some .none
  dbig : h.objs.size ≤ d
  dne : d ≠ e
  ns : h'.Ns1 d m
end ExX
end PySem
namespace L2
open PySem PySem.Spec PyProof.Rows PySem.ExX
/-- an exception object of the class at C, its own dict at d, not raised -/
def ExD (C d e : Addr) : HO := .ext fun h => ∃ (oe : Obj) (vs : Array Value), h.get? e = some oe ∧ Zc (.ref C) (some d) oe ∧ oe.data = .fields vs ∧ vs[1]? = some .none
theorem exD_ok {P : Program} {w : World} {H : Hp} {h : Heap} {C d e : Addr} {oe : Obj} {vs : Array Value} (he : h.get? e = some oe) (z : Zc (.ref C) (some d) oe) (hd : oe.data = .fields vs) (h1 : vs[1]? = some .none) : ObjOk P w H h e (ExD C d e) :=
  ⟨⟨oe, vs, he, z, hd, h1⟩, ⟨oe, he⟩, fun _ _ ⟨o, v, q, r⟩ k => ⟨o, v, k o q, r⟩⟩
section
variable {X : Cx} {pins : List (Addr × Obj)} {σ : St} {H : Hp} {hp h' : Heap} {g : Array GenState} {dr : Drawn} {tk tk' : Nat} {os : OsState} {e C d : Addr} {m : Str → Option Value} {fs : List (Str × V)}
/-- the heap without the exception itself: its dict laid -/
theorem own_split (I : Inv X pins σ H ⟨hp, g, dr, tk, os⟩) (M : OwnMade hp h' e C d m) (rel : ∀ f, RelO (fs.lookup f) (m f)) :
    ∃ G' : Heap, (∀ b o, G'.get? b = some o → h'.get? b = some o) ∧ G'.get? e = none ∧ Inv X pins σ (upd H d (.xd fs)) ⟨G', g, dr, tk', os⟩ := by
  have hns := M.ns
  obtain ⟨G', g1, g2⟩ := restrict h' fun b => decide (b ≠ e)
  have gk : ∀ b, b ≠ e → G'.get? b = h'.get? b := fun b hb => g1 b (decide_eq_true hb)
  have ge : G'.get? e = none := g2 e (by simp)
  have old : ∀ b o, hp.get? b = some o → G'.get? b = some o := fun b o q => (gk b (Nat.ne_of_lt (Nat.lt_of_lt_of_le (Heap.lt_size q) M.new))).trans (M.keep b o q)
  have ob : ObjOk X.prog X.w (upd H d (.xd fs)) G' d (.xd fs) := ⟨_, hns.at (fun o q => (gk d M.dne).trans q), fun f => rel f⟩
  have J : Inv X pins σ (upd H d (.xd fs)) ⟨G', g, dr, tk', os⟩ := I.laid (t' := tk') old M.dbig ob
  refine ⟨G', fun b o q => ?_, ge, J⟩
  by_cases hb : b = e
  · rw [hb, ge] at q; cases q
  · exact (gk b hb).symm.trans q
theorem own_value (I : Inv X pins σ H ⟨hp, g, dr, tk, os⟩) (M : OwnMade hp h' e C d m) (rel : ∀ f, RelO (fs.lookup f) (m f)) :
    Inv X pins σ (upd (upd H d (.xd fs)) e (ExD C d e)) ⟨h', g, dr, tk', os⟩ := by
  obtain ⟨G', k, ge, J⟩ := own_split (tk' := tk') I M rel
  obtain ⟨oe, vs, hoe, hc, hd, hdat, h1⟩ := M.obj
  have hn : upd H d (.xd fs) e = none := by
    rw [upd_ne (Ne.symm M.dne)]
    exact I.hok.fresh M.new
  exact J.laidN k ge hn (exD_ok hoe ⟨hc, hd⟩ hdat h1)
theorem own_raise {Q : XK} (I : Inv X pins σ H ⟨hp, g, dr, tk, os⟩) (M : OwnMade hp h' e C d m) (rel : ∀ f, RelO (fs.lookup f) (m f)) (r : Raises X (.ref C)) (q : ∀ d, H d = none → Q (.ref C) (some d) (upd H d (.xd fs))) :
    MkP X pins σ Q (.ref e) ⟨h', g, dr, tk', os⟩ := by
  obtain ⟨G', k, ge, J⟩ := own_split (tk' := tk') I M rel
  obtain ⟨oe, vs, hoe, hc, hd, hdat, h1⟩ := M.obj
  refine ⟨e, oe, vs, ⟨G', g, dr, tk', os⟩, _, .ref C, some d, rfl, J, k, ge, hoe, ⟨hc, hd⟩, hdat, h1, ?_, rfl, I.bare, r, q d (I.hok.fresh M.dbig)⟩
  rw [upd_ne (Ne.symm M.dne)]
  exact I.hok.fresh M.new
end
end L2

set_option Elab.async false
set_option linter.all false
set_option maxRecDepth 100000
set_option maxHeartbeats 4000000
/-! isinstance of exception objects that are values, whatever own dict they have -/
namespace PySem.W
open PySem PySem.Spec PySem.Calls PyProof.Rows
section
variable {prog : Program} {w : World} {A : Around} {E : Value → Shared → Prop} {s : Shared} {K : Frag} {x D : Addr} {ox : Obj} {od : Option Obj}
theorem findObj_dataZ {C : Addr} {name : Str} {a g : Value} (hc : (clsIn K C).isSome = true) (ha : findIn K (.ref C) name = some (some a)) (hg : specialIn K a "__get__" = some (some g)) (ht : takesIn K a = some true) : findObj K C od name = some (.bind g a) := by
  obtain ⟨cd, hc⟩ := Option.isSome_iff_exists.mp hc
  unfold findObj
  rw [hc, Option.bind_some, ha, Option.bind_some]
  simp [hg, ht]
theorem kin_classZ {Q : Option Value → Shared → Prop} (hga : findIn K (.ref D) "__getattribute__" = some (some (.builtin "BaseException.__getattribute__"))) (hgt : findIn K (.ref D) "__getattr__" = some none) (hsub : subIn K (.ref D) (.type "BaseException") = some true)
    (hdct : hasDictIn K D = true) (ha : findIn K (.ref D) "__class__" = some (some (.builtin "object.__class__")))
    (hn : specialIn K (.builtin "object.__class__") "__get__" = some (some (.builtin "getset_descriptor.__get__"))) (htk : takesIn K (.builtin "object.__class__") = some true) (hm : mroIn K D (.type "object") = some true)
    (X : K.In s.heap) (I : InstAt s.heap x ox D od) (h : Q (some (.ref D)) { s with toks := s.toks + 1 }) : wpAny (model prog w) A (getAttr? (.ref x) "__class__") Q E s := by
  have hf : findObj K D od "__class__" = some (.bind (.builtin "getset_descriptor.__get__") (.builtin "object.__class__")) := findObj_dataZ (by obtain ⟨cd, hc, _⟩ := any_some hdct; rw [hc]; rfl) ha hn htk
  obtain ⟨hp, g, d, t, os⟩ := s
  have L0 := I.type (M := model prog w)
  have L1 := looks_findIn (M := model prog w) X hga
  have L2 := looks_findIn (M := model prog w) X hgt
  have L3 := looks_find (M := model prog w) X I hf
  have sub : Looks (model prog w) hp (isInstance (.ref x) (.type "BaseException")) true := L0.andThen (looks_subIn X hsub)
  have hx0 : (false && onTheHeap (Value.builtin "BaseException.__getattribute__")) = false := rfl
  have hx2 : (Value.builtin "BaseException.__getattribute__" == Value.builtin "object.__getattribute__") = false := by decide +kernel
  have hx1 : (onTheHeap (Value.ref D) && Value.builtin "BaseException.__getattribute__" == Value.builtin "object.__getattribute__") = false := by rw [hx2]; rfl
  unfold getAttr? getAttrBy? getAttrBy
  refine wpAny_bind (wpAny_mkText (wpAny_bind (wpAny_attempt (wpAny_holding (wpAny_bind (L0.at (wpAny_bind (L1.at ?_))))))))
  show wpAny _ _ (if (onTheHeap (Value.ref D) && Value.builtin "BaseException.__getattribute__" == Value.builtin "object.__getattribute__") = true then _ else _) _ _ _
  rw [hx1, if_neg Bool.false_ne_true]
  unfold getAttrByItsOwn hookBefore
  refine wpAny_bind ?_
  rw [if_pos (show onTheHeap (Value.ref D) = true from rfl)]
  refine L2.at ?_
  refine wpAny_bind (wpAny_attempt (wpAny_holding ?_))
  unfold callGetattribute
  rw [hx0, if_neg Bool.false_ne_true]
  unfold boundAndCalled
  rw [PySem.F.excAttr_ValueError.ga.bind (.ref x)]
  refine wpAny_bind (wpAny_pure ?_)
  show wpAny _ _ (call (.builtin "BaseException.__getattribute__") [.ref x, .str "__class__" t]) _ _ _
  refine wpAny_call (codeAny_call_builtin PySem.F.excAttr_ValueError.ga.plain PySem.F.entry_bexc_ga ?_)
  refine @check_slot (model prog w) _ _ ⟨hp, g, d, t + 1, os⟩ "BaseException.__getattribute__" "BaseException" "__getattribute__" (.ref x) [.str "__class__" t] [] _ (by decide +kernel) (by decide +kernel) sub (PySem.F.args_bexc_ga (.ref x) (.str "__class__" t)) ?_
  unfold Builtin.«object.__getattribute__»
  refine wpAny_bind (wpAny_of_eq (a := ((Value.ref x : Value), [Value.str "__class__" t])) (by first | rfl | (simp only [slotArgs]; rfl)) ?_)
  refine wpAny_bind (wpAny_pure (wpAny_bind (L0.at (wpAny_bind (L3.at ?_)))))
  show wpAny _ _ (holding [Value.builtin "object.__class__"] (call (.builtin "getset_descriptor.__get__") [.builtin "object.__class__", .ref x, .ref D]) >>= ret) _ _ _
  refine wpAny_bind (wpAny_holding (wpAny_call (class_get (s := ⟨hp, g, d, t + 1, os⟩) (ox := ox) (od := od) X I hm ?_)))
  refine wpAny_pure ?_
  show wpAny _ _ (handedOut (.ref D)) _ _ _
  rw [handedOut_of (v := .ref D) rfl]
  first
    | exact wpAny_pure (wpAny_pure h)
    | exact wpAny_pure h
    | exact wpAny_pure (wpAny_bind (wpAny_pure (wpAny_pure h)))
theorem kitx_excZ (hga : findIn K (.ref D) "__getattribute__" = some (some (.builtin "BaseException.__getattribute__"))) (hgt : findIn K (.ref D) "__getattr__" = some none) (hsub : subIn K (.ref D) (.type "BaseException") = some true) (hdct : hasDictIn K D = true) (ha : findIn K (.ref D) "__class__" = some (some (.builtin "object.__class__")))
    (hn : specialIn K (.builtin "object.__class__") "__get__" = some (some (.builtin "getset_descriptor.__get__"))) (htk : takesIn K (.builtin "object.__class__") = some true) (hm : mroIn K D (.type "object") = some true) :
    KitX K (.ref x) (.ref D) (fun h => InstAt h x ox D od) where
  ty := fun _ _ _ I => I.type
  it := fun _ _ X _ => by
    obtain ⟨cdD, hcD, _⟩ := any_some hdct
    unfold clsIn at hcD
    split at hcD
    · rename_i c' d' cd' sl' ho
      intro A' Q' E' s' k q
      unfold isType loadHead
      exact wpAny_bind (wpAny_loadPart (k _ _ (X _ _ ho)) (wpAny_pure q))
    · cases hcD
  ne := (handS_kitx_exc (x := x) (ox := ox) hga hgt hsub hdct ha hn htk hm).ne
  ca := fun X I k => kin_classZ hga hgt hsub hdct ha hn htk hm X I k
end
end PySem.W
namespace L2
open PySem PySem.Spec PyProof.Rows PySem.ExX
/-- the type of a value: also of an exception object that is a value -/
inductive TyZ (K : PySem.W.Frag) (H : Hp) : V → Value → Prop where
  | x {v : V} {t : Value} (h : TyX K H v t) : TyZ K H v t
  | exo {a C : Addr} (e : H a = some (ExO (.ref C) a)) (c : ExcC K C) : TyZ K H (.ref a) (.ref C)
  | exd {a C d : Addr} {fs : List (Str × V)} (e : H a = some (ExD C d a)) (ed : H d = some (.xd fs)) (c : ExcC K C) : TyZ K H (.ref a) (.ref C)
section
variable {X : Cx} {pins : List (Addr × Obj)} {σ : St} {H : Hp} {s : Shared}
theorem kit_ofZ {x : V} {u t : Value} (I : Inv X pins σ H s) (rx : RelV x u) (ty : TyZ X.K H x t) : ∃ P : Heap → Prop, PySem.W.KitX X.K u t P ∧ P s.heap ∧ u ≠ .builtin "__main__.__loader__#opaque" := by
  cases ty with
  | x h => exact kit_of I rx h
  | @exo a C e c =>
    cases (show u = Value.ref a from rx)
    obtain ⟨⟨oe, vs, ho, hz, hd, _, _⟩, _, _⟩ := I.hok a _ e
    have J : PySem.W.InstAt s.heap a oe C none := by
      obtain ⟨oc, od, oda, osl⟩ := oe
      obtain ⟨h1, h2⟩ := hz
      dsimp only at h1 h2 hd
      subst h1 h2 hd
      exact ⟨ho, rfl, rfl, trivial⟩
    exact ⟨_, PySem.W.kitx_excZ c.hg c.hk c.hs c.hd c.ha c.hn c.ht c.hm, J, fun z => nomatch z⟩
  | @exd a C d fs e ed c =>
    cases (show u = Value.ref a from rx)
    obtain ⟨⟨oe, vs, ho, hz, hd, _⟩, _, _⟩ := I.hok a _ e
    obtain ⟨mA, hns, _⟩ := (show ObjOk X.prog X.w H s.heap d (.xd fs) from I.hok d _ ed)
    obtain ⟨od, hod, _⟩ := lookIn_ns hns
    have J : PySem.W.InstAt s.heap a oe C (some od) := by
      obtain ⟨oc, odd, oda, osl⟩ := oe
      obtain ⟨h1, h2⟩ := hz
      dsimp only at h1 h2 hd
      subst h1 h2 hd
      exact ⟨ho, rfl, rfl, hod⟩
    exact ⟨_, PySem.W.kitx_excZ c.hg c.hk c.hs c.hd c.ha c.hn c.ht c.hm, J, fun z => nomatch z⟩
end
def rIsiZ (K : PySem.W.Frag) : List V → Hp → VK → Prop := fun xs H Q => ∃ (x c : V) (t u : Value) (b : Bool), xs = [x, c] ∧ ClsV c u ∧ TyZ K H x t ∧ PySem.W.kitOne K t u = some b ∧ Q (.bl b) H
def rIsiTZ (K : PySem.W.Frag) : List V → Hp → VK → Prop := fun xs H Q => ∃ (x : V) (tp : Addr) (cs : List V) (t : Value) (us : List Value) (b : Bool), xs = [x, .ref tp] ∧ H tp = some (.tup cs) ∧ Paired ClsV cs us ∧ TyZ K H x t ∧ PySem.W.kitAny K t us = some b ∧ Q (.bl b) H
section
variable {X : Cx} {K : PySem.W.Frag}
theorem call_isiZ (hK : X.K = K) : CallR X (.builtin "isinstance") (rIsiZ K) := by
  subst hK
  intro pins s σ H xs us Q I r h
  obtain ⟨x, c, t, u, b, rfl, k, ty, e, q⟩ := h
  obtain ⟨u1, u2, rfl, r1, r2⟩ := vals2 r
  have e2 := k.eq r2
  subst e2
  obtain ⟨P, Z, p, hx⟩ := kit_ofZ I r1 ty
  exact PySem.W.kia_one Z I.kIn p e hx fun tk => ⟨.bl b, H, I.tok tk, rfl, q⟩
theorem call_isiTZ (hK : X.K = K) : CallR X (.builtin "isinstance") (rIsiTZ K) := by
  subst hK
  intro pins s σ H xs us Q I r h
  obtain ⟨x, tp, cs, t, ws, b, rfl, hT, k, ty, e, q⟩ := h
  obtain ⟨u1, u2, rfl, r1, r2⟩ := vals2 r
  cases (show u2 = Value.ref tp from r2)
  obtain ⟨P, Z, p, hx⟩ := kit_ofZ I r1 ty
  obtain ⟨_, its, rv, o, h1, h2, n, h3⟩ := (show ObjOk X.prog X.w H s.heap tp (.tup cs) from I.hok tp _ hT)
  have e3 := ClsV.all k rv
  subst e3
  obtain ⟨oc, od, dt, sl⟩ := o
  simp only at h2 h3
  subst h2 h3
  exact PySem.W.kia_tup Z I.kIn p h1 e hx fun tk => ⟨.bl b, H, I.tok tk, rfl, q⟩
end
end L2

set_option Elab.async false
set_option linter.all false
set_option maxRecDepth 100000
set_option maxHeartbeats 4000000
/-! x != y of two objects of a class with an own __eq__ and no __ne__ -/
namespace HN
open PySem PySem.Spec PyProof.Rows PySem.SeqAt
section
variable {M : Model} {prog : Program} {w : World} {A : Around} {E : Value → Shared → Prop} {s : Shared} {K : PySem.W.Frag} {x C f : Addr} {ox : Obj} {od : Option Obj} {b tb : Value}
theorem ifBound_objNe {args : List Value} {Q : Option Value → Shared → Prop} (X : K.In s.heap) (I : PySem.W.InstAt s.heap x ox C od) (hs : PySem.W.findIn K (.ref C) "__ne__" = some (some (.builtin "object.__ne__")))
    (h : wpAny M A (call (.builtin "object.__ne__") (.ref x :: args)) (fun v => Q (some v)) E s) : wpAny M A (callSpecialIfBound? (.ref x) "__ne__" args) Q E s := by
  simp only [callSpecialIfBound?, bindSpecialIfBound?]
  refine wpAny_holding (wpAny_bind (wpAny_bind (wpAny_bind (I.type.here ((PySem.W.looks_findIn X hs).here ?_)))))
  refine wpAny_bind (wpAny_askSetting (wpAny_ite ?_))
  have fin : wpAny M A (call (.builtin "object.__ne__") ([.ref x] ++ args) >>= fun v => pure (some v)) Q E s := wpAny_bind (wpAny_mono h (fun v s' h' => wpAny_pure h') fun _ _ h' => h')
  split
  · exact wpAny_bind (wpAny_of_eq (F.cmp_object.ne.bind _) (wpAny_pure (by exact fin)))
  · exact wpAny_tryCatch (wpAny_bind (wpAny_of_eq (F.cmp_object.ne.bind _) (wpAny_pure (by exact fin))))
/-- what object.__ne__ does, where the class's own __eq__ says True -/
theorem entry_ne {R : Fin → Shared → Prop} (hu : A.units < cLine) (X : K.In s.heap) (I : PySem.W.InstAt s.heap x ox C od) (hs : PySem.W.findIn K (.ref C) "__eq__" = some (some (.ref f))) (hf : PySem.W.isFn K (.ref f) = true)
    (h : wpAny M A (call (.ref f) [.ref x, b]) (fun v s' => v = .bool true ∧ R (.done (.ret (.bool false))) s') E s) : wpAny M A (Builtin.«object.__ne__» ⟨[.ref x, b], []⟩) R E s := by
  unfold Builtin.«object.__ne__»
  have q : wpAny M A (callSpecialIfBound? (.ref x) "__eq__" [b]) (fun r s' => r = some (.bool true) ∧ R (.done (.ret (.bool false))) s') E s :=
    PySem.W.ifBound_K X I hs hf (wpAny_mono h (fun v s' ⟨e, z⟩ => ⟨by rw [e], z⟩) fun _ _ z => z)
  repeat (first | with_reducible refine wpAny_cRoomFor hu ?_ | with_reducible refine wpAny_bind (wpAny_mono q (fun r s' ⟨e, z⟩ => ?_) fun _ _ z => z) | wp_step)
  subst e
  refine wpAny_bind (wpAny_truthy_bool ?_)
  exact wpAny_pure z
theorem call_objNe {Q : Value → Shared → Prop} (hu : A.in1.units < cLine) (X : K.In s.heap) (I : PySem.W.InstAt s.heap x ox C od) (hm : PySem.W.mroIn K C (.type "object") = some true) (hs : PySem.W.findIn K (.ref C) "__eq__" = some (some (.ref f))) (hf : PySem.W.isFn K (.ref f) = true)
    (h : wpAny (model prog w) A.in1 (call (.ref f) [.ref x, b]) (fun v s' => v = .bool true ∧ Q (.bool false) s') E s) :
    wpAny (model prog w) A (call (.builtin "object.__ne__") [.ref x, b]) Q E s :=
  wpAny_call (codeAny_call_builtin F.cmp_object.ne.plain F.cmpEntry_ne (PySem.W.check_slot F.cmpKind_ne F.cmpSplit_ne (I.type.andThen (PySem.W.looks_mroIn X hm)) (F.cmpArgs_ne _ _) (entry_ne hu X I hs hf h)))
theorem rc_ne {L : Addr} {h₀ : Heap} {m : Str → Option Value} {Q : Value → Shared → Prop} (hu : A.units < cLine) (hu1 : A.in1.units < cLine) (F : Fr h₀ L s.heap m) (X₀ : K.In h₀) (I : PySem.W.InstAt s.heap x ox C od) (hb : PySem.W.Looks (model prog w) s.heap (typeOf b) tb) (hn : PySem.W.notFirst K C tb = true)
    (hm : PySem.W.mroIn K C (.type "object") = some true) (hne : PySem.W.findIn K (.ref C) "__ne__" = some (some (.builtin "object.__ne__"))) (hs : PySem.W.findIn K (.ref C) "__eq__" = some (some (.ref f))) (hf : PySem.W.isFn K (.ref f) = true)
    (h : wpAny (model prog w) A.in1 (call (.ref f) [.ref x, b]) (fun v s' => v = .bool true ∧ Q (.bool false) s') E s) : wpAny (model prog w) A (richCompare .NotEq (.ref x) b) Q E s := by
  have X := X₀.keeps F.keep
  have one : wpAny (model prog w) A (tryCompare (.ref x) (cmpInfo .NotEq).2.1 b) (fun r s' => ∃ v, r = some v ∧ Q v s') E s := by
    unfold tryCompare
    refine wpAny_bind (ifBound_objNe X I hne (call_objNe hu1 X I hm hs hf (wpAny_mono h (fun v s' hv => ?_) fun _ _ e => e)))
    exact ⟨hv.1, wpAny_pure ⟨_, rfl, hv.2⟩⟩
  unfold richCompare
  simp only [oneThing_ref]
  refine wpAny_holding (wpAny_bind (wpAny_cRoomFor hu ?_))
  refine wpAny_bind (I.type.here (wpAny_bind (hb.here ?_)))
  split
  · rename_i q
    have e : PySem.W.subIn K tb (.ref C) = some false := by
      rcases Bool.or_eq_true_iff.mp hn with e | e
      · rw [beq_iff_eq.mp e] at q; simp at q
      · exact beq_iff_eq.mp e
    refine wpAny_bind ((PySem.W.looks_subIn X e).here ?_)
    simp only [Bool.false_eq_true, if_false]
    refine wpAny_bind (wpAny_mono one (fun r s' z => ?_) fun _ _ e => e)
    obtain ⟨v, rfl, hq⟩ := z
    exact wpAny_pure hq
  · refine wpAny_bind (wpAny_pure ?_)
    simp only [Bool.false_eq_true, if_false]
    refine wpAny_bind (wpAny_mono one (fun r s' z => ?_) fun _ _ e => e)
    obtain ⟨v, rfl, hq⟩ := z
    exact wpAny_pure hq
end
end HN
namespace L2
open PySem PySem.Spec PyProof.Rows
section
variable {X : Cx} {n : Nat}
def rNeG (D : Eqv) : R2 := fun x y H Q => D x y H ∧ ∀ H', Ext H H' → Q (.bl false) H'
/-- x != y, two objects of the class at C, equal by its own __eq__ -/
theorem op_neG {CX : CXT} {C f : Addr} {fd : FuncData} {ps : List Str} {R : Addr → Addr → Hp → Prop} {E : XK} (F : FnOk X.prog X.w X.K X.mg X.base CX n f fd ps (spEq R))
    (hs : PySem.W.findIn X.K (.ref C) "__eq__" = some (some (.ref f))) (hf : PySem.W.isFn X.K (.ref f) = true) (hne : PySem.W.findIn X.K (.ref C) "__ne__" = some (some (.builtin "object.__ne__"))) (hm : PySem.W.mroIn X.K C (.type "object") = some true)
    (hb : Binds X.K fd ps []) (hx : Passes CX X E) (hr : Room (n + 1) X.A) : OpR X (compareOp .NotEq) (rNeG (DIns C R)) := by
  intro pins s σ H x y u v Q I rx ry hq
  obtain ⟨⟨a, b, dx, dy, fs, gs, rfl, rfl, ha, hb', hr'⟩, q⟩ := hq
  cases rx
  cases ry
  have sb : Sub X n X.A.in1 := Sub.in1 ⟨hr, rfl⟩
  obtain ⟨mA, J, _⟩ := ins_get I.hok ha
  obtain ⟨mB, J', _⟩ := ins_get I.hok hb'
  obtain ⟨od, J, _⟩ := J.look
  obtain ⟨od', J', _⟩ := J'.look
  obtain ⟨m, hF⟩ := I.fr
  show wpAny (model X.prog X.w) X.A (richCompare .NotEq (.ref a) (.ref b)) (EP X pins σ Q) X.xe s
  refine HN.rc_ne (tb := .ref C) hr.units0 sb.room.units0 hF I.ok.mod.kin J J'.type (by simp [PySem.W.notFirst]) hm hne hs hf ?_
  have hsp : spEq R [.ref a, .ref b] H (fun v H' => v = .bl true ∧ Ext H H') E := ⟨a, b, rfl, hr', fun H' e => ⟨rfl, e⟩⟩
  have e0 : Env0 X.prog X.w X.K X.mg X.base X.A.in1 X.stack s H := by
    have e := I.env0
    exact ⟨by rw [sb.fr]; exact e.frames, e.mod, e.bs, e.bsz, e.funs, e.frf, e.hok, e.bare⟩
  have hl := F.len _ _ _ _ hsp
  have r2 : Vals [V.ref a, V.ref b] [Value.ref a, Value.ref b] := .cons rfl (.cons rfl .nil)
  refine wpAny_call (codeAny_mono (F.run X.A.in1 X.stack s H ⟨[.ref a, .ref b], []⟩ [.ref a, .ref b] [.ref a, .ref b] _ E sb.room e0 (by
    have := hb s [.ref a, .ref b] I.kIn (by simpa using hl)
    simpa using this) r2 hsp) fun r s' hq => ?_)
  cases r with
  | error e => exact hx pins σ H s e s' I hq
  | ok fl =>
    cases fl with
    | ret w =>
      obtain ⟨z, H', I', rz, ez, ex⟩ := I.after hq
      subst ez
      cases rz
      exact ⟨rfl, .bl false, H', I', rfl, q H' ex⟩
    | next => exact False.elim hq
    | brk => exact False.elim hq
    | cont => exact False.elim hq
end
end L2

set_option Elab.async false
set_option linter.all false
set_option maxRecDepth 100000
set_option maxHeartbeats 4000000
namespace PySem
namespace ExX
open PySem.W PySem.Calls PyProof.Rows
theorem refsEX_of : ∀ l : List Value, excTail exTail l = true → refsEX l = true := by
  intro l
  induction l with
  | nil => intro h; exact absurd h (by decide +kernel)
  | cons a r ih =>
    intro h
    rcases excTail_cases (bmB := exTail) (a :: r) h with ⟨c, r', e, q⟩ | e
    · cases e
      exact ih q
    · rw [e]; rfl
theorem excT_cls {K : Frag} {C : Addr} (q : excInitIn K C exTail "Exception.__new__" = true) (hd : hasDictIn K C = true) :
    ∃ nm q N bs bm sn sub ab col dd k0 k1 k2 k3 k5, K.lookup C = some (excClassObj nm q C N bs bm true sn sub ab col dd k0 k1 k2 k3 k5 "Exception.__new__") ∧ refsEX bm = true := by
  unfold excInitIn at q
  split at q
  · rename_i dd cd sl ho
    split at q
    · rename_i C' bm k0 k1 k2 k3 n k5 hm hs
      simp only [Bool.and_eq_true, beq_iff_eq, Bool.not_eq_true'] at q
      obtain ⟨⟨⟨rfl, rfl⟩, hdel⟩, ht⟩ := q
      obtain ⟨nm, bs, mro, ns, qn, hd', sn, sub, ab, col, del⟩ := cd
      dsimp only at hm hdel
      subst hm hdel
      have hsl : sl = #[k0, k1, k2, k3, some (.builtin "Exception.__new__"), k5] := by
        obtain ⟨l⟩ := sl
        simp only at hs
        rw [hs]
      subst hsl
      have e : hd' = true := by
        unfold hasDictIn at hd
        have hc : clsIn K C' = some ⟨nm, bs, .ref C' :: bm, ns, qn, hd', sn, sub, ab, col, false⟩ := by unfold clsIn; rw [ho]
        rw [hc] at hd
        simpa using hd
      subst e
      exact ⟨nm, qn, ns, bs, bm, sn, sub, ab, col, dd, k0, k1, k2, k3, k5, ho, refsEX_of _ ht⟩
    · cases q
  · cases q
end ExX
end PySem

set_option Elab.async false
set_option linter.all false
set_option maxRecDepth 100000
set_option maxHeartbeats 4000000
/-! enumerate of a tuple -/
namespace PySem
open Sem (wp)
open PySem.Spec PyProof.Rows
theorem meets_enumerate_newB1 {v : Value} {o : Obj} {H : Heap → Prop} (B : Begins v o H) :
    Meets (Builtin.«enumerate.__new__» ⟨[.type "enumerate", v], []⟩) (fun _ R s => H s.heap ∧
      R (.ok (.ret (.ref (s.heap.push o).objs.size))) { s with heap := (s.heap.push o).push { cls := .type "enumerate", data := .fields #[.none, .bool false, .ref s.heap.objs.size, rawInt 0, .none, .none] } }) :=
  .of_wp fun prog w A R s h => by
    obtain ⟨hp, g, d, tk, os⟩ := s; obtain ⟨h1, h⟩ := h
    have hsub := sub_enumerate
    have q1 : ∀ {A' : Around} {E : Value → Shared → Prop} {Q : Value → Shared → Prop}, Q (.ref hp.objs.size) ⟨hp.push o, g, d, tk, os⟩ → wpAny (model prog w) A' (pyIter v) Q E ⟨hp, g, d, tk, os⟩ :=
      fun q => B.iter prog w _ _ ⟨hp, g, d, tk, os⟩ _ h1 q
    wp_walk using q1
    refine wpAny_stack_any fun st => wpAny_pure ?_
    split
    · rename_i c _ _ _ _ _
      cases (c == Value.type "enumerate")
      · wp_walk using q1
        exact ⟨_, rfl, h⟩
      · wp_walk using q1
        exact ⟨_, rfl, h⟩
    · wp_walk using q1
      exact ⟨_, rfl, h⟩
section
variable {prog : Program} {w : World} {A : Around} {E : Value → Shared → Prop} {s : Shared}
theorem enum_begins1 {v : Value} {o : Obj} {H : Heap → Prop} {Q : Value → Shared → Prop} (B : Begins v o H) (h1 : H s.heap)
    (h : ∀ h', IsEnum h' (s.heap.objs.size + 1) s.heap.objs.size 0 .none → h'.get? s.heap.objs.size = some o → h'.objs.size = s.heap.objs.size + 2 →
      (∀ b o, s.heap.get? b = some o → h'.get? b = some o) → Q (.ref (s.heap.objs.size + 1)) { s with heap := h' }) :
    wpAny (model prog w) A (call (.type "enumerate") [v]) Q E s := by
  refine callType_new F.called_enumerate (by decide) (F.typeCall_enumerate_1 _) (F.newCall_enumerate_1 _) (fun obj => F.args_object_init_2 obj _) F.entry_enumerate_new
    (meets_enumerate_newB1 B) ⟨h1, ?_⟩
  have hz : (s.heap.push o).objs.size = s.heap.objs.size + 1 := Heap.size_push ..
  show _ ∧ _
  rw [hz]
  have he : IsEnum ((s.heap.push o).push { cls := .type "enumerate", data := .fields #[.none, .bool false, .ref s.heap.objs.size, rawInt 0, .none, .none] }) (s.heap.objs.size + 1) s.heap.objs.size 0 .none := by
    have := Heap.get?_push_size (s.heap.push o) (o := { cls := .type "enumerate", data := .fields #[.none, .bool false, .ref s.heap.objs.size, rawInt 0, .none, .none] }) rfl
    rw [hz] at this; exact this
  refine ⟨⟨_, he, rfl⟩, h _ he (Heap.get?_push_of_some _ (Heap.get?_push_size _ B.free)) (by rw [Heap.size_push, hz]) fun b o x => Heap.get?_push_of_some _ (Heap.get?_push_of_some _ x)⟩
end
end PySem
namespace L2
open PySem PySem.Spec PyProof.Rows
/-- the tuple at a, each item in a new pair -/
def IteT (K : PySem.W.Frag) (a : Addr) : It :=
  ⟨fun i H => ∃ (xs : List V) (x : V), SqT K H a xs ∧ xs[i]? = some x, fun i H v H' => ∃ T x, v = .ref T ∧ H T = none ∧ H' = upd H T (.tup [.int (i : Nat), x]) ∧ ∀ xs, SqT K H a xs → xs[i]? = some x, fun i H => ∃ xs : List V, SqT K H a xs ∧ xs.length = i⟩
theorem turn_enumT {P : Program} {w : World} {K : PySem.W.Frag} {elts : List Expr} {kk : Nat} {tpos : Pos} (a e it : Addr) (hn : e ≠ it) (hae : a ≠ e) (hai : a ≠ it) :
    Turn P w K (.Tuple elts kk tpos) (IteT K a) [e, it] e (fun i h => (∃ old, IsEnum h e it ((i : Nat) : Int) old) ∧ h.IsTupleIter it a i) where
  mem := by simp
  obj := fun i h st b hb => by
    obtain ⟨⟨old, he⟩, ⟨o, ho, hc, hd⟩⟩ := st
    have e' : b = e ∨ b = it := by simpa using hb
    rcases e' with z | z
    · rw [z]; exact ⟨_, he, fun v q => nomatch q⟩
    · rw [z]; exact ⟨o, ho, fun v q => by rw [hd] at q; cases q⟩
  keep := fun i h h' st k => by
    obtain ⟨⟨old, he⟩, ⟨o, ho, r⟩⟩ := st
    exact ⟨⟨old, k e (by simp) _ he⟩, ⟨o, k it (by simp) _ ho, r⟩⟩
  item := by
    intro X hP hw hK hc i pins s σ H E I hf st hg
    subst hP hw hK
    obtain ⟨⟨old, he⟩, hit⟩ := st
    obtain ⟨xs, x, hq, hx⟩ := hg
    obtain ⟨its, rv, p, hz⟩ := I.tuple hq
    obtain ⟨u, hu, ru⟩ := rv.get hx
    have hel : e < s.heap.objs.size := Heap.lt_size he
    have hil : it < s.heap.objs.size := by obtain ⟨_, q, _⟩ := hit; exact Heap.lt_size q
    have hlt : i < its.toArray.size := by
      have q := (List.getElem?_eq_some_iff.mp hu).1
      simpa using q
    refine wpAny_pyNext_enum_itemD (Draws.tuple (A := X.A.in1) (I.ok.hd hc) it a hai its.toArray) he ⟨hit, p⟩ hlt hn (by simp [hn]; exact fun z => hae z.symm) fun y h' tk hy ho hst hT hsz hk => ?_
    have hyu : y = u := by
      have q : its.toArray[i]? = some y := hy
      have q2 : its.toArray[i]? = some u := by simpa using hu
      rw [q] at q2
      exact Option.some.inj q2
    subst hyu
    refine ⟨_, rfl, wpAny_letOwnedTupleGo_enum (s := { s with heap := h', toks := tk + 1 }) ho fun h'' he' sb => ?_⟩
    have hT2 : h''.get? s.heap.objs.size = some { cls := .type "tuple", data := .seq #[.int i tk, y] } := (sb.2 _ (Nat.ne_of_gt hel)).trans hT
    have new : ObjOk X.prog X.w (upd H s.heap.objs.size (.tup [.int (i : Nat), x])) h'' s.heap.objs.size (.tup [.int (i : Nat), x]) :=
      ⟨by show 2 ≤ sizeLine; decide, [.int i tk, y], .cons ⟨_, rfl⟩ (.cons ru .nil), ⟨_, hT2, rfl, _, rfl⟩⟩
    have I1 : Inv X pins σ (upd H s.heap.objs.size (.tup [.int (i : Nat), x])) { s with heap := h'', toks := tk + 1 } :=
      I.turnedNew (ch := [e, it]) (fun b ob hb q => (sb.2 b (fun z => hb (by simp [z]))).trans (hk b ob (fun z => hb (by simp [z])) (fun z => hb (by simp [z])) q)) hf (Nat.le_refl _) new
    obtain ⟨oi, hoi, ri⟩ := hst.1
    refine ⟨.ref s.heap.objs.size, _, I1, rfl, ⟨_, x, rfl, I.hok.fresh (Nat.le_refl _), rfl, fun ys hy => by rw [I.tuple_inj hy hq]; exact hx⟩, ⟨⟨y, ?_⟩, ⟨oi, (sb.2 it (Ne.symm hn)).trans hoi, ri⟩⟩, fun b hb => ?_⟩
    · have e1 : ((i + 1 : Nat) : Int) = (i : Int) + 1 := by omega
      rw [e1]; exact he'
    · have hb' : b < s.heap.objs.size := by
        have e' : b = e ∨ b = it := by simpa using hb
        rcases e' with z | z
        · rw [z]; exact hel
        · rw [z]; exact hil
      rw [upd_ne (Nat.ne_of_lt hb')]
      exact (hf b hb).1
  done := by
    intro X hP hw hK hc i pins s σ H E I hf st hg
    subst hP hw hK
    obtain ⟨⟨old, he⟩, hit⟩ := st
    obtain ⟨xs, hq, hx⟩ := hg
    obtain ⟨its, rv, p, hz⟩ := I.tuple hq
    obtain ⟨f0, f1, f2, f3, f4, f5⟩ := hf it (by simp)
    have hl := rv.length
    have hn' : i = its.toArray.size := by simp; omega
    subst hn'
    exact wpAny_pyNext_enum_endD (Draws.tuple (A := X.A.in1) (I.ok.hd hc) it a hai its.toArray) he ⟨hit, p⟩ fun h' eb => ⟨rfl, I.turned (t' := s.toks) (fun b o hb q => eb b o hb q) f0 f1 f3 f4 f5⟩
  self := fun A i s Q E st h => let ⟨⟨_, he⟩, _⟩ := st; wpAny_pyIter_enum he h
def iEnumT (K : PySem.W.Frag) (ta : TA) : TI := fun σ H R => ta σ H fun vs H1 => ∃ a xs, vs = [.ref a] ∧ SqT K H1 a xs ∧ R (IteT K a) H1
theorem pi_enumT {X : Cx} {e : Expr} {ta : TA} {p pos tpos : Pos} {elts : List Expr} {kk : Nat} (hg : Gl X "enumerate") (hm : X.mg "enumerate" = none) (ha : PA X [e] ta) (hs : starEach [e] X.env = [(false, eval e X.env)] := by rfl) :
    PI X (.Tuple elts kk tpos) (.Call (.Name "enumerate" p) [e] [] pos) (iEnumT X.K ta) := by
  refine ⟨fun pins s σ H R I h => ?_⟩
  refine Call_ (ld_blt I hg hm boot_enumerate (PyProof.Rows.callWith_type1 (thn (ha.run pos pins s σ H _ I h) fun us s1 ⟨vs, H1, I1, r1, q1⟩ => ?_) hs rfl))
  obtain ⟨a, xs, ex, hq, q⟩ := q1
  subst ex
  cases r1 with
  | cons r rr =>
    cases rr
    cases r
    obtain ⟨its, rv, p', hz⟩ := I1.tuple hq
    have hal : a < s1.heap.objs.size := by obtain ⟨_, q, _⟩ := p'; exact Heap.lt_size q
    refine enum_begins1 (begins_tuple a its.toArray) (show s1.heap.IsTuple a its.toArray from p') fun h' he hit hsz hk => wpAny_pyIter_enum he ?_
    have I2 : Inv X pins σ H1 { s1 with heap := h' } := I1.kept (t' := s1.toks) hk
    refine ⟨s1.heap.objs.size + 1, [s1.heap.objs.size + 1, s1.heap.objs.size], _, _, H1, rfl, I2, turn_enumT a (s1.heap.objs.size + 1) s1.heap.objs.size (Nat.succ_ne_self _) (Nat.ne_of_lt (Nat.lt_succ_of_lt hal)) (Nat.ne_of_lt hal), ⟨⟨.none, he⟩, ⟨_, hit, rfl, rfl⟩⟩, fun b hb => ?_, q⟩
    have e' : b = s1.heap.objs.size + 1 ∨ b = s1.heap.objs.size := by simpa using hb
    have hle : s1.heap.objs.size ≤ b := by
      rcases e' with z | z
      · rw [z]; exact Nat.le_add_right _ _
      · rw [z]; exact Nat.le_refl _
    exact I1.fpOk hle (I1.hok.fresh hle)
theorem walk_enumT {K : PySem.W.Frag} {a : Addr} {xs : List V} : Walk (IteT K a) xs.length (fun H => SqT K H a xs) (YPair (fun i => some (.int (i : Nat))) (fun i => xs[i]?)) :=
by
  refine ⟨fun i _ hi q => ⟨xs, xs[i], q, by simp [hi]⟩, fun _ q => ⟨xs, q, rfl⟩, fun i H v H' _ q y => ?_⟩
  obtain ⟨T, x, h1, h2, h3, h4⟩ := y
  exact ⟨T, .int (i : Nat), x, h1, h2, h3, rfl, h4 xs q⟩
end L2

set_option Elab.async false
set_option linter.all false
set_option maxRecDepth 100000
set_option maxHeartbeats 4000000
/-! zip of two texts, in a for and in a comprehension -/
namespace L2
open PySem PySem.Spec PyProof.Rows
/-- two texts at once, the signs in new pairs -/
def ItzS (x y : Str) : It :=
  ⟨fun i _ => i < min x.cps.size y.cps.size,
    fun i H v H' => ∃ T c d, v = .ref T ∧ H T = none ∧ H' = upd H T (.tup [.str ⟨#[c]⟩, .str ⟨#[d]⟩]) ∧ x.cps[i]? = some c ∧ y.cps[i]? = some d,
    fun i _ => i = min x.cps.size y.cps.size⟩
theorem turn_zipS {P : Program} {w : World} {K : PySem.W.Frag} {elts : List Expr} {kk : Nat} {tpos : Pos} {x y : Str} {t1 t2 : Tok} {z TI TO i1 i2 : Addr} (D : ZipSep2 z TI TO i1 i2 [i1] [i2]) :
    Turn P w K (.Tuple elts kk tpos) (ItzS x y) [z, TI, TO, i1, i2] z (fun i h => IsZip h z TI TO .none ∧ IsTupOf2 h TI (.ref i1) (.ref i2) ∧ (∃ x y, IsTupOf2 h TO x y) ∧ h.IsStrIter i1 (strIterType x) x t1 i ∧ h.IsStrIter i2 (strIterType y) y t2 i) where
  mem := by simp
  obj := fun i h st c hc => by
    obtain ⟨hz, hTI, ⟨x, y, hTO⟩, ⟨o1, e1, _, d1⟩, ⟨o2, e2, _, d2⟩⟩ := st
    have e' : c = z ∨ c = TI ∨ c = TO ∨ c = i1 ∨ c = i2 := by simpa using hc
    rcases e' with q | q | q | q | q
    · rw [q]; exact ⟨_, hz, fun v q => nomatch q⟩
    · rw [q]; exact ⟨_, hTI, fun v q => nomatch q⟩
    · rw [q]; exact ⟨_, hTO, fun v q => nomatch q⟩
    · rw [q]; exact ⟨o1, e1, fun v q => by rw [d1] at q; cases q⟩
    · rw [q]; exact ⟨o2, e2, fun v q => by rw [d2] at q; cases q⟩
  keep := fun i h h' st k => by
    obtain ⟨hz, hTI, ⟨x, y, hTO⟩, ⟨o1, e1, r1⟩, ⟨o2, e2, r2⟩⟩ := st
    exact ⟨k z (by simp) _ hz, k TI (by simp) _ hTI, ⟨x, y, k TO (by simp) _ hTO⟩, ⟨o1, k i1 (by simp) _ e1, r1⟩, ⟨o2, k i2 (by simp) _ e2, r2⟩⟩
  item := by
    intro X hP hw hK hc i pins s σ H E I hf st hg
    subst hP hw hK
    obtain ⟨hz, hTI, ⟨x0, y0, hTO⟩, h1, h2⟩ := st
    have hg' : i < min x.cps.size y.cps.size := hg
    have hzl : z < s.heap.objs.size := Heap.lt_size hz
    have hd := I.ok.hd hc
    refine wpAny_pyNext_zipD2_item D (Draws.text (A := X.A.in1) hd i1 x t1) (Draws.text (A := X.A.in1) hd i2 y t2) hz hTI hTO h1 h2 (by omega) (by omega) fun u u2 h' tk p1 p2 z' TO' h1' h2' hT hsz hk => ?_
    obtain ⟨c, tc, hcx, rfl⟩ := p1
    obtain ⟨d, td, hdy, rfl⟩ := p2
    refine ⟨_, rfl, wpAny_letOwnedTupleGo_zip (s := { s with heap := h', toks := tk }) z' fun h'' z'' sb => ?_⟩
    have hT2 : h''.get? s.heap.objs.size = some { cls := .type "tuple", data := .seq #[.str ⟨#[c]⟩ tc, .str ⟨#[d]⟩ td] } := (sb.2 _ (Nat.ne_of_gt hzl)).trans hT
    have new : ObjOk X.prog X.w (upd H s.heap.objs.size (.tup [.str ⟨#[c]⟩, .str ⟨#[d]⟩])) h'' s.heap.objs.size (.tup [.str ⟨#[c]⟩, .str ⟨#[d]⟩]) :=
      ⟨by show 2 ≤ sizeLine; decide, [.str ⟨#[c]⟩ tc, .str ⟨#[d]⟩ td], .cons ⟨_, rfl⟩ (.cons ⟨_, rfl⟩ .nil), ⟨_, hT2, rfl, _, rfl⟩⟩
    have I1 : Inv X pins σ (upd H s.heap.objs.size (.tup [.str ⟨#[c]⟩, .str ⟨#[d]⟩])) { s with heap := h'', toks := tk } :=
      I.turnedNew (t' := tk) (ch := [z, TI, TO, i1, i2]) (fun c o hb q => (sb.2 c (fun q' => hb (by simp [q']))).trans (hk c o (fun q' => hb (by simp [q'])) (fun q' => hb (by simp [q'])) (fun q' => hb (by simp [q'])) (fun q' => hb (by simp [q'])) q)) hf (Nat.le_refl _) new
    have nz1 : i1 ≠ z := D.zi1.symm
    have nz2 : i2 ≠ z := D.zi2.symm
    refine ⟨.ref s.heap.objs.size, _, I1, rfl, ⟨_, c, d, rfl, I.hok.fresh (Nat.le_refl _), rfl, hcx, hdy⟩, ⟨z'', ?_, ⟨_, _, (sb.2 _ D.TOz).trans TO'⟩, ?_, ?_⟩, fun c hcm => ?_⟩
    · exact (sb.2 _ D.TIz).trans (hk _ _ D.TIz D.TITO D.TIi1 D.TIi2 hTI)
    · obtain ⟨o, e, r⟩ := h1'
      exact ⟨o, (sb.2 _ nz1).trans e, r⟩
    · obtain ⟨o, e, r⟩ := h2'
      exact ⟨o, (sb.2 _ nz2).trans e, r⟩
    · have hlt : c < s.heap.objs.size := by
        have e' : c = z ∨ c = TI ∨ c = TO ∨ c = i1 ∨ c = i2 := by simpa using hcm
        rcases e' with q | q | q | q | q
        · rw [q]; exact hzl
        · rw [q]; exact Heap.lt_size hTI
        · rw [q]; exact Heap.lt_size hTO
        · rw [q]; obtain ⟨_, e1, _⟩ := h1; exact Heap.lt_size e1
        · rw [q]; obtain ⟨_, e2, _⟩ := h2; exact Heap.lt_size e2
      rw [upd_ne (Nat.ne_of_lt hlt)]
      exact (hf c hcm).1
  done := by
    intro X hP hw hK hc i pins s σ H E I hf st hg
    subst hP hw hK
    obtain ⟨hz, hTI, ⟨x0, y0, hTO⟩, h1, h2⟩ := st
    have hg' : i = min x.cps.size y.cps.size := hg
    have hd := I.ok.hd hc
    exact wpAny_pyNext_zipD2_end D (Draws.text (A := X.A.in1) hd i1 x t1) (Draws.text (A := X.A.in1) hd i2 y t2) hz hTI hTO h1 h2 (by omega) (by omega) (by omega) fun h' tk hk => ⟨rfl, I.turnedL (t' := tk) (ch := [z, TI, TO, i1, i2]) (fun c o hb q =>
      hk c o (fun q' => hb (by simp [q'])) (fun q' => hb (by simp [q'])) (fun q' => hb (by simp [q'])) (fun q' => hb (by simp [q'])) q) hf⟩
  self := fun A i s Q E st h => wpAny_pyIter_zip st.1 h
def iZipS (ta : TA) : TI := fun σ H R => ta σ H fun vs H1 => ∃ x y, vs = [.str x, .str y] ∧ R (ItzS x y) H1
theorem pi_zipS {X : Cx} {e e2 : Expr} {ta : TA} {p pos tpos : Pos} {elts : List Expr} {kk : Nat} (hg : Gl X "zip") (hm : X.mg "zip" = none) (ha : PA X [e, e2] ta)
    (hs : starEach [e, e2] X.env = (false, eval e X.env) :: starEach [e2] X.env := by rfl) (hpl : (backTo pos (starEach [e2] X.env)).any (·.1) = false := by rfl) :
    PI X (.Tuple elts kk tpos) (.Call (.Name "zip" p) [e, e2] [] pos) (iZipS ta) := by
  refine ⟨fun pins s σ H R I h => ?_⟩
  refine Call_ (ld_blt I hg hm PyProof.Rows.boot_zip (PyProof.Rows.callWith_type1 (thn (ha.run pos pins s σ H _ I h) fun us s1 ⟨vs, H1, I1, r1, q1⟩ => ?_) hs hpl))
  obtain ⟨x, y, ex, q⟩ := q1
  subst ex
  cases r1 with
  | cons r rr =>
    cases rr with
    | cons r' rr =>
      cases rr
      obtain ⟨t1, rfl⟩ := r
      obtain ⟨t2, rfl⟩ := r'
      refine zip_begins2 (begins_text x t1) (begins_text y t2) trivial trivial fun h' hz hTI hTO h1 h2 hsz hk => wpAny_pyIter_zip hz ?_
      have I2 : Inv X pins σ H1 { s1 with heap := h' } := I1.kept (t' := s1.toks) hk
      generalize hn : s1.heap.objs.size = n at hz hTI hTO h1 h2 hsz ⊢
      have D : ZipSep2 (n + 4) (n + 2) (n + 3) n (n + 1) [n] [n + 1] := by constructor <;> simp <;> omega
      refine ⟨n + 4, [n + 4, n + 2, n + 3, n, n + 1], _, _, H1, rfl, I2, turn_zipS (t1 := t1) (t2 := t2) D, ⟨hz, hTI, ⟨_, _, hTO⟩, ⟨_, h1, rfl, rfl⟩, ⟨_, h2, rfl, rfl⟩⟩, fun c hcm => ?_, q⟩
      have e' : c = n + 4 ∨ c = n + 2 ∨ c = n + 3 ∨ c = n ∨ c = n + 1 := by simpa using hcm
      have hle : s1.heap.objs.size ≤ c := by
        rw [hn]
        rcases e' with q | q | q | q | q
        · rw [q]; exact Nat.le_add_right _ _
        · rw [q]; exact Nat.le_add_right _ _
        · rw [q]; exact Nat.le_add_right _ _
        · rw [q]; exact Nat.le_refl _
        · rw [q]; exact Nat.le_add_right _ _
      exact I1.fpOk hle (I1.hok.fresh hle)
end L2

set_option Elab.async false
set_option linter.all false
set_option maxRecDepth 100000
set_option maxHeartbeats 4000000
/-! a call by keywords alone; a text times a number -/
namespace L2
open PySem PySem.Spec PyProof.Rows
theorem Fun.kbinds {K : PySem.W.Frag} {x qual : Str} {st : Stmt} {f : Addr} {fd : FuncData} {ps ks : List Str} (F : Fun K x qual st f fd) (g : {α : Type} → List α → List α)
    (h : ∀ (kV doc pm : Value) (an : Option Addr) (cdv ct : Value) (ws : List Value), ws.length = ks.length → bindArgs (PySem.W.fnOf x qual (defArgs st) (defBody st) (defScope st) .none kV doc pm an cdv ct) ⟨[], ks.zip ws⟩ = pure (ps.zip (g ws)))
    (hrel : ∀ {zs : List V} {ws : List Value}, Vals zs ws → Vals (g zs) (g ws)) : KBn K fd ps 0 ks (fun _ ws => g ws) (fun _ zs => g zs) := by
  obtain ⟨oc, od, kV, doc, pm, an, cdv, ct, osl, rfl, lk, hcd⟩ := F.ex
  refine ⟨fun s us ws _ h0 hl => ?_, fun _ r => hrel r⟩
  cases us with
  | nil => exact BindsTo.of_eq (h kV doc pm an cdv ct ws hl)
  | cons a r => cases h0
section
variable {X : Cx} {CX : CXT} {k : Nat} {f : Addr} {fd : FuncData} {ps ks : List Str} {sp : Sp} {E : XK} {x : Str} {p pos : Pos} {kws : List Keyword} {tk : TA} {g : List Value → List Value → List Value} {gV : List V → List V → List V}
theorem pe_callN0 (F : FnOk X.prog X.w X.K X.mg X.base CX k f fd ps sp) (hr : Room k X.A) (hg : Gl X x) (hm : X.mg x = some (.ref f)) (hk : PySem.W.keepIn X.K (.ref f) = true) (hb : KBn X.K fd ps 0 ks g gV) (hx : Passes CX X E)
    (hkw : PK X kws tk) (hall : (backToKw pos (keywordEach kws X.env)).all (·.1.isSome) = true := by rfl) (hks : (backToKw pos (keywordEach kws X.env)).filterMap (·.1) = ks := by rfl)
    (hdb : (x == ("__debug__" : Str)) = false := by decide)
    (hpl : ((backTo pos (starEach [] X.env)).any (·.1) || (backToKw pos (keywordEach kws X.env)).any (·.1.isNone)) = false := by rfl) :
    PE X (.Call (.Name x p) [] kws pos) (tCallN 0 ks.length sp gV E tNil tk) := by
  refine ⟨fun pins s σ H Q I h => ?_⟩
  refine wpAny_Call_Name_kw (ld_glob I hg hm ?_ hdb)
  refine PySem.W.callWith_KW0 (h₀ := X.base) I.ok.mod.kin hk hall ?_ hpl
  refine thn (hkw.run pos pins s σ H _ I h) fun ws s2 ⟨zs, H2, I2, rz, l1, l2, q2⟩ => ⟨I2.kIn, ?_⟩
  rw [hks]
  exact run_fnN (us := []) (vs := []) F hr hb hx I2 .nil rz rfl l2 q2
theorem op_mul_str : OpR X (binaryOp .Mult) (fun x y H Q => ∃ z n, x = .str z ∧ y = .int n ∧ z.length ≤ 16 ∧ -(2 ^ 63 : Int) ≤ n ∧ n ≤ 1048576 ∧ Q (.str (Txt.mul z n)) H) := by
  intro pins s σ H x y v u Q I rx ry h
  obtain ⟨z, n, rfl, rfl, h1, h2, h3, q⟩ := h
  obtain ⟨t, rfl⟩ := rx
  obtain ⟨t', rfl⟩ := ry
  exact SB.mul (mulOk_of 16 1048576 h1 h3 h2 (by decide) (by decide)) fun t' tk => ⟨.str _, H, I.tok _, ⟨_, rfl⟩, q⟩
end
end L2

set_option Elab.async false
set_option linter.all false
set_option maxRecDepth 100000
/-! the rules whose reading names the written part, with that part a letter of its own (within a comprehension the place's own name of it can't be found by unification) -/
namespace L2
open PySem PySem.Spec PyProof.Rows
variable {X : Cx} {K : PySem.W.Frag}
theorem ix_listK (h : X.K = K) : IxR X (rIxL K) := by subst h; exact ix_list
theorem ix_tupK (h : X.K = K) : IxR X (rIxT K) := by subst h; exact ix_tup
theorem call_tuple_ofK (h : X.K = K) : CallR X (.type "tuple") (fun xs H Q => ∃ p ys, xs = [.ref p] ∧ ((SqL K H p ys ∧ ∀ l, H l = none → Q (.ref l) (upd H l (.tup ys))) ∨ (SqT K H p ys ∧ Q (.ref p) H))) := by subst h; exact call_tuple_of
theorem call_list_ofK (h : X.K = K) : CallR X (.type "list") (fun xs H Q => ∃ p ys, xs = [.ref p] ∧ (SqL K H p ys ∨ SqT K H p ys) ∧ ∀ l, H l = none → Q (.ref l) (upd H l (.lst ys))) := by subst h; exact call_list_of
theorem call_len_seqK (h : X.K = K) : CallR X (.builtin "len") (fun xs H Q => ∃ p ys, xs = [.ref p] ∧ (SqL K H p ys ∨ SqT K H p ys) ∧ Q (.int ys.length) H) := by subst h; exact call_len_seq
theorem call_isiK' (h : X.K = K) : CallR X (.builtin "isinstance") (rIsi K) := by subst h; exact call_isi
theorem call_isiTK (h : X.K = K) : CallR X (.builtin "isinstance") (rIsiT K) := by subst h; exact call_isiT
theorem sl_listK (h : X.K = K) : SlR X (rSlL K) := by subst h; exact sl_list
theorem cr_allK (h : X.K = K) (hc : X.calm = true) : CallR X (.builtin "all") (rAll K) := by subst h; exact cr_all hc
theorem cr_anyK (h : X.K = K) (hc : X.calm = true) : CallR X (.builtin "any") (rAny K) := by subst h; exact cr_any hc
theorem cr_sumK (h : X.K = K) (hc : X.calm = true) : CallR X (.builtin "sum") (rSum K) := by subst h; exact cr_sum hc
end L2


set_option Elab.async false
set_option linter.all false
set_option maxRecDepth 100000
set_option maxHeartbeats 4000000
/-! sorted of lists of tuples of ints and texts, and of texts, of any length: one total order -/
namespace SrtC
open PySem PySem.Spec PyProof.Rows Srt SrtO L2
/-! ### the order of texts and cells -/
def sLt (x y : Str) : Bool := decide (x.cps.toList < y.cps.toList)
theorem str_ext {x y : Str} (h : x.cps.toList = y.cps.toList) : x = y := by
  cases x; cases y
  exact congrArg _ (Array.toList_inj.mp h)
theorem sLt_irr (x : Str) : sLt x x = false := decide_eq_false (List.lt_irrefl _)
theorem sLt_trans {x y z : Str} (h1 : sLt x y = true) (h2 : sLt y z = true) : sLt x z = true :=
  decide_eq_true (List.lt_trans (of_decide_eq_true h1) (of_decide_eq_true h2))
theorem sLt_tri {x y : Str} (h1 : sLt x y = false) (h2 : sLt y x = false) : x = y := by
  have a := List.not_lt.mp (of_decide_eq_false h1)
  have b := List.not_lt.mp (of_decide_eq_false h2)
  exact str_ext (List.le_antisymm b a)
def cLt : Key → Key → Bool
  | .inl a, .inl b => decide (a < b)
  | .inl _, .inr _ => true
  | .inr _, .inl _ => false
  | .inr x, .inr y => sLt x y
theorem cLt_irr (x : Key) : cLt x x = false := by
  cases x with
  | inl a => exact decide_eq_false (Int.lt_irrefl a)
  | inr x => exact sLt_irr x
theorem cLt_trans {x y z : Key} (h1 : cLt x y = true) (h2 : cLt y z = true) : cLt x z = true := by
  cases x with
  | inl a =>
    cases z with
    | inr c => rfl
    | inl c =>
      cases y with
      | inl b => exact decide_eq_true (Int.lt_trans (of_decide_eq_true h1) (of_decide_eq_true h2))
      | inr b => cases h2
  | inr a =>
    cases y with
    | inl b => cases h1
    | inr b =>
      cases z with
      | inl c => cases h2
      | inr c => exact sLt_trans h1 h2
theorem cLt_tri {x y : Key} (h1 : cLt x y = false) (h2 : cLt y x = false) : x = y := by
  cases x with
  | inl a =>
    cases y with
    | inl b =>
      have p : ¬ a < b := of_decide_eq_false h1
      have q : ¬ b < a := of_decide_eq_false h2
      exact congrArg _ (by omega)
    | inr b => cases h1
  | inr a =>
    cases y with
    | inl b => cases h2
    | inr b => exact congrArg _ (sLt_tri h1 h2)
def lexC : List Key → List Key → Bool
  | [], [] => false
  | [], _ :: _ => true
  | _ :: _, [] => false
  | x :: xs, y :: ys => if x = y then lexC xs ys else cLt x y
theorem lexC_irr : ∀ x : List Key, lexC x x = false
  | [] => rfl
  | x :: xs => by
    show (if x = x then lexC xs xs else cLt x x) = false
    rw [if_pos rfl]
    exact lexC_irr xs
theorem lexC_trans : ∀ {x y z : List Key}, lexC x y = true → lexC y z = true → lexC x z = true
  | [], [], [], h1, _ => nomatch h1
  | [], _ :: _, [], _, h2 => nomatch h2
  | [], _, _ :: _, _, _ => rfl
  | _ :: _, [], _, h1, _ => by cases h1
  | _ :: _, _ :: _, [], _, h2 => by cases h2
  | x :: xs, y :: ys, z :: zs, h1, h2 => by
    have e1 : (if x = y then lexC xs ys else cLt x y) = true := h1
    have e2 : (if y = z then lexC ys zs else cLt y z) = true := h2
    show (if x = z then lexC xs zs else cLt x z) = true
    by_cases a : x = y
    · subst a
      rw [if_pos rfl] at e1
      by_cases b : x = z
      · rw [if_pos b] at e2 ⊢
        exact lexC_trans e1 e2
      · rw [if_neg b] at e2 ⊢
        exact e2
    · rw [if_neg a] at e1
      by_cases b : y = z
      · subst b
        rw [if_neg a]
        exact e1
      · rw [if_neg b] at e2
        have t := cLt_trans e1 e2
        have n : ¬ x = z := fun q => by
          subst q
          rw [cLt_irr] at t
          cases t
        rw [if_neg n]
        exact t
theorem lexC_tri : ∀ {x y : List Key}, lexC x y = false → lexC y x = false → x = y
  | [], [], _, _ => rfl
  | [], _ :: _, h1, _ => by cases h1
  | _ :: _, [], _, h2 => by cases h2
  | x :: xs, y :: ys, h1, h2 => by
    have e1 : (if x = y then lexC xs ys else cLt x y) = false := h1
    have e2 : (if y = x then lexC ys xs else cLt y x) = false := h2
    by_cases a : x = y
    · subst a
      rw [if_pos rfl] at e1 e2
      rw [lexC_tri e1 e2]
    · rw [if_neg a] at e1
      rw [if_neg (fun q => a q.symm)] at e2
      exact absurd (cLt_tri e1 e2) a
/-- an order with these three is a strict weak one -/
theorem swo_of {α : Type} {lt : α → α → Bool} (irr : ∀ x, lt x x = false) (tr : ∀ x y z, lt x y = true → lt y z = true → lt x z = true) (tri : ∀ x y, lt x y = false → lt y x = false → lt x = lt y) : Swo lt := by
  have asym : ∀ x y, lt x y = true → lt y x = false := fun x y h => by
    rcases bcase (lt y x) with q | q
    · have t := tr _ _ _ h q
      rw [irr] at t
      cases t
    · exact q
  refine ⟨asym, fun x y z h1 h2 => ?_⟩
  rcases bcase (lt z x) with q | q
  · rcases bcase (lt x y) with p | p
    · have t := tr _ _ _ q p
      rw [h2] at t
      cases t
    · have e := tri _ _ p h1
      rcases bcase (lt y z) with r | r
      · have t := tr _ _ _ r q
        rw [h1] at t
        cases t
      · have e2 := tri _ _ h2 r
        have e3 : lt z x = lt y x := congrFun e2 x
        rw [q, h1] at e3
        cases e3
  · exact q
theorem swo_lexC {α : Type} (k : α → List Key) : Swo fun u v : α => lexC (k u) (k v) :=
  swo_of (fun x => lexC_irr _) (fun x y z h1 h2 => lexC_trans h1 h2) (fun x y h1 h2 => by
    have e := lexC_tri h1 h2
    funext z
    show lexC (k x) (k z) = lexC (k y) (k z)
    rw [e])
/-- the same things in a row that ascends stand in one way -/
theorem srtd_uniq {α : Type} {lt : α → α → Bool} (tri : ∀ x y, lt x y = false → lt y x = false → x = y) {l m : List α} (h1 : Srtd lt l) (h2 : Srtd lt m) (p : l.Perm m) : l = m :=
  List.Perm.eq_of_pairwise (fun a b _ _ h h' => tri a b h' h) h1 h2 p

/-! ### tuples of cells compare as lexC says -/
section
variable {prog : Program} {w : World} {A : Around} {E : Value → Shared → Prop} {s : Shared}
theorem one_int {b : Bool} {x y : Int} {t u : Tok} {Q : Bool → Shared → Prop} (h : Q (decide (x < y)) s) : wpAny (model prog w) A (oneLt' b (.int x t) (.int y u)) Q E s := by
  cases b with
  | true => exact oneLt_int h
  | false => exact PySem.W.kat_one _ _ (PyProof.Rows.lt_int h)
theorem one_str {b : Bool} {x y : Str} {t u : Tok} {Q : Bool → Shared → Prop} (h : Q (sLt x y) s) : wpAny (model prog w) A (oneLt' b (.str x t) (.str y u)) Q E s := by
  cases b with
  | true => exact oneLt_str h
  | false => exact PySem.W.kat_one _ _ (PyProof.Rows.lt_str h)
theorem lex_same (x : Key) (xs ys : List Key) : lexC (x :: xs) (x :: ys) = lexC xs ys := if_pos rfl
theorem lex_diff {x y : Key} (h : ¬ x = y) (xs ys : List Key) : lexC (x :: xs) (y :: ys) = cLt x y := if_neg h
theorem lex_go : ∀ (cs ds : List Key) (xs ys : List Value) (i : Nat) (r0 : Bool), Vals (cs.map kV) xs → Vals (ds.map kV) ys → cs.map Sum.isLeft = ds.map Sum.isLeft → r0 = lexC cs ds →
    PySem.W.KatLex prog w A true false (fun r s' => s' = s ∧ r = r0) (xs.zip ys) i s
  | [], [], _, _, i, r0, .nil, .nil, _, hr => PySem.W.kat_nil ⟨rfl, hr.symm⟩
  | [], _ :: _, _, _, _, _, _, _, hs, _ => by cases hs
  | _ :: _, [], _, _, _, _, _, _, hs, _ => by cases hs
  | .inl a :: cs, .inl b :: ds, x :: xs, y :: ys, i, r0, .cons rx tx, .cons ry ty, hs, hr => by
    obtain ⟨t, rfl⟩ := rx
    obtain ⟨u, rfl⟩ := ry
    have hs' : cs.map Sum.isLeft = ds.map Sum.isLeft := by simpa using hs
    refine PySem.W.kat_cons (SeqAt.EqAt.int_int a t b u prog w _ _ (PySem.W.kat_go (fun e => PySem.W.kat_yes ?_) (fun e => PySem.W.kat_no (one_int ⟨rfl, ?_⟩))))
    · have e : a = b := by simpa using e
      subst e
      exact lex_go cs ds xs ys (i + 1) r0 tx ty hs' (by rw [hr, lex_same])
    · have e : ¬ a = b := by simpa using e
      rw [hr, lex_diff (fun q => e (Sum.inl.inj q))]
      rfl
  | .inr a :: cs, .inr b :: ds, x :: xs, y :: ys, i, r0, .cons rx tx, .cons ry ty, hs, hr => by
    obtain ⟨t, rfl⟩ := rx
    obtain ⟨u, rfl⟩ := ry
    have hs' : cs.map Sum.isLeft = ds.map Sum.isLeft := by simpa using hs
    refine PySem.W.kat_cons (SeqAt.EqAt.str_str a t b u prog w _ _ (PySem.W.kat_go (fun e => PySem.W.kat_yes ?_) (fun e => PySem.W.kat_no (one_str ⟨rfl, ?_⟩))))
    · have e : a = b := by simpa using e
      subst e
      exact lex_go cs ds xs ys (i + 1) r0 tx ty hs' (by rw [hr, lex_same])
    · have e : ¬ a = b := by simpa using e
      rw [hr, lex_diff (fun q => e (Sum.inr.inj q))]
      rfl
  | .inl a :: cs, .inr b :: ds, _, _, _, _, _, _, hs, _ => by simp at hs
  | .inr a :: cs, .inl b :: ds, _, _, _, _, _, _, hs, _ => by simp at hs
/-- v is a tuple of these cells -/
def IsC (h : Heap) (v : Value) (cs : List Key) : Prop := ∃ a its, v = .ref a ∧ Vals (cs.map kV) its ∧ IsTup h a its.toArray
theorem IsC.keeps {h h' : Heap} {v : Value} {cs : List Key} (x : IsC h v cs) (k : ∀ b o, h.get? b = some o → o.cls = .type "tuple" → h'.get? b = some o) : IsC h' v cs := by
  obtain ⟨a, its, e, r, o, ho, hc, hd⟩ := x
  exact ⟨a, its, e, r, o, k _ _ ho hc, hc, hd⟩
theorem cells_cmp {vs : List Value} {k : Value → List Key} {S : List Bool} (hp : ∀ v ∈ vs, IsC s.heap v (k v) ∧ (k v).map Sum.isLeft = S) : Cmp prog w A s (tuples' true) (fun p => p.1 ∈ vs) (lt2 fun v u => lexC (k v) (k u)) := by
  intro p q hm hm'
  obtain ⟨⟨a, its, e, r, o, ho, hc, n, hd⟩, h1⟩ := hp _ hm
  obtain ⟨⟨a', its', e', r', o', ho', hc', n', hd'⟩, h2⟩ := hp _ hm'
  show wpAny (model prog w) A (keyLt' (tuples' true) p.1 q.1) (fun r s' => s' = s ∧ r = lexC (k p.1) (k q.1)) (fun _ _ => False) s
  have el : its.length = its'.length := by
    have q1 := congrArg List.length (h1.trans h2.symm)
    rw [List.length_map, List.length_map] at q1
    have q2 := r.length
    have q3 := r'.length
    rw [List.length_map] at q2 q3
    omega
  generalize k p.1 = cs at *
  generalize k q.1 = ds at *
  rw [e, e']
  refine PySem.W.kat_lt ho hd ho' hd' ?_
  have ed : decide (its.toArray.size < its'.toArray.size) = false := decide_eq_false (by simp [el])
  rw [ed]
  exact lex_go cs ds its its' 0 _ r r' (h1.trans h2.symm) rfl
theorem firstsC {h : Heap} {k : Value → List Key} {b : Bool} {S : List Bool} : ∀ {vs : List Value}, (∀ v ∈ vs, IsC h v (k v) ∧ (k v).map Sum.isLeft = b :: S) → ∃ fs : List Value, PySem.W.KatTups h vs fs ∧ fs.length = vs.length ∧
    ∀ f ∈ fs, (b = true ∧ ∃ x t, f = Value.int x t) ∨ (b = false ∧ ∃ x t, f = Value.str x t)
  | [], _ => ⟨[], PySem.W.KatTups.nil, rfl, fun _ hm => by simp at hm⟩
  | v :: vs, hp => by
    obtain ⟨fs, h1, h2, h3⟩ := firstsC (vs := vs) fun v' hm => hp v' (List.mem_cons_of_mem _ hm)
    obtain ⟨⟨a, its, e, r, o, ho, hc, n, hd⟩, hs⟩ := hp v (List.mem_cons_self ..)
    subst e
    generalize k (.ref a) = cs at *
    cases cs with
    | nil => cases hs
    | cons c cs =>
      match its, r with
      | u :: us, .cons rx tx =>
        refine ⟨u :: fs, PySem.W.KatTups.cons ho hc hd rfl h1, by rw [List.length_cons, List.length_cons, h2], fun f hm => ?_⟩
        rcases List.mem_cons.mp hm with rfl | hm
        · have hb : Sum.isLeft c = b := by
            have := congrArg List.head? hs
            simpa using this
          cases c with
          | inl x =>
            obtain ⟨t, rfl⟩ := rx
            exact .inl ⟨hb.symm, x, t, rfl⟩
          | inr x =>
            obtain ⟨t, rfl⟩ := rx
            exact .inr ⟨hb.symm, x, t, rfl⟩
        · exact h3 f hm
theorem cells_sortable {a : Addr} {vs : List Value} {k : Value → List Key} {b : Bool} {S : List Bool} (h0 : 0 < vs.length) (hp : ∀ v ∈ vs, IsC s.heap v (k v) ∧ (k v).map Sum.isLeft = b :: S) (ha : ∀ o, s.heap.get? a = some o → o.cls ≠ .type "tuple") :
    SortableO prog w A s a vs fun v u => lexC (k v) (k u) := by
  intro h' keep
  have hp' : ∀ v ∈ vs, IsC h' v (k v) ∧ (k v).map Sum.isLeft = b :: S := fun v hm => ⟨(hp v hm).1.keeps fun b o e c => keep b o (fun z => by subst z; exact ha o e c) e, (hp v hm).2⟩
  obtain ⟨fs, h1, h2, h3⟩ := firstsC hp'
  refine ⟨tuples' true, fun Q E hq => ?_, cells_cmp hp'⟩
  cases b with
  | true =>
    refine PySem.W.kat_kind (T := .type "int") h1 (by omega) (fun f hm => ?_) (by rfl) ?_
    · rcases h3 f hm with ⟨_, x, t, rfl⟩ | ⟨z, _⟩
      · exact PySem.W.Looks.now
      · cases z
    · have e : (Value.type "int" != Value.type "tuple") = true := by first | decide +kernel | rfl | decide
      rw [e]
      exact hq
  | false =>
    refine PySem.W.kat_kind (T := .type "str") h1 (by omega) (fun f hm => ?_) (by rfl) ?_
    · rcases h3 f hm with ⟨z, _⟩ | ⟨_, x, t, rfl⟩
      · cases z
      · exact PySem.W.Looks.now
    · have e : (Value.type "str" != Value.type "tuple") = true := by first | decide +kernel | rfl | decide
      rw [e]
      exact hq
theorem sorted_cells {l : Addr} {vs : List Value} {k : Value → List Key} {b : Bool} {S : List Bool} {Q : Value → Shared → Prop} (hl : s.heap.IsList l vs.toArray) (hz : vs.length ≤ sizeLine) (hp : ∀ v ∈ vs, IsC s.heap v (k v) ∧ (k v).map Sum.isLeft = b :: S)
    (h : ∀ (h' : Heap) (d : Addr) (out : List Value), Srtd (fun v u => lexC (k v) (k u)) out → Stb (fun v u => lexC (k v) (k u)) out vs → (∀ b o, s.heap.get? b = some o → h'.get? b = some o) → s.heap.objs.size ≤ d → (∃ n, h'.get? d = some (seqObj "list" out.toArray n)) → Q (.ref d) { s with heap := h' }) :
    wpAny (model prog w) A (call (.builtin "sorted") [.ref l]) Q E s := by
  refine sorted_ord (swo_lexC k) hl hz (fun h2 h₁ a ha kk => ?_) fun out hs hb => ?_
  · refine cells_sortable (s := { s with heap := h₁ }) (by omega) (fun v hm => ⟨(hp v hm).1.keeps fun b o e _ => (kk b o e).2, (hp v hm).2⟩) fun o e => ?_
    obtain rfl : o = seqObj "list" vs.toArray 0 := Option.some.inj (e.symm.trans ha)
    intro c
    exact absurd (Value.type.inj c) (by decide)
  · exact h _ _ out hs hb (fun b o e => sortedAll_old e) (Nat.le_succ _) (sortedAll_at s.heap vs out.toArray)
/-! ### texts -/
def tv : Value → Str
  | .str x _ => x
  | _ => Str.empty
def ltTv (v u : Value) : Bool := sLt (tv v) (tv u)
theorem swo_tv : Swo ltTv := swo_of (fun x => sLt_irr _) (fun x y z h1 h2 => sLt_trans h1 h2) (fun x y h1 h2 => by
    have e := sLt_tri h1 h2
    funext z
    show sLt (tv x) (tv z) = sLt (tv y) (tv z)
    rw [e])
theorem strs_mem : ∀ {vs : List Value} {ss : List Str}, StrsAre vs ss → ∀ v ∈ vs, ∃ x t, v = Value.str x t
  | _, _, .nil, v, h => absurd h (by simp)
  | _, _, .cons x t r, v, h => by
    rcases List.mem_cons.mp h with e | h
    · exact ⟨x, t, e⟩
    · exact strs_mem r v h
theorem strs_tv : ∀ {vs : List Value}, (∀ v ∈ vs, ∃ x t, v = Value.str x t) → StrsAre vs (vs.map tv)
  | [], _ => .nil
  | v :: vs, h => by
    obtain ⟨x, t, e⟩ := h v List.mem_cons_self
    subst e
    exact .cons x t (strs_tv fun u hu => h u (List.mem_cons_of_mem _ hu))
theorem tv_strs : ∀ {vs : List Value} {ss : List Str}, StrsAre vs ss → vs.map tv = ss
  | _, _, .nil => rfl
  | _, _, .cons x t r => congrArg (x :: ·) (tv_strs r)
theorem str_cmp {vs : List Value} {ss : List Str} (hI : StrsAre vs ss) : Cmp prog w A s oneType' (fun p => p.1 ∈ vs) (lt2 ltTv) := by
  intro p q hm hm'
  obtain ⟨a, t, e⟩ := strs_mem hI _ hm
  obtain ⟨b, u, e'⟩ := strs_mem hI _ hm'
  show wpAny (model prog w) A (keyLt' oneType' p.1 q.1) (fun r s' => s' = s ∧ r = ltTv p.1 q.1) (fun _ _ => False) s
  rw [e, e', keyLt'_oneType]
  exact oneLt_str ⟨rfl, rfl⟩
theorem strs_sortable {a : Addr} {vs : List Value} {ss : List Str} (hI : StrsAre vs ss) (h2 : 2 ≤ vs.length) : SortableO prog w A s a vs ltTv := by
  intro h' _
  refine ⟨oneType', fun Q E hq => ?_, str_cmp hI⟩
  match vs, hI, h2 with
  | v1 :: v2 :: rest, hI, _ =>
    rw [keyKind_strs hI]
    exact wpAny_pure hq
  | [], _, h => exact absurd h (by decide)
  | [v], _, h => exact absurd h (by simp)
/-- ascending texts -/
def Asc (ss : List Str) : Prop := ss.Pairwise fun x y => sLt y x = false
theorem strs_out {vs out : List Value} {ss : List Str} (hI : StrsAre vs ss) (hs : Srtd ltTv out) (hb : Stb ltTv out vs) : StrsAre out (out.map tv) ∧ (out.map tv).Perm ss ∧ Asc (out.map tv) := by
  refine ⟨strs_tv fun v hv => strs_mem hI v (hb.perm.mem_iff.mp hv), ?_, ?_⟩
  · have q := hb.perm.map tv
    rw [tv_strs hI] at q
    exact q
  · exact List.pairwise_map.mpr hs
end
end SrtC
namespace L2
open PySem PySem.Spec PyProof.Rows
section
variable {X : Cx}
/-- sorted(xs), xs a list of tuples of ints and texts that stand in the same columns (k says which): a new list, ascending -/
def rSortedC (K : PySem.W.Frag) : List V → Hp → VK → Prop := fun vs H Q => ∃ (a : Addr) (xs : List V) (k : V → List Key) (b : Bool) (S : List Bool), vs = [V.ref a] ∧ SqL K H a xs ∧ (∀ x ∈ xs, ∃ t, x = V.ref t ∧ SqT K H t ((k x).map kV) ∧ (k x).map Sum.isLeft = b :: S) ∧
  ∀ ys p, SrtO.Srtd (fun x y => SrtC.lexC (k x) (k y)) ys → ys.Perm xs → H p = none → Q (.ref p) (upd H p (.lst ys))
theorem cr_sortedC : CallR X (.builtin "sorted") (rSortedC X.K) := by
  intro pins s σ H vs us Q I r h
  obtain ⟨a, xs, k, b, S, rfl, hs, hx, q⟩ := h
  obtain ⟨its, rv, hl, hz⟩ := I.list hs
  obtain ⟨u, rfl, ru⟩ := vals1 r
  obtain rfl : u = Value.ref a := ru
  obtain ⟨e1, e2⟩ := refs_back rv fun x m => by
    obtain ⟨t, e, _⟩ := hx x m
    exact ⟨t, e⟩
  refine SrtC.sorted_cells (k := fun u => k (backV u)) (b := b) (S := S) hl.isList (by rw [← rv.length]; exact hz) (fun v hv => ?_) fun h' d out h1 h2 kp hd hn => ?_
  · obtain ⟨t, rfl⟩ := e2 v hv
    have hm : V.ref t ∈ xs := by rw [e1]; exact List.mem_map.mpr ⟨_, hv, rfl⟩
    obtain ⟨t', e, ht, hS⟩ := hx _ hm
    cases e
    obtain ⟨its2, r2, hT, _⟩ := I.tuple ht
    exact ⟨⟨t, its2, rfl, r2, hT⟩, hS⟩
  · have h3 : ∀ u ∈ out, ∃ a, u = Value.ref a := fun u hu => e2 u (h2.perm.mem_iff.mp hu)
    obtain ⟨n, hn⟩ := hn
    have hb : (out.map backV).Perm xs := by
      rw [e1]
      exact h2.perm.map backV
    refine ⟨.ref d, upd H d (.lst (out.map backV)), I.laid (t' := s.toks) kp hd ⟨?_, out, n, vals_back h3, hn⟩, rfl, q _ d (List.pairwise_map.mpr h1) hb (I.hok.fresh hd)⟩
    rw [hb.length_eq]
    exact hz
/-- sorted(xs), xs a list of texts of any length -/
def rSortedTx (K : PySem.W.Frag) : List V → Hp → VK → Prop := fun vs H Q => ∃ (a : Addr) (ss : List Str), vs = [V.ref a] ∧ SqL K H a (ss.map V.str) ∧
  ∀ (ys : List Str) (p : Addr), SrtC.Asc ys → ys.Perm ss → H p = none → Q (.ref p) (upd H p (.lst (ys.map V.str)))
theorem strs_of_vals' : ∀ {ss : List Str} {us : List Value}, Vals (ss.map V.str) us → StrsAre us ss
  | [], _, .nil => .nil
  | x :: ss, _, .cons ⟨t, e⟩ r => by
    subst e
    exact .cons x t (strs_of_vals' r)
theorem cr_sortedTx : CallR X (.builtin "sorted") (rSortedTx X.K) := by
  intro pins s σ H vs us Q I r h
  obtain ⟨a, ss, rfl, hs, q⟩ := h
  obtain ⟨its, rv, hl, hz⟩ := I.list hs
  obtain ⟨u, rfl, ru⟩ := vals1 r
  obtain rfl : u = Value.ref a := ru
  have hI := strs_of_vals' rv
  have hz' : its.length ≤ sizeLine := by rw [← rv.length]; exact hz
  refine SrtO.sorted_ord SrtC.swo_tv hl.isList hz' (fun h2 h₁ a ha kk => SrtC.strs_sortable hI h2) fun out h1 h2 => ?_
  obtain ⟨a1, a2, a3⟩ := SrtC.strs_out hI h1 h2
  obtain ⟨ep, he'⟩ := sortedAll_at s.heap its out.toArray
  have hlen : ((out.map SrtC.tv).map V.str).length ≤ sizeLine := by
    rw [List.length_map, a2.length_eq, ← List.length_map (f := V.str)]
    exact hz
  exact ⟨.ref _, upd H (s.heap.objs.size + 1) (.lst ((out.map SrtC.tv).map V.str)), I.laid (t' := s.toks) (fun _ _ => sortedAll_old) (Nat.le_succ _) ⟨hlen, out, ep, vals_of_strs a1, he'⟩, rfl, q _ _ a3 a2 (I.hok.fresh (Nat.le_succ _))⟩
end
end L2

set_option Elab.async false
set_option linter.all false
set_option maxRecDepth 100000
set_option maxHeartbeats 4000000
/-! sorted(texts, key=len): shorter ones first, equal ones in their order -/
namespace SrtK
open PySem PySem.Spec PyProof.Rows Srt SrtO L2 SrtC
def tl (v : Value) : Int := ((tv v).length : Int)
def ltLen (v u : Value) : Bool := decide (tl v < tl u)
theorem swo_len : Swo ltLen := by
  refine ⟨fun x y h => ?_, fun x y z h1 h2 => ?_⟩
  · have a : tl x < tl y := of_decide_eq_true h
    exact decide_eq_false (by omega)
  · have a : ¬ tl y < tl x := of_decide_eq_false h1
    have b : ¬ tl z < tl y := of_decide_eq_false h2
    exact decide_eq_false (by omega)
def ltK (p q : Keyed) : Bool := ltIv p.1 q.1
theorem swo_key : Swo ltK := ⟨fun x y h => swo_int.asym _ _ h, fun x y z h1 h2 => swo_int.tr _ _ _ h1 h2⟩
section
variable {prog : Program} {w : World} {A : Around} {E : Value → Shared → Prop} {s : Shared} {a kS : Addr} {vs : List Value} {ss : List Str} {R : PySem.Fin → Shared → Prop}
/-- the keys that stand with the items -/
def Keys (ks : List Value) (vs : List Value) : Prop := IntsAre ks (vs.map tl)
theorem keys_at : ∀ {ks vs : List Value}, Keys ks vs → ∀ p ∈ ks.zip vs, ∃ t, p.1 = Value.int (tl p.2) t
  | [], _, _, p, h => by simp at h
  | _ :: _, [], k, p, h => by simp at h
  | k :: ks, v :: vs, hk, p, h => by
    unfold Keys at hk
    rw [List.map_cons] at hk
    cases hk with
    | cons n t r =>
      rcases List.mem_cons.mp (by simpa using h) with e | h
      · rw [e]; exact ⟨t, rfl⟩
      · exact keys_at r p h
theorem keys_len {ks vs : List Value} (h : Keys ks vs) : ks.length = vs.length := by
  have := h.length
  rw [List.length_map] at this
  exact this
theorem out_len {ks vs : List Value} {out : List Keyed} (hk : Keys ks vs) (h1 : Srtd ltK out) (h2 : Stb ltK out (ks.zip vs)) : Srtd ltLen (out.map (·.2)) ∧ Stb ltLen (out.map (·.2)) vs := by
  have ez : (ks.zip vs).map (fun p : Keyed => p.2) = vs := List.map_snd_zip (Nat.le_of_eq (keys_len hk).symm)
  have key : ∀ p ∈ out, ∃ t, p.1 = Value.int (tl p.2) t := fun p hp => keys_at hk p (h2.perm.mem_iff.mp hp)
  have lt_eq : ∀ {p q : Keyed}, (∃ t, p.1 = Value.int (tl p.2) t) → (∃ t, q.1 = Value.int (tl q.2) t) → ltK p q = ltLen p.2 q.2 := by
    rintro p q ⟨t, e⟩ ⟨u, e'⟩
    unfold ltK ltIv ltLen
    rw [e, e']
    rfl
  refine ⟨?_, ?_⟩
  · refine List.pairwise_map.mpr (List.Pairwise.imp_of_mem (fun {p q} hp hq h => ?_) h1)
    rw [← lt_eq (key q hq) (key p hp)]
    exact h
  · refine ⟨?_, fun x => ?_⟩
    · have := h2.perm.map (fun p : Keyed => p.2)
      rw [ez] at this
      exact this
    · have f : ∀ l : List Keyed, (∀ p ∈ l, ∃ t, p.1 = Value.int (tl p.2) t) → (l.map (fun p : Keyed => p.2)).filter (eqv ltLen x) = (l.filter (eqv ltK (Value.int (tl x) 0, x))).map (fun p : Keyed => p.2) := fun l hl => by
        rw [List.filter_map]
        refine congrArg _ (List.filter_congr fun p hp => ?_)
        show (!ltLen x p.2 && !ltLen p.2 x) = (!ltK (Value.int (tl x) 0, x) p && !ltK p (Value.int (tl x) 0, x))
        rw [lt_eq (p := (Value.int (tl x) 0, x)) ⟨0, rfl⟩ (hl p hp), lt_eq (q := (Value.int (tl x) 0, x)) (hl p hp) ⟨0, rfl⟩]
      have e1 := f out key
      have e2 := f (ks.zip vs) (keys_at hk)
      rw [ez] at e2
      show (out.map (fun p : Keyed => p.2)).filter (eqv ltLen x) = vs.filter (eqv ltLen x)
      rw [e1, e2, h2.cls]
/-- what stands while the keys are made -/
structure Mid (h0 h : Heap) (a kS : Addr) (kA : Array Value) (e1 : Nat) : Prop where
  old : ∀ b o, b ≠ a → h0.get? b = some o → h.get? b = some o
  ks : ∃ e, h.get? kS = some (seqObj "list" kA e)
  li : h.get? a = some (seqObj "list" #[] e1)
theorem end_len {h0 : Heap} {keys : Array Value} {e1 : Nat} (M : Mid h0 s.heap a kS keys e1) (hka : kS ≠ a) (hk0 : h0.get? kS = none) (hk : Keys keys.toList vs) (hz : vs.length ≤ sizeLine)
    (h : ∀ h' tk out c, (∀ b o, b ≠ a → h0.get? b = some o → h'.get? b = some o) → h'.get? a = some (seqObj "list" out c) → Srtd ltLen out.toList → Stb ltLen out.toList vs → R (.done (.ret .none)) { s with heap := h', toks := tk }) :
    wpAny (model prog w) A (ksk_end a false vs.toArray e1 (.ref kS) keys) R E s := by
  have hsz : keys.size = vs.length := by
    have := keys_len hk
    rw [Array.length_toList] at this
    exact this
  have ezl : (keys.zip vs.toArray).toList = keys.toList.zip vs := ksk_zip keys vs
  have hzs : (keys.zip vs.toArray).size = vs.length := by rw [Array.size_zip, hsz, List.size_toArray, Nat.min_self]
  have sL := sizeLine_eq
  have tail : ∀ st' : SortSt, Srtd ltK (arrOf st').toList → Stb ltK (arrOf st').toList (keys.zip vs.toArray).toList → failedOf st' = none → wpAny (model prog w) A (ksk_tail a false e1 (.ref kS) st') R E s := by
    intro st' h1 h2 hf
    rw [ezl] at h2
    obtain ⟨o1, o2⟩ := out_len hk h1 h2
    obtain ⟨e, he⟩ := M.ks
    have hl : (arrOf st').size = vs.length := by
      have := h2.len
      rw [Array.length_toList, ← ezl, Array.length_toList, hzs] at this
      exact this
    have s1 := Heap.SameBut.update s.heap kS (Obj.mapSeq fun _ => (#[] : Array Value))
    have na1 : (s.heap.update kS (Obj.mapSeq fun _ => (#[] : Array Value))).get? a = some (seqObj "list" #[] e1) := (s1.2 a hka.symm).trans M.li
    have s2 := Heap.SameBut.update (s.heap.update kS (Obj.mapSeq fun _ => (#[] : Array Value))) a (Obj.mapSeq fun _ => (arrOf st').map (·.2))
    obtain ⟨c2, hc2⟩ : ∃ c2, ((s.heap.update kS (Obj.mapSeq fun _ => (#[] : Array Value))).update a (Obj.mapSeq fun _ => (arrOf st').map (·.2))).get? a = some (seqObj "list" ((arrOf st').map (·.2)) c2) := ⟨_, get?_update_seq na1 fun _ => (arrOf st').map (·.2)⟩
    unfold ksk_tail
    try dsimp only
    refine wpAny_bind (listUpdate_at he rfl ?_ (by rw [hsz]; omega) (Nat.zero_le _))
    refine wpAny_bind (wpAny_letGo (wpAny_bind (seqEpoch_at na1 rfl ?_)))
    simp only [Bool.false_eq_true, if_false]
    refine wpAny_bind (listUpdate_at na1 rfl ?_ (Nat.zero_le _) (by rw [Array.size_map, hl]; omega))
    rw [hf]
    simp only [bne_self_eq_false, Bool.false_eq_true, if_false]
    refine wpAny_pure (h _ _ ((arrOf st').map (·.2)) c2 (fun b o hb e => ?_) hc2 ?_ ?_)
    · have hbk : b ≠ kS := fun z => by rw [z, hk0] at e; cases e
      rw [s2.2 b hb, s1.2 b hbk]
      exact M.old b o hb e
    · rw [Array.toList_map]; exact o1
    · rw [Array.toList_map]; exact o2
  unfold ksk_end
  try dsimp only
  simp only [Bool.false_eq_true, if_false]
  by_cases h2 : vs.toArray.size < 2
  · rw [if_pos h2, if_pos h2]
    rw [List.size_toArray] at h2
    refine wpAny_bind (wpAny_pure ?_)
    rw [StateT.run_pure]
    refine wpAny_bind (wpAny_pure ?_)
    try dsimp only
    refine tail _ ?_ (Stb.refl _) rfl
    show Srtd ltK (keys.zip vs.toArray).toList
    have hlen : (keys.zip vs.toArray).toList.length < 2 := by rw [Array.length_toList, hzs]; exact h2
    match (keys.zip vs.toArray).toList, hlen with
    | [], _ => exact List.Pairwise.nil
    | [v], _ => exact List.pairwise_singleton _ _
    | _ :: _ :: l, q => exact absurd q (by simp)
  · rw [if_neg h2, if_neg h2]
    rw [List.size_toArray] at h2
    rw [ksk_kind hk (by rw [hsz]; omega)]
    refine wpAny_bind (wpAny_pure ?_)
    have hT : Cmp prog w A s oneType' (fun p => ∃ n t, p.1 = Value.int n t) ltK := by
      rintro p q ⟨n, t, e⟩ ⟨m, u, e'⟩
      show wpAny (model prog w) A (keyLt' oneType' p.1 q.1) (fun r s' => s' = s ∧ r = ltIv p.1 q.1) (fun _ _ => False) s
      rw [e, e', keyLt'_oneType]
      exact oneLt_int ⟨rfl, rfl⟩
    refine wpAny_bind (wpAny_mono (wpS_sortO (st0 := SortSt.mk' oneType' (keys.zip vs.toArray) #[] 7 none)
      (Q := fun _ st' => Srtd ltK (arrOf st').toList ∧ Stb ltK (arrOf st').toList (keys.zip vs.toArray).toList ∧ failedOf st' = none) swo_key hT rfl ?_ rfl rfl fun st' a1 a2 a3 => ⟨a1, a2, a3⟩) ?_ fun _ _ e => e)
    · intro p hp
      have hp' : p ∈ keys.toList.zip vs := by rw [← ezl]; exact hp
      obtain ⟨t, e⟩ := keys_at hk p hp'
      exact ⟨_, t, e⟩
    · rintro ⟨⟨⟩, st'⟩ s' ⟨rfl, hp1, hp2, hf⟩
      exact tail st' hp1 hp2 hf
theorem sort_len {n : Nat} (hI : StrsAre vs ss) (hss : ∀ x ∈ ss, x.length ≤ sizeLine) (ho : s.heap.get? a = some (seqObj "list" vs.toArray n)) (hz : vs.length ≤ sizeLine)
    (h : ∀ h' tk out c, (∀ b o, b ≠ a → s.heap.get? b = some o → h'.get? b = some o) → h'.get? a = some (seqObj "list" out c) → Srtd ltLen out.toList → Stb ltLen out.toList vs → R (.done (.ret .none)) { s with heap := h', toks := tk }) :
    wpAny (model prog w) A (ksk_tree a (.builtin "len") false) R E s := by
  have sL := sizeLine_eq
  have h63 := line63
  have ha : a < s.heap.objs.size := Heap.lt_size ho
  have s1 := Heap.SameBut.update s.heap a (Obj.mapSeq fun _ => (#[] : Array Value))
  obtain ⟨e1, ho1⟩ : ∃ e1, (s.heap.update a (Obj.mapSeq fun _ => (#[] : Array Value))).get? a = some (seqObj "list" #[] e1) := ⟨_, get?_update_seq ho fun _ => #[]⟩
  have hkS : ((s.heap.update a (Obj.mapSeq fun _ => (#[] : Array Value))).push (seqObj "tuple" vs.toArray 0)).objs.size = s.heap.objs.size + 1 := by rw [size_push', Heap.size_update]
  unfold ksk_tree
  refine wpAny_bind (listItems_at ho rfl ?_)
  refine wpAny_bind (listUpdate_at ho rfl ?_ (by rw [List.size_toArray]; exact hz) (Nat.zero_le _))
  refine wpAny_bind (seqEpoch_at ho1 rfl ?_)
  refine wpAny_bind (wpAny_newTuple ?_ (by show vs.length ≤ _; exact hz))
  refine wpAny_bind (wpAny_newList ?_ (Nat.zero_le _))
  refine wpAny_holding ?_
  have hka : ((s.heap.update a (Obj.mapSeq fun _ => (#[] : Array Value))).push (seqObj "tuple" vs.toArray 0)).objs.size ≠ a := by
    rw [hkS]
    exact Nat.ne_of_gt (Nat.lt_succ_of_lt ha)
  have hk0 : s.heap.get? ((s.heap.update a (Obj.mapSeq fun _ => (#[] : Array Value))).push (seqObj "tuple" vs.toArray 0)).objs.size = none := Heap.get?_none_of_le (by
    rw [hkS]
    exact Nat.le_succ _)
  generalize hkN : ((s.heap.update a (Obj.mapSeq fun _ => (#[] : Array Value))).push (seqObj "tuple" vs.toArray 0)).objs.size = kS at *
  have m0 : Mid s.heap (((s.heap.update a (Obj.mapSeq fun _ => (#[] : Array Value))).push (seqObj "tuple" vs.toArray 0)).push (seqObj "list" #[] 0)) a kS #[] e1 := by
    refine ⟨fun b o hb e => Heap.get?_push_of_some _ (Heap.get?_push_of_some _ ((s1.2 b hb).trans e)), ⟨0, ?_⟩, Heap.get?_push_of_some _ (Heap.get?_push_of_some _ ho1)⟩
    rw [← hkN]
    exact Heap.get?_push_size _ rfl
  unfold ksk_rest
  refine wpAny_bind (wpAny_rule ?_)
  first
    | rw [List.forIn_toArray]
    | (rw [← Array.forIn_toList]; simp only [List.toList_toArray])
    | rw [← Array.forIn_toList]
  refine wpAny_bind (ksk_fold (fun i s' => ∃ h' tk kA, s' = { s with heap := h', toks := tk } ∧ Mid s.heap h' a kS kA e1 ∧ Keys kA.toList (vs.take i)) vs 0 _ ⟨_, s.toks, #[], rfl, m0, by unfold Keys; simpa using IntsAre.nil⟩ ?step ?done)
  case step =>
    rintro j x s' hx ⟨h', tk, kA, rfl, M, hk⟩
    simp only [Nat.zero_add] at hk ⊢
    have hj : j < vs.length := (List.getElem?_eq_some_iff.mp hx).1
    obtain ⟨y, t, rfl⟩ := strs_mem hI x (List.mem_of_getElem? hx)
    have hy : y.length ≤ sizeLine := hss y (by rw [← tv_strs hI]; exact List.mem_map.mpr ⟨_, List.mem_of_getElem? hx, rfl⟩)
    obtain ⟨e, he⟩ := M.ks
    have hz2 : kA.size ≤ vs.length := by
      have h1 := keys_len hk
      rw [Array.length_toList, List.length_take] at h1
      omega
    refine wpAny_bind (wpAny_attempt (len_str (by omega) ?_))
    try dsimp only
    have s2 := Heap.SameBut.update h' kS (Obj.mapSeq (·.push (.int y.length (tk + 1))))
    obtain ⟨c2, hc2⟩ : ∃ c2, (h'.update kS (Obj.mapSeq (·.push (.int y.length (tk + 1))))).get? kS = some (seqObj "list" (kA.push (.int y.length (tk + 1))) c2) := ⟨_, get?_update_seq he (·.push (.int y.length (tk + 1)))⟩
    refine wpAny_bind (listUpdate_at he rfl ?_ (by omega) (Nat.le_trans (Nat.le_of_eq (Array.size_push ..)) (by omega)))
    refine wpAny_pure ⟨rfl, _, _, kA.push (.int y.length (tk + 1)), rfl, ⟨fun b o hb q => ?_, ⟨c2, hc2⟩, (s2.2 a hka.symm).trans M.li⟩, ?_⟩
    · have hbk : b ≠ kS := fun z => by rw [z, hk0] at q; cases q
      rw [s2.2 b hbk]
      exact M.old b o hb q
    · unfold Keys at hk ⊢
      have ek : (vs.take (j + 1)).map tl = (vs.take j).map tl ++ [(y.length : Int)] := by rw [List.take_add_one, hx, List.map_append]; rfl
      rw [ek, Array.toList_push]
      exact ksk_snoc hk
  case done =>
    rintro s' ⟨h', tk, kA, rfl, M, hk⟩
    rw [List.take_of_length_le (by omega)] at hk
    obtain ⟨e, he⟩ := M.ks
    try dsimp only
    refine wpAny_bind (listItems_at he rfl ?_)
    exact end_len (s := { s with heap := h', toks := tk }) (h0 := s.heap) M hka hk0 hk hz h
theorem sorted_len {l : Addr} {Q : Value → Shared → Prop} (hI : StrsAre vs ss) (hss : ∀ x ∈ ss, x.length ≤ sizeLine) (hl : s.heap.IsList l vs.toArray) (hz : vs.length ≤ sizeLine)
    (h : ∀ (h' : Heap) (tk : Nat) (D : Addr) (out : Array Value) (c : Nat), (∀ b o, s.heap.get? b = some o → h'.get? b = some o) → s.heap.objs.size ≤ D → h'.get? D = some (seqObj "list" out c) → Srtd ltLen out.toList → Stb ltLen out.toList vs → Q (.ref D) { s with heap := h', toks := tk }) :
    wpAny (model prog w) A (call (.builtin "sorted") [.ref l] [(Str.ofString "key", .builtin "len")]) Q E s := by
  have ha1 := ksk_s1 (.ref l) (.builtin "len")
  have ha2 := fun x : Addr => ksk_l1 (.ref x) (.builtin "len")
  refine call_function_entry_kw kind_sorted plain_sorted entry_sorted ha1 ?_
  unfold Builtin.«sorted»
  refine wpAny_bind (m := checkCount "sorted" 1 1 _) (wpAny_pure ?_)
  refine wpAny_bind (collect_list hl ?_ hz)
  refine wpAny_bind (wpAny_newList ?_ hz)
  have hsz : ((s.heap.push (seqObj "list" #[] 0)).update s.heap.objs.size (Obj.mapSeq (· ++ vs.toArray))).objs.size = s.heap.objs.size + 1 := by
    rw [Heap.size_update, size_push']
  have hoL : (((s.heap.push (seqObj "list" #[] 0)).update s.heap.objs.size (Obj.mapSeq (· ++ vs.toArray))).push (seqObj "list" vs.toArray 0)).get? (s.heap.objs.size + 1) = some (seqObj "list" vs.toArray 0) := by
    rw [← hsz]; exact Heap.get?_push_size _ rfl
  have keep : ∀ b o, s.heap.get? b = some o → b ≠ s.heap.objs.size + 1 ∧ (((s.heap.push (seqObj "list" #[] 0)).update s.heap.objs.size (Obj.mapSeq (· ++ vs.toArray))).push (seqObj "list" vs.toArray 0)).get? b = some o := fun b o q => by
    have hlt : b < s.heap.objs.size := Heap.lt_size q
    refine ⟨Nat.ne_of_lt (Nat.lt_succ_of_lt hlt), Heap.get?_push_of_some _ ?_⟩
    rw [Heap.get?_update_ne _ _ _ _ (Nat.ne_of_lt hlt)]
    exact Heap.get?_push_of_some _ q
  show wpAny _ _ _ _ _ { s with heap := ((s.heap.push (seqObj "list" #[] 0)).update s.heap.objs.size (Obj.mapSeq (· ++ vs.toArray))).push (seqObj "list" vs.toArray 0) }
  rw [hsz]
  refine wpAny_bind (wpAny_holding (wpAny_call_entry_kw slot_list_sort ⟨_, hoL, rfl⟩ entry_list_sort ?body (ha2 _)))
  case body =>
    show wpAny (model prog w) A.in1.in1 (Builtin.«list.sort» ⟨[.ref (s.heap.objs.size + 1)], [(Str.ofString "key", .builtin "len")]⟩) _ _ _
    rw [ksk_t4]
    refine sort_len hI hss hoL hz fun h' tk out c old ho' o1 o2 => ⟨_, rfl, ?_⟩
    exact wpAny_pure ⟨_, rfl, h h' tk _ out c (fun b o e => old b o (keep b o e).1 (keep b o e).2) (Nat.le_succ _) ho' o1 o2⟩
end
end SrtK
namespace L2
open PySem PySem.Spec PyProof.Rows
/-- shorter ones first -/
def ltL (x y : Str) : Bool := decide ((x.length : Int) < y.length)
/-- sorted(e, key=len), e a list of texts -/
def tSortLen (K : PySem.W.Frag) (t : TA) : TE := fun σ H Q => t σ H fun vs H1 => ∃ (a : Addr) (ss : List Str), vs = [.ref a] ∧ SqL K H1 a (ss.map V.str) ∧ (∀ x ∈ ss, x.length ≤ sizeLine) ∧
  ∀ (ys : List Str) (p : Addr), SrtO.Srtd ltL ys → SrtO.Stb ltL ys ss → H1 p = none → Q (.ref p) (upd H1 p (.lst (ys.map V.str)))
theorem swo_ltL : SrtO.Swo ltL := by
  refine ⟨fun x y h => ?_, fun x y z h1 h2 => ?_⟩
  · have a : (x.length : Int) < y.length := of_decide_eq_true h
    exact decide_eq_false (by omega)
  · have a : ¬ (y.length : Int) < x.length := of_decide_eq_false h1
    have b : ¬ (z.length : Int) < y.length := of_decide_eq_false h2
    exact decide_eq_false (by omega)
section
variable {X : Cx} {p p2 pos kpos : Pos} {e : Expr} {t : TA}
theorem pe_sortLen (hA : PA X [e] t) (hg : Gl X "sorted") (hm : X.mg "sorted" = none) (hg2 : Gl X "len") (hm2 : X.mg "len" = none)
    (hs : backTo pos (starEach [e] X.env) = (false, eval e X.env) :: backTo pos (starEach [] X.env) := by rfl) (hpl : (backTo pos (starEach [e] X.env)).any (·.1) = false := by rfl)
    (hall : (backToKw pos (keywordEach [⟨some "key", .Name "len" p2, kpos⟩] X.env)).all (·.1.isSome) = true := by rfl) (hnone : (backToKw pos (keywordEach [⟨some "key", .Name "len" p2, kpos⟩] X.env)).any (·.1.isNone) = false := by rfl)
    (hks : (backToKw pos (keywordEach [⟨some "key", .Name "len" p2, kpos⟩] X.env)).filterMap (·.1) = [Str.ofString "key"] := by rfl) :
    PE X (.Call (.Name "sorted" p) [e] [⟨some "key", .Name "len" p2, kpos⟩] pos) (tSortLen X.K t) := by
  refine ⟨fun pins s σ H Q I h => ?_⟩
  refine wpAny_Call_Name_kw (ld_blt I hg hm (show bootBuiltins "sorted" = some (.builtin "sorted") by decide +kernel) ?_ (by decide) (by decide))
  refine PyProof.Rows.callWith_kw (thn (hA.run pos pins s σ H _ I h) fun us s1 ⟨vs, H1, I1, r1, a, ss, ev, hsq, hss, q⟩ => ?_) hs hpl hall hnone
  · subst ev
    show wpAny _ _ (evalAll [(do let v ← eval (.Name "len" p2) X.env; standAt pos; pure v)]) _ _ s1
    refine wpAny_evalAll_cons (wpAny_bind (ld_blt I1 hg2 hm2 PySem.boot_len (wpAny_bind (wpAny_standAt (wpAny_pure ?_)))))
    refine wpAny_evalAll_nil ?_
    rw [hks]
    obtain rfl := Vals.ref1 r1
    obtain ⟨its, rv, hl, hz⟩ := I1.list hsq
    have hI := strs_of_vals' rv
    refine SrtK.sorted_len hI hss hl.isList (by rw [← rv.length]; exact hz) fun h' tk D out c old hD ho o1 o2 => ?_
    have hIo : StrsAre out.toList (out.toList.map SrtC.tv) := SrtC.strs_tv fun v hv => SrtC.strs_mem hI v (o2.perm.mem_iff.mp hv)
    have hb : SrtO.Stb ltL (out.toList.map SrtC.tv) ss := by
      have := SrtO.Stb.map (lt := ltL) swo_ltL SrtC.tv o2
      rw [SrtC.tv_strs hI] at this
      exact this
    refine ⟨.ref D, upd H1 D (.lst ((out.toList.map SrtC.tv).map V.str)), I1.laid (t' := tk) old hD ⟨?_, out.toList, c, vals_of_strs hIo, ho⟩, rfl, q _ D (List.pairwise_map.mpr o1) hb (I1.hok.fresh hD)⟩
    rw [List.length_map, hb.len]
    rw [List.length_map] at hz
    exact hz
end
end L2

set_option Elab.async false
set_option linter.all false
set_option maxRecDepth 100000
set_option maxHeartbeats 4000000
/-! sets of texts: made of a list, made by a comprehension, in, len, sorted -/
namespace SetX
open PySem PySem.Spec PyProof.Rows L2 PpSet
/-- an entry's text -/
def txt (e : Int × Value) : Str := SrtC.tv e.2
def Ent (w : World) (e : Int × Value) : Prop := ∃ k tk, e.2 = Value.str k tk ∧ e.1 = hashStr w k
/-- the set of texts at a: S its members, n their number -/
structure At (w : World) (h : Heap) (a : Addr) (S : Str → Bool) (n : Nat) (o : Obj) (es : Array (Int × Value)) (ep : Nat) (t : SetTable) : Prop where
  get : h.get? a = some o
  ex : o.ExactSet
  dat : o.data = .set es ep t
  ent : ∀ e ∈ es.toList, Ent w e
  nd : (es.toList.map txt).Nodup
  mem : ∀ k, S k = true ↔ k ∈ es.toList.map txt
  room : es.size < scanBound
  fit : t.fits es.size = true
  num : es.size = n
  ris : Ris t.place.toList
  led : w.params.followText "set-order" = true ∨ t.led = true
def SetS (w : World) (h : Heap) (a : Addr) (S : Str → Bool) (n : Nat) : Prop := ∃ o es ep t, At w h a S n o es ep t
section
variable {P : Program} {w : World} {h h' : Heap} {a : Addr} {S S' : Str → Bool} {n : Nat}
theorem SetS.keep (R : SetS w h a S n) (k : ∀ o, h.get? a = some o → h'.get? a = some o) : SetS w h' a S n := by
  obtain ⟨o, es, ep, t, r⟩ := R
  exact ⟨o, es, ep, t, { r with get := k o r.get }⟩
theorem SetS.congr (R : SetS w h a S n) (e : ∀ k, S' k = S k) : SetS w h a S' n := by
  have q : S' = S := funext e
  rw [q]; exact R
theorem str_is (k : Str) (u : Tok) : (strKind P w).is k (.str k u) = true := by
  show Value.isStrOf k (.str k u) = true
  simp [Value.isStrOf]
theorem elems {l : List (Int × Value)} (g : ∀ e ∈ l, Ent w e) : ElemsOf (strKind P w) l := fun e he => by
  obtain ⟨k, tk, h1, h2⟩ := g e he
  exact ⟨⟨k, by rw [h1]; exact str_is k tk, h2⟩, by rw [h1] <;> rfl⟩
theorem ent_is {e : Int × Value} (g : Ent w e) (k : Str) : (strKind P w).is k e.2 = true ↔ txt e = k := by
  obtain ⟨k0, tk, h1, _⟩ := g
  unfold txt
  rw [h1]
  constructor
  · intro q
    exact (strKind P w).inj (.str k0 tk) k0 k (str_is k0 tk) q
  · intro q
    have q : k0 = k := q
    rw [← q]
    exact str_is k0 tk
theorem ent_mem {l : List (Int × Value)} (g : ∀ e ∈ l, Ent w e) (k : Str) : k ∈ l.map txt ↔ ∃ e ∈ l, (strKind P w).is k e.2 = true := by
  rw [List.mem_map]
  exact ⟨fun ⟨e, he, q⟩ => ⟨e, he, (ent_is (g e he) k).2 q⟩, fun ⟨e, he, q⟩ => ⟨e, he, (ent_is (g e he) k).1 q⟩⟩
theorem SetS.of (R : SetS w h a S n) : h.SetOf (strKind P w) a S n := by
  obtain ⟨o, es, ep, t, r⟩ := R
  exact ⟨o, es, ep, t, r.get, r.ex, r.dat, elems r.ent, fun k => (r.mem k).trans (ent_mem r.ent k), r.room, r.fit, r.num⟩
end
section
variable {P : Program} {w : World} {A : Around} {E : Value → Shared → Prop} {s : Shared} {a : Addr} {S : Str → Bool} {n : Nat}
theorem add_tail {g : Bool → Sem Unit} (hg : ∀ (b : Bool) (s₁ : Shared) (Q' : Unit → Shared → Prop), Q' () s₁ → wpAny (model P w) A (g b) Q' E s₁)
    {o : Obj} {es : Array (Int × Value)} {ep : Nat} {t : SetTable} (ho : s.heap.get? a = some o) (hex : o.ExactSet) (hd : o.data = .set es ep t)
    {es1 : Array (Int × Value)} {t2 : SetTable} {S' : Str → Bool} (g1 : ∀ e ∈ es1.toList, Ent w e) (nd1 : (es1.toList.map txt).Nodup) (m1 : ∀ k, S' k = true ↔ k ∈ es1.toList.map txt)
    (hb1 : es1.size < scanBound) (hf2 : t2.fits es1.size = true) (hr : Ris t2.place.toList) (hl : w.params.followText "set-order" = true ∨ t2.led = true) {wasDummy : Bool} {R : Option Bool → Shared → Prop}
    (hR : ∀ h', Heap.SameBut a s.heap h' → SetS w h' a S' es1.size → R (some true) { s with heap := h' }) :
    wpAny (model P w) A (do
        storeSet a es1 t2
        if (!wasDummy && t2.tooFull) = true then do
            g (relayAll t2 es1 (SetTable.grown es1.size)).2.2
            storeSet a (relayAll t2 es1 (SetTable.grown es1.size)).1 (relayAll t2 es1 (SetTable.grown es1.size)).2.1
            pure (some true)
          else pure (some true)) R E s := by
  have ho1 := storeB_at (es' := es1) (t' := t2) ho hd
  have sb1 := Heap.SameBut.update s.heap a (Obj.putSet es1 t2)
  refine wpAny_bind (wpAny_storeSet_of ho hd ?_ (fits_of_scanBound hb1))
  by_cases full : (!wasDummy && t2.tooFull) = true
  · rw [if_pos full]
    have pm := relayAll_perm t2 es1 (SetTable.grown es1.size)
    have hf3 := relayAll_fits t2 es1 (SetTable.grown es1.size)
    have hr3 := relayAll_ris t2 es1 (SetTable.grown es1.size)
    have hl3 := relayAll_led t2 es1 (SetTable.grown es1.size)
    generalize relayAll t2 es1 (SetTable.grown es1.size) = Z at pm hf3 hr3 hl3 ⊢
    obtain ⟨es2, t3, gave⟩ := Z
    dsimp only at pm hf3 hr3 hl3 ⊢
    have hsz : es2.size = es1.size := by simpa using pm.length_eq
    have hb2 : es2.size < scanBound := hsz ▸ hb1
    refine wpAny_bind (hg _ _ _ (wpAny_bind (wpAny_storeSet_of ho1 rfl ?_ (fits_of_scanBound hb2))))
    have ho2 := storeB_at (es' := es2) (t' := t3) ho1 rfl
    refine wpAny_pure (hR _ (sb1.trans (Heap.SameBut.update _ a _)) ?_)
    refine ⟨_, es2, _, t3, ho2, hex, rfl, ?_, ?_, ?_, ?_, ?_, ?_, ?_, ?_⟩
    · exact fun e he => g1 e (pm.mem_iff.mp he)
    · exact (pm.map txt).nodup_iff.mpr nd1
    · exact fun k => (m1 k).trans (pm.map txt).mem_iff.symm
    · exact hb2
    · exact hf3
    · exact hsz
    · exact hr3
    · exact hl.imp id fun z => by rw [hl3]; exact z
  · rw [if_neg full]
    exact wpAny_pure (hR _ sb1 ⟨_, es1, _, t2, ho1, hex, rfl, g1, nd1, m1, hb1, hf2, rfl, hr, hl⟩)
theorem add_hashed {k : Str} {tk : Tok} {Q : Bool → Shared → Prop} (R : SetS w s.heap a S n) (room : n + 1 < scanBound)
    (hQ : ∀ h', Heap.SameBut a s.heap h' → SetS w h' a (fun j => S j || decide (j = k)) (if S k = true then n else n + 1) → Q (!S k) { s with heap := h' }) :
    wpAny (model P w) A (setAddHashed a (.str k tk) (hashStr w k)) Q E s := by
  obtain ⟨o, es, ep, t, r⟩ := R
  have hel : ElemsOf (strKind P w) es.toList := elems r.ent
  have hsc : (Value.str k tk).scannable = true := rfl
  have hkey : (strKind P w).is k (.str k tk) = true := str_is k tk
  unfold setAddHashed setAddHashedIn
  refine wpAny_holding (wpAny_bind (wpAny_setState_of r.get r.dat r.fit ?_))
  dsimp only
  rw [byScan_of hsc r.room hel]
  simp only [↓reduceIte]
  unfold setAddByScan
  refine wpAny_bind (wpAny_bind (wpAny_rule (wpAny_bind (wpAny_setScan_of hkey r.get r.dat r.fit hel ?_))))
  cases hfi : List.findIdx? (fun e => (strKind P w).is k e.2) es.toList with
  | some j =>
    dsimp only
    obtain ⟨hj, pj, _⟩ := List.findIdx?_eq_some_iff_getElem.mp hfi
    have hSk : S k = true := (r.mem k).2 ((ent_mem (P := P) r.ent k).2 ⟨es.toList[j], List.getElem_mem hj, pj⟩)
    refine wpAny_pure (wpAny_pure ?_)
    have hm : ∀ i, (S i || decide (i = k)) = true ↔ i ∈ es.toList.map txt := fun i => by
      rw [Bool.or_eq_true, decide_eq_true_eq, ← r.mem i]
      exact ⟨fun z => z.elim id (fun e => e ▸ hSk), .inl⟩
    have hn : es.size = if S k = true then n else n + 1 := by
      rw [if_pos hSk]
      exact r.num
    have q := hQ s.heap (Heap.SameBut.refl a s.heap) ⟨o, es, ep, t, r.get, r.ex, r.dat, r.ent, r.nd, hm, r.room, r.fit, hn, r.ris, r.led⟩
    rw [hSk] at q
    exact q
  | none =>
    dsimp only
    have hnk : k ∉ es.toList.map txt := fun z => by
      obtain ⟨e, he, q⟩ := (ent_mem (P := P) r.ent k).1 z
      have c := List.findIdx?_eq_none_iff.mp hfi e he
      rw [q] at c
      cases c
    have hSk : S k = false := by
      cases q : S k with
      | false => rfl
      | true => exact absurd ((r.mem k).1 q) hnk
    have hgw : ∀ (b : Bool) {s₁ : Shared} {Q' : Unit → Shared → Prop}, Q' () s₁ → wpAny (model P w) A (match b with | true => rule "set.scan.the-table-gave-way" | false => pure ()) Q' E s₁ :=
      fun b s₁ Q' q => by cases b <;> first | exact wpAny_pure q | exact wpAny_rule q
    have pm := layNew_perm t es (hashStr w k) (.str k tk)
    have hf1 := layNew_fits t es (hashStr w k) (.str k tk)
    have hr1 := layNew_ris t es (hashStr w k) (.str k tk) r.ris
    have hl1 := layNew_led t es (hashStr w k) (.str k tk)
    show wpAny _ _ _ _ _ _
    have eh : (strKind P w).hash k = hashStr w k := rfl
    generalize layNew t es (hashStr w k) (.str k tk) = Z at pm hf1 hr1 hl1 ⊢
    obtain ⟨es1, t1, wasDummy, gave⟩ := Z
    dsimp only at pm hf1 hr1 hl1 ⊢
    rw [Array.toList_push] at pm
    have pc : es1.toList.Perm ((hashStr w k, Value.str k tk) :: es.toList) := pm.trans (List.perm_append_singleton _ _)
    have pk : (es1.toList.map txt).Perm (k :: es.toList.map txt) := pc.map txt
    have hsz : es1.size = n + 1 := by
      have := pc.length_eq
      rw [List.length_cons, Array.length_toList, Array.length_toList, r.num] at this
      exact this
    have hb1 : es1.size < scanBound := hsz ▸ room
    have g1 : ∀ e ∈ es1.toList, Ent w e := fun e he => by
      rcases List.mem_cons.mp (pc.mem_iff.mp he) with z | z
      · rw [z]; exact ⟨k, tk, rfl, rfl⟩
      · exact r.ent e z
    have nd1 : (es1.toList.map txt).Nodup := pk.nodup_iff.mpr (List.nodup_cons.mpr ⟨hnk, r.nd⟩)
    have m1 : ∀ i, (S i || decide (i = k)) = true ↔ i ∈ es1.toList.map txt := fun i => by
      rw [Bool.or_eq_true, decide_eq_true_eq, r.mem i, pk.mem_iff, List.mem_cons]
      exact Or.comm
    have hled : w.params.followText "set-order" = true ∨ t1.led = true := r.led.imp id fun z => by rw [hl1]; exact z
    have fin : ∀ h', Heap.SameBut a s.heap h' → SetS w h' a (fun j => S j || decide (j = k)) es1.size → Q true { s with heap := h' } := fun h' sb r => by
      have q := hQ h' sb
      rw [hSk] at q
      rw [hsz] at r
      exact q r
    refine wpAny_bind (hgw _ ?_)
    split
    · refine wpAny_bind ?_
      rw [hashByValue_scannable 8 hsc]
      refine wpAny_pure (add_tail ?_ r.get r.ex r.dat g1 nd1 m1 hb1 ?_ ?_ ?_ ?_)
      · intro b s₁ Q' q; cases b <;> first | exact wpAny_pure q | exact wpAny_rule q
      · first | (split <;> first | exact hf1 | exact SetTable.fits_plain_off hf1) | exact hf1
      · first | (split <;> exact hr1) | exact hr1
      · first | (split <;> exact hled) | exact hled
      · intro h' sb r; dsimp only; exact wpAny_pure (fin h' sb r)
    · refine wpAny_bind (wpAny_pure ?_)
      simp only [↓reduceIte]
      refine add_tail ?_ r.get r.ex r.dat g1 nd1 m1 hb1 hf1 hr1 hled ?_
      · intro b s₁ Q' q; cases b <;> first | exact wpAny_pure q | exact wpAny_rule q
      · intro h' sb r; dsimp only; exact wpAny_pure (fin h' sb r)
theorem add_call {k : Str} {tk : Tok} {Q : Value → Shared → Prop} (R : SetS w s.heap a S n) (room : n + 1 < scanBound)
    (hQ : ∀ h', Heap.SameBut a s.heap h' → SetS w h' a (fun j => S j || decide (j = k)) (if S k = true then n else n + 1) → Q .none { s with heap := h', toks := s.toks + 1 }) :
    wpAny (model P w) A (call (.builtin "set.add") [.ref a, .str k tk]) Q E s := by
  have hS : s.heap.SetOf (strKind P w) a S n := R.of
  refine wpAny_call_entry F.slot_set_add hS.typeIs F.entry_set_add ?_ (F.args_set_add_2 _ _)
  unfold Builtin.«set.add» Builtin.Frozenset.oneOther
  simp only [List.isEmpty_nil, bind_assoc]
  unfold Builtin.Frozenset.addrOf setAdd
  refine wpAny_bind (wpAny_pure ?_)
  try dsimp only
  refine wpAny_bind (wpAny_pure ?_)
  try dsimp only
  refine wpAny_bind (wpAny_holding (wpAny_bind ((strKind P w).pyHash (str_is k tk) ?_)))
  refine add_hashed (s := { s with toks := s.toks + 1 }) R room fun h' sb r => ?_
  show wpAny _ _ (ret Value.none) _ _ _
  exact wpAny_pure ⟨_, rfl, hQ h' sb r⟩
theorem led0 (w : World) : w.params.followText "set-order" = true ∨ (SetTable.fresh 0 0 (!w.params.followText "set-order")).led = true := by
  show _ ∨ (!w.params.followText "set-order") = true
  cases w.params.followText "set-order"
  · exact .inr rfl
  · exact .inl rfl
theorem fresh {h : Heap} {a : Addr} (w : World) (ho : h.get? a = some { cls := .type "set", dict := none, data := .set #[] 0 (.fresh 0 0 (!w.params.followText "set-order")) }) : SetS w h a (fun _ => false) 0 :=
  ⟨_, #[], 0, _, ho, ⟨rfl, rfl, rfl⟩, rfl, (fun e he => by simp at he), (by simp), (fun k => by simp), (by decide), (by rfl), rfl, List.Pairwise.nil, led0 w⟩
/-! ### set(a list of texts) -/
theorem upd_loop {I : Addr} {fp wr : List Addr} {G : Array GenState → Array GenState → Prop} {m : Nat} {Pv : Nat → Value → Prop} {St : Nat → Shared → Prop} {R : Result → Shared → Prop}
    (W : WalksS P w A.in1 I fp wr G m Pv St) (D : Addr) (hDf : D ∉ fp) (ss : List Str) (hn : m = ss.length) (hb : ss.length + 1 < scanBound) (hval : ∀ i v, Pv i v → ∃ k t, ss[i]? = some k ∧ v = .str k t) :
    ∀ (k i : Nat) (s : Shared), m - i = k → i ≤ m → St i s → (∃ c, c ≤ i ∧ SetS w s.heap D (fun j => decide (j ∈ ss.take i)) c) →
      (∀ s' c, Moved (D :: wr) G s s' → c ≤ m → SetS w s'.heap D (fun j => decide (j ∈ ss)) c → R (.ok (.ret .none)) s') →
      codeAny (model P w) A (.builtin "set.update.loop" ⟨[.ref D, .ref I], []⟩) R s := by
  have hDw : D ∉ wr := fun h => hDf (W.sub _ h)
  have more : ∀ b ∈ wr, b ∈ D :: wr := fun b hb => List.mem_cons_of_mem _ hb
  intro k
  induction k with
  | zero =>
    rintro i s hk' hi hst ⟨c, hc, hS⟩ hR
    obtain rfl : i = m := by omega
    refine codeAny_builtin F.entry_set_update_loop ?_
    rw [Around.under_plainId F.plain_set_update_loop _]
    show wpAny _ A.in1 (pyNext (.ref I) >>= _) _ _ s
    refine wpAny_bind (W.done s _ _ hst fun s' hm => ?_)
    show wpAny _ A.in1 (ret Value.none) _ _ s'
    rw [List.take_of_length_le (show ss.length ≤ i by omega)] at hS
    exact wpAny_pure (hR s' c (hm.mono more) hc (hS.keep fun o e => hm.heap D o hDw e))
  | succ k ih =>
    rintro i s hk' hi hst ⟨c, hc, hS⟩ hR
    have hlt : i < m := by omega
    refine codeAny_builtin F.entry_set_update_loop ?_
    rw [Around.under_plainId F.plain_set_update_loop _]
    show wpAny _ A.in1 (pyNext (.ref I) >>= _) _ _ s
    refine wpAny_bind (W.item i s _ _ hlt hst fun v s' hP hst' hm => ?_)
    obtain ⟨z, t, hz, rfl⟩ := hval i v hP
    have hS' : SetS w s'.heap D (fun j => decide (j ∈ ss.take i)) c := hS.keep fun o e => hm.heap D o hDw e
    show wpAny _ A.in1 (holding [Value.str z t] (setAdd D (.str z t)) >>= _) _ _ s'
    refine wpAny_bind (wpAny_holding ?_)
    unfold setAdd
    refine wpAny_holding (wpAny_bind ((strKind P w).pyHash (k := z) (str_is _ _) ?_))
    refine add_hashed (s := { s' with toks := s'.toks + 1 }) hS' (by omega) fun h' hsb hS2 => ?_
    have hS3 : SetS w h' D (fun j => decide (j ∈ ss.take (i + 1))) (if decide (z ∈ ss.take i) = true then c else c + 1) := hS2.congr fun j => by
      rw [List.take_add_one, hz]
      simp [List.mem_append]
    have hc3 : (if decide (z ∈ ss.take i) = true then c else c + 1) ≤ i + 1 := by
      split <;> omega
    refine wpAny_pure ⟨plainId_quiet F.plain_set_update_loop _, ih (i + 1) _ (by omega) hlt (W.frame _ s' _ _ hst' (Nat.le_succ _) fun b hb o e => ?_) ⟨_, hc3, hS3⟩ fun s'' c2 hm'' hc'' hS'' => ?_⟩
    · rw [hsb.2 b (fun h : b = D => hDf (by rw [← h]; exact hb))]; exact e
    · refine hR s'' c2 (Moved.trans W.gtrans ((hm.mono more).then_heap (Nat.le_succ _) fun b o hb e => ?_) hm'') hc'' hS''
      rw [hsb.2 b (fun h : b = D => hb (by rw [h]; exact List.mem_cons_self))]; exact e
theorem strs_get : ∀ {us : List Value} {ss : List Str}, StrsAre us ss → ∀ {i : Nat} {v : Value}, us[i]? = some v → ∃ k t, ss[i]? = some k ∧ v = .str k t
  | _, _, .nil, i, v, h => by simp at h
  | _, _, .cons x t r, 0, v, h => by
    obtain rfl := Option.some.inj h
    exact ⟨x, t, rfl, rfl⟩
  | _, _, .cons x t r, i + 1, v, h => strs_get r (i := i) h
theorem slen : ∀ {vs : List Value} {ss : List Str}, StrsAre vs ss → vs.length = ss.length
  | _, _, .nil => rfl
  | _, _, .cons _ _ r => congrArg (· + 1) (slen r)
/-- a new empty set -/
abbrev newO (w : World) : Obj := { cls := .type "set", dict := none, data := .set #[] 0 (.fresh 0 0 (!w.params.followText "set-order")) }
set_option maxHeartbeats 6400000 in
theorem call_list {l : Addr} {items : Array Value} (ss : List Str) {Q : Value → Shared → Prop} (hh : A.handled = none) (hl : s.heap.IsList l items) (hit : StrsAre items.toList ss) (hb : ss.length + 1 < scanBound)
    (h : ∀ (h' : Heap) (tk c : Nat), SetS w h' s.heap.objs.size (fun j => decide (j ∈ ss)) c → c ≤ ss.length → (∀ b o, s.heap.get? b = some o → h'.get? b = some o) → Q (.ref s.heap.objs.size) { s with heap := h', toks := tk }) :
    wpAny (model P w) A (call (.type "set") [.ref l]) Q E s := by
  have hisz : items.size = ss.length := by rw [← slen hit, Array.length_toList]
  obtain ⟨c, tl, hmro⟩ := F.called_set.mro
  have hmade := F.called_set.made
  have hsub := F.called_set.sub
  have h1 := F.called_set.notType
  have h2 := F.called_set.canCreate
  have hct := F.typeCall_set_1 (.ref l)
  refine wpAny_call (codeAny_of_tree ?_)
  show wpAny _ _ (callAny (.type "set") _) _ _ _
  refine wpAny_pure ⟨Code.quiet_builtin _ (by decide +kernel), codeAny_builtin F.entry_type_call ?_⟩
  rw [Around.under_plain (weight_type_call_type "set" [.ref l] []) rfl]
  repeat (any_goals (first | assumption | wp_step))

  refine codeAny_mono (code_set_led1 (.ref l) (E := E) (Q₁ := fun obj s₁ => obj = .ref s.heap.objs.size ∧ s₁ = { s with heap := s.heap.push (newO w) }) ⟨rfl, rfl⟩) fun r s₁ hr => ?_
  cases r with
  | error e => exact hr
  | ok fl =>
    cases fl with
    | ret obj =>
      obtain ⟨rfl, rfl⟩ := hr
      have hS : (s.heap.push (newO w)).get? s.heap.objs.size = some (newO w) := Heap.get?_push_size _ rfl
      have hT : Shared.TypeIs { s with heap := s.heap.push (newO w) } (.ref s.heap.objs.size) "set" := ⟨_, hS, rfl⟩
      have hli := F.called_set.init.lookup
      have hbi := F.called_set.init.bind (.ref s.heap.objs.size)
      repeat (any_goals (first | assumption | wp_step))

      refine codeAny_mono (codeAny_call_builtin (R := wants (fun r s₂ => r = .none ∧ ∃ h' tk c, s₂ = { s with heap := h', toks := tk } ∧ SetS w h' s.heap.objs.size (fun j => decide (j ∈ ss)) c ∧ c ≤ ss.length ∧
          (∀ b o, s.heap.get? b = some o → h'.get? b = some o)) E) F.called_set.init.plain F.entry_set_init (check_set_init_1 hT ?_)) fun r₂ s₂ hr₂ => ?_
      · obtain ⟨ol, hol, hcl, nl, hdl⟩ := hl
        obtain ⟨ocls, odict, odata, oslots⟩ := ol
        simp only at hcl hdl
        subst hcl; subst hdl
        have hol' : (s.heap.push (newO w)).get? l = some { cls := .type "list", dict := odict, data := .seq items nl, slots := oslots } := Heap.get?_push_of_some _ hol
        have hsls := F.sub_list_set
        have hslf := F.sub_list_frozenset
        have hne : (Value.type "list" == Value.type "dict") = false := by decide
        have hl1 : (s.heap.push (newO w)).IsList l items := ⟨_, hol', rfl, nl, rfl⟩
        unfold Builtin.«set.__init__» noKeywords Builtin.Frozenset.updateFrom
        generalize hPI : pyIter = PI
        wp_walk
        subst hPI

        refine wpAny_pyIter_list hl1 ?_
        refine wpAny_bind (wpAny_runValue ?_)
        have hlS : l < s.heap.objs.size := Heap.lt_size hol
        have hh3 : A.in1.in1.in1.handled = none := by simp [hh]
        have hneI : l ≠ (s.heap.push (newO w)).objs.size := by
          rw [Heap.size_push]; exact Nat.ne_of_lt (Nat.lt_succ_of_lt hlS)
        have hSf : s.heap.objs.size ∉ [(s.heap.push (newO w)).objs.size, l] := by
          rw [Heap.size_push]; simp only [List.mem_cons, List.mem_singleton, List.not_mem_nil, or_false, not_or]
          exact ⟨Nat.ne_of_lt (Nat.lt_succ_self _), Nat.ne_of_gt hlS⟩
        have hval : ∀ (i : Nat) (v : Value), items[i]? = some v → ∃ k t, ss[i]? = some k ∧ v = .str k t := fun i v hv => strs_get hit (by rw [Array.getElem?_toList]; exact hv)
        refine upd_loop ((Walks.list hh3 _ l hneI items).toS) s.heap.objs.size
          hSf ss hisz hb hval (items.size - 0) 0 _ (by omega) (Nat.zero_le _)
          ⟨⟨_, Heap.get?_push_size _ rfl, rfl, rfl⟩, (hl1.push _)⟩ ?hS0 ?hR
        case hS0 =>
          have hget : ((s.heap.push (newO w)).push { cls := .type "list_iterator", data := .fields #[.ref l, .int 0 0] }).get? s.heap.objs.size = some (newO w) := Heap.get?_push_of_some _ hS
          exact ⟨0, Nat.le_refl 0, (fresh w hget).congr fun j => by simp⟩
        case hR =>
          intro s' c' hm hc' hS'
          obtain ⟨h', g2, d', tk', os'⟩ := s'
          obtain rfl : g2 = s.gens := hm.gens
          obtain rfl : d' = s.drawn := hm.drawn
          obtain rfl : os' = s.os := hm.os
          show wpAny _ _ _ _ _ _
          refine wpAny_pure ?_
          show wpAny _ _ (ret Value.none) _ _ _
          rw [hisz] at hc'
          refine wpAny_pure ⟨rfl, h', tk', c', rfl, hS', hc', fun b o e => ?_⟩
          have hb0 : b < s.heap.objs.size := Heap.lt_size e
          have hb1 : b ≠ s.heap.objs.size := Nat.ne_of_lt hb0
          have hb2 : b ≠ (s.heap.push (newO w)).objs.size := by
            rw [Heap.size_push]; exact Nat.ne_of_lt (Nat.lt_succ_of_lt hb0)
          exact hm.heap b o (by simp only [List.mem_cons, List.mem_singleton, List.not_mem_nil, or_false, not_or]; exact ⟨hb1, hb2⟩) (Heap.get?_push_of_some _ (Heap.get?_push_of_some _ e))

      · cases r₂ with
        | error e => exact hr₂
        | ok fl₂ =>
          cases fl₂ with
          | ret r =>
            obtain ⟨rfl, h', tk, c', rfl, hS', hc', hk'⟩ := hr₂
            repeat (any_goals (first | assumption | wp_step))
            exact h _ _ _ hS' hc' hk'
          | _ => exact hr₂.elim
    | _ => exact hr.elim
/-! ### sorted(a set of texts) -/
theorem sorted_set {Q : Value → Shared → Prop} (R : SetS w s.heap a S n) (hh : A.handled = none) (hn4 : n ≤ 100000)
    (hQ : ∀ s' p (out : Array Value) (c : Nat) (ss : List Str), (∀ b o, s.heap.get? b = some o → s'.heap.get? b = some o) → s'.gens = s.gens → s'.os = s.os → s.heap.objs.size ≤ p →
      s'.heap.get? p = some (seqObj "list" out c) → StrsAre out.toList ss → SrtC.Asc ss → ss.Nodup → (∀ k, k ∈ ss ↔ S k = true) → ss.length = n → Q (.ref p) s') :
    wpAny (model P w) A (call (.builtin "sorted") [.ref a]) Q E s := by
  obtain ⟨o, es, ep, t, r⟩ := R
  refine Calls.call_function_entry kind_sorted plain_sorted entry_sorted (args_sorted1 _) ?_
  unfold Builtin.«sorted»
  refine wpAny_bind (m := checkCount "sorted" 1 1 _) (wpAny_pure ?_)
  refine wpAny_bind (collect_set (A := A.in1) hh ⟨o, r.get, r.ex.1, r.dat⟩ r.fit r.room r.ris r.led fun s1 vs k1 hz g1 o1 pm => ?_)
  have hvl : vs.length = n := by rw [pm.length_eq, List.length_map, Array.length_toList]; exact r.num
  have hI : StrsAre vs (vs.map SrtC.tv) := SrtC.strs_tv fun v hv => by
    obtain ⟨e, he, q⟩ := List.mem_map.mp (pm.mem_iff.mp hv)
    obtain ⟨k, tk, h1, _⟩ := r.ent e he
    exact ⟨k, tk, by rw [← q]; exact h1⟩
  have pk : (vs.map SrtC.tv).Perm (es.toList.map txt) := by
    have q := pm.map SrtC.tv
    rw [List.map_map] at q
    exact q
  have hvz : vs.length ≤ sizeLine := by rw [hvl, sizeLine_eq]; omega
  refine wpAny_bind (wpAny_newList ?_ hvz)
  have hoL : (s1.heap.push (seqObj "list" vs.toArray 0)).get? s1.heap.objs.size = some (seqObj "list" vs.toArray 0) := Heap.get?_push_size _ rfl
  refine wpAny_bind (wpAny_holding (wpAny_call_entry slot_list_sort ⟨_, hoL, rfl⟩ entry_list_sort (SrtO.list_sort_ord SrtC.swo_tv hoL hvz (fun h2 => SrtC.strs_sortable hI h2) fun out h1 h2 => ⟨.none, rfl, ?_⟩) (args_list_sort _)))
  obtain ⟨a1, a2, a3⟩ := SrtC.strs_out hI h1 h2
  obtain ⟨c, hc⟩ := sortedHeap_at (vs := vs) (out := out.toArray) hoL
  have pn : (out.map SrtC.tv).Perm (es.toList.map txt) := a2.trans pk
  refine wpAny_pure ⟨_, rfl, hQ _ s1.heap.objs.size out.toArray c (out.map SrtC.tv) (fun b u e => ?_) g1 o1 hz hc a1 a3 (pn.nodup_iff.mpr r.nd) (fun k => by rw [pn.mem_iff, ← r.mem k]) ?_⟩
  · have q := k1 b u e
    have hlt := Heap.lt_size q
    show (sortedHeap (s1.heap.push (seqObj "list" vs.toArray 0)) s1.heap.objs.size vs out.toArray).get? b = some u
    rw [sortedHeap_old (Nat.ne_of_lt hlt) (by rw [size_push']; exact Nat.lt_succ_of_lt hlt)]
    exact Heap.get?_push_of_some _ q
  · rw [pn.length_eq, List.length_map, Array.length_toList]; exact r.num
end
end SetX
namespace L2
open PySem PySem.Spec PyProof.Rows SetX
/-- the set of texts at a -/
def SetSO (w : World) (a : Addr) (S : Str → Bool) (n : Nat) : HO := .ext fun h => SetS w h a S n
theorem setSO_new {w : World} {P : Program} {H : Hp} {h : Heap} {a : Addr} {S : Str → Bool} {n : Nat} (R : SetS w h a S n) : ObjOk P w H h a (SetSO w a S n) :=
  ⟨R, let ⟨o, _, _, _, r⟩ := R; ⟨o, r.get⟩, fun _ _ p k => SetS.keep p k⟩
section
variable {X : Cx}
theorem setSO_get {pins : List (Addr × Obj)} {σ : St} {H : Hp} {s : Shared} {a : Addr} {S : Str → Bool} {n : Nat} (I : Inv X pins σ H s) (ha : H a = some (SetSO X.w a S n)) : SetS X.w s.heap a S n := (I.hok a _ ha).1
/-- set(xs), xs a list of texts -/
def rSetTx (K : PySem.W.Frag) (w : World) : List V → Hp → VK → Prop := fun vs H Q => ∃ (l : Addr) (ss : List Str), vs = [V.ref l] ∧ SqL K H l (ss.map V.str) ∧ ss.length ≤ 4000 ∧
  ∀ (p : Addr) (c : Nat), H p = none → c ≤ ss.length → Q (.ref p) (upd H p (SetSO w p (fun j => decide (j ∈ ss)) c))
theorem cr_setTx (hc : X.calm = true) : CallR X (.type "set") (rSetTx X.K X.w) := by
  intro pins s σ H vs us Q I r h
  obtain ⟨l, ss, rfl, hs, hn, q⟩ := h
  obtain ⟨its, rv, hl, hz⟩ := I.list hs
  rw [Vals.ref1 r]
  have hI := strs_of_vals' rv
  refine call_list ss (I.ok.hd hc) hl.isList (by simpa using hI) (by unfold scanBound; omega) fun h' tk c R hc' k => ?_
  have hp := I.hok.fresh (Nat.le_refl s.heap.objs.size)
  exact ⟨.ref _, upd H s.heap.objs.size (SetSO X.w s.heap.objs.size (fun j => decide (j ∈ ss)) c), I.laid (t' := tk) k (Nat.le_refl _) (setSO_new R), rfl, q _ c hp hc'⟩
/-- sorted(a set of texts) -/
def rSortedSetS (w : World) : List V → Hp → VK → Prop := fun vs H Q => ∃ (a : Addr) (S : Str → Bool) (n : Nat), vs = [V.ref a] ∧ H a = some (SetSO w a S n) ∧ n ≤ 100000 ∧
  ∀ (ss : List Str) (p : Addr), SrtC.Asc ss → ss.Nodup → (∀ k : Str, k ∈ ss ↔ S k = true) → ss.length = n → H p = none → Q (.ref p) (upd H p (.lst (ss.map V.str)))
theorem cr_sortedSetS (hc : X.calm = true) : CallR X (.builtin "sorted") (rSortedSetS X.w) := by
  intro pins s σ H vs us Q I r h
  obtain ⟨a, S, n, rfl, ha, hn, q⟩ := h
  rw [Vals.ref1 r]
  refine SetX.sorted_set (setSO_get I ha) (I.ok.hd hc) hn fun s' p out c ss k g o hp hg hi hs hnd hm hl => ?_
  have hlen : (ss.map V.str).length ≤ sizeLine := by rw [List.length_map, hl, sizeLine_eq]; omega
  have hpn : H p = none := I.hok.fresh hp
  have J : Inv X pins σ (upd H p (.lst (ss.map V.str))) { s with heap := s'.heap, gens := s'.gens, drawn := s'.drawn, toks := s'.toks } :=
    I.call (ch := []) (Un.laid k hp hpn) (I.hok.laid k hp ⟨hlen, out.toList, c, vals_of_strs hi, hg⟩) (by rw [g]; exact I.bare) (fun _ z => nomatch z)
  have e : s' = { s with heap := s'.heap, gens := s'.gens, drawn := s'.drawn, toks := s'.toks } := by
    cases s'
    cases s
    cases o
    rfl
  rw [e]
  exact ⟨.ref p, _, J, rfl, q ss p hs hnd hm hl hpn⟩
/-- len(a set of texts) -/
def rLenSetS (w : World) : List V → Hp → VK → Prop := fun vs H Q => ∃ (a : Addr) (S : Str → Bool) (n : Nat), vs = [V.ref a] ∧ H a = some (SetSO w a S n) ∧ n ≤ 100000 ∧
  ∀ ss : List Str, ss.Nodup → (∀ k : Str, k ∈ ss ↔ S k = true) → ss.length = n → Q (.int n) H
theorem cr_lenSetS : CallR X (.builtin "len") (rLenSetS X.w) := by
  intro pins s σ H vs us Q I r h
  obtain ⟨a, S, n, rfl, ha, hn, q⟩ := h
  rw [Vals.ref1 r]
  obtain ⟨o, es, ep, t, R⟩ := setSO_get I ha
  refine call_len_set R.get R.ex R.dat R.fit (by rw [R.num] <;> omega) ⟨.int n, H, I.tok _, ⟨_, by rw [R.num]⟩, q (es.toList.map txt) R.nd (fun k => (R.mem k).symm) ?_⟩
  rw [List.length_map, Array.length_toList]
  exact R.num
/-- x in a set of texts -/
def rSInS (w : World) (neg : Bool) : V → V → Hp → VK → Prop := fun x y H Q => ∃ (k : Str) (a : Addr) (S : Str → Bool) (n : Nat), x = V.str k ∧ y = V.ref a ∧ H a = some (SetSO w a S n) ∧ Q (.bl (if neg then !S k else S k)) H
theorem or_sinS : OpR X (compareOp .In) (rSInS X.w false) := by
  intro pins s σ H x y v u Q I rx ry h
  obtain ⟨k, a, S, n, rfl, rfl, ha, q⟩ := h
  cases ry
  obtain ⟨t, rfl⟩ := rx
  exact wpAny_inSet_of (str_is (P := X.prog) (w := X.w) k t) rfl (setSO_get I ha).of ⟨.bl (S k), H, I.tok _, rfl, q⟩
end
end L2

set_option Elab.async false
set_option linter.all false
set_option maxRecDepth 100000
set_option maxHeartbeats 4000000
/-! sorted(set(texts)), len(set(texts)): the set itself is not told -/
namespace L2
open PySem PySem.Spec PyProof.Rows SetX
theorem same_new {H : Hp} {q : Addr} (o : HO) (h : H q = none) : Same H (upd H q o) := fun c u e => by
  rw [upd_ne (ne_of_none e h)]; exact e
/-- each of the texts once -/
def Once (ss ys : List Str) : Prop := ys.Nodup ∧ ∀ k, k ∈ ys ↔ k ∈ ss
def tSortedSet (K : PySem.W.Frag) (t : TA) : TE := fun σ H Q => t σ H fun vs H1 => ∃ (l : Addr) (ss : List Str), vs = [V.ref l] ∧ SqL K H1 l (ss.map V.str) ∧ ss.length ≤ 4000 ∧
  ∀ H2 L (ys : List Str), Same H1 H2 → H1 L = none → H2 L = some (.lst (ys.map V.str)) → SrtC.Asc ys → Once ss ys → ys.length ≤ ss.length → Q (.ref L) H2
def tLenSetT (K : PySem.W.Frag) (t : TA) : TE := fun σ H Q => t σ H fun vs H1 => ∃ (l : Addr) (ss : List Str), vs = [V.ref l] ∧ SqL K H1 l (ss.map V.str) ∧ ss.length ≤ 4000 ∧
  ∀ H2 (ys : List Str), Same H1 H2 → Once ss ys → ys.length ≤ ss.length → Q (.int ys.length) H2
section
variable {X : Cx} {e : Expr} {t : TA} {p p2 pos pos2 : Pos}
theorem pe_sortedSet (hc : X.calm = true) (hA : PA X [e] t) (hg : Gl X "sorted") (hm : X.mg "sorted" = none) (hg2 : Gl X "set") (hm2 : X.mg "set" = none)
    (he : starEach [e] X.env = (false, eval e X.env) :: starEach [] X.env := by rfl) :
    PE X (.Call (.Name "sorted" p) [.Call (.Name "set" p2) [e] [] pos2] [] pos) (tSortedSet X.K t) := by
  refine ⟨fun pins s σ H Q I h => ?_⟩
  refine Call_ (ld_blt I hg hm (show bootBuiltins "sorted" = some (.builtin "sorted") by decide +kernel) ?_)
  refine PyProof.Rows.callWith_builtin1 (PyProof.Rows.args_cons ?_ rfl) rfl rfl
  refine Call_ (ld_blt I hg2 hm2 PyProof.Rows.boot_set ?_)
  refine PyProof.Rows.callWith_type1 (thn (hA.run pos2 pins s σ H _ I h) fun us s1 ⟨vs, H1, I1, r1, l, ss, ev, hq, h1, q1⟩ => ?_) he rfl
  subst ev
  refine thn (cr_setTx hc pins s1 σ H1 _ _ (fun v H2 => ∃ Sa c, v = .ref Sa ∧ H1 Sa = none ∧ c ≤ ss.length ∧ H2 = upd H1 Sa (SetSO X.w Sa (fun j => decide (j ∈ ss)) c)) I1 r1 ⟨l, ss, rfl, hq, h1, fun Sa c hSa hcs => ⟨Sa, c, rfl, hSa, hcs, rfl⟩⟩) fun u s2 ⟨v, H2, I2, r2, Sa, c, ev, hSa, hcs, eH⟩ => ?_
  subst ev
  subst eH
  obtain rfl : u = Value.ref Sa := r2
  refine PyProof.Rows.args_nil ?_
  refine cr_sortedSetS hc pins s2 σ _ [V.ref Sa] [Value.ref Sa] Q I2 (.cons rfl .nil) ⟨Sa, _, c, rfl, upd_same, by omega, fun ys L hA hnd hm hl hL => q1 _ L ys ((same_new _ hSa).trans (same_new _ hL)) ?_ upd_same hA ⟨hnd, fun k => by rw [hm k, decide_eq_true_eq]⟩ (by omega)⟩
  exact (same_new _ hSa).free hL
theorem pe_lenSetT (hc : X.calm = true) (hA : PA X [e] t) (hg : Gl X "len") (hm : X.mg "len" = none) (hg2 : Gl X "set") (hm2 : X.mg "set" = none)
    (he : starEach [e] X.env = (false, eval e X.env) :: starEach [] X.env := by rfl) :
    PE X (.Call (.Name "len" p) [.Call (.Name "set" p2) [e] [] pos2] [] pos) (tLenSetT X.K t) := by
  refine ⟨fun pins s σ H Q I h => ?_⟩
  refine Call_ (ld_blt I hg hm PySem.boot_len ?_)
  refine PyProof.Rows.callWith_builtin1 (PyProof.Rows.args_cons ?_ rfl) rfl rfl
  refine Call_ (ld_blt I hg2 hm2 PyProof.Rows.boot_set ?_)
  refine PyProof.Rows.callWith_type1 (thn (hA.run pos2 pins s σ H _ I h) fun us s1 ⟨vs, H1, I1, r1, l, ss, ev, hq, h1, q1⟩ => ?_) he rfl
  subst ev
  refine thn (cr_setTx hc pins s1 σ H1 _ _ (fun v H2 => ∃ Sa c, v = .ref Sa ∧ H1 Sa = none ∧ c ≤ ss.length ∧ H2 = upd H1 Sa (SetSO X.w Sa (fun j => decide (j ∈ ss)) c)) I1 r1 ⟨l, ss, rfl, hq, h1, fun Sa c hSa hcs => ⟨Sa, c, rfl, hSa, hcs, rfl⟩⟩) fun u s2 ⟨v, H2, I2, r2, Sa, c, ev, hSa, hcs, eH⟩ => ?_
  subst ev
  subst eH
  obtain rfl : u = Value.ref Sa := r2
  refine PyProof.Rows.args_nil ?_
  exact cr_lenSetS pins s2 σ _ [V.ref Sa] [Value.ref Sa] Q I2 (.cons rfl .nil) ⟨Sa, _, c, rfl, upd_same, by omega, fun ys hnd hm hl => by
    rw [← hl]
    exact q1 _ ys (same_new _ hSa) ⟨hnd, fun k => by rw [hm k, decide_eq_true_eq]⟩ (by omega)⟩
end
end L2

set_option Elab.async false
set_option linter.all false
set_option maxRecDepth 100000
set_option maxHeartbeats 4000000
/-! texts as lists of signs: shorter first, then ascending; what can be written in words -/
namespace TxO
open PySem L2 SrtC
abbrev un (x : Str) : List Nat := x.cps.toList
theorem S_un (x : Str) : SX.S (un x) = x := by
  cases x
  simp [SX.S, un]
theorem un_S (u : List Nat) : un (SX.S u) = u := by simp [SX.S, un]
theorem map_un (ys : List Str) : (ys.map un).map SX.S = ys := by
  rw [List.map_map]
  conv => rhs; rw [← List.map_id ys]
  exact List.map_congr_left fun x _ => S_un x
theorem map_S (us : List (List Nat)) : (us.map SX.S).map un = us := by
  rw [List.map_map]
  conv => rhs; rw [← List.map_id us]
  exact List.map_congr_left fun x _ => un_S x
theorem S_inj' {u v : List Nat} (h : SX.S u = SX.S v) : u = v := by
  have := congrArg un h
  rwa [un_S, un_S] at this
theorem sLt_S (u v : List Nat) : sLt (SX.S u) (SX.S v) = decide (u < v) := by simp [sLt, SX.S]
theorem len_S (u : List Nat) : (SX.S u).length = u.length := SX.S_len u
/-! ### shorter first, then ascending -/
def bef (u v : List Nat) : Bool := decide (u.length < v.length) || (decide (u.length = v.length) && decide (u < v))
theorem bef_tri {u v : List Nat} (h1 : bef u v = false) (h2 : bef v u = false) : u = v := by
  unfold bef at h1 h2
  simp only [Bool.or_eq_false_iff, Bool.and_eq_false_iff, decide_eq_false_iff_not] at h1 h2
  have e : u.length = v.length := by omega
  have a : ¬ u < v := by rcases h1.2 with h | h; exact absurd e h; exact h
  have b : ¬ v < u := by rcases h2.2 with h | h; exact absurd e.symm h; exact h
  exact List.le_antisymm (List.not_lt.mp b) (List.not_lt.mp a)
abbrev SF (ys : List (List Nat)) : Prop := ys.Pairwise fun u v => bef v u = false
theorem sf_uniq {ys zs : List (List Nat)} (h1 : SF ys) (h2 : SF zs) (p : ys.Perm zs) : ys = zs :=
  List.Perm.eq_of_pairwise (fun a b _ _ h h' => bef_tri h' h) h1 h2 p
theorem sf_mem {ys zs : List (List Nat)} (h1 : SF ys) (h2 : SF zs) (n1 : ys.Nodup) (n2 : zs.Nodup) (m : ∀ u, u ∈ ys ↔ u ∈ zs) : ys = zs :=
  sf_uniq h1 h2 ((List.perm_ext_iff_of_nodup n1 n2).mpr m)
/-- ascending -/
abbrev As (ys : List (List Nat)) : Prop := ys.Pairwise fun u v => ¬ v < u
theorem as_of {ys : List Str} (h : Asc ys) : As (ys.map un) := by
  refine List.pairwise_map.mpr (h.imp fun {x y} q => ?_)
  have := of_decide_eq_false q
  exact this
theorem as_uniq {ys zs : List (List Nat)} (h1 : As ys) (h2 : As zs) (p : ys.Perm zs) : ys = zs :=
  List.Perm.eq_of_pairwise (fun a b _ _ h h' => List.le_antisymm (List.not_lt.mp h) (List.not_lt.mp h')) h1 h2 p
theorem sf_of {ys zs : List Str} (h1 : SrtO.Srtd ltL ys) (h2 : SrtO.Stb ltL ys zs) (h3 : Asc zs) : SF (ys.map un) := by
  rw [SF, List.pairwise_map, List.pairwise_iff_forall_sublist]
  intro x y hxy
  have a : ltL y x = false := (List.pairwise_iff_forall_sublist.mp h1) hxy
  have na : ¬ ((y.length : Int) < x.length) := of_decide_eq_false a
  show (decide ((un y).length < (un x).length) || (decide ((un y).length = (un x).length) && decide (un y < un x))) = false
  have ly : (un y).length = y.length := by simp [un, Str.length]
  have lx : (un x).length = x.length := by simp [un, Str.length]
  rw [ly, lx, decide_eq_false (show ¬ y.length < x.length by omega), Bool.false_or]
  by_cases e : y.length = x.length
  · have ex : SrtO.eqv ltL x x = true := by simp [SrtO.eqv, ltL]
    have ey : SrtO.eqv ltL x y = true := by simp [SrtO.eqv, ltL, e]
    have s : [x, y].Sublist (ys.filter (SrtO.eqv ltL x)) := by
      have := hxy.filter (SrtO.eqv ltL x)
      simpa [ex, ey] using this
    rw [h2.cls x] at s
    have q : sLt y x = false := (List.pairwise_iff_forall_sublist.mp h3) (s.trans List.filter_sublist)
    have := of_decide_eq_false q
    rw [decide_eq_false this, Bool.and_false]
  · rw [decide_eq_false e, Bool.false_and]
/-! ### written in words -/
def Wr (ws : List (List Nat)) (u : List Nat) : Prop := ∃ ps : List (List Nat), (∀ p ∈ ps, p ∈ ws) ∧ ps.flatten = u
theorem Wr.nil (ws : List (List Nat)) : Wr ws [] := ⟨[], by simp, rfl⟩
theorem Wr.snoc {ws : List (List Nat)} {u w : List Nat} (h : Wr ws u) (hw : w ∈ ws) : Wr ws (u ++ w) := by
  obtain ⟨ps, h1, h2⟩ := h
  refine ⟨ps ++ [w], fun p hp => ?_, by simp [h2]⟩
  rcases List.mem_append.mp hp with h | h
  · exact h1 p h
  · rw [List.mem_singleton.mp h]; exact hw
theorem Wr.last {ws : List (List Nat)} {u : List Nat} (h : Wr ws u) (hu : u ≠ []) (hne : ∀ w ∈ ws, w ≠ []) : ∃ v w, w ∈ ws ∧ w ≠ [] ∧ u = v ++ w ∧ Wr ws v := by
  obtain ⟨ps, h1, rfl⟩ := h
  cases hp : ps.reverse with
  | nil =>
    have : ps = [] := by simpa using hp
    subst this
    exact absurd rfl hu
  | cons w r =>
    have e : ps = r.reverse ++ [w] := by
      have := congrArg List.reverse hp
      simpa using this
    subst e
    have hw : w ∈ ws := h1 w (by simp)
    exact ⟨r.reverse.flatten, w, hw, hne w hw, by simp, r.reverse, fun p hp => h1 p (List.mem_append_left _ hp), rfl⟩
theorem Wr.mono {ws vs : List (List Nat)} {u : List Nat} (h : Wr ws u) (m : ∀ w ∈ ws, w ∈ vs) : Wr vs u := by
  obtain ⟨ps, h1, h2⟩ := h
  exact ⟨ps, fun p hp => m p (h1 p hp), h2⟩
theorem Wr.cons {ws : List (List Nat)} {u w : List Nat} (h : Wr ws u) (hw : w ∈ ws) : Wr ws (w ++ u) := by
  obtain ⟨ps, h1, h2⟩ := h
  refine ⟨w :: ps, fun p hp => ?_, by simp [h2]⟩
  rcases List.mem_cons.mp hp with h | h
  · rw [h]; exact hw
  · exact h1 p h
theorem Wr.first {ws : List (List Nat)} {u : List Nat} (h : Wr ws u) (hu : u ≠ []) (hne : ∀ w ∈ ws, w ≠ []) : ∃ v w, w ∈ ws ∧ w ≠ [] ∧ u = w ++ v ∧ Wr ws v := by
  obtain ⟨ps, h1, rfl⟩ := h
  cases ps with
  | nil => exact absurd rfl hu
  | cons w r => exact ⟨r.flatten, w, h1 w (by simp), hne w (h1 w (by simp)), by simp, r, fun p hp => h1 p (by simp [hp]), rfl⟩
/-- the shorter words -/
abbrev shorter (ws : List (List Nat)) (u : List Nat) : List (List Nat) := ws.filter fun p => decide (p.length < u.length)
/-- u is written in two or more words -/
abbrev Put (ws : List (List Nat)) (u : List Nat) : Prop := Wr (shorter ws u) u
theorem flat_part {ps : List (List Nat)} {p : List Nat} (hne : ∀ q ∈ ps, q ≠ []) (h : p ∈ ps) (hl : ps.flatten.length ≤ p.length) : ps = [p] := by
  obtain ⟨a, b, rfl⟩ := List.append_of_mem h
  rw [List.flatten_append, List.flatten_cons, List.length_append, List.length_append] at hl
  have z : ∀ l : List (List Nat), (∀ q ∈ l, q ≠ []) → l.flatten.length = 0 → l = [] := fun l hn h0 => by
    cases l with
    | nil => rfl
    | cons x r =>
      have : x ≠ [] := hn x (by simp)
      have : x.length ≠ 0 := fun e => this (List.eq_nil_of_length_eq_zero e)
      rw [List.flatten_cons, List.length_append] at h0
      omega
  have ea := z a (fun q hq => hne q (by simp [hq])) (by omega)
  have eb := z b (fun q hq => hne q (by simp [hq])) (by omega)
  rw [ea, eb]
  rfl
/-- to be written in other words, and in shorter ones, is the same -/
theorem wr_other {ws : List (List Nat)} (hne : ∀ w ∈ ws, w ≠ []) (u : List Nat) : Wr (ws.filter fun p => decide (p ≠ u)) u ↔ Put ws u := by
  constructor
  · rintro ⟨ps, h1, h2⟩
    refine ⟨ps, fun p hp => ?_, h2⟩
    obtain ⟨a, b⟩ := List.mem_filter.mp (h1 p hp)
    refine List.mem_filter.mpr ⟨a, decide_eq_true ?_⟩
    have hpn : ∀ q ∈ ps, q ≠ [] := fun q hq => hne q (List.mem_filter.mp (h1 q hq)).1
    by_cases c : p.length < u.length
    · exact c
    · exfalso
      have e := flat_part hpn hp (by rw [h2]; omega)
      rw [e] at h2
      have : p = u := by simpa using h2
      exact (of_decide_eq_true b) this
  · rintro ⟨ps, h1, h2⟩
    refine ⟨ps, fun p hp => ?_, h2⟩
    obtain ⟨a, b⟩ := List.mem_filter.mp (h1 p hp)
    refine List.mem_filter.mpr ⟨a, decide_eq_true fun e => ?_⟩
    have := of_decide_eq_true b
    rw [e] at this
    omega
theorem put_mono {ws vs : List (List Nat)} {u : List Nat} (m : ∀ w ∈ ws, w ∈ vs) (h : Put ws u) : Put vs u :=
  Wr.mono h fun w hw => List.mem_filter.mpr ⟨m w (List.mem_filter.mp hw).1, (List.mem_filter.mp hw).2⟩
/-- of the shortest words none is written in others -/
theorem base_some {ws : List (List Nat)} (hne : ∀ w ∈ ws, w ≠ []) (h0 : ws ≠ []) : ∃ u ∈ ws, ¬ Put ws u := by
  have key : ∀ (n : Nat), ∀ w ∈ ws, w.length ≤ n → ∃ u ∈ ws, ∀ p ∈ ws, u.length ≤ p.length := by
    intro n
    induction n with
    | zero =>
      intro w hw hl
      exact ⟨w, hw, fun p hp => by omega⟩
    | succ n ih =>
      intro w hw hl
      by_cases c : ∃ p ∈ ws, p.length < w.length
      · obtain ⟨p, hp, hpl⟩ := c
        exact ih p hp (by omega)
      · exact ⟨w, hw, fun p hp => Nat.le_of_not_lt fun q => c ⟨p, hp, q⟩⟩
  obtain ⟨w, hw⟩ := List.exists_mem_of_ne_nil ws h0
  obtain ⟨u, hu, hm⟩ := key w.length w hw (Nat.le_refl _)
  refine ⟨u, hu, fun h => ?_⟩
  obtain ⟨v, p, hp, hpn, e, _⟩ := Wr.first h (hne u hu) fun q hq => hne q (List.mem_filter.mp hq).1
  obtain ⟨a, b⟩ := List.mem_filter.mp hp
  have := of_decide_eq_true b
  have := hm p a
  omega
theorem nodup_un {ss : List Str} (h : ss.Nodup) : (ss.map un).Nodup :=
  List.pairwise_map.mpr (h.imp fun {x y} n e => n (by rw [← S_un x, ← S_un y, e]))
theorem mem_un {ss : List Str} {ws : List (List Nat)} (h : ∀ k, k ∈ ss ↔ k ∈ ws.map SX.S) (u : List Nat) : u ∈ ss.map un ↔ u ∈ ws := by
  constructor
  · intro q
    obtain ⟨x, hx, rfl⟩ := List.mem_map.mp q
    obtain ⟨v, hv, e⟩ := List.mem_map.mp ((h x).mp hx)
    rw [← e, un_S]
    exact hv
  · intro q
    exact List.mem_map.mpr ⟨SX.S u, (h _).mpr (List.mem_map.mpr ⟨u, q, rfl⟩), un_S u⟩
theorem once_un {ss : List Str} {ws : List (List Nat)} (h : Once (ws.map SX.S) ss) : (ss.map un).Nodup ∧ ∀ u, u ∈ ss.map un ↔ u ∈ ws := ⟨nodup_un h.1, mem_un h.2⟩
/-- what base tells -/
def IsBase (ws ys : List (List Nat)) : Prop := SF ys ∧ ys.Nodup ∧ ∀ u, u ∈ ys ↔ u ∈ ws ∧ ¬ Put ws u
/-! ### beginnings -/
theorem starts3 {x w : List Nat} {i : Nat} (hi : i ≤ x.length) : Txt.startswith3 (SX.S x) (SX.S w) (i : Int) = decide (w <+: x.drop i) := by
  have ef : fromIndex (SX.S x).length (i : Int) = i := by
    unfold fromIndex
    rw [if_neg (by omega)]
    omega
  unfold Txt.startswith3
  rw [ef, PySem.StrLaws.subAt_eq, SX.S_len, SX.S_len]
  show (decide (i + w.length ≤ x.length) && ((x.drop i).take w.length == w)) = _
  by_cases c : w <+: x.drop i
  · have l := c.length_le
    rw [List.length_drop] at l
    have e := (List.prefix_iff_eq_take.mp c).symm
    rw [decide_eq_true c, e]
    by_cases z : w.length = 0
    · simp; omega
    · simp; omega
  · rw [decide_eq_false c]
    have : ¬ ((x.drop i).take w.length = w) := fun e => c (List.prefix_iff_eq_take.mpr e.symm)
    simp [this]
theorem cut_mid (x : List Nat) {i k : Nat} (hi : i ≤ x.length) : cutS (SX.S x) (some (i : Int)) (some ((i + k : Nat) : Int)) = SX.S ((x.drop i).take k) := by
  unfold cutS
  rw [HT.sIx_nat, HT.sIx_nat, SX.S_len]
  show SX.S ((x.drop (min i x.length)).take (min (i + k) x.length - min i x.length)) = _
  congr 1
  rw [Nat.min_eq_left hi]
  by_cases c : i + k ≤ x.length
  · rw [Nat.min_eq_left c, show i + k - i = k by omega]
  · rw [Nat.min_eq_right (by omega), List.take_of_length_le (by rw [List.length_drop]; omega), List.take_of_length_le (by rw [List.length_drop]; omega)]
theorem cut_to (x : List Nat) (k : Nat) : cutS (SX.S x) none (some (k : Int)) = SX.S (x.take k) := by
  unfold cutS
  rw [HT.sIx_nat, HT.sIx_none, SX.S_len]
  show SX.S ((x.drop 0).take (min k x.length - 0)) = _
  rw [List.drop_zero, Nat.sub_zero, ← List.take_take, List.take_length]
theorem cut_from (x : List Nat) (k : Nat) : cutS (SX.S x) (some (k : Int)) none = SX.S (x.drop k) := by
  unfold cutS
  rw [HT.sIx_nat, HT.sIx_none, SX.S_len]
  show SX.S ((x.drop (min k x.length)).take (x.length - min k x.length)) = _
  by_cases c : k ≤ x.length
  · rw [Nat.min_eq_left c, List.take_of_length_le (by rw [List.length_drop]; omega)]
  · rw [Nat.min_eq_right (by omega), List.drop_eq_nil_of_le (by omega), List.drop_eq_nil_of_le (by omega), List.take_nil]
theorem pre_take {w x : List Nat} : x.take w.length = w ↔ w <+: x := by
  rw [List.prefix_iff_eq_take]
  exact eq_comm
end TxO

set_option Elab.async false
set_option linter.all false
set_option maxRecDepth 100000
set_option maxHeartbeats 4000000
namespace J
open PySem L2
def topS (i : Nat) : Stmt := PySem.Challenge.pw_onewayread_k32_same_texts_by_all_texts.main.body.getD i (.Pass ⟨0, 0, 0, 0⟩)
abbrev s_InvalidLoom_init : Stmt := inClass (topS 2) 0
abbrev N_InvalidLoom_init : List Str := ["self", "part", "at"]
abbrev P_InvalidLoom_init : List Str := ["self", "part", "at"]
theorem sc_InvalidLoom_init : FnScope N_InvalidLoom_init P_InvalidLoom_init (defScope s_InvalidLoom_init) := ⟨rfl, rfl, rfl, by decide +kernel, rfl, by decide +kernel, by decide +kernel⟩
abbrev s_is_number : Stmt := topS 9
abbrev N_is_number : List Str := ["thing", "low", "high"]
abbrev P_is_number : List Str := ["thing", "low", "high"]
theorem sc_is_number : FnScope N_is_number P_is_number (defScope s_is_number) := ⟨rfl, rfl, rfl, by decide +kernel, rfl, by decide +kernel, by decide +kernel⟩
abbrev s_is_sequence : Stmt := topS 10
abbrev N_is_sequence : List Str := ["thing", "fewest", "most"]
abbrev P_is_sequence : List Str := ["thing", "fewest", "most"]
theorem sc_is_sequence : FnScope N_is_sequence P_is_sequence (defScope s_is_sequence) := ⟨rfl, rfl, rfl, by decide +kernel, rfl, by decide +kernel, by decide +kernel⟩
abbrev s_is_signs : Stmt := topS 11
abbrev N_is_signs : List Str := ["thing", "letters", "sign", "one", "other"]
abbrev P_is_signs : List Str := ["thing"]
theorem sc_is_signs : FnScope N_is_signs P_is_signs (defScope s_is_signs) := ⟨rfl, rfl, rfl, by decide +kernel, rfl, by decide +kernel, by decide +kernel⟩
abbrev s_is_string_over : Stmt := topS 12
abbrev N_is_string_over : List Str := ["signs", "thing", "fewest", "most", "sign"]
abbrev P_is_string_over : List Str := ["signs", "thing", "fewest", "most"]
theorem sc_is_string_over : FnScope N_is_string_over P_is_string_over (defScope s_is_string_over) := ⟨rfl, rfl, rfl, by decide +kernel, rfl, by decide +kernel, by decide +kernel⟩
abbrev s_is_word : Stmt := topS 13
abbrev N_is_word : List Str := ["signs", "thing"]
abbrev P_is_word : List Str := ["signs", "thing"]
theorem sc_is_word : FnScope N_is_word P_is_word (defScope s_is_word) := ⟨rfl, rfl, rfl, by decide +kernel, rfl, by decide +kernel, by decide +kernel⟩
abbrev s_check_signs : Stmt := topS 14
abbrev N_check_signs : List Str := ["signs"]
abbrev P_check_signs : List Str := ["signs"]
theorem sc_check_signs : FnScope N_check_signs P_check_signs (defScope s_check_signs) := ⟨rfl, rfl, rfl, by decide +kernel, rfl, by decide +kernel, by decide +kernel⟩
abbrev s_is_arc : Stmt := topS 17
abbrev N_is_arc : List Str := ["signs", "thing", "state", "word", "goal"]
abbrev P_is_arc : List Str := ["signs", "thing"]
theorem sc_is_arc : FnScope N_is_arc P_is_arc (defScope s_is_arc) := ⟨rfl, rfl, rfl, by decide +kernel, rfl, by decide +kernel, by decide +kernel⟩
abbrev s_Loom_init : Stmt := inClass (topS 18) 0
abbrev N_Loom_init : List Str := ["self", "signs", "arcs", "at", "arc"]
abbrev P_Loom_init : List Str := ["self", "signs", "arcs"]
theorem sc_Loom_init : FnScope N_Loom_init P_Loom_init (defScope s_Loom_init) := ⟨rfl, rfl, rfl, by decide +kernel, rfl, by decide +kernel, by decide +kernel⟩
abbrev s_Loom_eq : Stmt := inClass (topS 18) 1
abbrev N_Loom_eq : List Str := ["self", "other"]
abbrev P_Loom_eq : List Str := ["self", "other"]
theorem sc_Loom_eq : FnScope N_Loom_eq P_Loom_eq (defScope s_Loom_eq) := ⟨rfl, rfl, rfl, by decide +kernel, rfl, by decide +kernel, by decide +kernel⟩
abbrev s_shorter_first : Stmt := topS 20
abbrev N_shorter_first : List Str := ["texts"]
abbrev P_shorter_first : List Str := ["texts"]
theorem sc_shorter_first : FnScope N_shorter_first P_shorter_first (defScope s_shorter_first) := ⟨rfl, rfl, rfl, by decide +kernel, rfl, by decide +kernel, by decide +kernel⟩
abbrev s_book : Stmt := topS 22
abbrev N_book : List Str := ["signs", "words", "word"]
abbrev P_book : List Str := ["signs", "words"]
theorem sc_book : FnScope N_book P_book (defScope s_book) := ⟨rfl, rfl, rfl, by decide +kernel, rfl, by decide +kernel, by decide +kernel⟩
abbrev s_is_book : Stmt := topS 23
abbrev N_is_book : List Str := ["thing", "arc"]
abbrev P_is_book : List Str := ["thing"]
theorem sc_is_book : FnScope N_is_book P_is_book (defScope s_is_book) := ⟨rfl, rfl, rfl, by decide +kernel, rfl, by decide +kernel, by decide +kernel⟩
abbrev s_check_book : Stmt := topS 24
abbrev N_check_book : List Str := ["a_book"]
abbrev P_check_book : List Str := ["a_book"]
theorem sc_check_book : FnScope N_check_book P_check_book (defScope s_check_book) := ⟨rfl, rfl, rfl, by decide +kernel, rfl, by decide +kernel, by decide +kernel⟩
abbrev s_words : Stmt := topS 25
abbrev N_words : List Str := ["a_book", "arc"]
abbrev P_words : List Str := ["a_book"]
theorem sc_words : FnScope N_words P_words (defScope s_words) := ⟨rfl, rfl, rfl, by decide +kernel, rfl, by decide +kernel, by decide +kernel⟩
abbrev s_check_alike : Stmt := topS 27
abbrev N_check_alike : List Str := ["one", "other"]
abbrev P_check_alike : List Str := ["one", "other"]
theorem sc_check_alike : FnScope N_check_alike P_check_alike (defScope s_check_alike) := ⟨rfl, rfl, rfl, by decide +kernel, rfl, by decide +kernel, by decide +kernel⟩
abbrev s_is_written : Stmt := topS 28
abbrev N_is_written : List Str := ["told", "text", "reached", "at", "word"]
abbrev P_is_written : List Str := ["told", "text"]
theorem sc_is_written : FnScope N_is_written P_is_written (defScope s_is_written) := ⟨rfl, rfl, rfl, by decide +kernel, rfl, by decide +kernel, by decide +kernel⟩
abbrev s_base : Stmt := topS 29
abbrev N_base : List Str := ["a_book", "told", "found", "word", "shorter", "part"]
abbrev P_base : List Str := ["a_book"]
theorem sc_base : FnScope N_base P_base (defScope s_base) := ⟨rfl, rfl, rfl, by decide +kernel, rfl, by decide +kernel, by decide +kernel⟩
abbrev s_same_texts : Stmt := topS 30
abbrev N_same_texts : List Str := ["one", "other", "told", "beside", "found", "word"]
abbrev P_same_texts : List Str := ["one", "other"]
theorem sc_same_texts : FnScope N_same_texts P_same_texts (defScope s_same_texts) := ⟨rfl, rfl, rfl, by decide +kernel, rfl, by decide +kernel, by decide +kernel⟩
abbrev s_l_take : Stmt := topS 32
abbrev N_l_take : List Str := ["_law_script", "_law_pool", "_law_many", "_law_cell", "_law_digit", "_law_seed"]
abbrev P_l_take : List Str := ["_law_script", "_law_pool", "_law_many"]
theorem sc_l_take : FnScope N_l_take P_l_take (defScope s_l_take) := ⟨rfl, rfl, rfl, by decide +kernel, rfl, by decide +kernel, by decide +kernel⟩
abbrev s_l_like : Stmt := topS 33
abbrev N_l_like : List Str := ["_law_told", "_law_due", "_law_k", "_law_key"]
abbrev P_l_like : List Str := ["_law_told", "_law_due"]
theorem sc_l_like : FnScope N_l_like P_l_like (defScope s_l_like) := ⟨rfl, rfl, rfl, by decide +kernel, rfl, by decide +kernel, by decide +kernel⟩
abbrev s_l_word : Stmt := topS 34
abbrev N_l_word : List Str := ["_law_script", "_law_pool", "_law_signs", "_law_most", "_law_k"]
abbrev P_l_word : List Str := ["_law_script", "_law_pool", "_law_signs", "_law_most"]
theorem sc_l_word : FnScope N_l_word P_l_word (defScope s_l_word) := ⟨rfl, rfl, rfl, by decide +kernel, rfl, by decide +kernel, by decide +kernel⟩
abbrev s_l_words : Stmt := topS 35
abbrev N_l_words : List Str := ["_law_script", "_law_pool", "_law_signs", "_law_many", "_law_most", "_law_k"]
abbrev P_l_words : List Str := ["_law_script", "_law_pool", "_law_signs", "_law_many", "_law_most"]
theorem sc_l_words : FnScope N_l_words P_l_words (defScope s_l_words) := ⟨rfl, rfl, rfl, by decide +kernel, rfl, by decide +kernel, by decide +kernel⟩
abbrev s_l_shuffled : Stmt := topS 36
abbrev N_l_shuffled : List Str := ["_law_script", "_law_pool", "_law_items", "_law_rest", "_law_found", "_law_k"]
abbrev P_l_shuffled : List Str := ["_law_script", "_law_pool", "_law_items"]
theorem sc_l_shuffled : FnScope N_l_shuffled P_l_shuffled (defScope s_l_shuffled) := ⟨rfl, rfl, rfl, by decide +kernel, rfl, by decide +kernel, by decide +kernel⟩
abbrev s_l_texts : Stmt := topS 37
abbrev N_l_texts : List Str := ["_law_signs", "_law_longest", "_law_found", "_law_layer", "_law_k", "_law_longer", "_law_text", "_law_sign"]
abbrev P_l_texts : List Str := ["_law_signs", "_law_longest"]
theorem sc_l_texts : FnScope N_l_texts P_l_texts (defScope s_l_texts) := ⟨rfl, rfl, rfl, by decide +kernel, rfl, by decide +kernel, by decide +kernel⟩
abbrev s_l_count : Stmt := topS 38
abbrev N_l_count : List Str := ["_law_words_here", "_law_text", "_law_ways", "_law_back", "_law_at", "_law_word_here"]
abbrev P_l_count : List Str := ["_law_words_here", "_law_text"]
theorem sc_l_count : FnScope N_l_count P_l_count (defScope s_l_count) := ⟨rfl, rfl, rfl, by decide +kernel, rfl, by decide +kernel, by decide +kernel⟩
abbrev s_l_beside : Stmt := topS 39
abbrev N_l_beside : List Str := ["_law_script", "_law_pool", "_law_signs", "_law_words_here", "_law_found", "_law_way", "_law_k", "_law_one", "_law_other"]
abbrev P_l_beside : List Str := ["_law_script", "_law_pool", "_law_signs", "_law_words_here"]
theorem sc_l_beside : FnScope N_l_beside P_l_beside (defScope s_l_beside) := ⟨rfl, rfl, rfl, by decide +kernel, rfl, by decide +kernel, by decide +kernel⟩
abbrev s_l_far_right : Stmt := topS 40
abbrev N_l_far_right : List Str := ["_law_script", "_law_pool", "_law_signs", "_law_words_here", "_law_rows", "_law_k", "_law_more", "_law_j", "_law_some", "_law_due", "_law_text", "_law_row", "_law_i", "_law_word_here"]
abbrev P_l_far_right : List Str := ["_law_script", "_law_pool", "_law_signs", "_law_words_here"]
theorem sc_l_far_right : FnScope N_l_far_right P_l_far_right (defScope s_l_far_right) := ⟨rfl, rfl, rfl, by decide +kernel, rfl, by decide +kernel, by decide +kernel⟩
abbrev s_law : Stmt := topS 41
abbrev N_law : List Str := ["_law_script", "_law_pool", "_law_turn", "_law_signs", "_law_words_here", "_law_others", "_law_one", "_law_other", "_law_due", "_law_text", "_law_k", "_law_j"]
abbrev P_law : List Str := ["_law_script"]
theorem sc_law : FnScope N_law P_law (defScope s_law) := ⟨rfl, rfl, rfl, by decide +kernel, rfl, by decide +kernel, by decide +kernel⟩
/-- what the top has written -/
structure Tx (K : PySem.W.Frag) (mg : Str → Option Value) : Type where
  f_InvalidLoom_init : Addr
  fd_InvalidLoom_init : FuncData
  F_InvalidLoom_init : Fun K "__init__" "InvalidLoom.__init__" s_InvalidLoom_init f_InvalidLoom_init fd_InvalidLoom_init
  b_InvalidLoom_init : Binds K fd_InvalidLoom_init P_InvalidLoom_init []
  f_is_number : Addr
  fd_is_number : FuncData
  F_is_number : Fun K "is_number" "is_number" s_is_number f_is_number fd_is_number
  b_is_number : Binds K fd_is_number P_is_number []
  m_is_number : mg "is_number" = some (.ref f_is_number)
  f_is_sequence : Addr
  fd_is_sequence : FuncData
  F_is_sequence : Fun K "is_sequence" "is_sequence" s_is_sequence f_is_sequence fd_is_sequence
  b_is_sequence : Binds K fd_is_sequence P_is_sequence []
  m_is_sequence : mg "is_sequence" = some (.ref f_is_sequence)
  f_is_signs : Addr
  fd_is_signs : FuncData
  F_is_signs : Fun K "is_signs" "is_signs" s_is_signs f_is_signs fd_is_signs
  b_is_signs : Binds K fd_is_signs P_is_signs []
  m_is_signs : mg "is_signs" = some (.ref f_is_signs)
  f_is_string_over : Addr
  fd_is_string_over : FuncData
  F_is_string_over : Fun K "is_string_over" "is_string_over" s_is_string_over f_is_string_over fd_is_string_over
  b_is_string_over : Binds K fd_is_string_over P_is_string_over []
  m_is_string_over : mg "is_string_over" = some (.ref f_is_string_over)
  f_is_word : Addr
  fd_is_word : FuncData
  F_is_word : Fun K "is_word" "is_word" s_is_word f_is_word fd_is_word
  b_is_word : Binds K fd_is_word P_is_word []
  m_is_word : mg "is_word" = some (.ref f_is_word)
  f_check_signs : Addr
  fd_check_signs : FuncData
  F_check_signs : Fun K "check_signs" "check_signs" s_check_signs f_check_signs fd_check_signs
  b_check_signs : Binds K fd_check_signs P_check_signs []
  m_check_signs : mg "check_signs" = some (.ref f_check_signs)
  f_is_arc : Addr
  fd_is_arc : FuncData
  F_is_arc : Fun K "is_arc" "is_arc" s_is_arc f_is_arc fd_is_arc
  b_is_arc : Binds K fd_is_arc P_is_arc []
  m_is_arc : mg "is_arc" = some (.ref f_is_arc)
  f_Loom_init : Addr
  fd_Loom_init : FuncData
  F_Loom_init : Fun K "__init__" "Loom.__init__" s_Loom_init f_Loom_init fd_Loom_init
  b_Loom_init : Binds K fd_Loom_init P_Loom_init []
  f_Loom_eq : Addr
  fd_Loom_eq : FuncData
  F_Loom_eq : Fun K "__eq__" "Loom.__eq__" s_Loom_eq f_Loom_eq fd_Loom_eq
  b_Loom_eq : Binds K fd_Loom_eq P_Loom_eq []
  f_shorter_first : Addr
  fd_shorter_first : FuncData
  F_shorter_first : Fun K "shorter_first" "shorter_first" s_shorter_first f_shorter_first fd_shorter_first
  b_shorter_first : Binds K fd_shorter_first P_shorter_first []
  m_shorter_first : mg "shorter_first" = some (.ref f_shorter_first)
  f_book : Addr
  fd_book : FuncData
  F_book : Fun K "book" "book" s_book f_book fd_book
  b_book : Binds K fd_book P_book []
  m_book : mg "book" = some (.ref f_book)
  f_is_book : Addr
  fd_is_book : FuncData
  F_is_book : Fun K "is_book" "is_book" s_is_book f_is_book fd_is_book
  b_is_book : Binds K fd_is_book P_is_book []
  m_is_book : mg "is_book" = some (.ref f_is_book)
  f_check_book : Addr
  fd_check_book : FuncData
  F_check_book : Fun K "check_book" "check_book" s_check_book f_check_book fd_check_book
  b_check_book : Binds K fd_check_book P_check_book []
  m_check_book : mg "check_book" = some (.ref f_check_book)
  f_words : Addr
  fd_words : FuncData
  F_words : Fun K "words" "words" s_words f_words fd_words
  b_words : Binds K fd_words P_words []
  m_words : mg "words" = some (.ref f_words)
  f_check_alike : Addr
  fd_check_alike : FuncData
  F_check_alike : Fun K "check_alike" "check_alike" s_check_alike f_check_alike fd_check_alike
  b_check_alike : Binds K fd_check_alike P_check_alike []
  m_check_alike : mg "check_alike" = some (.ref f_check_alike)
  f_is_written : Addr
  fd_is_written : FuncData
  F_is_written : Fun K "is_written" "is_written" s_is_written f_is_written fd_is_written
  b_is_written : Binds K fd_is_written P_is_written []
  m_is_written : mg "is_written" = some (.ref f_is_written)
  f_base : Addr
  fd_base : FuncData
  F_base : Fun K "base" "base" s_base f_base fd_base
  b_base : Binds K fd_base P_base []
  m_base : mg "base" = some (.ref f_base)
  f_same_texts : Addr
  fd_same_texts : FuncData
  F_same_texts : Fun K "same_texts" "same_texts" s_same_texts f_same_texts fd_same_texts
  b_same_texts : Binds K fd_same_texts P_same_texts []
  m_same_texts : mg "same_texts" = some (.ref f_same_texts)
  f_l_take : Addr
  fd_l_take : FuncData
  F_l_take : Fun K "_law_take" "_law_take" s_l_take f_l_take fd_l_take
  b_l_take : Binds K fd_l_take P_l_take []
  m_l_take : mg "_law_take" = some (.ref f_l_take)
  f_l_like : Addr
  fd_l_like : FuncData
  F_l_like : Fun K "_law_like" "_law_like" s_l_like f_l_like fd_l_like
  b_l_like : Binds K fd_l_like P_l_like []
  m_l_like : mg "_law_like" = some (.ref f_l_like)
  f_l_word : Addr
  fd_l_word : FuncData
  F_l_word : Fun K "_law_word" "_law_word" s_l_word f_l_word fd_l_word
  b_l_word : Binds K fd_l_word P_l_word []
  m_l_word : mg "_law_word" = some (.ref f_l_word)
  f_l_words : Addr
  fd_l_words : FuncData
  F_l_words : Fun K "_law_words" "_law_words" s_l_words f_l_words fd_l_words
  b_l_words : Binds K fd_l_words P_l_words []
  m_l_words : mg "_law_words" = some (.ref f_l_words)
  f_l_shuffled : Addr
  fd_l_shuffled : FuncData
  F_l_shuffled : Fun K "_law_shuffled" "_law_shuffled" s_l_shuffled f_l_shuffled fd_l_shuffled
  b_l_shuffled : Binds K fd_l_shuffled P_l_shuffled []
  m_l_shuffled : mg "_law_shuffled" = some (.ref f_l_shuffled)
  f_l_texts : Addr
  fd_l_texts : FuncData
  F_l_texts : Fun K "_law_texts" "_law_texts" s_l_texts f_l_texts fd_l_texts
  b_l_texts : Binds K fd_l_texts P_l_texts []
  m_l_texts : mg "_law_texts" = some (.ref f_l_texts)
  f_l_count : Addr
  fd_l_count : FuncData
  F_l_count : Fun K "_law_count" "_law_count" s_l_count f_l_count fd_l_count
  b_l_count : Binds K fd_l_count P_l_count []
  m_l_count : mg "_law_count" = some (.ref f_l_count)
  f_l_beside : Addr
  fd_l_beside : FuncData
  F_l_beside : Fun K "_law_beside" "_law_beside" s_l_beside f_l_beside fd_l_beside
  b_l_beside : Binds K fd_l_beside P_l_beside []
  m_l_beside : mg "_law_beside" = some (.ref f_l_beside)
  f_l_far_right : Addr
  fd_l_far_right : FuncData
  F_l_far_right : Fun K "_law_far_right" "_law_far_right" s_l_far_right f_l_far_right fd_l_far_right
  b_l_far_right : Binds K fd_l_far_right P_l_far_right []
  m_l_far_right : mg "_law_far_right" = some (.ref f_l_far_right)
  f_law : Addr
  fd_law : FuncData
  F_law : Fun K "law" "law" s_law f_law fd_law
  b_law : Binds K fd_law P_law []
  m_law : mg "law" = some (.ref f_law)
  n_all : mg "all" = none
  n_bool : mg "bool" = none
  n_dict : mg "dict" = none
  n_enumerate : mg "enumerate" = none
  n_int : mg "int" = none
  n_isinstance : mg "isinstance" = none
  n_len : mg "len" = none
  n_list : mg "list" = none
  n_range : mg "range" = none
  n_set : mg "set" = none
  n_sorted : mg "sorted" = none
  n_str : mg "str" = none
  n_tuple : mg "tuple" = none
  n_zip : mg "zip" = none
  t_MOST_SIGNS : Tok
  g_MOST_SIGNS : mg "MOST_SIGNS" = some (.int 4 t_MOST_SIGNS)
  t_LONGEST_WORD : Tok
  g_LONGEST_WORD : mg "LONGEST_WORD" = some (.int 12 t_LONGEST_WORD)
  t_LAST_STATE : Tok
  g_LAST_STATE : mg "LAST_STATE" = some (.int 63 t_LAST_STATE)
  t_MOST_ARCS : Tok
  g_MOST_ARCS : mg "MOST_ARCS" = some (.int 200 t_MOST_ARCS)
  C_Loom : Addr
  M_Loom : Mk K C_Loom f_Loom_init
  cl_Loom : Cls K C_Loom
  g_Loom : mg "Loom" = some (.ref C_Loom)
  na_Loom_signs : NoAttr K C_Loom "signs"
  na_Loom_arcs : NoAttr K C_Loom "arcs"
  ic_Loom : PySem.W.findIn K (.ref C_Loom) "__class__" = some (some (.builtin "object.__class__"))
  ig : PySem.W.specialIn K (.builtin "object.__class__") "__get__" = some (some (.builtin "getset_descriptor.__get__"))
  it : PySem.W.takesIn K (.builtin "object.__class__") = some true
  im_Loom : PySem.W.mroIn K C_Loom (.type "object") = some true
  cc_Loom : PySem.W.isClsIn K C_Loom = true
  ty_Loom : PySem.W.typeIn K (.ref C_Loom) = some (.type "type")
end J

set_option Elab.async false
set_option linter.all false
set_option maxRecDepth 100000
set_option maxHeartbeats 4000000
namespace J
open PySem L2
/-! ### frames -/
def Ex (p : Addr) (H H' : Hp) : Prop := ∀ b o, b ≠ p → H b = some o → H' b = some o
theorem Ex.refl (p : Addr) (H : Hp) : Ex p H H := fun _ _ _ h => h
theorem Ex.trans {p : Addr} {H H1 H2 : Hp} (a : Ex p H H1) (b : Ex p H1 H2) : Ex p H H2 := fun c o n h => b c o n (a c o n h)
theorem Ex.upd {p : Addr} {H : Hp} (o : HO) : Ex p H (upd H p o) := fun c u n h => by rw [upd_ne n]; exact h
theorem Ex.new {p q : Addr} {H : Hp} (o : HO) (h : H q = none) : Ex p H (L2.upd H q o) := fun c u n e => by
  rw [upd_ne (ne_of_none e h)]; exact e
theorem Same.ex {p : Addr} {H H' : Hp} (s : Same H H') : Ex p H H' := fun c o _ h => s c o h
theorem Same.new {q : Addr} {H : Hp} (o : HO) (h : H q = none) : Same H (L2.upd H q o) := fun c u e => by
  rw [upd_ne (ne_of_none e h)]; exact e
theorem hp_ne {H : Hp} {p q : Addr} {o : HO} (h : H p = some o) (hq : H q = none) : q ≠ p := by
  intro z
  rw [z, h] at hq
  cases hq
theorem Ex.free {p q : Addr} {H H' : Hp} (x : Ex p H H') (hq : H' q = none) (n : q ≠ p) : H q = none := by
  cases e : H q with
  | none => rfl
  | some o => rw [x _ _ n e] at hq; cases hq
theorem Ex.updNew {p q : Addr} {H H' : Hp} {o : HO} (x : Ex p H H') (hq : H q = none) : Ex p H (L2.upd H' q o) := fun b u n e => by
  rw [upd_ne (ne_of_none e hq)]; exact x b u n e
theorem _root_.L2.Same.updNew {q : Addr} {H H' : Hp} {o : HO} (x : Same H H') (hq : H q = none) : Same H (L2.upd H' q o) := fun b u e => by
  rw [upd_ne (ne_of_none e hq)]; exact x b u e
/-! ### the pool of draws, and the script -/
def PoolAt (H : Hp) (p : Addr) : Prop := ∃ a b c d : Int, H p = some (.lst [.int a, .int b, .int c, .int d]) ∧ 0 ≤ a
/-- the script, as long as all but p stays -/
def Scr (K : PySem.W.Frag) (ns : List Int) (a : Addr) (H : Hp) (p : Addr) : Prop := ∀ H', Ex p H H' → SqL K H' a (ns.map V.int)
def St (K : PySem.W.Frag) (ns : List Int) (a : Addr) (H : Hp) (p : Addr) : Prop := PoolAt H p ∧ Scr K ns a H p
theorem Scr.ex {K : PySem.W.Frag} {ns : List Int} {a p : Addr} {H H' : Hp} (h : Scr K ns a H p) (x : Ex p H H') : Scr K ns a H' p := fun H2 y => h H2 (x.trans y)
theorem Scr.mk {K : PySem.W.Frag} {ns : List Int} {a p : Addr} {H : Hp} (h : SqL K H a (ns.map V.int)) (hp : H p = none) : Scr K ns a H p := fun H' x => by
  rcases h with h | h
  · refine .inl ?_
    rcases h with h | ⟨o, h⟩
    · exact .inl (x _ _ (fun z => hp_ne h hp z.symm) h)
    · exact .inr ⟨o, x _ _ (fun z => hp_ne h hp z.symm) h⟩
  · exact .inr h
theorem St.ex {K : PySem.W.Frag} {ns : List Int} {a p : Addr} {H H' : Hp} (h : St K ns a H p) (x : Ex p H H') (g : PoolAt H' p) : St K ns a H' p := ⟨g, h.2.ex x⟩
theorem PoolAt.same {H H' : Hp} {p : Addr} (h : PoolAt H p) (s : Same H H') : PoolAt H' p := by
  obtain ⟨a, b, c, d, h1, h2⟩ := h
  exact ⟨a, b, c, d, s _ _ h1, h2⟩
theorem St.same {K : PySem.W.Frag} {ns : List Int} {a p : Addr} {H H' : Hp} (h : St K ns a H p) (s : Same H H') : St K ns a H' p := ⟨h.1.same s, h.2.ex (Same.ex s)⟩
theorem St.ne {K : PySem.W.Frag} {ns : List Int} {a p q : Addr} {H : Hp} (h : St K ns a H p) (hq : H q = none) : q ≠ p := by
  obtain ⟨⟨a, b, c, d, h1, h2⟩, _⟩ := h
  exact hp_ne h1 hq
theorem St.upd {K : PySem.W.Frag} {ns : List Int} {a p q : Addr} {H0 H : Hp} {o : HO} (h0 : St K ns a H0 p) (h : St K ns a H p) (x : Ex p H0 (L2.upd H q o)) (n : q ≠ p) : St K ns a (L2.upd H q o) p := by
  obtain ⟨⟨a, b, c, d, h1, h2⟩, _⟩ := h
  exact ⟨⟨a, b, c, d, by rw [upd_ne n.symm]; exact h1, h2⟩, h0.2.ex x⟩
theorem fm_nonneg (a : Int) {b : Int} (h : 0 < b) : 0 ≤ a.fmod b := Int.fmod_nonneg_of_pos a h
theorem fm_lt (a : Int) {b : Int} (h : 0 < b) : a.fmod b < b := Int.fmod_lt_of_pos a h
theorem atI_ints {ns : List Int} {a : Int} (h0 : 0 ≤ a) (h1 : a < ns.length) : ∃ n, atI (ns.map V.int) a = some (V.int n) := by
  obtain ⟨j, rfl⟩ := Int.eq_ofNat_of_zero_le h0
  have hj : j < ns.length := by exact_mod_cast h1
  exact ⟨ns[j], atI_nat (by rw [List.getElem?_map, List.getElem?_eq_getElem hj]; rfl)⟩
def spTake (K : PySem.W.Frag) (ns : List Int) : Sp := fun vs H Q _ => ∃ (a p : Addr) (m : Int), vs = [.ref a, .ref p, .int m] ∧ St K ns a H p ∧ 0 < m ∧ m < 1073741824 ∧
  ∀ H' (r : Int), Ex p H H' → St K ns a H' p → 0 ≤ r → r < m → Q (.int r) H'
section
variable {P : Program} {w : World} {K : PySem.W.Frag} {mg : Str → Option Value} {base : Heap}
theorem ok_l_take (T : Tx K mg) (ns : List Int) : FnOk P w K mg base CX0 1 T.f_l_take T.fd_l_take P_l_take (spTake K ns) := by
  refine T.F_l_take.ok sc_l_take (fun vs H Q E h => ?_) (fun cdv A outer s H vs Q E hr h => ?_)
  · obtain ⟨a, p, m, rfl, _⟩ := h
    rfl
  · obtain ⟨a, p, m, rfl, hst, hm, hm2, k0⟩ := h
    have k : ∀ H' (r : Int), Ex p H H' → PoolAt H' p → 0 ≤ r → r < m → Q (.int r) H' := fun H' r x g => k0 H' r x (hst.ex x g)
    refine ⟨_, (pss_cons (ps_asg (pe_op op_add (pe_ix (ix_listK (K := K) rfl) (pv 1) pe_int (fun _ _ => rfl)) pe_int) (pg_sub (pv 1) pe_int set_list))
        (C8.pss_cut (ps_if (PW.pt (pw_and (pt_cmpR op_eq (pe_ix (ix_listK (K := K) rfl) (pv 1) pe_int (fun _ _ => rfl)) pe_int (nomark _)) (pw_and1 (pt_cmpR op_lt (pe_ix (ix_listK (K := K) rfl) (pv 1) pe_int (fun _ _ => rfl)) (pe_callB (call_len_seqK (K := K) rfl) rfl T.n_len (by decide +kernel) (pa_cons (pv 0) pa_nil)) (nomark _))))) (pss_cons (ps_set (i := 3) sc_l_take.nd rfl (Or.inl rfl) (pe_ix (ix_listK (K := K) rfl) (pv 0) (pe_ix (ix_listK (K := K) rfl) (pv 1) pe_int (fun _ _ => rfl)) (fun _ _ => rfl)))
        (pss_cons (ps_asg (pe_op op_add (pe_ix (ix_listK (K := K) rfl) (pv 1) pe_int (fun _ _ => rfl)) pe_int) (pg_sub (pv 1) pe_int set_list))
        (C8.pss_cut (ps_if (pt_cmpR op_lt (pv 3) pe_int (nomark _)) (pss_one (ps_set (i := 3) sc_l_take.nd rfl (Or.inl rfl) (pe_un un_neg (pv 3)))) pss_nil)
        (pss_one (ps_if (pt_cmpR op_ge (pv 3) (pe_op op_pow pe_int pe_int) (nomark _)) (pss_one (ps_asg (pv 3) (pg_sub (pv 1) pe_int set_list))) (pss_one (ps_asg (pe_op op_modN (pe_callTy call_int1 rfl T.n_int (by decide +kernel) (pa_cons (pe_op op_add (pe_op op_add (pe_op op_mul (pe_ix (ix_listK (K := K) rfl) (pv 1) pe_int (fun _ _ => rfl)) pe_int) (pv 3)) pe_int) pa_nil)) pe_int) (pg_sub (pv 1) pe_int set_list)))))))) pss_nil)
        (pss_cons (ps_if (pt_cmpR op_gt (pe_ix (ix_listK (K := K) rfl) (pv 1) pe_int (fun _ _ => rfl)) pe_int (nomark _)) (pss_cons (ps_set (i := 4) sc_l_take.nd rfl (Or.inl rfl) (pe_op op_modN (pe_callTy call_int1 rfl T.n_int (by decide +kernel) (pa_cons (pe_ix (ix_listK (K := K) rfl) (pv 1) pe_int (fun _ _ => rfl)) pa_nil)) (pv 2)))
        (pss_cons (ps_asg (pe_op op_fdivN (pe_ix (ix_listK (K := K) rfl) (pv 1) pe_int (fun _ _ => rfl)) (pv 2)) (pg_sub (pv 1) pe_int set_list))
        (pss_one (ps_ret (pv 4))))) pss_nil)
        (pss_cons (ps_set (i := 5) sc_l_take.nd rfl (Or.inl rfl) (pe_op op_modN (pe_op op_mul (pe_callTy call_int1 rfl T.n_int (by decide +kernel) (pa_cons (pe_op op_add (pe_op op_add (pe_ix (ix_listK (K := K) rfl) (pv 1) pe_int (fun _ _ => rfl)) (pe_op op_mul pe_int (pe_ix (ix_listK (K := K) rfl) (pv 1) pe_int (fun _ _ => rfl)))) pe_int) pa_nil)) pe_int) pe_int))
        (pss_cons (ps_set (i := 5) sc_l_take.nd rfl (Or.inl rfl) (pe_op op_modN (pe_callTy call_int1 rfl T.n_int (by decide +kernel) (pa_cons (pe_op op_mul (pv 5) (pe_op op_add (pe_op op_fdivN (pv 5) pe_int) pe_int)) pa_nil)) pe_int))
        (pss_cons (ps_set (i := 5) sc_l_take.nd rfl (Or.inl rfl) (pe_op op_modN (pe_callTy call_int1 rfl T.n_int (by decide +kernel) (pa_cons (pe_op op_mul (pv 5) (pe_op op_add (pe_op op_fdivN (pv 5) pe_int) pe_int)) pa_nil)) pe_int))
        (pss_one (ps_ret (pe_op op_modN (pe_callTy call_int1 rfl T.n_int (by decide +kernel) (pa_cons (pe_op op_fdivN (pv 5) pe_int) pa_nil)) (pv 2)))))))))), ?_⟩
    obtain ⟨⟨b0, b1, b2, b3, hp, h0⟩, hS⟩ := hst
    refine ⟨_, rfl, _, _, _, _, rfl, rfl, SqL.of hp, rfl, _, _, rfl, rfl, _, rfl, p, _, _, _, rfl, rfl, hp, rfl, ?_⟩
    refine ⟨fun σ' H' => (∃ v, σ' = [some (.ref a), some (.ref p), some (.int m), v, none, none]) ∧ Ex p H H' ∧ PoolAt H' p, ?_, ?_⟩
    · refine ⟨_, rfl, _, _, _, _, rfl, rfl, SqL.of upd_same, rfl, rfl, _, rfl, ?_⟩
      refine ite2 (fun c1 => ?_) (fun c1 => ?_)
      · refine ⟨_, rfl, _, _, _, _, rfl, rfl, SqL.of upd_same, rfl, _, rfl, a, _, rfl, .inl (hS _ (Ex.upd _)), _, _, rfl, rfl, _, rfl, ?_⟩
        refine ite2 (fun c2 => ?_) (fun c2 => ?_)
        · rw [List.length_map] at c2
          obtain ⟨n, hn⟩ := atI_ints (ns := ns) h0 (by simpa using c2)
          refine ⟨_, rfl, _, rfl, _, _, _, _, rfl, rfl, SqL.of upd_same, rfl, a, _, _, _, rfl, rfl, hS _ (Ex.upd _), hn, ?_⟩
          refine ⟨_, rfl, _, _, _, _, rfl, rfl, SqL.of upd_same, rfl, _, _, rfl, rfl, _, rfl, p, _, _, _, rfl, rfl, upd_same, rfl, ?_⟩
          refine ⟨fun σ' H' => (∃ z : Int, σ' = [some (.ref a), some (.ref p), some (.int m), some (.int z), none, none]) ∧ Ex p H H' ∧ PoolAt H' p, ?_, ?_⟩
          · refine ⟨_, rfl, _, _, rfl, rfl, _, rfl, ?_⟩
            refine ite2 (fun c3 => ?_) (fun c3 => ?_)
            · exact ⟨_, rfl, _, rfl, ⟨_, rfl⟩, (Ex.upd _).trans (Ex.upd _), _, _, _, _, upd_same, by omega⟩
            · exact ⟨⟨_, rfl⟩, (Ex.upd _).trans (Ex.upd _), _, _, _, _, upd_same, by omega⟩
          · rintro σ' H' ⟨⟨z, rfl⟩, x1, c0, c1, c2, c3, hp1, h1⟩
            refine ⟨_, rfl, _, _, rfl, rfl, ⟨by decide, by decide, by decide⟩, _, _, rfl, rfl, _, rfl, ?_⟩
            refine ite2 (fun c3 => ?_) (fun c3 => ?_)
            · exact ⟨_, rfl, _, rfl, p, _, _, _, rfl, rfl, hp1, rfl, ⟨_, rfl⟩, x1.trans (Ex.upd _), _, _, _, _, upd_same, h1⟩
            · refine ⟨_, rfl, _, _, _, _, rfl, rfl, SqL.of hp1, rfl, _, _, rfl, rfl, .inr (by decide), _, rfl, _, _, rfl, rfl, _, _, rfl, rfl, .inl ⟨_, rfl, _, _, rfl, rfl, (by decide : (1000000007 : Int) ≠ 0), ?_⟩⟩
              exact ⟨_, rfl, p, _, _, _, rfl, rfl, hp1, rfl, ⟨_, rfl⟩, x1.trans (Ex.upd _), _, _, _, _, upd_same, h1⟩
        · exact ⟨⟨_, rfl⟩, Ex.upd _, _, _, _, _, upd_same, h0⟩
      · exact iteF ⟨⟨_, rfl⟩, Ex.upd _, _, _, _, _, upd_same, h0⟩
    · rintro σ' H1 ⟨⟨v, rfl⟩, x1, c0, c1, c2, c3, hp1, h1⟩
      refine ⟨_, rfl, _, _, _, _, rfl, rfl, SqL.of hp1, rfl, _, _, rfl, rfl, _, rfl, ?_⟩
      refine ite2 (fun d1 => ?_) (fun d1 => ?_)
      · refine ⟨_, rfl, _, _, _, _, rfl, rfl, SqL.of hp1, rfl, .inl ⟨_, rfl, _, rfl, _, _, rfl, rfl, by omega, ?_⟩⟩
        refine ⟨_, rfl, _, _, _, _, rfl, rfl, SqL.of hp1, rfl, _, rfl, _, _, rfl, rfl, ⟨by omega, by omega⟩, _, rfl, p, _, _, _, rfl, rfl, hp1, rfl, ?_⟩
        exact ⟨_, rfl, k _ _ (x1.trans (Ex.upd _)) ⟨_, _, _, _, upd_same, h1⟩ (fm_nonneg _ hm) (fm_lt _ hm)⟩
      · have hx0 := fm_nonneg ((c3 + 7919 * c2 + 1) * 48271) (b := 2147483647) (by decide)
        have hx1 := fm_lt ((c3 + 7919 * c2 + 1) * 48271) (b := 2147483647) (by decide)
        refine ⟨_, rfl, _, _, _, _, rfl, rfl, SqL.of hp1, rfl, _, rfl, _, _, _, _, rfl, rfl, SqL.of hp1, rfl, _, _, rfl, rfl, .inl (by decide), _, _, rfl, rfl, _, _, rfl, rfl, .inl ⟨_, rfl, _, _, rfl, rfl, .inr (by decide), _, _, rfl, rfl, (by decide : (2147483647 : Int) ≠ 0), ?_⟩⟩
        refine ⟨_, rfl, _, rfl, _, _, rfl, rfl, ⟨by decide, by decide⟩, _, _, rfl, rfl, _, _, rfl, rfl, .inl ⟨Int.lt_of_lt_of_le (by decide) hx0, Int.lt_trans hx1 (by decide)⟩, .inl ⟨_, rfl, _, _, rfl, rfl, (by decide : (2147483629 : Int) ≠ 0), ?_⟩⟩
        refine ⟨_, rfl, _, rfl, _, _, rfl, rfl, ⟨by decide, by decide⟩, _, _, rfl, rfl, _, _, rfl, rfl, .inl ⟨Int.lt_of_lt_of_le (by decide) (fm_nonneg _ (by decide)), Int.lt_trans (fm_lt _ (by decide)) (by decide)⟩, .inl ⟨_, rfl, _, _, rfl, rfl, (by decide : (2147483399 : Int) ≠ 0), ?_⟩⟩
        refine ⟨_, rfl, _, _, rfl, rfl, ⟨by decide, by decide⟩, .inl ⟨_, rfl, _, rfl, _, _, rfl, rfl, by omega, ?_⟩⟩
        exact k _ _ x1 ⟨_, _, _, _, hp1, h1⟩ (fm_nonneg _ hm) (fm_lt _ hm)
end
end J


set_option Elab.async false
set_option linter.all false
set_option maxRecDepth 100000
set_option maxHeartbeats 4000000
namespace J
open PySem L2
theorem joinL_nil : ∀ ys : List (List Nat), TL.joinL [] ys = ys.flatten
  | [] => rfl
  | [p] => by simp [TL.joinL]
  | p :: q :: r => by
    show p ++ ([] ++ TL.joinL [] (q :: r)) = _
    rw [joinL_nil (q :: r)]
    simp
theorem join_flat (ys : List (List Nat)) : Txt.join (SX.S []) (ys.map SX.S) = SX.S ys.flatten := by rw [SX.join_S, joinL_nil]
theorem emptyS : Str.ofString "" = SX.S [] := rfl
theorem sum_ones (us : List Nat) : ((us.map fun c => SX.S [c]).map (·.length)).sum = us.length := by
  induction us with
  | nil => rfl
  | cons a r ih => simp only [List.map_cons, List.sum_cons, ih, SX.S_len, List.length_cons, List.length_nil]; omega
theorem atI_mem {α : Type} {xs : List α} {i : Int} (h0 : 0 ≤ i) (h1 : i < xs.length) : ∃ v, v ∈ xs ∧ atI xs i = some v := by
  obtain ⟨j, rfl⟩ := Int.eq_ofNat_of_zero_le h0
  have hj : j < xs.length := by exact_mod_cast h1
  exact ⟨xs[j], List.getElem_mem hj, atI_nat (List.getElem?_eq_getElem hj)⟩
/-- signs: one to four small letters, ascending -/
def Signs (sg : List Nat) : Prop := 1 ≤ sg.length ∧ sg.length ≤ 4 ∧ (∀ c ∈ sg, 97 ≤ c ∧ c ≤ 122) ∧ sg.Pairwise (· < ·)
instance (sg : List Nat) : Decidable (Signs sg) := by unfold Signs; infer_instance
theorem Signs.len {sg : List Nat} (h : Signs sg) : 1 ≤ sg.length ∧ sg.length ≤ 4 := ⟨h.1, h.2.1⟩
/-- a word over the signs -/
def Word (sg u : List Nat) : Prop := 1 ≤ u.length ∧ u.length ≤ 12 ∧ ∀ c ∈ u, c ∈ sg
def txts (ws : List (List Nat)) : List V := ws.map fun u => V.str (SX.S u)
def spSignsOf (K : PySem.W.Frag) (ns : List Int) : Sp := fun vs H Q _ => ∃ (a p : Addr), vs = [.ref a, .ref p] ∧ St K ns a H p ∧ ∀ H' sg, Ex p H H' → St K ns a H' p → Signs sg → Q (.str (SX.S sg)) H'
def spWord (K : PySem.W.Frag) (ns : List Int) : Sp := fun vs H Q _ => ∃ (a p : Addr) (sg : List Nat) (m : Int), vs = [.ref a, .ref p, .str (SX.S sg), .int m] ∧ St K ns a H p ∧ Signs sg ∧ 0 < m ∧ m ≤ 12 ∧
  ∀ H' u, Ex p H H' → St K ns a H' p → Word sg u → (u.length : Int) ≤ m → Q (.str (SX.S u)) H'
def spWords (K : PySem.W.Frag) (ns : List Int) : Sp := fun vs H Q _ => ∃ (a p : Addr) (sg : List Nat) (n m : Int), vs = [.ref a, .ref p, .str (SX.S sg), .int n, .int m] ∧ St K ns a H p ∧ Signs sg ∧ 0 < n ∧ n ≤ 1000 ∧ 0 < m ∧ m ≤ 12 ∧
  ∀ H' (q : Addr) us, Ex p H H' → St K ns a H' p → H q = none → q ≠ p → H' q = some (.lst (txts us)) → (∀ u ∈ us, Word sg u ∧ (u.length : Int) ≤ m) → 1 ≤ us.length → (us.length : Int) ≤ n → Q (.ref q) H'
theorem le_size {n : Nat} (h : n ≤ 100000) : n ≤ sizeLine := Nat.le_trans h (by decide)
theorem lt_size {n : Nat} (h : n ≤ 100000) : n < sizeLine := Nat.lt_of_le_of_lt h (by decide)
theorem signs_menu {v : V} (h : v ∈ ([.str "ab", .str "ab", .str "abc", .str "xz", .str "a", .str "bdfh"] : List V)) : ∃ sg, v = .str (SX.S sg) ∧ Signs sg := by
  simp only [List.mem_cons, List.not_mem_nil, or_false] at h
  rcases h with rfl | rfl | rfl | rfl | rfl | rfl
  · exact ⟨[97, 98], rfl, by decide⟩
  · exact ⟨[97, 98], rfl, by decide⟩
  · exact ⟨[97, 98, 99], rfl, by decide⟩
  · exact ⟨[120, 122], rfl, by decide⟩
  · exact ⟨[97], rfl, by decide⟩
  · exact ⟨[98, 100, 102, 104], rfl, by decide⟩
section
variable {P : Program} {w : World} {K : PySem.W.Frag} {mg : Str → Option Value} {base : Heap}
theorem ok_l_word (T : Tx K mg) (ns : List Int) : FnOk P w K mg base CX0 2 T.f_l_word T.fd_l_word P_l_word (spWord K ns) := by
  have G_l_take : FnOk P w K mg base CX0 1 T.f_l_take T.fd_l_take P_l_take (spTake K ns) := ok_l_take T ns
  refine T.F_l_word.ok sc_l_word (fun vs H Q E h => ?_) (fun cdv A outer s H vs Q E hr h => ?_)
  · obtain ⟨a, p, sg, m, rfl, _⟩ := h
    rfl
  · obtain ⟨a, p, sg, m, rfl, hst, hsg, hm, hm2, k⟩ := h
    refine ⟨_, (pss_one (ps_ret (pe_join pe_str (pe_lc (own := [("_law_k", 4)]) (g := (gName 4)) rfl sc_l_word.nd (pi_range1 rfl T.n_range (pa_cons (pe_op op_add pe_int (pe_call G_l_take (hr.mono (by decide)) rfl T.m_l_take T.F_l_take.kp T.b_l_take .nil pass0 (pa_cons (pv 0) (pa_cons (pv 1) (pa_cons (pv 3) pa_nil))))) pa_nil)) (blkOk_by (N := N_l_word) (sc := defScope s_l_word) (by decide +kernel)) (fun _ _ _ _ _ => (pg_name (i := 4) sc_l_word.nd rfl (Or.inl rfl))) (fun _ _ _ _ _ => pts_nil) (fun _ _ _ _ _ => (pe_ix ix_str (pv 2) (pe_call G_l_take (hr.mono (by decide)) rfl T.m_l_take T.F_l_take.kp T.b_l_take .nil pass0 (pa_cons (pv 0) (pa_cons (pv 1) (pa_cons (pe_callB call_len_str rfl T.n_len (by decide +kernel) (pa_cons (pv 2) pa_nil)) pa_nil)))) (fun _ _ => rfl))))))), ?_⟩
    have hlen := hsg.len
    refine ⟨⟨_, rfl⟩, _, rfl, _, rfl, _, rfl, a, p, m, rfl, hst, hm, by omega, fun H1 r x1 st1 r0 r1 => ⟨_, _, rfl, rfl, ?_⟩⟩
    refine ⟨_, rfl, by omega, by omega, fun D hD => lc_range (lo := 0) (n := (1 + r).toNat) (fun i H' => ∃ us : List Nat, us.length = i ∧ (∀ c ∈ us, c ∈ sg) ∧ H' D = some (.lst ((us.map fun c => SX.S [c]).map V.str)) ∧ Ex p H H' ∧ St K ns a H' p) ?_ ?_ ?_⟩
    · exact ⟨[], rfl, fun _ h => (nomatch h), upd_same, x1.trans (Ex.new _ hD), st1.same (Same.new _ hD)⟩
    · rintro i H2 hi ⟨us, rfl, hu, hDs, x2, st2⟩
      refine ⟨rfl, ?_⟩
      refine ⟨_, rfl, _, rfl, _, rfl, _, rfl, _, rfl, le_size (by rw [SX.S_len]; omega), a, p, _, rfl, st2, by rw [SX.S_len]; omega, by rw [SX.S_len]; omega, fun H3 r3 x3 st3 r30 r31 => ?_⟩
      rw [SX.S_len] at r31
      obtain ⟨c, hc, hat⟩ := atI_mem (xs := sg) r30 r31
      have nD := st1.ne hD
      have hD0 := x1.free hD nD
      refine ⟨_, _, c, rfl, rfl, le_size (by rw [SX.S_len]; omega), hat, _, x3 _ _ nD hDs, lt_size (by simp; omega), us ++ [c], by simp, ?_, ?_, (x2.trans x3).updNew hD0, hst.upd st3 ((x2.trans x3).updNew hD0) nD⟩
      · intro d hd
        rcases List.mem_append.mp hd with h | h
        · exact hu d h
        · rw [List.mem_singleton.mp h]; exact hc
      · rw [upd_same]; simp
    · rintro H2 ⟨us, hl, hu, hDs, x2, st2⟩
      have hf : ∀ l : List Nat, (l.map fun c => [c]).flatten = l := fun l => by induction l with
        | nil => rfl
        | cons a l ih => simpa using ih
      refine ⟨_, _, us.map fun c => SX.S [c], rfl, rfl, .inl (SqL.of hDs), ?_, ?_⟩
      · rw [sum_ones, emptyS, SX.S_len]
        simp
        omega
      · have e : us.map (fun c => SX.S [c]) = (us.map fun c => [c]).map SX.S := by rw [List.map_map]; rfl
        rw [e, emptyS, join_flat, hf]
        exact k _ us x2 st2 ⟨by omega, by omega, hu⟩ (by omega)
theorem ok_l_words (T : Tx K mg) (ns : List Int) : FnOk P w K mg base CX0 3 T.f_l_words T.fd_l_words P_l_words (spWords K ns) := by
  have G_l_take : FnOk P w K mg base CX0 1 T.f_l_take T.fd_l_take P_l_take (spTake K ns) := ok_l_take T ns
  have G_l_word : FnOk P w K mg base CX0 2 T.f_l_word T.fd_l_word P_l_word (spWord K ns) := ok_l_word T ns
  refine T.F_l_words.ok sc_l_words (fun vs H Q E h => ?_) (fun cdv A outer s H vs Q E hr h => ?_)
  · obtain ⟨a, p, sg, n, m, rfl, _⟩ := h
    rfl
  · obtain ⟨a, p, sg, n, m, rfl, hst, hsg, hn, hn2, hm, hm2, k⟩ := h
    refine ⟨_, (pss_one (ps_ret (pe_lc (own := [("_law_k", 5)]) (g := (gName 5)) rfl sc_l_words.nd (pi_range1 rfl T.n_range (pa_cons (pe_op op_add pe_int (pe_call G_l_take (hr.mono (by decide)) rfl T.m_l_take T.F_l_take.kp T.b_l_take .nil pass0 (pa_cons (pv 0) (pa_cons (pv 1) (pa_cons (pv 3) pa_nil))))) pa_nil)) (blkOk_by (N := N_l_words) (sc := defScope s_l_words) (by decide +kernel)) (fun _ _ _ _ _ => (pg_name (i := 5) sc_l_words.nd rfl (Or.inl rfl))) (fun _ _ _ _ _ => pts_nil) (fun _ _ _ _ _ => (pe_call G_l_word (hr.mono (by decide)) rfl T.m_l_word T.F_l_word.kp T.b_l_word .nil pass0 (pa_cons (pv 0) (pa_cons (pv 1) (pa_cons (pv 2) (pa_cons (pv 4) pa_nil))))))))), ?_⟩
    refine ⟨_, rfl, _, rfl, _, rfl, a, p, n, rfl, hst, hn, by omega, fun H1 r x1 st1 r0 r1 => ⟨_, _, rfl, rfl, ?_⟩⟩
    refine ⟨_, rfl, by omega, by omega, fun D hD => lc_range (lo := 0) (n := (1 + r).toNat) (fun i H' => ∃ us : List (List Nat), us.length = i ∧ (∀ u ∈ us, Word sg u ∧ (u.length : Int) ≤ m) ∧ H' D = some (.lst (txts us)) ∧ Ex p H H' ∧ St K ns a H' p) ?_ ?_ ?_⟩
    · exact ⟨[], rfl, fun _ h => (nomatch h), upd_same, x1.trans (Ex.new _ hD), st1.same (Same.new _ hD)⟩
    · rintro i H2 hi ⟨us, rfl, hu, hDs, x2, st2⟩
      have nD := st1.ne hD
      have hD0 := x1.free hD nD
      refine ⟨rfl, ?_⟩
      refine ⟨_, rfl, _, rfl, _, rfl, _, rfl, a, p, sg, m, rfl, st2, hsg, hm, hm2, fun H3 u x3 st3 hw hl => ?_⟩
      refine ⟨_, x3 _ _ nD hDs, lt_size (by rw [txts, List.length_map]; omega), us ++ [u], by simp, ?_, ?_, (x2.trans x3).updNew hD0, hst.upd st3 ((x2.trans x3).updNew hD0) nD⟩
      · intro d hd
        rcases List.mem_append.mp hd with h | h
        · exact hu d h
        · rw [List.mem_singleton.mp h]; exact ⟨hw, hl⟩
      · rw [upd_same]; simp [txts]
    · rintro H2 ⟨us, hl, hu, hDs, x2, st2⟩
      have nD := st1.ne hD
      exact k _ D us x2 st2 (x1.free hD nD) nD hDs hu (by omega) (by omega)
end
end J


set_option Elab.async false
set_option linter.all false
set_option maxRecDepth 100000
set_option maxHeartbeats 4000000
namespace J
open PySem L2
abbrev Arc := Nat × List Nat × Nat
def arcHO (a : Arc) : HO := .tup [.int (a.1 : Int), .str (SX.S a.2.1), .int (a.2.2 : Int)]
def Arcs (H : Hp) (vs : List V) (as : List Arc) : Prop := vs.length = as.length ∧ ∀ (i : Nat) (a : Arc), as[i]? = some a → ∃ t, vs[i]? = some (V.ref t) ∧ H t = some (arcHO a)
theorem Arcs.same {H H' : Hp} {vs : List V} {as : List Arc} (h : Arcs H vs as) (s : Same H H') : Arcs H' vs as :=
  ⟨h.1, fun i a e => by obtain ⟨t, h1, h2⟩ := h.2 i a e; exact ⟨t, h1, s _ _ h2⟩⟩
theorem Arcs.ex {H H' : Hp} {p : Addr} {xs : List V} {vs : List V} {as : List Arc} (h : Arcs H vs as) (x : Ex p H H') (hp : H p = some (.lst xs)) : Arcs H' vs as :=
  ⟨h.1, fun i a e => by
    obtain ⟨t, h1, h2⟩ := h.2 i a e
    exact ⟨t, h1, x _ _ (fun z => by rw [z, hp] at h2; cases h2) h2⟩⟩
theorem Arcs.snoc {H : Hp} {vs : List V} {as : List Arc} {t : Addr} {a : Arc} (h : Arcs H vs as) (ht : H t = some (arcHO a)) : Arcs H (vs ++ [V.ref t]) (as ++ [a]) := by
  refine ⟨by simp [h.1], fun i b e => ?_⟩
  by_cases hi : i < as.length
  · rw [List.getElem?_append_left hi] at e
    rw [List.getElem?_append_left (by rw [h.1]; exact hi)]
    exact h.2 i b e
  · rw [List.getElem?_append_right (by omega)] at e
    have e0 : i - as.length = 0 := by
      have q := (List.getElem?_eq_some_iff.mp e).1
      simp at q
      omega
    rw [e0] at e
    cases e
    refine ⟨t, ?_, ht⟩
    rw [List.getElem?_append_right (by rw [h.1]; omega), h.1, e0]
    rfl
theorem Arcs.updL {H : Hp} {vs xs : List V} {as : List Arc} {p : Addr} {o : HO} (h : Arcs H vs as) (hp : H p = some (.lst xs)) : Arcs (upd H p o) vs as := h.ex (Ex.upd o) hp

theorem Arcs.nil (H : Hp) : Arcs H [] [] := ⟨rfl, fun i a e => by simp at e⟩
theorem ex_upd_lst {p : Addr} {H : Hp} {o : HO} : Ex p H (upd H p o) := Ex.upd o
def OkArc (sg : List Nat) (a : Arc) : Prop := a.1 ≤ 63 ∧ Word sg a.2.1 ∧ a.2.2 ≤ 63
def OkArcs (sg : List Nat) (as : List Arc) : Prop := 1 ≤ as.length ∧ as.length ≤ 13 ∧ (∀ a ∈ as, OkArc sg a) ∧ ∃ a : Arc, as[0]? = some a ∧ a.1 = 0
end J


set_option Elab.async false
set_option linter.all false
set_option maxRecDepth 100000
set_option maxHeartbeats 4000000
namespace J
open PySem L2

def spNumber : Sp := fun vs H Q _ => ∃ i lo hi : Int, vs = [.int i, .int lo, .int hi] ∧ ∀ b : Bool, (b = true ↔ lo ≤ i ∧ i ≤ hi) → Q (.bl b) H
def spSequence (K : PySem.W.Frag) : Sp := fun vs H Q _ => ∃ (a : Addr) (xs : List V) (lo hi : Int), vs = [.ref a, .int lo, .int hi] ∧ (H a = some (.lst xs) ∨ H a = some (.tup xs)) ∧ ∀ (H' : Hp) (b : Bool), Same H H' → (b = true ↔ lo ≤ xs.length ∧ xs.length ≤ hi) → Q (.bl b) H'
def spOver : Sp := fun vs H Q _ => ∃ (sg u : List Nat) (lo hi : Int), vs = [.str (SX.S sg), .str (SX.S u), .int lo, .int hi] ∧ lo ≤ u.length ∧ u.length ≤ hi ∧ hi ≤ 100000 ∧ (∀ c ∈ u, c ∈ sg) ∧ ∀ H' : Hp, Same H H' → Q (.bl true) H'
def spIsWord : Sp := fun vs H Q _ => ∃ (sg u : List Nat), vs = [.str (SX.S sg), .str (SX.S u)] ∧ Word sg u ∧ ∀ H' : Hp, Same H H' → Q (.bl true) H'
def spSigns : Sp := fun vs H Q _ => ∃ sg : List Nat, vs = [.str (SX.S sg)] ∧ Signs sg ∧ ∀ H' : Hp, Same H H' → Q (.bl true) H'
def spArc : Sp := fun vs H Q _ => ∃ (sg : List Nat) (t : Addr) (a : Arc), vs = [.str (SX.S sg), .ref t] ∧ H t = some (arcHO a) ∧ OkArc sg a ∧ ∀ H' : Hp, Same H H' → Q (.bl true) H'
def spState1 : Sp := fun vs H Q _ => ∃ i : Int, vs = [.int i] ∧ 0 ≤ i ∧ i ≤ 63 ∧ Q .non H
def spText1 : Sp := fun vs H Q _ => ∃ (sg u : List Nat), vs = [.str (SX.S sg), .str (SX.S u)] ∧ u.length ≤ 2000 ∧ (∀ c ∈ u, c ∈ sg) ∧ ∀ H' : Hp, Same H H' → Q .non H'
theorem rep_snoc (n : Nat) : (HO.lst ((List.replicate n true).map V.bl ++ [V.bl true])) = HO.lst ((List.replicate (n + 1) true).map V.bl) := by
  congr 1
  rw [List.replicate_succ']
  simp
theorem all_true {n : Nat} : (List.replicate n true).all id = true := by simp
section
variable {P : Program} {w : World} {K : PySem.W.Frag} {mg : Str → Option Value} {base : Heap}

theorem ok_is_number (T : Tx K mg) : FnOk P w K mg base CX0 1 T.f_is_number T.fd_is_number P_is_number spNumber := by
  refine T.F_is_number.ok sc_is_number (fun vs H Q E h => ?_) (fun cdv A outer s H vs Q E hr h => ?_)
  · obtain ⟨i, lo, hi, rfl, _⟩ := h
    rfl
  · obtain ⟨i, lo, hi, rfl, k⟩ := h
    refine ⟨_, (pss_one (ps_ret (pe_and (pe_callB (call_isiK' (K := K) rfl) rfl T.n_isinstance (by decide +kernel) (pa_cons (pv 0) (pa_cons (pe_bltn (v := V.ty "int") (u := .type "int") rfl T.n_int (by decide +kernel) rfl) pa_nil))) (pe_and (pe_not (pe_callB (call_isiK' (K := K) rfl) rfl T.n_isinstance (by decide +kernel) (pa_cons (pv 0) (pa_cons (pe_bltn (v := V.ty "bool") (u := .type "bool") rfl T.n_bool (by decide +kernel) rfl) pa_nil)))) (pe_one (pe_chain op_le op_le (pv 1) (pv 0) (pv 2))))))), ?_⟩
    refine ⟨_, rfl, _, _, _, _, true, rfl, .ty "int", .base (.int i), kit_ty (by decide +kernel), true, rfl, ?_⟩
    refine ⟨_, rfl, _, _, _, _, false, rfl, .ty "bool", .base (.int i), kit_ty (by decide +kernel), false, rfl, true, rfl, ?_⟩
    refine ⟨_, rfl, _, rfl, _, _, rfl, rfl, _, rfl, ?_⟩
    refine ite2 (fun c => ?_) (fun c => ?_)
    · refine ⟨_, rfl, _, _, rfl, rfl, k _ ?_⟩
      have c1 := of_decide_eq_true c
      constructor
      · intro h; exact ⟨c1, of_decide_eq_true h⟩
      · intro h; exact decide_eq_true h.2
    · refine k _ ?_
      constructor
      · intro h; cases h
      · intro h; exact absurd (decide_eq_true h.1) c

theorem ok_is_sequence (T : Tx K mg) : FnOk P w K mg base CX0 1 T.f_is_sequence T.fd_is_sequence P_is_sequence (spSequence K) := by
  refine T.F_is_sequence.ok sc_is_sequence (fun vs H Q E h => ?_) (fun cdv A outer s H vs Q E hr h => ?_)
  · obtain ⟨a, xs, lo, hi, rfl, _⟩ := h
    rfl
  · obtain ⟨a, xs, lo, hi, rfl, ha, k⟩ := h
    refine ⟨_, (pss_one (ps_ret (pe_and (pe_callB (call_isiTK (K := K) rfl) rfl T.n_isinstance (by decide +kernel) (pa_cons (pv 0) (pa_cons (pe_tup (pa_cons (pe_bltn (v := V.ty "list") (u := .type "list") rfl T.n_list (by decide +kernel) rfl) (pa_cons (pe_bltn (v := V.ty "tuple") (u := .type "tuple") rfl T.n_tuple (by decide +kernel) rfl) pa_nil))) pa_nil))) (pe_one (pe_chain op_le op_le (pv 1) (pe_callB (call_len_seqK (K := K) rfl) rfl T.n_len (by decide +kernel) (pa_cons (pv 0) pa_nil)) (pv 2)))))), ?_⟩
    refine ⟨_, rfl, le_size (by decide), fun t ht => ?_⟩
    have st := Same.new (.tup [V.ty "list", V.ty "tuple"]) ht
    have two : ∃ tv, TyX K (upd H t (.tup [V.ty "list", V.ty "tuple"])) (.ref a) tv ∧ PySem.W.kitAny K tv [.type "list", .type "tuple"] = some true := by
      rcases ha with ha | ha
      · exact ⟨_, .base (.lst (st _ _ ha)), kitAny_cons (b := true) (kit_ty (by decide +kernel)) (fun q => nomatch q) (fun _ => rfl)⟩
      · exact ⟨_, .base (.tup (st _ _ ha)), kitAny_cons (b := false) (kit_ty (by decide +kernel)) (fun _ => kitAny_cons (b := true) (kit_ty (by decide +kernel)) (fun q => nomatch q) (fun _ => rfl)) (fun q => nomatch q)⟩
    have one : SqL K (upd H t (.tup [V.ty "list", V.ty "tuple"])) a xs ∨ SqT K (upd H t (.tup [V.ty "list", V.ty "tuple"])) a xs := by
      rcases ha with ha | ha
      · exact .inl (SqL.of (st _ _ ha))
      · exact .inr (SqT.of (st _ _ ha))
    obtain ⟨tv, htv, hkt⟩ := two
    refine ⟨_, _, _, _, [.type "list", .type "tuple"], true, rfl, upd_same, .cons (.ty _) (.cons (.ty _) .nil), htv, hkt, true, rfl, ?_⟩
    refine ⟨_, rfl, _, rfl, a, xs, rfl, one, _, _, rfl, rfl, _, rfl, ?_⟩
    refine ite2 (fun c => ?_) (fun c => ?_)
    · refine ⟨_, rfl, _, _, rfl, rfl, k _ _ st ?_⟩
      have c1 := of_decide_eq_true c
      constructor
      · intro h; exact ⟨c1, of_decide_eq_true h⟩
      · intro h; exact decide_eq_true h.2
    · refine k _ _ st ?_
      constructor
      · intro h; cases h
      · intro h; exact absurd (decide_eq_true h.1) c

theorem ok_is_string_over (T : Tx K mg) : FnOk P w K mg base CX0 1 T.f_is_string_over T.fd_is_string_over P_is_string_over spOver := by
  refine T.F_is_string_over.ok sc_is_string_over (fun vs H Q E h => ?_) (fun cdv A outer s H vs Q E hr h => ?_)
  · obtain ⟨sg, u, lo, hi, rfl, _⟩ := h
    rfl
  · obtain ⟨sg, u, lo, hi, rfl, h1, h2, h3, hu, k⟩ := h
    refine ⟨_, (pss_cons (ps_if (PW.pt (pw_or (pt_not (pt_val (pe_callB (call_isiK' (K := K) rfl) rfl T.n_isinstance (by decide +kernel) (pa_cons (pv 1) (pa_cons (pe_bltn (v := V.ty "str") (u := .type "str") rfl T.n_str (by decide +kernel) rfl) pa_nil))))) (pw_or1 (pt_not (pt_chain op_le op_le (pv 2) (pe_callB call_len_str rfl T.n_len (by decide +kernel) (pa_cons (pv 1) pa_nil)) (pv 3)))))) (pss_one (ps_ret pe_bl)) pss_nil)
        (pss_one (ps_ret (pe_callB (cr_allK (K := K) rfl rfl) rfl T.n_all (by decide +kernel) (pa_cons (pe_lc (own := [("sign", 4)]) (g := (gName 4)) rfl sc_is_string_over.nd (pi_str (pv 1)) (blkOk_by (N := N_is_string_over) (sc := defScope s_is_string_over) (by decide +kernel)) (fun _ _ _ _ _ => (pg_name (i := 4) sc_is_string_over.nd rfl (Or.inl rfl))) (fun _ _ _ _ _ => pts_nil) (fun _ _ _ _ _ => (pe_cmpR op_in_sign (pv 4) (pv 0) rfl))) pa_nil))))), ?_⟩
    have hl : (SX.S u).length ≤ sizeLine := le_size (by rw [SX.S_len]; omega)
    refine ⟨_, rfl, _, _, _, _, true, rfl, .ty "str", .base (.str _), kit_ty (by decide +kernel), true, rfl, ?_⟩
    have e : ((SX.S u).length : Int) = u.length := by rw [SX.S_len]
    refine ⟨_, rfl, _, rfl, _, rfl, hl, _, _, rfl, rfl, true, congrArg V.bl (decide_eq_true (by rw [e]; exact h1)), ?_⟩
    refine ⟨_, rfl, _, _, rfl, rfl, true, congrArg V.bl (decide_eq_true (by rw [e]; exact h2)), ?_⟩
    refine ⟨_, rfl, _, rfl, fun D hD => lc_it (walk_str (z := SX.S u)) (fun i H' => H' D = some (.lst ((List.replicate i true).map V.bl)) ∧ Same H H') ⟨upd_same, Same.new _ hD⟩ (fun _ _ _ _ => trivial) ?_ ?_⟩
    · rintro i x H1 H2 hi ⟨hDl, sm⟩ ⟨rfl, c, hc, rfl⟩
      have hcu : c ∈ u := by
        have q : u[i]? = some c := by simpa using hc
        exact List.mem_of_getElem? q
      have hi2 : i ≤ 100000 := by
        have q : i < (SX.S u).length := hi
        rw [SX.S_len] at q
        omega
      refine ⟨rfl, _, rfl, _, rfl, c, _, rfl, rfl, _, hDl, lt_size (by simp; exact hi2), ?_, sm.updNew hD⟩
      rw [upd_same, decide_eq_true (by simpa using hu c hcu), rep_snoc]
    · rintro H1 ⟨hDl, sm⟩
      refine ⟨D, _, rfl, SqL.of hDl, ?_⟩
      rw [all_true]
      exact k _ sm

theorem ok_is_word (T : Tx K mg) : FnOk P w K mg base CX0 2 T.f_is_word T.fd_is_word P_is_word spIsWord := by
  have G_is_string_over : FnOk P w K mg base CX0 1 T.f_is_string_over T.fd_is_string_over P_is_string_over spOver := ok_is_string_over T
  refine T.F_is_word.ok sc_is_word (fun vs H Q E h => ?_) (fun cdv A outer s H vs Q E hr h => ?_)
  · obtain ⟨sg, u, rfl, _⟩ := h
    rfl
  · obtain ⟨sg, u, rfl, ⟨h1, h2, h3⟩, k⟩ := h
    refine ⟨_, (pss_one (ps_ret (pe_call G_is_string_over (hr.mono (by decide)) rfl T.m_is_string_over T.F_is_string_over.kp T.b_is_string_over .nil pass0 (pa_cons (pv 0) (pa_cons (pv 1) (pa_cons pe_int (pa_cons (pe_glob (v := V.int 12) rfl T.g_LONGEST_WORD ⟨_, rfl⟩) pa_nil))))))), ?_⟩
    exact ⟨_, rfl, _, rfl, sg, u, 1, 12, rfl, by omega, by omega, by omega, h3, k⟩
theorem ok_is_arc (T : Tx K mg) : FnOk P w K mg base CX0 3 T.f_is_arc T.fd_is_arc P_is_arc spArc := by
  have G_is_number : FnOk P w K mg base CX0 1 T.f_is_number T.fd_is_number P_is_number spNumber := ok_is_number T
  have G_is_word : FnOk P w K mg base CX0 2 T.f_is_word T.fd_is_word P_is_word spIsWord := ok_is_word T
  refine T.F_is_arc.ok sc_is_arc (fun vs H Q E h => ?_) (fun cdv A outer s H vs Q E hr h => ?_)
  · obtain ⟨sg, t, a, rfl, _⟩ := h
    rfl
  · obtain ⟨sg, t, ⟨s1, u, g1⟩, rfl, ht, ⟨hs, hw, hg⟩, k⟩ := h
    refine ⟨_, (pss_cons (ps_if (PW.pt (pw_or (pt_not (pt_val (pe_callB (call_isiK' (K := K) rfl) rfl T.n_isinstance (by decide +kernel) (pa_cons (pv 1) (pa_cons (pe_bltn (v := V.ty "tuple") (u := .type "tuple") rfl T.n_tuple (by decide +kernel) rfl) pa_nil))))) (pw_or1 (pt_cmpR op_ne (pe_callB (call_len_seqK (K := K) rfl) rfl T.n_len (by decide +kernel) (pa_cons (pv 1) pa_nil)) pe_int (nomark _))))) (pss_one (ps_ret pe_bl)) pss_nil)
        (pss_cons (ps_asg (pv 1) (pg_tup rfl (pgs_cons (pg_name (i := 2) sc_is_arc.nd rfl (Or.inl rfl)) (pgs_cons (pg_name (i := 3) sc_is_arc.nd rfl (Or.inl rfl)) (pgs_cons (pg_name (i := 4) sc_is_arc.nd rfl (Or.inl rfl)) pgs_nil)))))
        (pss_one (ps_ret (pe_and (pe_call G_is_number (hr.mono (by decide)) rfl T.m_is_number T.F_is_number.kp T.b_is_number .nil pass0 (pa_cons (pv 2) (pa_cons pe_int (pa_cons (pe_glob (v := V.int 63) rfl T.g_LAST_STATE ⟨_, rfl⟩) pa_nil)))) (pe_and (pe_call G_is_word (hr.mono (by decide)) rfl T.m_is_word T.F_is_word.kp T.b_is_word .nil pass0 (pa_cons (pv 0) (pa_cons (pv 3) pa_nil))) (pe_one (pe_call G_is_number (hr.mono (by decide)) rfl T.m_is_number T.F_is_number.kp T.b_is_number .nil pass0 (pa_cons (pv 4) (pa_cons pe_int (pa_cons (pe_glob (v := V.int 63) rfl T.g_LAST_STATE ⟨_, rfl⟩) pa_nil))))))))))), ?_⟩
    refine ⟨_, rfl, _, _, _, _, true, rfl, .ty "tuple", .base (.tup ht), kit_ty (by decide +kernel), true, rfl, ?_⟩
    refine ⟨_, rfl, t, _, rfl, .inr (SqT.of ht), rfl, false, rfl, ?_⟩
    refine ⟨_, rfl, t, _, rfl, SqT.of ht, rfl, ?_⟩
    have e1 : (0 : Int) ≤ ((s1 : Nat) : Int) ∧ ((s1 : Nat) : Int) ≤ 63 := by omega
    have e2 : (0 : Int) ≤ ((g1 : Nat) : Int) ∧ ((g1 : Nat) : Int) ≤ 63 := by have hg' : g1 ≤ 63 := hg; omega
    refine ⟨_, _, rfl, _, _, rfl, _, _, rfl, rfl, ?_⟩
    refine ⟨_, rfl, _, 0, 63, rfl, fun b hb => ⟨b, rfl, ?_⟩⟩
    rw [hb.mpr e1]
    refine ⟨_, rfl, _, rfl, sg, u, rfl, hw, fun H' sm => ⟨true, rfl, ?_⟩⟩
    refine ⟨_, rfl, _, 0, 63, rfl, fun b hb => ?_⟩
    rw [hb.mpr e2]
    exact k H' sm
end
end J


set_option Elab.async false
set_option linter.all false
set_option maxRecDepth 100000
set_option maxHeartbeats 4000000
namespace J
open PySem L2

theorem walk_zipS {x y : Str} : Walk (ItzS x y) (min x.cps.size y.cps.size) (fun _ => True) (fun i H v H' => ∃ T c d, v = .ref T ∧ H T = none ∧ H' = upd H T (.tup [.str ⟨#[c]⟩, .str ⟨#[d]⟩]) ∧ x.cps[i]? = some c ∧ y.cps[i]? = some d) :=
  ⟨fun _ _ h _ => h, fun _ _ => rfl, fun _ _ _ _ _ _ h => h⟩
theorem one_lt {c d : Nat} : ([c] < ([d] : List Nat)) ↔ c < d := by
  rw [List.cons_lt_cons_iff]
  constructor
  · rintro (h | ⟨_, h⟩)
    · exact h
    · exact absurd h (List.lt_irrefl _)
  · exact .inl
theorem signs_le {sg : List Nat} (h : Signs sg) : ∀ c ∈ sg, (!decide ([c] < ([97] : List Nat))) = true ∧ (!decide (([122] : List Nat) < [c])) = true := fun c hc => by
  obtain ⟨h1, h2⟩ := h.2.2.1 c hc
  rw [decide_eq_false (fun z => by rw [one_lt] at z; omega), decide_eq_false (fun z => by rw [one_lt] at z; omega)]
  exact ⟨rfl, rfl⟩
theorem signs_pair {sg : List Nat} (h : Signs sg) {i c d : Nat} (h1 : sg[i]? = some c) (h2 : (sg.drop 1)[i]? = some d) : decide ([c] < [d]) = true := by
  rw [List.getElem?_drop] at h2
  obtain ⟨l1, e1⟩ := List.getElem?_eq_some_iff.mp h1
  obtain ⟨l2, e2⟩ := List.getElem?_eq_some_iff.mp h2
  refine decide_eq_true (one_lt.mpr ?_)
  rw [← e1, ← e2]
  exact List.pairwise_iff_getElem.mp h.2.2.2 i (1 + i) l1 l2 (by omega)
section
variable {P : Program} {w : World} {K : PySem.W.Frag} {mg : Str → Option Value} {base : Heap}

theorem ok_is_signs (T : Tx K mg) : FnOk P w K mg base CX0 1 T.f_is_signs T.fd_is_signs P_is_signs spSigns := by
  refine T.F_is_signs.ok sc_is_signs (fun vs H Q E h => ?_) (fun cdv A outer s H vs Q E hr h => ?_)
  · obtain ⟨sg, rfl, _⟩ := h
    rfl
  · obtain ⟨sg, rfl, hsg, k⟩ := h
    refine ⟨_, (pss_cons (ps_if (PW.pt (pw_or (pt_not (pt_val (pe_callB (call_isiK' (K := K) rfl) rfl T.n_isinstance (by decide +kernel) (pa_cons (pv 0) (pa_cons (pe_bltn (v := V.ty "str") (u := .type "str") rfl T.n_str (by decide +kernel) rfl) pa_nil))))) (pw_or1 (pt_not (pt_chain op_le op_le pe_int (pe_callB call_len_str rfl T.n_len (by decide +kernel) (pa_cons (pv 0) pa_nil)) (pe_glob (v := V.int 4) rfl T.g_MOST_SIGNS ⟨_, rfl⟩)))))) (pss_one (ps_ret pe_bl)) pss_nil)
        (pss_cons (ps_set (i := 1) sc_is_signs.nd rfl (Or.inl rfl) (pe_callB (cr_allK (K := K) rfl rfl) rfl T.n_all (by decide +kernel) (pa_cons (pe_lc (own := [("sign", 2)]) (g := (gName 2)) rfl sc_is_signs.nd (pi_str (pv 0)) (blkOk_by (N := N_is_signs) (sc := defScope s_is_signs) (by decide +kernel)) (fun _ _ _ _ _ => (pg_name (i := 2) sc_is_signs.nd rfl (Or.inl rfl))) (fun _ _ _ _ _ => pts_nil) (fun _ _ _ _ _ => (pe_chain op_le_str op_le_str pe_str (pv 2) pe_str))) pa_nil)))
        (pss_one (ps_ret (pe_and (pv 1) (pe_one (pe_callB (cr_allK (K := K) rfl rfl) rfl T.n_all (by decide +kernel) (pa_cons (pe_lc (own := [("one", 3), ("other", 4)]) (g := (gTup K 2 (gCons (gName 3) (gCons (gName 4) gNil)))) rfl sc_is_signs.nd (pi_zipS rfl T.n_zip (pa_cons (pv 0) (pa_cons (pe_slice sl_str (pv 0) (po_some pe_int) po_none) pa_nil))) (blkOk_by (N := N_is_signs) (sc := defScope s_is_signs) (by decide +kernel)) (fun _ _ _ _ _ => (pg_tup rfl (pgs_cons (pg_name (i := 3) sc_is_signs.nd rfl (Or.inl rfl)) (pgs_cons (pg_name (i := 4) sc_is_signs.nd rfl (Or.inl rfl)) pgs_nil)))) (fun _ _ _ _ _ => pts_nil) (fun _ _ _ _ _ => (pe_cmpR op_lt_str (pv 3) (pv 4) (nomark _)))) pa_nil)))))))), ?_⟩
    have hlen := hsg.len
    have hl : (SX.S sg).length ≤ sizeLine := le_size (by rw [SX.S_len]; omega)
    have e : ((SX.S sg).length : Int) = sg.length := by rw [SX.S_len]
    refine ⟨_, rfl, _, _, _, _, true, rfl, .ty "str", .base (.str _), kit_ty (by decide +kernel), true, rfl, ?_⟩
    refine ⟨_, rfl, _, rfl, hl, _, _, rfl, rfl, true, congrArg V.bl (decide_eq_true (by rw [e]; omega)), ?_⟩
    refine ⟨_, _, rfl, rfl, true, congrArg V.bl (decide_eq_true (by rw [e]; omega)), ?_⟩
    refine ⟨_, rfl, _, rfl, fun D hD => lc_it (walk_str (z := SX.S sg)) (fun i H' => H' D = some (.lst ((List.replicate i true).map V.bl)) ∧ Same H H') ⟨upd_same, Same.new _ hD⟩ (fun _ _ _ _ => trivial) ?_ ?_⟩
    · rintro i x H1 H2 hi ⟨hDl, sm⟩ ⟨rfl, c, hc, rfl⟩
      have hcu : c ∈ sg := by
        have q : sg[i]? = some c := by simpa using hc
        exact List.mem_of_getElem? q
      have hi2 : i ≤ 100000 := by
        have q : i < (SX.S sg).length := hi
        rw [SX.S_len] at q
        omega
      obtain ⟨l1, l2⟩ := signs_le hsg c hcu
      refine ⟨rfl, _, rfl, _, _, rfl, rfl, true, congrArg V.bl l1, _, _, rfl, rfl, _, hDl, lt_size (by simp; exact hi2), ?_, sm.updNew hD⟩
      rw [upd_same]
      show some (HO.lst (_ ++ [V.bl (!decide (([122] : List Nat) < [c]))])) = _
      rw [l2, rep_snoc]
    · rintro H1 ⟨hDl, sm⟩
      refine ⟨D, _, rfl, SqL.of hDl, ?_⟩
      rw [all_true]
      refine ⟨_, rfl, true, rfl, ?_⟩
      refine ⟨_, rfl, _, rfl, _, rfl, _, rfl, hl, ?_⟩
      rw [C8.cutS_slice, SX.slice_from (by decide)]
      refine ⟨_, _, rfl, fun D2 hD2 => lc_it (walk_zipS (x := SX.S sg) (y := SX.S (sg.drop 1))) (fun i H' => H' D2 = some (.lst ((List.replicate i true).map V.bl)) ∧ Same H H') ⟨upd_same, sm.trans (Same.new _ hD2)⟩ (fun _ _ _ _ => trivial) ?_ ?_⟩
      · rintro i x H2 H3 hi ⟨hDl2, sm2⟩ ⟨t, c, d, rfl, ht, rfl, hc, hd⟩
        have hcu : sg[i]? = some c := by simpa using hc
        have hdu : (sg.drop 1)[i]? = some d := by simpa using hd
        have hi2 : i ≤ 100000 := by
          have q := (List.getElem?_eq_some_iff.mp hcu).1
          omega
        have nt : D2 ≠ t := fun z => hp_ne hDl2 ht z.symm
        refine ⟨t, _, rfl, SqT.of upd_same, rfl, _, _, rfl, _, _, rfl, rfl, rfl, _, rfl, _, rfl, _, _, rfl, rfl, _, by rw [upd_ne nt]; exact hDl2, lt_size (by simp; exact hi2), ?_, (sm2.trans (Same.new _ ht)).updNew (sm.free hD2)⟩
        rw [upd_same]
        show some (HO.lst (_ ++ [V.bl (decide ([c] < [d]))])) = _
        rw [signs_pair hsg hcu hdu, rep_snoc]
      · rintro H2 ⟨hDl2, sm2⟩
        refine ⟨D2, _, rfl, SqL.of hDl2, ?_⟩
        rw [all_true]
        exact k _ sm2
end
end J


set_option Elab.async false
set_option linter.all false
set_option maxRecDepth 100000
set_option maxHeartbeats 4000000
namespace J
open PySem L2
/-- arcs that a loom may have -/
def OkW (sg : List Nat) (as : List Arc) : Prop := 1 ≤ as.length ∧ as.length ≤ 200 ∧ ∀ a ∈ as, OkArc sg a
theorem OkArcs.w {sg : List Nat} {as : List Arc} (h : OkArcs sg as) : OkW sg as := ⟨h.1, by have := h.2.1; omega, h.2.2.1⟩
/-- a loom's fields -/
def lf (sg : List Nat) (T : Addr) : List (Str × V) := putF "arcs" (.ref T) (putF "signs" (.str (SX.S sg)) [])
theorem ne_sa : ¬ (("signs" : Str) = "arcs") := by decide +kernel
theorem lf_signs (sg : List Nat) (T : Addr) : (lf sg T).lookup ("signs" : Str) = some (.str (SX.S sg)) := by
  unfold lf
  rw [lookup_putF, if_neg ne_sa, lookup_putF, if_pos rfl]
theorem lf_arcs (sg : List Nat) (T : Addr) : (lf sg T).lookup ("arcs" : Str) = some (.ref T) := by
  unfold lf
  rw [lookup_putF, if_pos rfl]
/-- a loom stands at p -/
def LoomAt (C : Addr) (H : Hp) (p : Addr) (sg : List Nat) (us : List V) (as : List Arc) : Prop := ∃ dx T, H p = some (.ins C dx (lf sg T)) ∧ H T = some (.tup us) ∧ Arcs H us as ∧ OkW sg as ∧ Signs sg
def spInit (C : Addr) : Sp := fun vs H Q _ => ∃ (p dx a : Addr) (sg : List Nat) (us : List V) (as : List Arc), vs = [.ref p, .str (SX.S sg), .ref a] ∧ H p = some (.ins C dx []) ∧ H a = some (.lst us) ∧ Arcs H us as ∧ OkW sg as ∧ Signs sg ∧
  ∀ (H' : Hp) (T : Addr), Ex p H H' → H T = none → H' T = some (.tup us) → H' p = some (.ins C dx (lf sg T)) → Q .non H'
theorem take_snoc {α : Type} {l : List α} {i : Nat} {x : α} (h : l[i]? = some x) : l.take i ++ [x] = l.take (i + 1) := by
  rw [List.take_add_one, h]
  rfl
def spChkSigns : Sp := fun vs H Q _ => ∃ sg : List Nat, vs = [.str (SX.S sg)] ∧ Signs sg ∧ ∀ H', Same H H' → Q .non H'
section
variable {P : Program} {w : World} {K : PySem.W.Frag} {mg : Str → Option Value} {base : Heap}
theorem ok_check_signs (T : Tx K mg) : FnOk P w K mg base CX0 2 T.f_check_signs T.fd_check_signs P_check_signs spChkSigns := by
  have G_is_signs : FnOk P w K mg base CX0 1 T.f_is_signs T.fd_is_signs P_is_signs spSigns := ok_is_signs T
  refine T.F_check_signs.ok sc_check_signs (fun vs H Q E h => ?_) (fun cdv A outer s H vs Q E hr h => ?_)
  · obtain ⟨sg, rfl, _⟩ := h
    rfl
  · obtain ⟨sg, rfl, hsg, k⟩ := h
    refine ⟨_, (pss_one (ps_if (pt_not (pt_val (pe_call G_is_signs (hr.mono (by decide)) rfl T.m_is_signs T.F_is_signs.kp T.b_is_signs .nil pass0 (pa_cons (pv 0) pa_nil)))) (pss_one ps_never) pss_nil)), ?_⟩
    refine ⟨_, rfl, sg, rfl, hsg, fun H1 s1 => ⟨true, rfl, ?_⟩⟩
    exact k _ s1
theorem ok_Loom_init (T : Tx K mg) : FnOk P w K mg base CX0 4 T.f_Loom_init T.fd_Loom_init P_Loom_init (spInit T.C_Loom) := by
  have G_check_signs : FnOk P w K mg base CX0 2 T.f_check_signs T.fd_check_signs P_check_signs spChkSigns := ok_check_signs T
  have G_is_sequence : FnOk P w K mg base CX0 1 T.f_is_sequence T.fd_is_sequence P_is_sequence (spSequence K) := ok_is_sequence T
  have G_is_arc : FnOk P w K mg base CX0 3 T.f_is_arc T.fd_is_arc P_is_arc spArc := ok_is_arc T
  refine T.F_Loom_init.ok sc_Loom_init (fun vs H Q E h => ?_) (fun cdv A outer s H vs Q E hr h => ?_)
  · obtain ⟨p, dx, a, sg, us, as, rfl, _⟩ := h
    rfl
  · obtain ⟨p, dx, a, sg, us, as, rfl, hp, ha, harc, hok, hsg, k⟩ := h
    refine ⟨_, (pss_cons (ps_expr (pe_call G_check_signs (hr.mono (by decide)) rfl T.m_check_signs T.F_check_signs.kp T.b_check_signs .nil pass0 (pa_cons (pv 1) pa_nil)))
        (pss_cons (ps_if (pt_not (pt_val (pe_call G_is_sequence (hr.mono (by decide)) rfl T.m_is_sequence T.F_is_sequence.kp T.b_is_sequence .nil pass0 (pa_cons (pv 2) (pa_cons pe_int (pa_cons (pe_glob (v := V.int 200) rfl T.g_MOST_ARCS ⟨_, rfl⟩) pa_nil)))))) (pss_one ps_never) pss_nil)
        (pss_cons (ps_for PassesOwn.never rfl (pi_enum rfl T.n_enumerate (pa_cons (pv 2) pa_nil)) (pg_tup rfl (pgs_cons (pg_name (i := 3) sc_Loom_init.nd rfl (Or.inl rfl)) (pgs_cons (pg_name (i := 4) sc_Loom_init.nd rfl (Or.inl rfl)) pgs_nil))) (pss_one (ps_if (pt_not (pt_val (pe_call G_is_arc (hr.mono (by decide)) rfl T.m_is_arc T.F_is_arc.kp T.b_is_arc .nil pass0 (pa_cons (pv 1) (pa_cons (pv 4) pa_nil))))) (pss_one ps_never) pss_nil)))
        (pss_cons (ps_fld (pv 0) (pv 1) rfl)
        (pss_one (ps_fld (pv 0) (pe_callTy (call_tuple_ofK (K := K) rfl) rfl T.n_tuple (by decide +kernel) (pa_cons (pe_lc (own := [("arc", 4)]) (g := (gName 4)) rfl sc_Loom_init.nd (pi_list (pv 2)) (blkOk_by (N := N_Loom_init) (sc := defScope s_Loom_init) (by decide +kernel)) (fun _ _ _ _ _ => (pg_name (i := 4) sc_Loom_init.nd rfl (Or.inl rfl))) (fun _ _ _ _ _ => pts_nil) (fun _ _ _ _ _ => (pe_callTy (call_tuple_ofK (K := K) rfl) rfl T.n_tuple (by decide +kernel) (pa_cons (pv 4) pa_nil)))) pa_nil)) rfl)))))), ?_⟩
    refine ⟨_, rfl, sg, rfl, hsg, fun H1 s1 => ?_⟩
    refine ⟨_, rfl, a, us, 1, 200, rfl, .inl (s1 _ _ ha), fun H2 b s2 hb => ⟨b, rfl, ?_⟩⟩
    have hl := hok.2.1
    have hl0 := hok.1
    have hl2 := harc.1
    rw [hb.mpr ⟨by omega, by omega⟩]
    have s12 := s1.trans s2
    refine ⟨_, rfl, a, us, rfl, SqL.of (s12 _ _ ha), for_it walk_enum (fun i σ H' => ∃ v3 v4, σ = [some (.ref p), some (.str (SX.S sg)), some (.ref a), v3, v4] ∧ Same H H') ⟨_, _, rfl, s12⟩ (fun i σ H' _ ⟨_, _, _, sm⟩ => SqL.of (sm _ _ ha)) ?_ ?_⟩
    · rintro i x σ H3 H4 hi ⟨v3, v4, rfl, s3⟩ ⟨tp, x1, y1, rfl, ht, rfl, hx1, hy1⟩
      cases hx1
      have hia : i < as.length := by omega
      obtain ⟨t, hut, htt⟩ := harc.2 i as[i] (List.getElem?_eq_getElem hia)
      replace hy1 : us[i]? = some y1 := hy1
      rw [hut] at hy1
      cases hy1
      have sn := Same.new (.tup [V.int (i : Int), .ref t]) ht
      refine ⟨tp, _, rfl, SqT.of upd_same, rfl, _, _, rfl, _, _, rfl, rfl, ?_⟩
      refine ⟨_, rfl, _, rfl, sg, t, as[i], rfl, sn _ _ (s3 _ _ htt), hok.2.2 _ (List.getElem_mem hia), fun H5 s5 => ⟨true, rfl, ?_⟩⟩
      exact ⟨_, _, rfl, s3.trans (sn.trans s5)⟩
    · rintro σ H3 ⟨v3, v4, rfl, s3⟩
      have hp3 := s3 _ _ hp
      refine ⟨_, rfl, _, rfl, p, _, dx, _, rfl, hp3, T.cl_Loom, T.na_Loom_signs, (by show 0 < 1000; decide), ?_⟩
      have x3 : Ex p H (upd H3 p (.ins T.C_Loom dx (putF "signs" (.str (SX.S sg)) []))) := (Same.ex s3).trans (Ex.upd _)
      have nap : a ≠ p := fun z => by rw [z, hp] at ha; cases ha
      refine ⟨_, rfl, a, rfl, ⟨_, SqL.of (x3 _ _ nap ha)⟩, fun D hD => lc_list (K := K) (a := a) (xs := us) (fun i H' => H' D = some (.lst (us.take i)) ∧ Ex p H H' ∧ H' p = some (.ins T.C_Loom dx (putF "signs" (.str (SX.S sg)) []))) ?_ ?_ ?_ ?_⟩
      · have nDp : D ≠ p := hp_ne upd_same hD
        exact ⟨upd_same, x3.trans (Ex.new _ hD), by rw [upd_ne nDp.symm]; exact upd_same⟩
      · rintro i H4 hi ⟨_, x4, _⟩
        exact SqL.of (x4 _ _ nap ha)
      · rintro i y H4 hy ⟨hDl, x4, hp4⟩
        have hia : i < us.length := (List.getElem?_eq_some_iff.mp hy).1
        obtain ⟨t, hut, htt⟩ := harc.2 i as[i] (List.getElem?_eq_getElem (by omega))
        rw [hut] at hy
        cases hy
        have ntp : t ≠ p := fun z => by rw [z, hp] at htt; cases htt
        have nDp : D ≠ p := hp_ne upd_same hD
        refine ⟨rfl, _, rfl, t, _, rfl, .inr ⟨SqT.of (x4 _ _ ntp htt), _, hDl, lt_size (by simp; omega), ?_, x4.updNew (x3.free hD nDp), by rw [upd_ne nDp.symm]; exact hp4⟩⟩
        rw [upd_same, take_snoc hut]
      · rintro H4 ⟨hDl, x4, hp4⟩
        rw [List.take_length] at hDl
        refine ⟨D, us, rfl, .inl ⟨SqL.of hDl, fun T1 hT1 => ?_⟩⟩
        have nT : T1 ≠ p := hp_ne hp4 hT1
        refine ⟨_, rfl, p, _, dx, _, rfl, by rw [upd_ne nT.symm]; exact hp4, T.cl_Loom, T.na_Loom_arcs, (by show 1 < 1000; decide), ?_⟩
        exact k _ T1 ((x4.trans (Ex.new _ hT1)).trans (Ex.upd _)) (x4.free hT1 nT) (by rw [upd_ne nT]; exact upd_same) upd_same
end
end J


set_option Elab.async false
set_option linter.all false
set_option maxRecDepth 100000
set_option maxHeartbeats 4000000
/-! x != y of two objects of a class with an own __eq__ and no __ne__ -/
namespace HNB
open PySem PySem.Spec PyProof.Rows PySem.SeqAt
section
variable {M : Model} {prog : Program} {w : World} {A : Around} {E : Value → Shared → Prop} {s : Shared} {K : PySem.W.Frag} {x C f : Addr} {ox : Obj} {od : Option Obj} {b tb : Value} {rb : Bool}
theorem ifBound_objNe {args : List Value} {Q : Option Value → Shared → Prop} (X : K.In s.heap) (I : PySem.W.InstAt s.heap x ox C od) (hs : PySem.W.findIn K (.ref C) "__ne__" = some (some (.builtin "object.__ne__")))
    (h : wpAny M A (call (.builtin "object.__ne__") (.ref x :: args)) (fun v => Q (some v)) E s) : wpAny M A (callSpecialIfBound? (.ref x) "__ne__" args) Q E s := by
  simp only [callSpecialIfBound?, bindSpecialIfBound?]
  refine wpAny_holding (wpAny_bind (wpAny_bind (wpAny_bind (I.type.here ((PySem.W.looks_findIn X hs).here ?_)))))
  refine wpAny_bind (wpAny_askSetting (wpAny_ite ?_))
  have fin : wpAny M A (call (.builtin "object.__ne__") ([.ref x] ++ args) >>= fun v => pure (some v)) Q E s := wpAny_bind (wpAny_mono h (fun v s' h' => wpAny_pure h') fun _ _ h' => h')
  split
  · exact wpAny_bind (wpAny_of_eq (F.cmp_object.ne.bind _) (wpAny_pure (by exact fin)))
  · exact wpAny_tryCatch (wpAny_bind (wpAny_of_eq (F.cmp_object.ne.bind _) (wpAny_pure (by exact fin))))
/-- what object.__ne__ does, where the class's own __eq__ says True -/
theorem entry_ne {R : Fin → Shared → Prop} (hu : A.units < cLine) (X : K.In s.heap) (I : PySem.W.InstAt s.heap x ox C od) (hs : PySem.W.findIn K (.ref C) "__eq__" = some (some (.ref f))) (hf : PySem.W.isFn K (.ref f) = true)
    (h : wpAny M A (call (.ref f) [.ref x, b]) (fun v s' => v = .bool rb ∧ R (.done (.ret (.bool (!rb)))) s') E s) : wpAny M A (Builtin.«object.__ne__» ⟨[.ref x, b], []⟩) R E s := by
  unfold Builtin.«object.__ne__»
  have q : wpAny M A (callSpecialIfBound? (.ref x) "__eq__" [b]) (fun r s' => r = some (.bool rb) ∧ R (.done (.ret (.bool (!rb)))) s') E s :=
    PySem.W.ifBound_K X I hs hf (wpAny_mono h (fun v s' ⟨e, z⟩ => ⟨by rw [e], z⟩) fun _ _ z => z)
  repeat (first | with_reducible refine wpAny_cRoomFor hu ?_ | with_reducible refine wpAny_bind (wpAny_mono q (fun r s' ⟨e, z⟩ => ?_) fun _ _ z => z) | wp_step)
  subst e
  refine wpAny_bind (wpAny_truthy_bool ?_)
  exact wpAny_pure z
theorem call_objNe {Q : Value → Shared → Prop} (hu : A.in1.units < cLine) (X : K.In s.heap) (I : PySem.W.InstAt s.heap x ox C od) (hm : PySem.W.mroIn K C (.type "object") = some true) (hs : PySem.W.findIn K (.ref C) "__eq__" = some (some (.ref f))) (hf : PySem.W.isFn K (.ref f) = true)
    (h : wpAny (model prog w) A.in1 (call (.ref f) [.ref x, b]) (fun v s' => v = .bool rb ∧ Q (.bool (!rb)) s') E s) :
    wpAny (model prog w) A (call (.builtin "object.__ne__") [.ref x, b]) Q E s :=
  wpAny_call (codeAny_call_builtin F.cmp_object.ne.plain F.cmpEntry_ne (PySem.W.check_slot F.cmpKind_ne F.cmpSplit_ne (I.type.andThen (PySem.W.looks_mroIn X hm)) (F.cmpArgs_ne _ _) (entry_ne (rb := rb) hu X I hs hf h)))
theorem rc_ne {L : Addr} {h₀ : Heap} {m : Str → Option Value} {Q : Value → Shared → Prop} (hu : A.units < cLine) (hu1 : A.in1.units < cLine) (F : Fr h₀ L s.heap m) (X₀ : K.In h₀) (I : PySem.W.InstAt s.heap x ox C od) (hb : PySem.W.Looks (model prog w) s.heap (typeOf b) tb) (hn : PySem.W.notFirst K C tb = true)
    (hm : PySem.W.mroIn K C (.type "object") = some true) (hne : PySem.W.findIn K (.ref C) "__ne__" = some (some (.builtin "object.__ne__"))) (hs : PySem.W.findIn K (.ref C) "__eq__" = some (some (.ref f))) (hf : PySem.W.isFn K (.ref f) = true)
    (h : wpAny (model prog w) A.in1 (call (.ref f) [.ref x, b]) (fun v s' => v = .bool rb ∧ Q (.bool (!rb)) s') E s) : wpAny (model prog w) A (richCompare .NotEq (.ref x) b) Q E s := by
  have X := X₀.keeps F.keep
  have one : wpAny (model prog w) A (tryCompare (.ref x) (cmpInfo .NotEq).2.1 b) (fun r s' => ∃ v, r = some v ∧ Q v s') E s := by
    unfold tryCompare
    refine wpAny_bind (ifBound_objNe X I hne (call_objNe (rb := rb) hu1 X I hm hs hf (wpAny_mono h (fun v s' hv => ?_) fun _ _ e => e)))
    exact ⟨hv.1, wpAny_pure ⟨_, rfl, hv.2⟩⟩
  unfold richCompare
  simp only [oneThing_ref]
  refine wpAny_holding (wpAny_bind (wpAny_cRoomFor hu ?_))
  refine wpAny_bind (I.type.here (wpAny_bind (hb.here ?_)))
  split
  · rename_i q
    have e : PySem.W.subIn K tb (.ref C) = some false := by
      rcases Bool.or_eq_true_iff.mp hn with e | e
      · rw [beq_iff_eq.mp e] at q; simp at q
      · exact beq_iff_eq.mp e
    refine wpAny_bind ((PySem.W.looks_subIn X e).here ?_)
    simp only [Bool.false_eq_true, if_false]
    refine wpAny_bind (wpAny_mono one (fun r s' z => ?_) fun _ _ e => e)
    obtain ⟨v, rfl, hq⟩ := z
    exact wpAny_pure hq
  · refine wpAny_bind (wpAny_pure ?_)
    simp only [Bool.false_eq_true, if_false]
    refine wpAny_bind (wpAny_mono one (fun r s' z => ?_) fun _ _ e => e)
    obtain ⟨v, rfl, hq⟩ := z
    exact wpAny_pure hq
end
end HNB
namespace L2
open PySem PySem.Spec PyProof.Rows
section
variable {X : Cx} {n : Nat}
/-- what the own == says of two objects -/
def spEqB (R : Addr → Addr → Bool → Hp → Prop) : Sp := fun vs H Q _ => ∃ a b r, vs = [.ref a, .ref b] ∧ R a b r H ∧ ∀ H', Ext H H' → Q (.bl r) H'
def rEqB (C : Addr) (R : Addr → Addr → Bool → Hp → Prop) : R2 := fun x y H Q => ∃ a b dx dy fs gs r, x = .ref a ∧ y = .ref b ∧ H a = some (.ins C dx fs) ∧ H b = some (.ins C dy gs) ∧ R a b r H ∧ ∀ H', Ext H H' → Q (.bl r) H'
def rNeB (C : Addr) (R : Addr → Addr → Bool → Hp → Prop) : R2 := fun x y H Q => ∃ a b dx dy fs gs r, x = .ref a ∧ y = .ref b ∧ H a = some (.ins C dx fs) ∧ H b = some (.ins C dy gs) ∧ R a b r H ∧ ∀ H', Ext H H' → Q (.bl (!r)) H'
/-- the call of the own == -/
theorem call_eqB {CX : CXT} {f : Addr} {fd : FuncData} {ps : List Str} {R : Addr → Addr → Bool → Hp → Prop} {E : XK} {A : Around} {pins : List (Addr × Obj)} {σ : St} {H : Hp} {s : Shared} {a b : Addr} {r : Bool} (F : FnOk X.prog X.w X.K X.mg X.base CX n f fd ps (spEqB R))
    (hb : Binds X.K fd ps []) (hx : Passes CX X E) (sb : Sub X n A) (I : Inv X pins σ H s) (hr : R a b r H) :
    wpAny (model X.prog X.w) A (call (.ref f) [.ref a, .ref b]) (fun v s' => v = .bool r ∧ ∃ H', Inv X pins σ H' s' ∧ Ext H H') X.xe s := by
  have hsp : spEqB R [.ref a, .ref b] H (fun v H' => v = .bl r ∧ Ext H H') E := ⟨a, b, r, rfl, hr, fun H' e => ⟨rfl, e⟩⟩
  have e0 : Env0 X.prog X.w X.K X.mg X.base A X.stack s H := by
    obtain ⟨p1, p2, p3, p4, p5, p6, p7, p8⟩ := I.env0
    exact ⟨by rw [sb.fr]; exact p1, p2, p3, p4, p5, p6, p7, p8⟩
  have two : Vals [V.ref a, V.ref b] [Value.ref a, Value.ref b] := .cons rfl (.cons rfl .nil)
  have bd := hb s [.ref a, .ref b] I.kIn (by simpa using F.len _ _ _ _ hsp)
  have go := F.run A X.stack s H ⟨[.ref a, .ref b], []⟩ [.ref a, .ref b] [.ref a, .ref b] _ E sb.room e0 (by simpa using bd) two hsp
  refine wpAny_call (codeAny_mono go fun z t hz => ?_)
  match z, hz with
  | .error e, hz => exact hx pins σ H s e t I hz
  | .ok (.ret w'), hz =>
    obtain ⟨y, H', I', ry, rfl, ex⟩ := I.after hz
    cases ry
    exact ⟨rfl, H', I', ex⟩
  | .ok .next, hz => exact hz.elim
  | .ok .brk, hz => exact hz.elim
  | .ok .cont, hz => exact hz.elim
theorem op_eqB {CX : CXT} {C f : Addr} {fd : FuncData} {ps : List Str} {R : Addr → Addr → Bool → Hp → Prop} {E : XK} (F : FnOk X.prog X.w X.K X.mg X.base CX n f fd ps (spEqB R))
    (hs : PySem.W.findIn X.K (.ref C) "__eq__" = some (some (.ref f))) (hf : PySem.W.isFn X.K (.ref f) = true) (hb : Binds X.K fd ps []) (hx : Passes CX X E) (hr : Room n X.A) : OpR X (compareOp .Eq) (rEqB C R) := by
  intro pins s σ H x y u v Q I rx ry hq
  obtain ⟨a, b, dx, dy, fs, gs, r, rfl, rfl, ha, hb', hR, q⟩ := hq
  cases rx
  cases ry
  obtain ⟨mA, J, _⟩ := ins_get I.hok ha
  obtain ⟨mB, J', _⟩ := ins_get I.hok hb'
  obtain ⟨od, J, _⟩ := J.look
  obtain ⟨od', J', _⟩ := J'.look
  obtain ⟨m, hF⟩ := I.fr
  show wpAny (model X.prog X.w) X.A (richCompare .Eq (.ref a) (.ref b)) (EP X pins σ Q) X.xe s
  refine PySem.W.cmp_K (tb := .ref C) hr.units0 hF I.ok.mod.kin J J'.type (by simp [PySem.W.notFirst]) hs hf (wpAny_mono (call_eqB F hb hx ⟨hr, rfl⟩ I hR) (fun w' t z => ?_) fun _ _ e => e)
  obtain ⟨rfl, H', I', ex⟩ := z
  exact ⟨.bl r, H', I', rfl, q H' ex⟩
theorem op_neB {CX : CXT} {C f : Addr} {fd : FuncData} {ps : List Str} {R : Addr → Addr → Bool → Hp → Prop} {E : XK} (F : FnOk X.prog X.w X.K X.mg X.base CX n f fd ps (spEqB R))
    (hs : PySem.W.findIn X.K (.ref C) "__eq__" = some (some (.ref f))) (hf : PySem.W.isFn X.K (.ref f) = true) (hne : PySem.W.findIn X.K (.ref C) "__ne__" = some (some (.builtin "object.__ne__"))) (hm : PySem.W.mroIn X.K C (.type "object") = some true)
    (hb : Binds X.K fd ps []) (hx : Passes CX X E) (hr : Room (n + 1) X.A) : OpR X (compareOp .NotEq) (rNeB C R) := by
  intro pins s σ H x y u v Q I rx ry hq
  obtain ⟨a, b, dx, dy, fs, gs, r, rfl, rfl, ha, hb', hR, q⟩ := hq
  cases rx
  cases ry
  obtain ⟨mA, J, _⟩ := ins_get I.hok ha
  obtain ⟨mB, J', _⟩ := ins_get I.hok hb'
  obtain ⟨od, J, _⟩ := J.look
  obtain ⟨od', J', _⟩ := J'.look
  obtain ⟨m, hF⟩ := I.fr
  have sb : Sub X n X.A.in1 := Sub.in1 ⟨hr, rfl⟩
  show wpAny (model X.prog X.w) X.A (richCompare .NotEq (.ref a) (.ref b)) (EP X pins σ Q) X.xe s
  refine HNB.rc_ne (tb := .ref C) (rb := r) hr.units0 sb.room.units0 hF I.ok.mod.kin J J'.type (by simp [PySem.W.notFirst]) hm hne hs hf (wpAny_mono (call_eqB F hb hx sb I hR) (fun w' t z => ?_) fun _ _ e => e)
  obtain ⟨rfl, H', I', ex⟩ := z
  exact ⟨rfl, .bl (!r), H', I', rfl, q H' ex⟩
end
end L2

set_option Elab.async false
set_option linter.all false
set_option maxRecDepth 100000
set_option maxHeartbeats 4000000
namespace J
open PySem L2
theorem pi_or {X : Cx} {tg l : Expr} {ti tj : TI} (h1 : PI X tg l ti) (h2 : PI X tg l tj) : PI X tg l (fun σ H R => ti σ H R ∨ tj σ H R) := ⟨fun pins s σ H R I h => h.elim (h1.run pins s σ H R I) (h2.run pins s σ H R I)⟩
/-- the arcs of a book -/
def bka (ws : List (List Nat)) : List Arc := ws.map fun u => (0, u, 0)
theorem bka_len (ws : List (List Nat)) : (bka ws).length = ws.length := by simp [bka]
theorem bka_ok {sg : List Nat} {ws : List (List Nat)} (h1 : 1 ≤ ws.length) (h2 : ws.length ≤ 200) (h : ∀ u ∈ ws, Word sg u) : OkW sg (bka ws) := by
  refine ⟨by rw [bka_len]; exact h1, by rw [bka_len]; exact h2, fun a ha => ?_⟩
  obtain ⟨u, hu, rfl⟩ := List.mem_map.mp ha
  exact ⟨Nat.zero_le _, h u hu, Nat.zero_le _⟩
theorem LoomAt.same {C : Addr} {H H' : Hp} {p : Addr} {sg : List Nat} {us : List V} {as : List Arc} (h : LoomAt C H p sg us as) (s : Same H H') : LoomAt C H' p sg us as := by
  obtain ⟨dx, T, h1, h2, h3, h4, h5⟩ := h
  exact ⟨dx, T, s _ _ h1, s _ _ h2, h3.same s, h4, h5⟩
/-- a list or a tuple -/
def Seq (H : Hp) (a : Addr) (xs : List V) : Prop := H a = some (.lst xs) ∨ H a = some (.tup xs)
theorem Seq.same {H H' : Hp} {a : Addr} {xs : List V} (h : Seq H a xs) (s : Same H H') : Seq H' a xs := h.imp (s _ _) (s _ _)
def spBook (C : Addr) : Sp := fun vs H Q _ => ∃ (a : Addr) (sg : List Nat) (ws : List (List Nat)), vs = [.str (SX.S sg), .ref a] ∧ Seq H a (txts ws) ∧ Signs sg ∧ 1 ≤ ws.length ∧ ws.length ≤ 200 ∧ (∀ u ∈ ws, Word sg u) ∧
  ∀ H' (q : Addr) us, Same H H' → H q = none → LoomAt C H' q sg us (bka ws) → Q (.ref q) H'
def kdB (as : List Arc) : Bool := as.all fun a => a.1 == 0 && a.2.2 == 0
def spIsBook (K : PySem.W.Frag) (C : Addr) : Sp := fun vs H Q _ => ∃ v, vs = [v] ∧ ((∃ (q : Addr) (sg : List Nat) (us : List V) (as : List Arc), v = .ref q ∧ LoomAt C H q sg us as ∧ ∀ H', Same H H' → Q (.bl (kdB as)) H') ∨
  (∃ t, TyZ K H v t ∧ PySem.W.kitOne K t (.ref C) = some false ∧ Q (.bl false) H))
def spChkBook (C : Addr) : Sp := fun vs H Q _ => ∃ (q : Addr) (sg : List Nat) (us : List V) (as : List Arc), vs = [.ref q] ∧ LoomAt C H q sg us as ∧ kdB as = true ∧ ∀ H', Same H H' → Q .non H'
def spPWords (C : Addr) : Sp := fun vs H Q _ => ∃ (q : Addr) (sg : List Nat) (us : List V) (ws : List (List Nat)), vs = [.ref q] ∧ LoomAt C H q sg us (bka ws) ∧
  ∀ H' (r : Addr), Same H H' → H r = none → H' r = some (.lst (txts ws)) → Q (.ref r) H'
theorem kd_book (ws : List (List Nat)) : kdB (bka ws) = true := by simp [kdB, bka]
theorem kit_self {K : PySem.W.Frag} (t : Value) : PySem.W.kitOne K t t = some true := by unfold PySem.W.kitOne; simp
theorem all_map_bl (l : List Bool) : (l.map V.bl).length = l.length := List.length_map _
theorem txt_at {ws : List (List Nat)} {i : Nat} {y : V} (h : (txts ws)[i]? = some y) : ∃ u, ws[i]? = some u ∧ y = .str (SX.S u) := by
  rw [txts, List.getElem?_map] at h
  obtain ⟨u, hu, e⟩ := Option.map_eq_some_iff.mp h
  exact ⟨u, hu, e.symm⟩
theorem nat_zero (n : Nat) : decide (V.int (n : Int) = V.int 0) = (n == 0) := by
  by_cases h : n = 0
  · subst h; rfl
  · rw [decide_eq_false (fun z => h (by injection z with z; omega))]
    exact (beq_false_of_ne h).symm
section
variable {P : Program} {w : World} {K : PySem.W.Frag} {mg : Str → Option Value} {base : Heap}
theorem ok_book (T : Tx K mg) : FnOk P w K mg base CX0 6 T.f_book T.fd_book P_book (spBook T.C_Loom) := by
  have G_check_signs : FnOk P w K mg base CX0 2 T.f_check_signs T.fd_check_signs P_check_signs spChkSigns := ok_check_signs T
  have G_is_sequence : FnOk P w K mg base CX0 1 T.f_is_sequence T.fd_is_sequence P_is_sequence (spSequence K) := ok_is_sequence T
  have G_Loom_init : FnOk P w K mg base CX0 4 T.f_Loom_init T.fd_Loom_init P_Loom_init (spInit T.C_Loom) := ok_Loom_init T
  refine T.F_book.ok sc_book (fun vs H Q E h => ?_) (fun cdv A outer s H vs Q E hr h => ?_)
  · obtain ⟨a, sg, ws, rfl, _⟩ := h
    rfl
  · obtain ⟨a, sg, ws, rfl, ha, hsg, h1, h2, hw, k⟩ := h
    refine ⟨_, (pss_cons (ps_expr (pe_call G_check_signs (hr.mono (by decide)) rfl T.m_check_signs T.F_check_signs.kp T.b_check_signs .nil pass0 (pa_cons (pv 0) pa_nil)))
        (pss_cons (ps_if (pt_not (pt_val (pe_call G_is_sequence (hr.mono (by decide)) rfl T.m_is_sequence T.F_is_sequence.kp T.b_is_sequence .nil pass0 (pa_cons (pv 1) (pa_cons pe_int (pa_cons (pe_glob (v := V.int 200) rfl T.g_MOST_ARCS ⟨_, rfl⟩) pa_nil)))))) (pss_one ps_never) pss_nil)
        (pss_one (ps_ret (pe_make T.M_Loom G_Loom_init (hr.mono (by decide)) rfl T.g_Loom T.b_Loom_init .nil pass0 (pa_cons (pv 0) (pa_cons (pe_lc (own := [("word", 2)]) (g := (gName 2)) rfl sc_book.nd (pi_or (pi_list (pv 1)) (pi_tup (pv 1))) (blkOk_by (N := N_book) (sc := defScope s_book) (by decide +kernel)) (fun _ _ _ _ _ => (pg_name (i := 2) sc_book.nd rfl (Or.inl rfl))) (fun _ _ _ _ _ => pts_nil) (fun _ _ _ _ _ => (pe_tup (pa_cons pe_int (pa_cons (pv 2) (pa_cons pe_int pa_nil)))))) pa_nil))))))), ?_⟩
    refine ⟨_, rfl, sg, rfl, hsg, fun H1 s1 => ?_⟩
    refine ⟨_, rfl, a, txts ws, 1, 200, rfl, ha.same s1, fun H2 b s2 hb => ⟨b, rfl, ?_⟩⟩
    have wl : (txts ws).length = ws.length := by rw [txts, List.length_map]
    rw [hb.mpr ⟨by omega, by omega⟩]
    have s12 := s1.trans s2
    refine ⟨_, rfl, ?_⟩
    have step : ∀ {Q : VK} {D : Addr} {i : Nat} {H' : Hp} {u : List Nat}, H2 D = none → ws[i]? = some u → (∃ us, us.length = i ∧ H' D = some (.lst us) ∧ Arcs H' us ((bka ws).take i) ∧ Same H2 H') →
        ∀ t, H' t = none → ∃ acc, upd H' t (.tup [.int 0, .str (SX.S u), .int 0]) D = some (.lst acc) ∧ acc.length < sizeLine ∧ ∃ us, us.length = i + 1 ∧ upd (upd H' t (.tup [.int 0, .str (SX.S u), .int 0])) D (.lst (acc ++ [.ref t])) D = some (.lst us) ∧ Arcs (upd (upd H' t (.tup [.int 0, .str (SX.S u), .int 0])) D (.lst (acc ++ [.ref t]))) us ((bka ws).take (i + 1)) ∧ Same H2 (upd (upd H' t (.tup [.int 0, .str (SX.S u), .int 0])) D (.lst (acc ++ [.ref t]))) := by
      rintro Q D i H' u hD hu ⟨us, rfl, hDl, harc, sm⟩ t ht
      have nt : D ≠ t := fun z => hp_ne hDl ht z.symm
      have hi := (List.getElem?_eq_some_iff.mp hu).1
      have sn : Same H' (upd H' t (.tup [.int 0, .str (SX.S u), .int 0])) := Same.new _ ht
      have hD1 : upd H' t (.tup [.int 0, .str (SX.S u), .int 0]) D = some (.lst us) := by rw [upd_ne nt]; exact hDl
      refine ⟨us, hD1, lt_size (by omega), us ++ [.ref t], by simp, upd_same, ?_, (sm.trans sn).updNew hD⟩
      have e : (bka ws).take (us.length + 1) = (bka ws).take us.length ++ [(0, u, 0)] := by
        rw [take_snoc (by rw [bka, List.getElem?_map, hu]; rfl)]
      rw [e]
      exact ((harc.same sn).snoc (t := t) (a := (0, u, 0)) upd_same).updL hD1
    have fin : ∀ {H3 : Hp} {D : Addr}, H2 D = none → (∃ us, us.length = ws.length ∧ H3 D = some (.lst us) ∧ Arcs H3 us ((bka ws).take ws.length) ∧ Same H2 H3) → ∃ us, H3 D = some (.lst us) ∧ Arcs H3 us (bka ws) ∧ Same H H3 := by
      rintro H3 D hD ⟨us, hl, hDl, harc, sm⟩
      rw [List.take_of_length_le (by rw [bka_len]; exact Nat.le_refl _)] at harc
      exact ⟨us, hDl, harc, s12.trans sm⟩
    have mk : ∀ {H3 : Hp} {D : Addr} {us : List V}, H3 D = some (.lst us) → Arcs H3 us (bka ws) → Same H H3 → ∀ x dx, H3 x = none → H3 dx = none → x ≠ dx → ∃ p dx' a' sg' us' as', [V.ref x, .str (SX.S sg), .ref D] = [.ref p, .str (SX.S sg'), .ref a'] ∧ upd (upd H3 dx (.own x)) x (.ins T.C_Loom dx []) p = some (.ins T.C_Loom dx' []) ∧
        upd (upd H3 dx (.own x)) x (.ins T.C_Loom dx []) a' = some (.lst us') ∧ Arcs (upd (upd H3 dx (.own x)) x (.ins T.C_Loom dx [])) us' as' ∧ OkW sg' as' ∧ Signs sg' ∧
        ∀ (H' : Hp) (Tt : Addr), Ex p (upd (upd H3 dx (.own x)) x (.ins T.C_Loom dx [])) H' → upd (upd H3 dx (.own x)) x (.ins T.C_Loom dx []) Tt = none → H' Tt = some (.tup us') → H' p = some (.ins T.C_Loom dx' (lf sg' Tt)) → V.non = V.non ∧ Q (.ref x) H' := by
      intro H3 D us hDl harc sm x dx hx hd hne
      have S : Same H3 (upd (upd H3 dx (.own x)) x (.ins T.C_Loom dx [])) := (Same.new _ hd).trans (Same.new _ (by rw [upd_ne hne]; exact hx))
      refine ⟨x, dx, D, sg, us, bka ws, rfl, upd_same, S _ _ hDl, harc.same S, bka_ok h1 h2 hw, hsg, fun H' Tt x3 hT hTus g => ⟨rfl, ?_⟩⟩
      have s3 : Same H3 H' := fun b o e => x3 _ _ (ne_of_none e hx) (S _ _ e)
      exact k H' x us (sm.trans s3) (sm.free hx) ⟨dx, Tt, g, hTus, (harc.same s3), bka_ok h1 h2 hw, hsg⟩
    rcases ha with ha | ha
    · refine .inl ⟨_, rfl, a, rfl, ⟨_, SqL.of (s12 _ _ ha)⟩, fun D hD => lc_list (K := K) (a := a) (xs := txts ws) (fun i H' => ∃ us, us.length = i ∧ H' D = some (.lst us) ∧ Arcs H' us ((bka ws).take i) ∧ Same H2 H') ⟨[], rfl, upd_same, Arcs.nil _, Same.new _ hD⟩ (fun i H' _ ⟨_, _, _, _, sm⟩ => SqL.of (sm _ _ (s12 _ _ ha))) ?_ ?_⟩
      · rintro i y H' hy P
        obtain ⟨u, hu, rfl⟩ := txt_at hy
        exact ⟨rfl, _, rfl, le_size (by simp), fun t ht => step (Q := Q) hD hu P t ht⟩
      · intro H3 P
        rw [wl] at P
        obtain ⟨us, hDl, harc, sm⟩ := fin hD P
        exact fun x dx hx hd hne => mk hDl harc sm x dx hx hd hne.symm
    · refine .inr ⟨_, rfl, a, rfl, ⟨_, SqT.of (s12 _ _ ha)⟩, fun D hD => lc_tup (K := K) (a := a) (xs := txts ws) (fun i H' => ∃ us, us.length = i ∧ H' D = some (.lst us) ∧ Arcs H' us ((bka ws).take i) ∧ Same H2 H') ⟨[], rfl, upd_same, Arcs.nil _, Same.new _ hD⟩ (fun i H' _ ⟨_, _, _, _, sm⟩ => SqT.of (sm _ _ (s12 _ _ ha))) ?_ ?_⟩
      · rintro i y H' hy P
        obtain ⟨u, hu, rfl⟩ := txt_at hy
        exact ⟨rfl, _, rfl, le_size (by simp), fun t ht => step (Q := Q) hD hu P t ht⟩
      · intro H3 P
        rw [wl] at P
        obtain ⟨us, hDl, harc, sm⟩ := fin hD P
        exact fun x dx hx hd hne => mk hDl harc sm x dx hx hd hne.symm
theorem ok_is_book (T : Tx K mg) : FnOk P w K mg base CX0 1 T.f_is_book T.fd_is_book P_is_book (spIsBook K T.C_Loom) := by
  refine T.F_is_book.ok sc_is_book (fun vs H Q E h => ?_) (fun cdv A outer s H vs Q E hr h => ?_)
  · obtain ⟨v, rfl, _⟩ := h
    rfl
  · obtain ⟨v, rfl, h⟩ := h
    refine ⟨_, (pss_one (ps_ret (pe_and (pe_callB (call_isiZ (K := K) rfl) rfl T.n_isinstance (by decide +kernel) (pa_cons (pv 0) (pa_cons (pe_glob (v := V.ref T.C_Loom) rfl T.g_Loom rfl) pa_nil))) (pe_one (pe_callB (cr_allK (K := K) rfl rfl) rfl T.n_all (by decide +kernel) (pa_cons (pe_lc (own := [("arc", 1)]) (g := (gName 1)) rfl sc_is_book.nd (pi_tup (pe_fld (pv 0) rfl)) (blkOk_by (N := N_is_book) (sc := defScope s_is_book) (by decide +kernel)) (fun _ _ _ _ _ => (pg_name (i := 1) sc_is_book.nd rfl (Or.inl rfl))) (fun _ _ _ _ _ => pts_nil) (fun _ _ _ _ _ => (pe_and (pe_cmpR op_eq (pe_ix (ix_tupK (K := K) rfl) (pv 1) pe_int (fun _ _ => rfl)) pe_int (nomark _)) (pe_one (pe_cmpR op_eq (pe_ix (ix_tupK (K := K) rfl) (pv 1) pe_int (fun _ _ => rfl)) pe_int (nomark _)))))) pa_nil)))))), ?_⟩
    rcases h with ⟨q, sg, us, as, rfl, ⟨dx, TT, hq, hT, harc, hok, hsg⟩, k⟩ | ⟨t, ht, hk, k⟩
    · refine ⟨_, rfl, _, _, _, _, true, rfl, .own _, .x (.base (.ins hq T.cl_Loom T.ic_Loom T.ig T.it T.im_Loom)), kit_self _, true, rfl, ?_⟩
      refine ⟨_, rfl, q, _, dx, _, _, rfl, hq, T.cl_Loom, T.na_Loom_arcs, lf_arcs _ _, TT, rfl, ⟨_, SqT.of hT⟩, fun D hD => lc_tup (K := K) (a := TT) (xs := us) (fun i H' => H' D = some (.lst (((as.take i).map fun a => a.1 == 0 && a.2.2 == 0).map V.bl)) ∧ Same H H') ⟨upd_same, Same.new _ hD⟩ (fun i H' _ ⟨_, sm⟩ => SqT.of (sm _ _ hT)) ?_ ?_⟩
      · rintro i y H1 hy ⟨hDl, sm⟩
        have hi : i < as.length := by rw [← harc.1]; exact (List.getElem?_eq_some_iff.mp hy).1
        obtain ⟨t, hut, htt⟩ := harc.2 i as[i] (List.getElem?_eq_getElem hi)
        rw [hut] at hy
        cases hy
        have hl := hok.2.1
        have tk : as.take (i + 1) = as.take i ++ [as[i]] := (take_snoc (List.getElem?_eq_getElem hi)).symm
        refine ⟨rfl, _, rfl, t, _, _, _, rfl, rfl, SqT.of (sm _ _ htt), rfl, rfl, _, rfl, ?_⟩
        refine ite2 (fun c => ?_) (fun c => ?_)
        · refine ⟨_, rfl, t, _, _, _, rfl, rfl, SqT.of (sm _ _ htt), rfl, rfl, _, hDl, lt_size (by simp; omega), ?_, sm.updNew hD⟩
          rw [upd_same, tk, List.map_append, List.map_append, nat_zero] 
          rw [nat_zero] at c
          simp [of_decide_eq_true c]
        · refine ⟨_, hDl, lt_size (by simp; omega), ?_, sm.updNew hD⟩
          rw [upd_same, tk, List.map_append, List.map_append]
          rw [nat_zero] at c
          simp [c]
      · rintro H1 ⟨hDl, sm⟩
        refine ⟨D, _, rfl, SqL.of hDl, ?_⟩
        have e : as.take us.length = as := by rw [harc.1, List.take_length]
        rw [e, List.all_map]
        exact k H1 sm
    · exact ⟨_, rfl, _, _, _, _, false, rfl, .own _, ht, hk, false, rfl, k⟩
theorem ok_check_book (T : Tx K mg) : FnOk P w K mg base CX0 2 T.f_check_book T.fd_check_book P_check_book (spChkBook T.C_Loom) := by
  have G_is_book : FnOk P w K mg base CX0 1 T.f_is_book T.fd_is_book P_is_book (spIsBook K T.C_Loom) := ok_is_book T
  refine T.F_check_book.ok sc_check_book (fun vs H Q E h => ?_) (fun cdv A outer s H vs Q E hr h => ?_)
  · obtain ⟨q, sg, us, as, rfl, _⟩ := h
    rfl
  · obtain ⟨q, sg, us, as, rfl, hL, hkd, k⟩ := h
    refine ⟨_, (pss_one (ps_if (pt_not (pt_val (pe_call G_is_book (hr.mono (by decide)) rfl T.m_is_book T.F_is_book.kp T.b_is_book .nil pass0 (pa_cons (pv 0) pa_nil)))) (pss_one ps_never) pss_nil)), ?_⟩
    refine ⟨_, rfl, _, rfl, .inl ⟨q, sg, us, as, rfl, hL, fun H1 sm => ⟨_, rfl, ?_⟩⟩⟩
    rw [hkd]
    exact k H1 sm
theorem ok_words (T : Tx K mg) : FnOk P w K mg base CX0 3 T.f_words T.fd_words P_words (spPWords T.C_Loom) := by
  have G_check_book : FnOk P w K mg base CX0 2 T.f_check_book T.fd_check_book P_check_book (spChkBook T.C_Loom) := ok_check_book T
  refine T.F_words.ok sc_words (fun vs H Q E h => ?_) (fun cdv A outer s H vs Q E hr h => ?_)
  · obtain ⟨q, sg, us, ws, rfl, _⟩ := h
    rfl
  · obtain ⟨q, sg, us, ws, rfl, hL, k⟩ := h
    refine ⟨_, (pss_cons (ps_expr (pe_call G_check_book (hr.mono (by decide)) rfl T.m_check_book T.F_check_book.kp T.b_check_book .nil pass0 (pa_cons (pv 0) pa_nil)))
        (pss_one (ps_ret (pe_lc (own := [("arc", 1)]) (g := (gName 1)) rfl sc_words.nd (pi_tup (pe_fld (pv 0) rfl)) (blkOk_by (N := N_words) (sc := defScope s_words) (by decide +kernel)) (fun _ _ _ _ _ => (pg_name (i := 1) sc_words.nd rfl (Or.inl rfl))) (fun _ _ _ _ _ => pts_nil) (fun _ _ _ _ _ => (pe_ix (ix_tupK (K := K) rfl) (pv 1) pe_int (fun _ _ => rfl))))))), ?_⟩
    refine ⟨_, rfl, q, sg, us, bka ws, rfl, hL, kd_book ws, fun H1 s1 => ?_⟩
    obtain ⟨dx, TT, hq, hT, harc, hok, hsg⟩ := hL.same s1
    refine ⟨_, rfl, q, _, dx, _, _, rfl, hq, T.cl_Loom, T.na_Loom_arcs, lf_arcs _ _, TT, rfl, ⟨_, SqT.of hT⟩, fun D hD => lc_tup (K := K) (a := TT) (xs := us) (fun i H' => H' D = some (.lst (txts (ws.take i))) ∧ Same H1 H') ⟨upd_same, Same.new _ hD⟩ (fun i H' _ ⟨_, sm⟩ => SqT.of (sm _ _ hT)) ?_ ?_⟩
    · rintro i y H2 hy ⟨hDl, sm⟩
      have hl := hok.2.1
      rw [bka_len] at hl
      have hi : i < ws.length := by rw [← bka_len, ← harc.1]; exact (List.getElem?_eq_some_iff.mp hy).1
      have ei : ws[i]? = some ws[i] := List.getElem?_eq_getElem hi
      obtain ⟨t, hut, htt⟩ := harc.2 i (0, ws[i], 0) (by rw [bka, List.getElem?_map, ei]; rfl)
      rw [hut] at hy
      cases hy
      refine ⟨rfl, _, rfl, t, _, _, _, rfl, rfl, SqT.of (sm _ _ htt), rfl, _, hDl, lt_size (by simp [txts]; omega), ?_, sm.updNew hD⟩
      rw [upd_same, ← take_snoc ei, txts, txts, List.map_append]
      rfl
    · rintro H2 ⟨hDl, sm⟩
      have e : ws.take us.length = ws := by rw [harc.1, bka_len, List.take_length]
      rw [e] at hDl
      exact k H2 D (s1.trans sm) (s1.free hD) hDl
end
end J


set_option Elab.async false
set_option linter.all false
set_option maxRecDepth 100000
set_option maxHeartbeats 4000000
namespace J
open PySem L2
/-! ### what two looms are, held against each other -/
theorem S_inj {u v : List Nat} (h : SX.S u = SX.S v) : u = v := by
  unfold SX.S at h
  injection h with h
  simpa using h
def arcD (a : Arc) : PyData := .tuple [.int (a.1 : Int), .str (SX.S a.2.1), .int (a.2.2 : Int)]
theorem dp_arc {K : PySem.W.Frag} {H : Hp} {t : Addr} {a : Arc} (h : H t = some (arcHO a)) : Dp K H (.ref t) (arcD a) := .tup (SqT.of h) (.cons (.int _) (.cons (.str _) (.cons (.int _) .nil)))
theorem dp_arcs {K : PySem.W.Frag} {H : Hp} : ∀ {us : List V} {as : List Arc}, Arcs H us as → DpAll K H us (as.map arcD)
  | [], [], _ => .nil
  | [], _ :: _, h => by have := h.1; simp at this
  | _ :: _, [], h => by have := h.1; simp at this
  | u :: us, a :: as, h => by
    obtain ⟨t, e, ht⟩ := h.2 0 a rfl
    cases e
    refine .cons (dp_arc ht) (dp_arcs ⟨by have := h.1; simpa using this, fun i b hb => ?_⟩)
    obtain ⟨t', e', ht'⟩ := h.2 (i + 1) b (by simpa using hb)
    exact ⟨t', by simpa using e', ht'⟩
theorem str_beq (u v : List Nat) : (SX.S u == SX.S v) = decide (u = v) := by
  by_cases h : u = v
  · subst h; simp
  · have n : SX.S u ≠ SX.S v := fun z => h (S_inj z)
    rw [decide_eq_false h]
    exact beq_false_of_ne n
theorem nat_beq (m n : Nat) : ((m : Int) == (n : Int)) = decide (m = n) := by
  by_cases h : m = n
  · subst h; simp
  · rw [decide_eq_false h]
    exact beq_false_of_ne (fun z => h (by exact_mod_cast z))
theorem eqv_arc (a b : Arc) : PyData.eqv (arcD a) (arcD b) = decide (a = b) := by
  show (((a.1 : Int) == (b.1 : Int)) && ((SX.S a.2.1 == SX.S b.2.1) && (((a.2.2 : Int) == (b.2.2 : Int)) && true))) = _
  rw [nat_beq, nat_beq, str_beq]
  obtain ⟨a1, a2, a3⟩ := a
  obtain ⟨b1, b2, b3⟩ := b
  rw [Bool.eq_iff_iff]
  simp
theorem eqv_arcs : ∀ as bs : List Arc, PyData.eqvAll (as.map arcD) (bs.map arcD) = decide (as = bs)
  | [], [] => rfl
  | [], b :: bs => by rw [decide_eq_false (by simp)]; rfl
  | a :: as, [] => by rw [decide_eq_false (by simp)]; rfl
  | a :: as, b :: bs => by
    show (PyData.eqv (arcD a) (arcD b) && PyData.eqvAll (as.map arcD) (bs.map arcD)) = _
    rw [eqv_arc, eqv_arcs as bs, Bool.eq_iff_iff]
    simp
def txtD (ws : List (List Nat)) : List PyData := ws.map fun u => .str (SX.S u)
theorem dp_txts {K : PySem.W.Frag} {H : Hp} : ∀ ws : List (List Nat), DpAll K H (txts ws) (txtD ws)
  | [] => .nil
  | _ :: r => .cons (.str _) (dp_txts r)
theorem eqv_txts : ∀ as bs : List (List Nat), PyData.eqvAll (txtD as) (txtD bs) = decide (as = bs)
  | [], [] => rfl
  | [], b :: bs => by rw [decide_eq_false (by simp)]; rfl
  | a :: as, [] => by rw [decide_eq_false (by simp)]; rfl
  | a :: as, b :: bs => by
    show ((SX.S a == SX.S b) && PyData.eqvAll (txtD as) (txtD bs)) = _
    rw [str_beq, eqv_txts as bs, Bool.eq_iff_iff]
    simp
theorem str_ok {u : List Nat} (h : ∀ c ∈ u, c < 1114112) : PyData.strOk (SX.S u) = true := by
  unfold PyData.strOk SX.S
  simp only [List.all_toArray, List.all_eq_true, decide_eq_true_eq]
  exact h
theorem word_small {sg u : List Nat} (hs : Signs sg) (h : Word sg u) : ∀ c ∈ u, c < 1114112 := fun c hc => by
  have := (hs.2.2.1 c (h.2.2 c hc)).2
  omega
theorem lay_arcs {sg : List Nat} (hs : Signs sg) : ∀ as : List Arc, (∀ a ∈ as, OkArc sg a) → PyData.canLayAll0 (as.map arcD) = true
  | [], _ => rfl
  | a :: r, h => by
    have e : PyData.strOk (SX.S a.2.1) = true := str_ok (word_small hs (h a (by simp)).2.1)
    have ea : PyData.canLay0 (arcD a) = true := by
      show (true && (PyData.strOk (SX.S a.2.1) && (true && true))) = true
      rw [e]; rfl
    show (PyData.canLay0 (arcD a) && PyData.canLayAll0 (r.map arcD)) = true
    rw [ea, lay_arcs hs r fun b hb => h b (by simp [hb])]
    rfl
theorem deep_arcs : ∀ as : List Arc, PyData.depthAll (as.map arcD) ≤ 1
  | [] => by simp [PyData.depthAll]
  | a :: r => by
    show max (PyData.depth (arcD a)) (PyData.depthAll (r.map arcD)) ≤ 1
    have e : PyData.depth (arcD a) = 1 := by simp [arcD, PyData.depth, PyData.depthAll]
    have := deep_arcs r
    omega
theorem shaped_arcsL {sg : List Nat} {as : List Arc} (hs : Signs sg) (h : ∀ a ∈ as, OkArc sg a) : SeqAt.shaped (.tuple (as.map arcD)) = true ∧ SeqAt.shaped (.list (as.map arcD)) = true := by
  have e1 := lay_arcs hs as h
  have e2 : PyData.depthAll (as.map arcD) + 1 ≤ 64 := by
    have := deep_arcs as
    omega
  constructor
  · have q1 : PyData.canLay0 (.tuple (as.map arcD)) = true := e1
    have q2 : PyData.depth (.tuple (as.map arcD)) ≤ 64 := e2
    unfold SeqAt.shaped
    rw [q1, decide_eq_true q2]
    rfl
  · have q1 : PyData.canLay0 (.list (as.map arcD)) = true := e1
    have q2 : PyData.depth (.list (as.map arcD)) ≤ 64 := e2
    unfold SeqAt.shaped
    rw [q1, decide_eq_true q2]
    rfl
theorem lay_txts : ∀ ws : List (List Nat), (∀ u ∈ ws, ∀ c ∈ u, c < 1114112) → PyData.canLayAll0 (txtD ws) = true
  | [], _ => rfl
  | u :: r, h => by
    show (PyData.strOk (SX.S u) && PyData.canLayAll0 (txtD r)) = true
    rw [str_ok (h u (by simp)), lay_txts r fun v hv => h v (by simp [hv])]
    rfl
theorem deep_txts : ∀ ws : List (List Nat), PyData.depthAll (txtD ws) = 0
  | [] => by simp [txtD, PyData.depthAll]
  | u :: r => by
    show max (PyData.depth (.str (SX.S u))) (PyData.depthAll (txtD r)) = 0
    rw [deep_txts r]
    simp [PyData.depth]
theorem shaped_txts {ws : List (List Nat)} (h : ∀ u ∈ ws, ∀ c ∈ u, c < 1114112) : SeqAt.shaped (.list (txtD ws)) = true := by
  have q1 : PyData.canLay0 (.list (txtD ws)) = true := lay_txts ws h
  have q2 : PyData.depth (.list (txtD ws)) ≤ 64 := by
    show PyData.depthAll (txtD ws) + 1 ≤ 64
    rw [deep_txts]
    decide
  unfold SeqAt.shaped
  rw [q1, decide_eq_true q2]
  rfl
/-- two looms, and whether they are the same -/
def Eql (C : Addr) (a b : Addr) (r : Bool) (H : Hp) : Prop := ∃ sg us as sg' us' as', LoomAt C H a sg us as ∧ LoomAt C H b sg' us' as' ∧ r = decide (sg = sg' ∧ as = as')
/-- values that are told apart by what they are -/
def Flat (v : V) : Prop := (∃ b, v = .bl b) ∨ (∃ i, v = .int i) ∨ (∃ z, v = .str z)
def spLike : Sp := fun vs H Q _ => ∃ x y, vs = [x, y] ∧ (Flat x ∧ y = x ∧ Q (.bl true) H ∨
  ∃ (a b : Addr) (xs : List V), x = .ref a ∧ y = .ref b ∧ H a = some (.lst xs) ∧ H b = some (.lst xs) ∧ (∀ v ∈ xs, Flat v) ∧ xs.length ≤ 1000 ∧ ∀ H', Same H H' → Q (.bl true) H')
def spFlat : Sp := fun vs H Q _ => ∃ x, vs = [x, x] ∧ Flat x ∧ Q (.bl true) H
theorem flat_txts (ws : List (List Nat)) : ∀ v ∈ txts ws, Flat v := fun v hv => by
  obtain ⟨u, _, rfl⟩ := List.mem_map.mp hv
  exact .inr (.inr ⟨_, rfl⟩)
theorem third {r : Int} (h0 : 0 ≤ r) (h1 : r < 4) : ∃ m : Nat, r.fdiv 3 = (m : Int) ∧ m ≤ 63 := by
  have h : r = 0 ∨ r = 1 ∨ r = 2 ∨ r = 3 := by omega
  rcases h with rfl | rfl | rfl | rfl
  · exact ⟨0, rfl, by decide⟩
  · exact ⟨0, rfl, by decide⟩
  · exact ⟨0, rfl, by decide⟩
  · exact ⟨1, rfl, by decide⟩
def spNo : Sp := fun _ _ _ _ => False
def spOdd (K : PySem.W.Frag) (ns : List Int) (C : Addr) : Sp := fun vs H Q _ => ∃ (a p : Addr), vs = [.ref a, .ref p] ∧ St K ns a H p ∧ ∀ H' x t, Ex p H H' → St K ns a H' p → TyZ K H' x t → PySem.W.kitOne K t (.ref C) = some false → Q x H'
def spArcs (K : PySem.W.Frag) (ns : List Int) : Sp := fun vs H Q _ => ∃ (a p : Addr) (sg : List Nat), vs = [.ref a, .ref p, .str (SX.S sg)] ∧ St K ns a H p ∧ Signs sg ∧
  ∀ H' (q : Addr) us as, Ex p H H' → St K ns a H' p → H q = none → q ≠ p → H' q = some (.lst us) → Arcs H' us as → OkW sg as → Q (.ref q) H'
theorem kit_own {K : PySem.W.Frag} {t : Value} {C : Addr} {b : Bool} (h1 : PySem.W.isClsIn K C = true) (h2 : PySem.W.typeIn K (.ref C) = some (.type "type")) (h3 : PySem.W.subIn K t (.ref C) = some b) (hb : t = .ref C → b = true) : PySem.W.kitOne K t (.ref C) = some b := by
  unfold PySem.W.kitOne
  by_cases e : (t == Value.ref C) = true
  · rw [if_pos e, hb (eq_of_beq e)]
  · rw [if_neg e]
    have q : ((PySem.W.clsIn K C).isSome && PySem.W.typeIn K (.ref C) == some (.type "type")) = true := by
      have h1' : (PySem.W.clsIn K C).isSome = true := h1
      rw [h1', h2] <;> rfl
    show (if ((PySem.W.clsIn K C).isSome && PySem.W.typeIn K (.ref C) == some (.type "type")) = true then PySem.W.subIn K t (.ref C) else none) = some b
    rw [if_pos q]
    exact h3
theorem Arcs.st {K : PySem.W.Frag} {ns : List Int} {a p : Addr} {H H' : Hp} {vs : List V} {as : List Arc} (h : Arcs H vs as) (st : St K ns a H p) (x : Ex p H H') : Arcs H' vs as := by
  obtain ⟨⟨b0, b1, b2, b3, hp, _⟩, _⟩ := st
  exact h.ex x hp
section
variable {P : Program} {w : World} {K : PySem.W.Frag} {mg : Str → Option Value} {base : Heap}
theorem ok_Loom_eq (T : Tx K mg) : FnOk P w K mg base CX0 1 T.f_Loom_eq T.fd_Loom_eq P_Loom_eq (spEqB (Eql T.C_Loom)) := by
  refine T.F_Loom_eq.ok sc_Loom_eq (fun vs H Q E h => ?_) (fun cdv A outer s H vs Q E hr h => ?_)
  · obtain ⟨a, b, r, rfl, _⟩ := h
    rfl
  · obtain ⟨a, b, r, rfl, ⟨sg, us, as, sg', us', as', ⟨dx, TT, hq, hT, harc, hok, hsg⟩, ⟨dx', TT', hq', hT', harc', hok', hsg'⟩, rfl⟩, k⟩ := h
    refine ⟨_, (pss_one (ps_ret (pe_and (pe_callB (call_isiZ (K := K) rfl) rfl T.n_isinstance (by decide +kernel) (pa_cons (pv 1) (pa_cons (pe_glob (v := V.ref T.C_Loom) rfl T.g_Loom rfl) pa_nil))) (pe_and (pe_cmpR op_eq (pe_fld (pv 0) rfl) (pe_fld (pv 1) rfl) (nomark _)) (pe_one (pe_cmpR (op_eqD hr.units) (pe_fld (pv 0) rfl) (pe_fld (pv 1) rfl) (nomark _))))))), ?_⟩
    refine ⟨_, rfl, _, _, _, _, true, rfl, .own _, .x (.base (.ins hq' T.cl_Loom T.ic_Loom T.ig T.it T.im_Loom)), kit_self _, true, rfl, ?_⟩
    refine ⟨_, rfl, a, _, dx, _, _, rfl, hq, T.cl_Loom, T.na_Loom_signs, lf_signs _ _, ?_⟩
    refine ⟨_, rfl, b, _, dx', _, _, rfl, hq', T.cl_Loom, T.na_Loom_signs, lf_signs _ _, ?_⟩
    refine ⟨rfl, _, rfl, ?_⟩
    refine ite2 (fun c => ?_) (fun c => ?_)
    · have e0 := of_decide_eq_true c
      injection e0 with e0
      have e1 : sg = sg' := S_inj e0
      subst e1
      refine ⟨_, rfl, a, _, dx, _, _, rfl, hq, T.cl_Loom, T.na_Loom_arcs, lf_arcs _ _, ?_⟩
      refine ⟨_, rfl, b, _, dx', _, _, rfl, hq', T.cl_Loom, T.na_Loom_arcs, lf_arcs _ _, ?_⟩
      refine ⟨_, _, .tup (SqT.of hT) (dp_arcs harc), .tup (SqT.of hT') (dp_arcs harc'), (shaped_arcsL hsg hok.2.2).1, (shaped_arcsL hsg hok'.2.2).1, ?_⟩
      have e2 : PyData.eqv (.tuple (as.map arcD)) (.tuple (as'.map arcD)) = decide (sg = sg ∧ as = as') := by
        show PyData.eqvAll (as.map arcD) (as'.map arcD) = _
        rw [eqv_arcs]
        simp
      rw [e2]
      exact k H Ext.rfl'
    · have n : ¬ (sg = sg' ∧ as = as') := fun z => c (decide_eq_true (by rw [z.1]))
      rw [decide_eq_false n] at k
      exact k H Ext.rfl'
theorem ok_l_likeN (T : Tx K mg) : FnOk P w K mg base CX0 1 T.f_l_like T.fd_l_like P_l_like spNo :=
  T.F_l_like.ok sc_l_like (fun vs H Q E h => h.elim) (fun cdv A outer s H vs Q E hr h => h.elim)
theorem ok_l_likeF (T : Tx K mg) : FnOk P w K mg base CX0 2 T.f_l_like T.fd_l_like P_l_like spFlat := by
  have G_l_like : FnOk P w K mg base CX0 1 T.f_l_like T.fd_l_like P_l_like spNo := ok_l_likeN T
  refine T.F_l_like.ok sc_l_like (fun vs H Q E h => ?_) (fun cdv A outer s H vs Q E hr h => ?_)
  · obtain ⟨x, rfl, _⟩ := h
    rfl
  · obtain ⟨x, rfl, h, k⟩ := h
    refine ⟨_, (pss_cons (ps_if (pt_cmpR op_isN (pv 1) pe_non (nomark _)) (pss_one (ps_ret (pe_cmpR op_isN (pv 0) pe_non (nomark _)))) pss_nil)
        (pss_cons (ps_if (pt_val (pe_callB (call_isiK' (K := K) rfl) rfl T.n_isinstance (by decide +kernel) (pa_cons (pv 1) (pa_cons (pe_bltn (v := V.ty "bool") (u := .type "bool") rfl T.n_bool (by decide +kernel) rfl) pa_nil)))) (pss_one (ps_ret (pe_and (pe_callB (call_isiK' (K := K) rfl) rfl T.n_isinstance (by decide +kernel) (pa_cons (pv 0) (pa_cons (pe_bltn (v := V.ty "bool") (u := .type "bool") rfl T.n_bool (by decide +kernel) rfl) pa_nil))) (pe_one (pe_cmpR op_eq (pv 0) (pv 1) (nomark _)))))) pss_nil)
        (pss_cons (ps_if (pt_val (pe_callB (call_isiK' (K := K) rfl) rfl T.n_isinstance (by decide +kernel) (pa_cons (pv 1) (pa_cons (pe_bltn (v := V.ty "int") (u := .type "int") rfl T.n_int (by decide +kernel) rfl) pa_nil)))) (pss_one (ps_ret (pe_and (pe_callB (call_isiK' (K := K) rfl) rfl T.n_isinstance (by decide +kernel) (pa_cons (pv 0) (pa_cons (pe_bltn (v := V.ty "int") (u := .type "int") rfl T.n_int (by decide +kernel) rfl) pa_nil))) (pe_and (pe_not (pe_callB (call_isiK' (K := K) rfl) rfl T.n_isinstance (by decide +kernel) (pa_cons (pv 0) (pa_cons (pe_bltn (v := V.ty "bool") (u := .type "bool") rfl T.n_bool (by decide +kernel) rfl) pa_nil)))) (pe_one (pe_cmpR op_eq (pv 0) (pv 1) (nomark _))))))) pss_nil)
        (pss_cons (ps_if (pt_val (pe_callB (call_isiK' (K := K) rfl) rfl T.n_isinstance (by decide +kernel) (pa_cons (pv 1) (pa_cons (pe_bltn (v := V.ty "str") (u := .type "str") rfl T.n_str (by decide +kernel) rfl) pa_nil)))) (pss_one (ps_ret (pe_and (pe_callB (call_isiK' (K := K) rfl) rfl T.n_isinstance (by decide +kernel) (pa_cons (pv 0) (pa_cons (pe_bltn (v := V.ty "str") (u := .type "str") rfl T.n_str (by decide +kernel) rfl) pa_nil))) (pe_one (pe_cmpR op_eq (pv 0) (pv 1) (nomark _)))))) pss_nil)
        (pss_cons (ps_if (pt_val (pe_callB (call_isiK' (K := K) rfl) rfl T.n_isinstance (by decide +kernel) (pa_cons (pv 1) (pa_cons (pe_bltn (v := V.ty "dict") (u := .type "dict") rfl T.n_dict (by decide +kernel) rfl) pa_nil)))) (pss_cons (ps_if (PW.pt (pw_or (pt_not (pt_val (pe_callB (call_isiK' (K := K) rfl) rfl T.n_isinstance (by decide +kernel) (pa_cons (pv 0) (pa_cons (pe_bltn (v := V.ty "dict") (u := .type "dict") rfl T.n_dict (by decide +kernel) rfl) pa_nil))))) (pw_or1 (pt_cmpR op_ne (pe_callB (call_len_seqK (K := K) rfl) rfl T.n_len (by decide +kernel) (pa_cons (pv 0) pa_nil)) (pe_callB (call_len_seqK (K := K) rfl) rfl T.n_len (by decide +kernel) (pa_cons (pv 1) pa_nil)) (nomark _))))) (pss_one (ps_ret pe_bl)) pss_nil)
        (pss_one ps_never)) pss_nil)
        (pss_cons (ps_if (PW.pt (pw_and (pt_val (pe_callB (call_isiK' (K := K) rfl) rfl T.n_isinstance (by decide +kernel) (pa_cons (pv 1) (pa_cons (pe_bltn (v := V.ty "tuple") (u := .type "tuple") rfl T.n_tuple (by decide +kernel) rfl) pa_nil)))) (pw_and1 (pt_not (pt_val (pe_callB (call_isiK' (K := K) rfl) rfl T.n_isinstance (by decide +kernel) (pa_cons (pv 0) (pa_cons (pe_bltn (v := V.ty "tuple") (u := .type "tuple") rfl T.n_tuple (by decide +kernel) rfl) pa_nil)))))))) (pss_one (ps_ret pe_bl)) pss_nil)
        (pss_cons (ps_if (PW.pt (pw_or (PW.pt (pw_and (pt_val (pe_callB (call_isiK' (K := K) rfl) rfl T.n_isinstance (by decide +kernel) (pa_cons (pv 1) (pa_cons (pe_bltn (v := V.ty "list") (u := .type "list") rfl T.n_list (by decide +kernel) rfl) pa_nil)))) (pw_and1 (pt_not (pt_val (pe_callB (call_isiK' (K := K) rfl) rfl T.n_isinstance (by decide +kernel) (pa_cons (pv 0) (pa_cons (pe_bltn (v := V.ty "list") (u := .type "list") rfl T.n_list (by decide +kernel) rfl) pa_nil)))))))) (pw_or1 (pt_cmpR op_ne (pe_callB (call_len_seqK (K := K) rfl) rfl T.n_len (by decide +kernel) (pa_cons (pv 0) pa_nil)) (pe_callB (call_len_seqK (K := K) rfl) rfl T.n_len (by decide +kernel) (pa_cons (pv 1) pa_nil)) (nomark _))))) (pss_one (ps_ret pe_bl)) pss_nil)
        (pss_one (ps_ret (pe_callB (cr_allK (K := K) rfl rfl) rfl T.n_all (by decide +kernel) (pa_cons (pe_lc (own := [("_law_k", 2)]) (g := (gName 2)) rfl sc_l_like.nd (pi_range1 rfl T.n_range (pa_cons (pe_callB (call_len_seqK (K := K) rfl) rfl T.n_len (by decide +kernel) (pa_cons (pv 1) pa_nil)) pa_nil)) (blkOk_by (N := N_l_like) (sc := defScope s_l_like) (by decide +kernel)) (fun _ _ _ _ _ => (pg_name (i := 2) sc_l_like.nd rfl (Or.inl rfl))) (fun _ _ _ _ _ => pts_nil) (fun _ _ _ _ _ => (pe_call G_l_like (hr.mono (by decide)) rfl T.m_l_like T.F_l_like.kp T.b_l_like .nil pass0 (pa_cons (pe_ix (ix_listK (K := K) rfl) (pv 0) (pv 2) (fun _ _ => rfl)) (pa_cons (pe_ix (ix_listK (K := K) rfl) (pv 1) (pv 2) (fun _ _ => rfl)) pa_nil))))) pa_nil))))))))))), ?_⟩
    rcases h with ⟨b, rfl⟩ | ⟨i, rfl⟩ | ⟨z, rfl⟩
    · refine ⟨_, rfl, rfl, _, rfl, iteF ?_⟩
      refine ⟨_, rfl, _, _, _, _, true, rfl, .ty "bool", .base (.bl b), kit_ty (by decide +kernel), true, rfl, iteT ?_⟩
      refine ⟨_, rfl, _, _, _, _, true, rfl, .ty "bool", .base (.bl b), kit_ty (by decide +kernel), true, rfl, ?_⟩
      refine ⟨_, rfl, _, rfl, rfl, ?_⟩
      rw [decide_eq_true rfl]
      exact k
    · refine ⟨_, rfl, rfl, _, rfl, iteF ?_⟩
      refine ⟨_, rfl, _, _, _, _, false, rfl, .ty "bool", .base (.int i), kit_ty (by decide +kernel), false, rfl, iteF ?_⟩
      refine ⟨_, rfl, _, _, _, _, true, rfl, .ty "int", .base (.int i), kit_ty (by decide +kernel), true, rfl, iteT ?_⟩
      refine ⟨_, rfl, _, _, _, _, true, rfl, .ty "int", .base (.int i), kit_ty (by decide +kernel), true, rfl, ?_⟩
      refine ⟨_, rfl, _, _, _, _, false, rfl, .ty "bool", .base (.int i), kit_ty (by decide +kernel), false, rfl, true, rfl, ?_⟩
      refine ⟨_, rfl, _, rfl, rfl, ?_⟩
      rw [decide_eq_true rfl]
      exact k
    · refine ⟨_, rfl, rfl, _, rfl, iteF ?_⟩
      refine ⟨_, rfl, _, _, _, _, false, rfl, .ty "bool", .base (.str z), kit_ty (by decide +kernel), false, rfl, iteF ?_⟩
      refine ⟨_, rfl, _, _, _, _, false, rfl, .ty "int", .base (.str z), kit_ty (by decide +kernel), false, rfl, iteF ?_⟩
      refine ⟨_, rfl, _, _, _, _, true, rfl, .ty "str", .base (.str z), kit_ty (by decide +kernel), true, rfl, iteT ?_⟩
      refine ⟨_, rfl, _, _, _, _, true, rfl, .ty "str", .base (.str z), kit_ty (by decide +kernel), true, rfl, ?_⟩
      refine ⟨_, rfl, _, rfl, rfl, ?_⟩
      rw [decide_eq_true rfl]
      exact k
theorem ok_l_like (T : Tx K mg) : FnOk P w K mg base CX0 3 T.f_l_like T.fd_l_like P_l_like spLike := by
  have G_l_like : FnOk P w K mg base CX0 2 T.f_l_like T.fd_l_like P_l_like spFlat := ok_l_likeF T
  refine T.F_l_like.ok sc_l_like (fun vs H Q E h => ?_) (fun cdv A outer s H vs Q E hr h => ?_)
  · obtain ⟨x, y, rfl, _⟩ := h
    rfl
  · obtain ⟨x, y, rfl, h⟩ := h
    refine ⟨_, (pss_cons (ps_if (pt_cmpR op_isN (pv 1) pe_non (nomark _)) (pss_one (ps_ret (pe_cmpR op_isN (pv 0) pe_non (nomark _)))) pss_nil)
        (pss_cons (ps_if (pt_val (pe_callB (call_isiK' (K := K) rfl) rfl T.n_isinstance (by decide +kernel) (pa_cons (pv 1) (pa_cons (pe_bltn (v := V.ty "bool") (u := .type "bool") rfl T.n_bool (by decide +kernel) rfl) pa_nil)))) (pss_one (ps_ret (pe_and (pe_callB (call_isiK' (K := K) rfl) rfl T.n_isinstance (by decide +kernel) (pa_cons (pv 0) (pa_cons (pe_bltn (v := V.ty "bool") (u := .type "bool") rfl T.n_bool (by decide +kernel) rfl) pa_nil))) (pe_one (pe_cmpR op_eq (pv 0) (pv 1) (nomark _)))))) pss_nil)
        (pss_cons (ps_if (pt_val (pe_callB (call_isiK' (K := K) rfl) rfl T.n_isinstance (by decide +kernel) (pa_cons (pv 1) (pa_cons (pe_bltn (v := V.ty "int") (u := .type "int") rfl T.n_int (by decide +kernel) rfl) pa_nil)))) (pss_one (ps_ret (pe_and (pe_callB (call_isiK' (K := K) rfl) rfl T.n_isinstance (by decide +kernel) (pa_cons (pv 0) (pa_cons (pe_bltn (v := V.ty "int") (u := .type "int") rfl T.n_int (by decide +kernel) rfl) pa_nil))) (pe_and (pe_not (pe_callB (call_isiK' (K := K) rfl) rfl T.n_isinstance (by decide +kernel) (pa_cons (pv 0) (pa_cons (pe_bltn (v := V.ty "bool") (u := .type "bool") rfl T.n_bool (by decide +kernel) rfl) pa_nil)))) (pe_one (pe_cmpR op_eq (pv 0) (pv 1) (nomark _))))))) pss_nil)
        (pss_cons (ps_if (pt_val (pe_callB (call_isiK' (K := K) rfl) rfl T.n_isinstance (by decide +kernel) (pa_cons (pv 1) (pa_cons (pe_bltn (v := V.ty "str") (u := .type "str") rfl T.n_str (by decide +kernel) rfl) pa_nil)))) (pss_one (ps_ret (pe_and (pe_callB (call_isiK' (K := K) rfl) rfl T.n_isinstance (by decide +kernel) (pa_cons (pv 0) (pa_cons (pe_bltn (v := V.ty "str") (u := .type "str") rfl T.n_str (by decide +kernel) rfl) pa_nil))) (pe_one (pe_cmpR op_eq (pv 0) (pv 1) (nomark _)))))) pss_nil)
        (pss_cons (ps_if (pt_val (pe_callB (call_isiK' (K := K) rfl) rfl T.n_isinstance (by decide +kernel) (pa_cons (pv 1) (pa_cons (pe_bltn (v := V.ty "dict") (u := .type "dict") rfl T.n_dict (by decide +kernel) rfl) pa_nil)))) (pss_cons (ps_if (PW.pt (pw_or (pt_not (pt_val (pe_callB (call_isiK' (K := K) rfl) rfl T.n_isinstance (by decide +kernel) (pa_cons (pv 0) (pa_cons (pe_bltn (v := V.ty "dict") (u := .type "dict") rfl T.n_dict (by decide +kernel) rfl) pa_nil))))) (pw_or1 (pt_cmpR op_ne (pe_callB (call_len_seqK (K := K) rfl) rfl T.n_len (by decide +kernel) (pa_cons (pv 0) pa_nil)) (pe_callB (call_len_seqK (K := K) rfl) rfl T.n_len (by decide +kernel) (pa_cons (pv 1) pa_nil)) (nomark _))))) (pss_one (ps_ret pe_bl)) pss_nil)
        (pss_one ps_never)) pss_nil)
        (pss_cons (ps_if (PW.pt (pw_and (pt_val (pe_callB (call_isiK' (K := K) rfl) rfl T.n_isinstance (by decide +kernel) (pa_cons (pv 1) (pa_cons (pe_bltn (v := V.ty "tuple") (u := .type "tuple") rfl T.n_tuple (by decide +kernel) rfl) pa_nil)))) (pw_and1 (pt_not (pt_val (pe_callB (call_isiK' (K := K) rfl) rfl T.n_isinstance (by decide +kernel) (pa_cons (pv 0) (pa_cons (pe_bltn (v := V.ty "tuple") (u := .type "tuple") rfl T.n_tuple (by decide +kernel) rfl) pa_nil)))))))) (pss_one (ps_ret pe_bl)) pss_nil)
        (pss_cons (ps_if (PW.pt (pw_or (PW.pt (pw_and (pt_val (pe_callB (call_isiK' (K := K) rfl) rfl T.n_isinstance (by decide +kernel) (pa_cons (pv 1) (pa_cons (pe_bltn (v := V.ty "list") (u := .type "list") rfl T.n_list (by decide +kernel) rfl) pa_nil)))) (pw_and1 (pt_not (pt_val (pe_callB (call_isiK' (K := K) rfl) rfl T.n_isinstance (by decide +kernel) (pa_cons (pv 0) (pa_cons (pe_bltn (v := V.ty "list") (u := .type "list") rfl T.n_list (by decide +kernel) rfl) pa_nil)))))))) (pw_or1 (pt_cmpR op_ne (pe_callB (call_len_seqK (K := K) rfl) rfl T.n_len (by decide +kernel) (pa_cons (pv 0) pa_nil)) (pe_callB (call_len_seqK (K := K) rfl) rfl T.n_len (by decide +kernel) (pa_cons (pv 1) pa_nil)) (nomark _))))) (pss_one (ps_ret pe_bl)) pss_nil)
        (pss_one (ps_ret (pe_callB (cr_allK (K := K) rfl rfl) rfl T.n_all (by decide +kernel) (pa_cons (pe_lc (own := [("_law_k", 2)]) (g := (gName 2)) rfl sc_l_like.nd (pi_range1 rfl T.n_range (pa_cons (pe_callB (call_len_seqK (K := K) rfl) rfl T.n_len (by decide +kernel) (pa_cons (pv 1) pa_nil)) pa_nil)) (blkOk_by (N := N_l_like) (sc := defScope s_l_like) (by decide +kernel)) (fun _ _ _ _ _ => (pg_name (i := 2) sc_l_like.nd rfl (Or.inl rfl))) (fun _ _ _ _ _ => pts_nil) (fun _ _ _ _ _ => (pe_call G_l_like (hr.mono (by decide)) rfl T.m_l_like T.F_l_like.kp T.b_l_like .nil pass0 (pa_cons (pe_ix (ix_listK (K := K) rfl) (pv 0) (pv 2) (fun _ _ => rfl)) (pa_cons (pe_ix (ix_listK (K := K) rfl) (pv 1) (pv 2) (fun _ _ => rfl)) pa_nil))))) pa_nil))))))))))), ?_⟩
    rcases h with ⟨⟨b, rfl⟩ | ⟨i, rfl⟩ | ⟨z, rfl⟩, rfl, k⟩ | ⟨a, b, xs, rfl, rfl, ha, hb, hf, hl, k⟩
    · refine ⟨_, rfl, rfl, _, rfl, iteF ?_⟩
      refine ⟨_, rfl, _, _, _, _, true, rfl, .ty "bool", .base (.bl b), kit_ty (by decide +kernel), true, rfl, iteT ?_⟩
      refine ⟨_, rfl, _, _, _, _, true, rfl, .ty "bool", .base (.bl b), kit_ty (by decide +kernel), true, rfl, ?_⟩
      refine ⟨_, rfl, _, rfl, rfl, ?_⟩
      rw [decide_eq_true rfl]
      exact k
    · refine ⟨_, rfl, rfl, _, rfl, iteF ?_⟩
      refine ⟨_, rfl, _, _, _, _, false, rfl, .ty "bool", .base (.int i), kit_ty (by decide +kernel), false, rfl, iteF ?_⟩
      refine ⟨_, rfl, _, _, _, _, true, rfl, .ty "int", .base (.int i), kit_ty (by decide +kernel), true, rfl, iteT ?_⟩
      refine ⟨_, rfl, _, _, _, _, true, rfl, .ty "int", .base (.int i), kit_ty (by decide +kernel), true, rfl, ?_⟩
      refine ⟨_, rfl, _, _, _, _, false, rfl, .ty "bool", .base (.int i), kit_ty (by decide +kernel), false, rfl, true, rfl, ?_⟩
      refine ⟨_, rfl, _, rfl, rfl, ?_⟩
      rw [decide_eq_true rfl]
      exact k
    · refine ⟨_, rfl, rfl, _, rfl, iteF ?_⟩
      refine ⟨_, rfl, _, _, _, _, false, rfl, .ty "bool", .base (.str z), kit_ty (by decide +kernel), false, rfl, iteF ?_⟩
      refine ⟨_, rfl, _, _, _, _, false, rfl, .ty "int", .base (.str z), kit_ty (by decide +kernel), false, rfl, iteF ?_⟩
      refine ⟨_, rfl, _, _, _, _, true, rfl, .ty "str", .base (.str z), kit_ty (by decide +kernel), true, rfl, iteT ?_⟩
      refine ⟨_, rfl, _, _, _, _, true, rfl, .ty "str", .base (.str z), kit_ty (by decide +kernel), true, rfl, ?_⟩
      refine ⟨_, rfl, _, rfl, rfl, ?_⟩
      rw [decide_eq_true rfl]
      exact k
    · refine ⟨_, rfl, rfl, _, rfl, iteF ?_⟩
      refine ⟨_, rfl, _, _, _, _, false, rfl, .ty "bool", .base (.lst hb), kit_ty (by decide +kernel), false, rfl, iteF ?_⟩
      refine ⟨_, rfl, _, _, _, _, false, rfl, .ty "int", .base (.lst hb), kit_ty (by decide +kernel), false, rfl, iteF ?_⟩
      refine ⟨_, rfl, _, _, _, _, false, rfl, .ty "str", .base (.lst hb), kit_ty (by decide +kernel), false, rfl, iteF ?_⟩
      refine ⟨_, rfl, _, _, _, _, false, rfl, .ty "dict", .base (.lst hb), kit_ty (by decide +kernel), false, rfl, iteF ?_⟩
      refine ⟨_, rfl, _, _, _, _, false, rfl, .ty "tuple", .base (.lst hb), kit_ty (by decide +kernel), false, rfl, iteF (iteF ?_)⟩
      refine ⟨_, rfl, _, _, _, _, true, rfl, .ty "list", .base (.lst hb), kit_ty (by decide +kernel), true, rfl, iteT ?_⟩
      refine ⟨_, rfl, _, _, _, _, true, rfl, .ty "list", .base (.lst ha), kit_ty (by decide +kernel), true, rfl, iteF ?_⟩
      refine ⟨_, rfl, a, _, rfl, .inl (SqL.of ha), _, rfl, b, _, rfl, .inl (SqL.of hb), rfl, false, congrArg V.bl (by simp), iteF ?_⟩
      refine ⟨_, rfl, b, _, rfl, .inl (SqL.of hb), _, rfl, by omega, by omega, fun D hD => lc_range (lo := 0) (n := xs.length) (fun i H' => H' D = some (.lst ((List.replicate i true).map V.bl)) ∧ Same H H') ⟨upd_same, Same.new _ hD⟩ ?_ ?_⟩
      · rintro i H1 hi ⟨hDl, sm⟩
        have ei : xs[i]? = some xs[i] := List.getElem?_eq_getElem hi
        have e0 : (0 : Int) + (i : Int) = (i : Int) := by omega
        refine ⟨rfl, _, rfl, _, rfl, a, _, _, _, rfl, rfl, SqL.of (sm _ _ ha), by rw [e0]; exact atI_nat ei, _, rfl, _, rfl, b, _, _, _, rfl, rfl, SqL.of (sm _ _ hb), by rw [e0]; exact atI_nat ei, _, rfl, hf _ (List.getElem_mem hi), _, hDl, lt_size (by simp; omega), ?_, sm.updNew hD⟩
        rw [upd_same, rep_snoc]
      · rintro H1 ⟨hDl, sm⟩
        refine ⟨D, _, rfl, SqL.of hDl, ?_⟩
        rw [all_true]
        exact k H1 sm
end
end J


set_option Elab.async false
set_option linter.all false
set_option maxRecDepth 100000
set_option maxHeartbeats 4000000
namespace J
open PySem L2
theorem erase_perm {α : Type} : ∀ {l : List α} {j : Nat} {x : α}, l[j]? = some x → (x :: l.eraseIdx j).Perm l
  | [], _, _, h => by simp at h
  | y :: l, 0, x, h => by
    cases h
    exact .refl _
  | y :: l, j + 1, x, h => by
    have q := erase_perm (l := l) (j := j) (x := x) (by simpa using h)
    exact (List.Perm.swap y x _).trans (q.cons y)
theorem txts_erase : ∀ (ws : List (List Nat)) (j : Nat), (txts ws).eraseIdx j = txts (ws.eraseIdx j)
  | [], _ => rfl
  | _ :: _, 0 => rfl
  | u :: r, j + 1 => congrArg (V.str (SX.S u) :: ·) (txts_erase r j)
theorem seq_at {r : Int} {n : Nat} (h0 : 0 ≤ r) (h1 : r < n) : seqIndex? r n = some r.toNat := by
  have e : (if r < 0 then r + (n : Int) else r) = r := if_neg (by omega)
  unfold seqIndex?
  simp only [e]
  rw [decide_eq_true h0, decide_eq_true h1]
  rfl
theorem txts_cat (us vs : List (List Nat)) : txts us ++ txts vs = txts (us ++ vs) := by simp [txts]
def spShuf (K : PySem.W.Frag) (ns : List Int) : Sp := fun vs H Q _ => ∃ (a p q : Addr) (ws : List (List Nat)), vs = [.ref a, .ref p, .ref q] ∧ St K ns a H p ∧ q ≠ p ∧ H q = some (.lst (txts ws)) ∧ ws.length ≤ 1000 ∧
  ∀ H' (r : Addr) us, Ex p H H' → St K ns a H' p → H r = none → r ≠ p → H' r = some (.lst (txts us)) → us.Perm ws → Q (.ref r) H'
section
variable {P : Program} {w : World} {K : PySem.W.Frag} {mg : Str → Option Value} {base : Heap}
theorem ok_l_shuffled (T : Tx K mg) (ns : List Int) : FnOk P w K mg base CX0 2 T.f_l_shuffled T.fd_l_shuffled P_l_shuffled (spShuf K ns) := by
  have G_l_take : FnOk P w K mg base CX0 1 T.f_l_take T.fd_l_take P_l_take (spTake K ns) := ok_l_take T ns
  refine T.F_l_shuffled.ok sc_l_shuffled (fun vs H Q E h => ?_) (fun cdv A outer s H vs Q E hr h => ?_)
  · obtain ⟨a, p, q, ws, rfl, _⟩ := h
    rfl
  · obtain ⟨a, p, q, ws, rfl, hst, nq, hq, hl, k⟩ := h
    refine ⟨_, (pss_cons (ps_set (i := 3) sc_l_shuffled.nd rfl (Or.inl rfl) (pe_callTy (call_list_ofK (K := K) rfl) rfl T.n_list (by decide +kernel) (pa_cons (pv 2) pa_nil)))
        (pss_cons (ps_set (i := 4) sc_l_shuffled.nd rfl (Or.inl rfl) (pe_lst pa_nil))
        (pss_cons (ps_for PassesOwn.never rfl (pi_range1 rfl T.n_range (pa_cons (pe_callB (call_len_seqK (K := K) rfl) rfl T.n_len (by decide +kernel) (pa_cons (pv 2) pa_nil)) pa_nil)) (pg_name (i := 5) sc_l_shuffled.nd rfl (Or.inl rfl)) (pss_one (ps_expr (pe_bm PySem.F.plainAttrs_list PySem.F.slot_list_append PySem.F.type_list_append mt_append (pv 4) (pa_cons (pe_bm PySem.F.plainAttrs_list PySem.F.slot_list_pop PySem.F.type_list_pop mt_popAt (pv 3) (pa_cons (pe_call G_l_take (hr.mono (by decide)) rfl T.m_l_take T.F_l_take.kp T.b_l_take .nil pass0 (pa_cons (pv 0) (pa_cons (pv 1) (pa_cons (pe_callB (call_len_seqK (K := K) rfl) rfl T.n_len (by decide +kernel) (pa_cons (pv 3) pa_nil)) pa_nil)))) pa_nil)) pa_nil)))))
        (pss_one (ps_ret (pv 4)))))), ?_⟩
    refine ⟨_, rfl, q, _, rfl, .inl (SqL.of hq), fun R hR => ?_⟩
    have sR : Same H (upd H R (.lst (txts ws))) := Same.new _ hR
    have gR : upd H R (.lst (txts ws)) R = some (.lst (txts ws)) := upd_same
    have nR := hst.ne hR
    have nRq : R ≠ q := hp_ne hq hR
    have st1 := hst.same sR
    generalize upd H R (.lst (txts ws)) = H1 at *
    refine ⟨Nat.zero_le _, fun F hF => ?_⟩
    have sF : Same H1 (upd H1 F (.lst [])) := Same.new _ hF
    have gF : upd H1 F (.lst []) F = some (.lst []) := upd_same
    have nF := st1.ne hF
    have nFR : F ≠ R := hp_ne gR hF
    have hF0 : H F = none := sR.free hF
    have s2 := sR.trans sF
    have st2 := st1.same sF
    replace gR := sF _ _ gR
    generalize upd H1 F (.lst []) = H2 at *
    have wl : (txts ws).length = ws.length := by rw [txts, List.length_map]
    refine ⟨_, rfl, q, _, rfl, .inl (SqL.of (s2 _ _ hq)), _, rfl, by omega, by omega, for_range (lo := 0) (n := (txts ws).length) (fun i σ H' => ∃ (us rs : List (List Nat)) (v : Option V), σ = [some (.ref a), some (.ref p), some (.ref q), some (.ref R), some (.ref F), v] ∧ us.length = i ∧ (us ++ rs).Perm ws ∧ H' F = some (.lst (txts us)) ∧ H' R = some (.lst (txts rs)) ∧ Ex p H H' ∧ St K ns a H' p) ?_ ?_ ?_⟩
    · exact ⟨[], ws, none, rfl, rfl, .refl _, gF, gR, Same.ex s2, st2⟩
    · rintro i σ H3 hi ⟨us, rs, v, rfl, rfl, hp, hF3, hR3, X3, st3⟩
      have hln := hp.length_eq
      rw [List.length_append] at hln
      have rl : (txts rs).length = rs.length := by rw [txts, List.length_map]
      refine ⟨_, rfl, .inl ⟨rfl, _, SqL.of hF3⟩, _, rfl, .inl ⟨rfl, _, SqL.of hR3⟩, _, rfl, _, rfl, _, rfl, R, _, rfl, .inl (SqL.of hR3), a, p, _, rfl, st3, by omega, by omega, fun H4 r x4 st4 r0 r1 => ?_⟩
      rw [rl] at r1
      have hF4 := x4 _ _ nF hF3
      have hR4 := x4 _ _ nR hR3
      obtain ⟨j, rfl⟩ := Int.eq_ofNat_of_zero_le r0
      have hj : j < rs.length := by exact_mod_cast r1
      have ej : rs[j]? = some rs[j] := List.getElem?_eq_getElem hj
      refine ⟨R, txts rs, _, j, _, rfl, rfl, hR4, by omega, by omega, by rw [rl]; exact seq_at (by omega) (by omega), by rw [txts, List.getElem?_map, ej]; rfl, ?_⟩
      rw [txts_erase]
      have X5 : Ex p H (upd H4 R (.lst (txts (rs.eraseIdx j)))) := (X3.trans x4).updNew hR
      have st5 := hst.upd st4 X5 nR
      have hF5 : upd H4 R (.lst (txts (rs.eraseIdx j))) F = some (.lst (txts us)) := by rw [upd_ne nFR]; exact hF4
      have hR5 : upd H4 R (.lst (txts (rs.eraseIdx j))) R = some (.lst (txts (rs.eraseIdx j))) := upd_same
      generalize upd H4 R (.lst (txts (rs.eraseIdx j))) = H5 at *
      refine ⟨F, _, _, rfl, rfl, hF5, lt_size (by rw [txts, List.length_map]; omega), ?_⟩
      refine ⟨us ++ [rs[j]], rs.eraseIdx j, _, rfl, by simp, ?_, by rw [upd_same, ← txts_cat]; rfl, by rw [upd_ne nFR.symm]; exact hR5, X5.updNew hF0, hst.upd st5 (X5.updNew hF0) nF⟩
      rw [List.append_assoc]
      exact ((erase_perm ej).append_left us).trans hp
    · rintro σ H3 ⟨us, rs, v, rfl, hu, hp, hF3, hR3, X3, st3⟩
      have hln := hp.length_eq
      rw [List.length_append] at hln
      have e : rs = [] := List.eq_nil_of_length_eq_zero (by omega)
      subst e
      rw [List.append_nil] at hp
      exact ⟨_, rfl, k H3 F us X3 st3 hF0 nF hF3 hp⟩
end
end J


set_option Elab.async false
set_option linter.all false
set_option maxRecDepth 100000
set_option maxHeartbeats 4000000
namespace J
open PySem L2
theorem txts_S (ws : List (List Nat)) : (ws.map SX.S).map V.str = txts ws := by rw [List.map_map]; rfl
theorem txts_un (ys : List PySem.Str) : ys.map V.str = txts (ys.map TxO.un) := by rw [← txts_S, TxO.map_un]
theorem txts_len (ws : List (List Nat)) : (txts ws).length = ws.length := by rw [txts, List.length_map]
def spSF (K : PySem.W.Frag) : Sp := fun vs H Q _ => ∃ (a : Addr) (ws : List (List Nat)), vs = [.ref a] ∧ SqL K H a (txts ws) ∧ (∀ u ∈ ws, u.length ≤ 1000) ∧
  ∀ H' (q : Addr) ys, Same H H' → H q = none → H' q = some (.lst (txts ys)) → TxO.SF ys → ys.Perm ws → Q (.ref q) H'
def spWr : Sp := fun vs H Q _ => ∃ (a : Addr) (ws : List (List Nat)) (u : List Nat), vs = [.ref a, .str (SX.S u)] ∧ H a = some (.lst (txts ws)) ∧ (∀ w ∈ ws, w ≠ [] ∧ w.length ≤ 1000) ∧ ws.length ≤ 1000 ∧ u.length ≤ 1000 ∧
  ∀ H' b, Same H H' → (b = true ↔ TxO.Wr ws u) → Q (.bl b) H'
/-- what the dict of places holds -/
structure Pl (ws : List (List Nat)) (u : List Nat) (i : Nat) (kvs : List (Key × V)) : Prop where
  ok : ∀ k, (valV kvs k).isSome = true → ∃ m : Nat, k = .inl (m : Int) ∧ m ≤ u.length ∧ TxO.Wr ws (u.take m)
  zero : (valV kvs (.inl 0)).isSome = true
  step : ∀ j, j < i → (valV kvs (.inl (j : Int))).isSome = true → ∀ w ∈ ws, w <+: u.drop j → (valV kvs (.inl ((j + w.length : Nat) : Int))).isSome = true
section
variable {P : Program} {w : World} {K : PySem.W.Frag} {mg : Str → Option Value} {base : Heap}
theorem ok_shorter_first (T : Tx K mg) : FnOk P w K mg base CX0 1 T.f_shorter_first T.fd_shorter_first P_shorter_first (spSF K) := by
  refine T.F_shorter_first.ok sc_shorter_first (fun vs H Q E h => ?_) (fun cdv A outer s H vs Q E hr h => ?_)
  · obtain ⟨a, ws, rfl, _⟩ := h
    rfl
  · obtain ⟨a, ws, rfl, ha, hl, k⟩ := h
    refine ⟨_, (pss_one (ps_ret (pe_sortLen (pa_cons (pe_callB cr_sortedTx rfl T.n_sorted (by decide +kernel) (pa_cons (pv 0) pa_nil)) pa_nil) rfl T.n_sorted rfl T.n_len))), ?_⟩
    refine ⟨_, rfl, a, ws.map SX.S, rfl, by rw [txts_S]; exact ha, fun ys p hA hp hp0 => ?_⟩
    refine ⟨p, ys, rfl, SqL.of upd_same, fun x hx => ?_, fun zs q hs hb hq0 => ?_⟩
    · obtain ⟨u, hu, rfl⟩ := List.mem_map.mp (hp.mem_iff.mp hx)
      exact le_size (by rw [SX.S_len]; have := hl u hu; omega)
    · refine k _ q (zs.map TxO.un) ((Same.new _ hp0).trans (Same.new _ hq0)) ((Same.new _ hp0).free hq0) (by rw [upd_same, txts_un]) (TxO.sf_of hs hb hA) ?_
      have := (hb.perm.trans hp).map TxO.un
      rw [TxO.map_S] at this
      exact this
theorem ok_is_written (T : Tx K mg) : FnOk P w K mg base CX0 1 T.f_is_written T.fd_is_written P_is_written spWr := by
  refine T.F_is_written.ok sc_is_written (fun vs H Q E h => ?_) (fun cdv A outer s H vs Q E hr h => ?_)
  · obtain ⟨a, ws, u, rfl, _⟩ := h
    rfl
  · obtain ⟨a, ws, u, rfl, ha, hw, hn, hu, k⟩ := h
    refine ⟨_, (pss_cons (ps_set (i := 2) sc_is_written.nd rfl (Or.inl rfl) (pe_disp (pps_cons pe_int pe_bl pps_nil) rfl rfl (by simp) (by decide)))
        (pss_cons (ps_for PassesOwn.never rfl (pi_range1 rfl T.n_range (pa_cons (pe_callB call_len_str rfl T.n_len (by decide +kernel) (pa_cons (pv 1) pa_nil)) pa_nil)) (pg_name (i := 3) sc_is_written.nd rfl (Or.inl rfl)) (pss_one (ps_if (pt_cmp (pc_din (hu_of hr) (pv 3) (pv 2))) (pss_one (ps_for PassesOwn.never rfl (pi_list (pv 0)) (pg_name (i := 4) sc_is_written.nd rfl (Or.inl rfl)) (pss_one (ps_if (pt_val (pe_bm PySem.F.plainAttrs_str PySem.F.slot_str_startswith PySem.F.type_str_startswith mt_startswith3 (pv 1) (pa_cons (pv 4) (pa_cons (pv 3) pa_nil)))) (pss_one (ps_dput (hu_of hr) (pv 2) (pe_op op_add (pv 3) (pe_callB call_len_str rfl T.n_len (by decide +kernel) (pa_cons (pv 4) pa_nil))) pe_bl rfl)) pss_nil)))) pss_nil)))
        (pss_one (ps_ret (pe_cmp (pc_din (hu_of hr) (pe_callB call_len_str rfl T.n_len (by decide +kernel) (pa_cons (pv 1) pa_nil)) (pv 2)) rfl))))), ?_⟩
    refine fun D hD => ⟨upd_same, [(.inl 0, .bl true)], rfl, by decide, ?_⟩
    have s0 : Same H (upd (upd H D (.dK [])) D (.dK (mergeK [] [(.inl 0, .bl true)]))) := by
      rw [upd_upd]
      exact Same.new _ hD
    have g0 : upd (upd H D (.dK [])) D (.dK (mergeK [] [(.inl 0, .bl true)])) D = some (.dK [(.inl 0, .bl true)]) := upd_same
    generalize upd (upd H D (.dK [])) D (.dK (mergeK [] [(.inl 0, .bl true)])) = H1 at *
    have p0 : Pl ws u 0 [(.inl 0, .bl true)] := by
      refine ⟨fun k hk => ?_, rfl, fun j hj => absurd hj (Nat.not_lt_zero j)⟩
      have : k = .inl 0 := by
        unfold valV at hk
        by_cases c : (Sum.inl 0 : Key) = k
        · exact c.symm
        · simp [c] at hk
      exact ⟨0, this, Nat.zero_le _, TxO.Wr.nil ws⟩
    refine ⟨_, rfl, _, rfl, le_size (by rw [SX.S_len]; omega), _, rfl, by rw [SX.S_len]; omega, by rw [SX.S_len]; omega, ?_⟩
    rw [SX.S_len]
    refine for_range (lo := 0) (n := u.length) (fun i σ H' => ∃ (kvs : List (Key × V)) (v3 v4 : Option V), σ = [some (.ref a), some (.str (SX.S u)), some (.ref D), v3, v4] ∧ H' D = some (.dK kvs) ∧ Pl ws u i kvs ∧ kvs.length ≤ 1 + 1000 * i ∧ Same H H') ?_ ?_ ?_
    · exact ⟨_, none, none, rfl, g0, p0, by simp, s0⟩
    · rintro i σ H2 hi ⟨kvs, v3, v4, rfl, hD2, P2, l2, s2⟩
      have e0 : (0 : Int) + (i : Int) = (i : Int) := by omega
      rw [e0]
      refine ⟨_, rfl, _, rfl, D, valV kvs (.inl (i : Int)), rfl, .k (k := .inl (i : Int)) hD2, _, rfl, ?_⟩
      refine ite2 (fun c => ?_) (fun c => ?_)
      · refine ⟨_, rfl, a, rfl, ⟨_, SqL.of (s2 _ _ ha)⟩, for_list (K := K) (a := a) (xs := txts ws) (fun m σ H' => ∃ (kvs : List (Key × V)) (v4 : Option V), σ = [some (.ref a), some (.str (SX.S u)), some (.ref D), some (.int (i : Int)), v4] ∧ H' D = some (.dK kvs) ∧ Pl ws u i kvs ∧ (valV kvs (.inl (i : Int))).isSome = true ∧
            (∀ w ∈ ws.take m, w <+: u.drop i → (valV kvs (.inl ((i + w.length : Nat) : Int))).isSome = true) ∧ kvs.length ≤ 1 + 1000 * i + m ∧ Same H H') ?_ ?_ ?_ ?_⟩
        · exact ⟨kvs, v4, rfl, hD2, P2, c, by simp, by omega, s2⟩
        · rintro m σ H3 hm ⟨kvs, v4, rfl, hD3, P3, c3, q3, l3, s3⟩
          exact SqL.of (s3 _ _ ha)
        · rintro m y σ H3 hy ⟨kvs, v4, rfl, hD3, P3, c3, q3, l3, s3⟩
          obtain ⟨w, hwm, rfl⟩ := txt_at hy
          have hmem := List.mem_of_getElem? hwm
          have hm := (List.getElem?_eq_some_iff.mp hwm).1
          have et : ws.take (m + 1) = ws.take m ++ [w] := by rw [List.take_add_one, hwm]; rfl
          obtain ⟨wn, wl⟩ := hw w hmem
          refine ⟨_, rfl, rfl, _, rfl, _, rfl, _, _, _, rfl, rfl, _, rfl, ?_⟩
          rw [TxO.starts3 (by omega)]
          refine ite2 (fun d => ?_) (fun d => ?_)
          · have hp : w <+: u.drop i := of_decide_eq_true d
            have hpl := hp.length_le
            rw [List.length_drop] at hpl
            refine ⟨_, rfl, _, rfl, _, rfl, _, rfl, le_size (by rw [SX.S_len]; omega), _, _, rfl, rfl, D, _, rfl, .k (k := .inl ((i : Int) + ((SX.S w).length : Nat))) hD3 (by rw [sizeLine_eq]; omega), ?_⟩
            rw [show ((i : Int) + ((SX.S w).length : Nat)) = ((i + w.length : Nat) : Int) by rw [SX.S_len]; omega]
            have mono : ∀ k, (valV kvs k).isSome = true → (valV (putK kvs (.inl ((i + w.length : Nat) : Int)) (.bl true)) k).isSome = true := fun k hk => by
              rw [valV_put]
              split
              · rfl
              · exact hk
            refine ⟨_, _, rfl, upd_same, ⟨fun k hk => ?_, mono _ P3.zero, fun j hj hv w2 hw2 hp2 => mono _ (P3.step j hj ?_ w2 hw2 hp2)⟩, mono _ c3, fun w2 hw2 hp2 => ?_, ?_, s3.updNew hD⟩
            · rw [valV_put] at hk
              by_cases e : k = .inl ((i + w.length : Nat) : Int)
              · refine ⟨i + w.length, e, by omega, ?_⟩
                obtain ⟨m2, e2, hm2, hW⟩ := P3.ok _ c3
                injection e2 with e2
                obtain rfl : m2 = i := by omega
                have : u.take (m2 + w.length) = u.take m2 ++ w := by
                  rw [List.take_add]
                  rw [(List.prefix_iff_eq_take.mp hp).symm]
                rw [this]
                exact hW.snoc hmem
              · rw [if_neg e] at hk
                exact P3.ok k hk
            · rw [valV_put] at hv
              by_cases e : (Sum.inl (j : Int) : Key) = .inl ((i + w.length : Nat) : Int)
              · injection e with e
                omega
              · rw [if_neg e] at hv
                exact hv
            · rw [et] at hw2
              rcases List.mem_append.mp hw2 with h | h
              · exact mono _ (q3 w2 h hp2)
              · rw [List.mem_singleton.mp h, valV_put, if_pos rfl]
                rfl
            · have := length_putK kvs (.inl ((i + w.length : Nat) : Int)) (.bl true)
              omega
          · refine ⟨kvs, _, rfl, hD3, P3, c3, fun w2 hw2 hp2 => ?_, by omega, s3⟩
            rw [et] at hw2
            rcases List.mem_append.mp hw2 with h | h
            · exact q3 w2 h hp2
            · rw [List.mem_singleton.mp h] at hp2
              exact absurd (decide_eq_true hp2) d
        · rintro σ H3 ⟨kvs, v4, rfl, hD3, P3, c3, q3, l3, s3⟩
          rw [txts_len, List.take_length] at q3
          rw [txts_len] at l3
          refine ⟨kvs, _, _, rfl, hD3, ⟨P3.ok, P3.zero, fun j hj hv => ?_⟩, by omega, s3⟩
          by_cases q : j < i
          · exact P3.step j q hv
          · obtain rfl : j = i := by omega
            exact q3
      · refine ⟨kvs, _, _, rfl, hD2, ⟨P2.ok, P2.zero, fun j hj hv => ?_⟩, by omega, s2⟩
        by_cases q : j < i
        · exact P2.step j q hv
        · obtain rfl : j = i := by omega
          exact absurd hv c
    · rintro σ H2 ⟨kvs, v3, v4, rfl, hD2, P2, l2, s2⟩
      refine ⟨_, rfl, _, rfl, le_size (by rw [SX.S_len]; omega), _, rfl, D, valV kvs (.inl (u.length : Int)), rfl, by rw [SX.S_len]; exact .k (k := .inl (u.length : Int)) hD2, ?_⟩
      refine k _ _ s2 ⟨fun hv => ?_, fun hw' => ?_⟩
      · obtain ⟨m, e, hm, hW⟩ := P2.ok _ hv
        injection e with e
        have : m = u.length := by omega
        rw [this, List.take_length] at hW
        exact hW
      · have key : ∀ n, ∀ m, m ≤ n → m ≤ u.length → TxO.Wr ws (u.take m) → (valV kvs (.inl (m : Int))).isSome = true := by
          intro n
          induction n with
          | zero =>
            intro m hm _ _
            obtain rfl : m = 0 := by omega
            exact P2.zero
          | succ n ih =>
            intro m hm hmu hW
            by_cases z : m = 0
            · subst z; exact P2.zero
            · obtain ⟨v, w, hwm, hwn, e, hv⟩ := hW.last (fun q => z (by have := congrArg List.length q; rw [List.length_take, List.length_nil] at this; omega)) fun w hw2 => (hw w hw2).1
              have el := congrArg List.length e
              rw [List.length_take, List.length_append] at el
              have wl : w.length ≠ 0 := fun q => hwn (List.eq_nil_of_length_eq_zero q)
              have hvm : v = u.take v.length := by
                have := congrArg (List.take v.length) e
                rw [List.take_take, Nat.min_eq_left (by omega), List.take_left] at this
                exact this.symm
              have hin := ih v.length (by omega) (by omega) (by rw [← hvm]; exact hv)
              have hp : w <+: u.drop v.length := by
                have e2 : u = v ++ (w ++ u.drop m) := by
                  conv => lhs; rw [← List.take_append_drop m u, e]
                  rw [List.append_assoc]
                rw [e2, List.drop_left]
                exact List.prefix_append _ _
              have := P2.step v.length (by omega) hin w hwm hp
              rwa [show v.length + w.length = m by omega] at this
        exact key u.length u.length (Nat.le_refl _) (Nat.le_refl _) (by rw [List.take_length]; exact hw')
end
end J


set_option Elab.async false
set_option linter.all false
set_option maxRecDepth 100000
set_option maxHeartbeats 4000000
namespace J
open PySem L2
def spBase (C : Addr) : Sp := fun vs H Q _ => ∃ (q : Addr) (sg : List Nat) (us : List V) (ws : List (List Nat)), vs = [.ref q] ∧ LoomAt C H q sg us (bka ws) ∧
  ∀ H' (r : Addr) ys, Same H H' → H r = none → H' r = some (.lst (txts ys)) → TxO.IsBase ws ys → Q (.ref r) H'
theorem bka_words {sg : List Nat} {ws : List (List Nat)} (h : OkW sg (bka ws)) : 1 ≤ ws.length ∧ ws.length ≤ 200 ∧ ∀ u ∈ ws, Word sg u := by
  obtain ⟨h1, h2, h3⟩ := h
  rw [bka_len] at h1 h2
  exact ⟨h1, h2, fun u hu => (h3 (0, u, 0) (List.mem_map.mpr ⟨u, hu, rfl⟩)).2.1⟩
section
variable {P : Program} {w : World} {K : PySem.W.Frag} {mg : Str → Option Value} {base : Heap}
theorem ok_base (T : Tx K mg) : FnOk P w K mg base CX0 4 T.f_base T.fd_base P_base (spBase T.C_Loom) := by
  have G_words : FnOk P w K mg base CX0 3 T.f_words T.fd_words P_words (spPWords T.C_Loom) := ok_words T
  have G_is_written : FnOk P w K mg base CX0 1 T.f_is_written T.fd_is_written P_is_written spWr := ok_is_written T
  have G_shorter_first : FnOk P w K mg base CX0 1 T.f_shorter_first T.fd_shorter_first P_shorter_first (spSF K) := ok_shorter_first T
  refine T.F_base.ok sc_base (fun vs H Q E h => ?_) (fun cdv A outer s H vs Q E hr h => ?_)
  · obtain ⟨q, sg, us, ws, rfl, _⟩ := h
    rfl
  · obtain ⟨q, sg, us, ws, rfl, hL, k⟩ := h
    refine ⟨_, (pss_cons (ps_set (i := 1) sc_base.nd rfl (Or.inl rfl) (pe_call G_words (hr.mono (by decide)) rfl T.m_words T.F_words.kp T.b_words .nil pass0 (pa_cons (pv 0) pa_nil)))
        (pss_cons (ps_set (i := 2) sc_base.nd rfl (Or.inl rfl) (pe_lst pa_nil))
        (pss_cons (ps_for PassesOwn.never rfl (pi_list (pe_sortedSet rfl (pa_cons (pv 1) pa_nil) rfl T.n_sorted rfl T.n_set)) (pg_name (i := 3) sc_base.nd rfl (Or.inr rfl)) (pss_cons (ps_setLc (i := 4) (own := [("part", 5)]) (g := (gName 5)) rfl sc_base.nd rfl rfl (sw_true rfl rfl rfl (by decide +kernel)) (pi_list (pv 1)) (blkOk_by (N := N_base) (sc := defScope s_base) (by decide +kernel)) (fun _ _ _ _ _ => (pg_name (i := 5) sc_base.nd rfl (Or.inl rfl))) (fun _ _ _ _ _ => (pts_one (pt_cmpR op_lt (pe_callB call_len_str rfl T.n_len (by decide +kernel) (pa_cons (pv 5) pa_nil)) (pe_callB call_len_str rfl T.n_len (by decide +kernel) (pa_cons (pv 3) pa_nil)) (nomark _)))) (fun _ _ _ _ _ => (pv 5)))
        (pss_one (ps_if (pt_not (pt_val (pe_call G_is_written (hr.mono (by decide)) rfl T.m_is_written T.F_is_written.kp T.b_is_written .nil pass0 (pa_cons (pv 4) (pa_cons (pv 3) pa_nil))))) (pss_one (ps_expr (pe_bm PySem.F.plainAttrs_list PySem.F.slot_list_append PySem.F.type_list_append mt_append (pv 2) (pa_cons (pv 3) pa_nil)))) pss_nil))))
        (pss_one (ps_ret (pe_call G_shorter_first (hr.mono (by decide)) rfl T.m_shorter_first T.F_shorter_first.kp T.b_shorter_first .nil pass0 (pa_cons (pv 2) pa_nil))))))), ?_⟩
    obtain ⟨_, _, _, _, _, hok, _⟩ := id hL
    obtain ⟨w1, w2, w3⟩ := bka_words hok
    refine ⟨_, rfl, q, sg, us, ws, rfl, hL, fun H1 r s1 hr0 hr1 => ?_⟩
    refine ⟨Nat.zero_le _, fun F hF => ?_⟩
    have sF : Same H1 (upd H1 F (.lst [])) := Same.new _ hF
    have gF : upd H1 F (.lst []) F = some (.lst (txts [])) := upd_same
    have hF0 : H F = none := s1.free hF
    have nFr : F ≠ r := hp_ne hr1 hF
    have s2 := s1.trans sF
    have hr2 := sF _ _ hr1
    generalize upd H1 F (.lst []) = H2 at *
    refine ⟨_, rfl, r, ws.map SX.S, rfl, by rw [txts_S]; exact SqL.of hr2, by rw [List.length_map]; omega, fun H3 L ss s3 hL0 gL hA hon hsl => ?_⟩
    rw [txts_un] at gL
    obtain ⟨hnd2, hmm⟩ := TxO.once_un hon
    have nFL : F ≠ L := fun z => by
      rw [z, hL0] at gF
      cases gF
    have hosl : (ss.map TxO.un).length ≤ 200 := by
      rw [List.length_map] at hsl ⊢
      omega
    generalize ss.map TxO.un = os at *
    have s03 := s2.trans s3
    have gF3 := s3 _ _ gF
    have gr3 := s3 _ _ hr2
    refine ⟨L, rfl, ⟨_, SqL.of gL⟩, for_list (K := K) (a := L) (xs := txts os) (fun i σ H' => ∃ (fs : List (List Nat)) (v3 v4 : Option V), σ = [some (.ref q), some (.ref r), some (.ref F), v3, v4, none] ∧ H' F = some (.lst (txts fs)) ∧ H' L = some (.lst (txts os)) ∧ H' r = some (.lst (txts ws)) ∧ fs.Nodup ∧ fs.length ≤ i ∧ (∀ u, u ∈ fs ↔ u ∈ os.take i ∧ ¬ TxO.Put ws u) ∧ Same H H') ?_ ?_ ?_ ?_⟩
    · exact ⟨[], none, none, rfl, gF3, gL, gr3, List.nodup_nil, Nat.le_refl _, by simp, s03⟩
    · rintro i σ H4 _ ⟨fs, v3, v4, rfl, _, h2, _⟩
      exact SqL.of h2
    · rintro i y σ H4 hy ⟨fs, v3, v4, rfl, hF4, hL4, hr4, hfn, hfl, hfm, s4⟩
      obtain ⟨u, hu, rfl⟩ := txt_at hy
      have hi := (List.getElem?_eq_some_iff.mp hu).1
      have hou : u ∈ ws := (hmm u).mp (List.mem_of_getElem? hu)
      obtain ⟨u1, u2, u3⟩ := w3 u hou
      have et : os.take (i + 1) = os.take i ++ [u] := by rw [List.take_add_one, hu]; rfl
      have hnew : u ∉ os.take i := fun h => by
        have q1 := (List.nodup_append.mp (by rw [← et]; exact hnd2.sublist (List.take_sublist _ _) : (os.take i ++ [u]).Nodup)).2.2 u h u (by simp)
        exact q1 rfl
      have sz : ∀ {p : List Nat}, p ∈ ws → (SX.S p).length ≤ sizeLine := fun {p} hp => le_size (by rw [SX.S_len]; have := (w3 p hp).2.1; omega)
      refine ⟨_, rfl, r, rfl, ⟨_, SqL.of hr4⟩, fun D hD => lc_list (K := K) (a := r) (xs := txts ws) (fun m H' => H' D = some (.lst (txts (TxO.shorter (ws.take m) u))) ∧ Same H4 H') ⟨upd_same, Same.new _ hD⟩ (fun m H' _ ⟨_, sm⟩ => SqL.of (sm _ _ hr4)) ?_ ?_⟩
      · rintro m y H5 hy ⟨hDl, sm⟩
        obtain ⟨p, hp, rfl⟩ := txt_at hy
        have hpw := List.mem_of_getElem? hp
        have em : ws.take (m + 1) = ws.take m ++ [p] := by rw [List.take_add_one, hp]; rfl
        refine ⟨rfl, _, rfl, _, rfl, sz hpw, _, rfl, _, rfl, sz hou, _, _, rfl, rfl, _, rfl, ?_⟩
        rw [SX.S_len, SX.S_len]
        have ed : decide ((p.length : Int) < u.length) = decide (p.length < u.length) := decide_eq_decide.mpr (by omega)
        rw [ed]
        refine ite2 (fun c => ?_) (fun c => ?_)
        · refine ⟨_, rfl, _, hDl, lt_size ?_, ?_, sm.updNew hD⟩
          · rw [txts_len]
            have := List.length_filter_le (fun p : List Nat => decide (p.length < u.length)) (ws.take m)
            rw [List.length_take] at this
            exact Nat.le_trans this (by omega)
          · rw [upd_same]
            unfold TxO.shorter
            rw [em, List.filter_append]
            have : List.filter (fun q : List Nat => decide (q.length < u.length)) [p] = [p] := by simp [of_decide_eq_true c]
            rw [this, ← txts_cat]
            rfl
        · refine ⟨?_, sm⟩
          rw [hDl]
          unfold TxO.shorter
          rw [em, List.filter_append]
          have : List.filter (fun q : List Nat => decide (q.length < u.length)) [p] = [] := by
            have c' : ¬ p.length < u.length := fun z => c (decide_eq_true z)
            simp; omega
          rw [this, List.append_nil]
      · rintro H5 ⟨hDl, sm⟩
        rw [txts_len, List.take_length] at hDl
        have slen : (TxO.shorter ws u).length ≤ 200 := Nat.le_trans (List.length_filter_le _ _) w2
        refine ⟨_, rfl, _, rfl, D, TxO.shorter ws u, u, rfl, hDl, fun p hp => ?_, by omega, by omega, fun H6 b s6 hb => ⟨b, rfl, ?_⟩⟩
        · obtain ⟨p1, p2, _⟩ := w3 p (List.mem_filter.mp hp).1
          exact ⟨fun z => by subst z; simp at p1, by omega⟩
        have hF6 := s6 _ _ (sm _ _ hF4)
        have hL6 := s6 _ _ (sm _ _ hL4)
        have hr6 := s6 _ _ (sm _ _ hr4)
        have s06 := (s4.trans sm).trans s6
        refine ite2 (fun c => ?_) (fun c => ?_)
        · have nb : ¬ TxO.Put ws u := fun z => by
            rw [hb.mpr z] at c
            cases c
          refine ⟨_, rfl, .inl ⟨rfl, _, SqL.of hF6⟩, _, rfl, F, _, _, rfl, rfl, hF6, lt_size (by rw [txts_len]; omega), ?_⟩
          refine ⟨fs ++ [u], _, _, rfl, by rw [upd_same, ← txts_cat]; rfl, by rw [upd_ne (Ne.symm nFL)]; exact hL6, by rw [upd_ne (Ne.symm nFr)]; exact hr6, ?_, by simp; omega, fun v => ?_, s06.updNew hF0⟩
          · refine List.nodup_append.mpr ⟨hfn, by simp, fun x hx y hy e => ?_⟩
            rw [List.mem_singleton.mp hy] at e
            subst e
            exact hnew ((hfm x).mp hx).1
          · rw [et, List.mem_append, List.mem_append, List.mem_singleton, hfm v]
            constructor
            · rintro (⟨p, q⟩ | rfl)
              · exact ⟨.inl p, q⟩
              · exact ⟨.inr rfl, nb⟩
            · rintro ⟨p | rfl, q⟩
              · exact .inl ⟨p, q⟩
              · exact .inr rfl
        · have pb : TxO.Put ws u := by
            cases b with
            | true => exact hb.mp rfl
            | false => exact absurd rfl c
          refine ⟨fs, _, _, rfl, hF6, hL6, hr6, hfn, by omega, fun v => ?_, s06⟩
          rw [et, List.mem_append, List.mem_singleton, hfm v]
          constructor
          · rintro ⟨p, q⟩
            exact ⟨.inl p, q⟩
          · rintro ⟨p | rfl, q⟩
            · exact ⟨p, q⟩
            · exact absurd pb q
    · rintro σ H4 ⟨fs, v3, v4, rfl, hF4, hL4, hr4, hfn, hfl, hfm, s4⟩
      rw [txts_len, List.take_length] at hfm
      rw [txts_len] at hfl
      refine ⟨_, rfl, F, fs, rfl, SqL.of hF4, fun u hu => ?_, fun H5 p ys s5 hp0 hp hsf hpm => ?_⟩
      · have := (w3 u ((hmm u).mp ((hfm u).mp hu).1)).2.1
        omega
      · refine k H5 p ys (s4.trans s5) (s4.free hp0) hp ⟨hsf, hpm.nodup_iff.mpr hfn, fun u => ?_⟩
        rw [hpm.mem_iff, hfm u, hmm u]
end
end J


set_option Elab.async false
set_option linter.all false
set_option maxRecDepth 100000
set_option maxHeartbeats 4000000
/-! list(d.values()) -/
namespace L2
open PySem PySem.Spec PyProof.Rows
def tListVals (te : TE) : TE := fun σ H Q => te σ H fun x H1 => ∃ d kvs, x = V.ref d ∧ H1 d = some (.dK kvs) ∧ ∀ p, H1 p = none → Q (.ref p) (upd H1 p (.lst (kvs.map (·.2))))
theorem kv_vals {κ : Type} : ∀ {kvs : List (κ × V)} {vs : List (κ × Value)}, KV kvs vs → Vals (kvs.map (·.2)) (vs.map (·.2))
  | [], [], _ => .nil
  | _ :: _, _ :: _, .cons h t => .cons h.2 (kv_vals t)
section
variable {X : Cx} {e : Expr} {te : TE} {p apos cpos pos : Pos}
theorem pe_listVals (hc : X.calm = true) (he : PE X e te) (hg : Gl X "list") (hm : X.mg "list" = none) (hv : bootBuiltins "list" = some (.type "list")) (hbase : attributeBase e "values" X.env (eval e X.env) = eval e X.env := by rfl) (hline : (apos.endLine == cpos.line) = true := by rfl)
    (hs : starEach [.Call (.Attribute e "values" apos) [] [] cpos] X.env = (false, eval (.Call (.Attribute e "values" apos) [] [] cpos) X.env) :: starEach [] X.env := by rfl) :
    PE X (.Call (.Name "list" p) [.Call (.Attribute e "values" apos) [] [] cpos] [] pos) (tListVals te) := by
  refine ⟨fun pins s σ H Q I hq => ?_⟩
  refine wpAny_Call_Name_kw (ld_blt I hg hm hv ?_)
  refine PyProof.Rows.callWith_type1 ?_ hs rfl
  rw [hs]
  show wpAny _ _ (spliced ((false, eval (.Call (.Attribute e "values" apos) [] [] cpos) X.env) :: backTo pos (starEach [] X.env))) _ _ s
  refine Calls.spliced_cons ?_
  refine wpAny_Call_method (T := "dict") (id := "dict.values") hbase rfl hline F.plainAttrs_dict F.slot_dict_values F.type_dict_values (thn (he.run pins s σ H _ I hq) fun u s1 ⟨x, H1, I1, rx, d, kvs, ex, hd, q⟩ => ?_)
  subst ex
  obtain rfl : u = Value.ref d := rx
  obtain ⟨hz, hs0, vs, kv, hdo⟩ := I1.hok d _ hd
  obtain ⟨ep, hat⟩ := hdo.dictAt
  have lk : kvs.length = vs.length := Paired.length kv
  have I2 : Inv X pins σ H1 { s1 with heap := s1.heap.push { cls := .type "dict_values", data := .fields #[.ref d] } } := I1.kept (t' := s1.toks) fun b ob q => Heap.get?_push_of_some _ q
  refine ⟨hdo.typeIs, hdo.mapOf.noDict, ?_⟩
  show wpAny _ _ (callWith cpos (.builtin "dict.values") [.ref d] [] []) _ X.xe s1
  refine method_meetsIn F.slot_dict_values F.entry_dict_values rfl (PySem.evalArgs_none ⟨rfl, hdo.typeIs, F.args_dict_values_1 _, _, meets_dict_values (mixKind X.prog X.w) d hs0, ⟨vs, hdo⟩, ?_⟩)
  refine Calls.spliced_nil ?_
  refine PySem.W.kdl_call (PySem.W.kdl_values (knd := mixKind X.prog X.w) (kvs := vs) (ep := ep) (r := s1.heap.objs.size) (d := d)) (I1.ok.hd hc) ⟨⟨_, Heap.get?_push_size _ rfl, rfl, rfl⟩, hat.push _⟩ (by rw [← lk]; exact hz) fun h' tk acc c' hk hD hacc => ?_
  have ev : acc.toList = vs.map (·.2) := PySem.W.kdl_vals_eq _ (by rw [Array.length_toList]; exact hacc.1) fun j v e => hacc.2 j v (by rw [← Array.getElem?_toList]; exact e)
  refine ⟨.ref _, upd H1 _ (.lst (kvs.map (·.2))), I2.laid (t' := tk) hk (Nat.le_refl _)
    (show ObjOk X.prog X.w _ _ _ (.lst (kvs.map (·.2))) from ⟨by rw [List.length_map]; exact hz, acc.toList, c', by rw [ev]; exact kv_vals kv, by rw [Array.toArray_toList]; exact hD⟩), rfl, q _ (I2.hok.fresh (Nat.le_refl _))⟩
end
end L2

set_option Elab.async false
set_option linter.all false
set_option maxRecDepth 100000
set_option maxHeartbeats 4000000
namespace J
open PySem L2
def OkAll (as : List Arc) : Prop := as.length ≤ 100000 ∧ ∀ a ∈ as, a.1 ≤ 63 ∧ 1 ≤ a.2.1.length ∧ a.2.1.length ≤ 12 ∧ a.2.2 ≤ 63
theorem OkW.all {sg : List Nat} {as : List Arc} (h : OkW sg as) : OkAll as := ⟨by have := h.2.1; omega, fun a ha => by
  obtain ⟨h1, h2, h3⟩ := h.2.2 a ha
  exact ⟨h1, h2.1, h2.2.1, h3⟩⟩
theorem nodup_le : ∀ (n : Nat) (l : List Nat), l.Nodup → (∀ x ∈ l, x < n) → l.length ≤ n
  | 0, l, _, h => by
    cases l with
    | nil => simp
    | cons a r => exact absurd (h a (by simp)) (Nat.not_lt_zero _)
  | n + 1, l, hn, h => by
    have h1 : (l.erase n).length ≤ n := nodup_le n (l.erase n) (hn.erase n) fun x hx => by
      have q := h x (List.mem_of_mem_erase hx)
      have : x ≠ n := fun z => by
        subst z
        exact (List.Nodup.not_mem_erase hn) hx
      omega
    have h2 : l.length ≤ (l.erase n).length + 1 := by
      by_cases c : n ∈ l
      · rw [List.length_erase_of_mem c]; omega
      · rw [List.erase_of_not_mem c]; omega
    omega
/-! ### dicts of ints by states -/
abbrev KV := List (Nat × Int)
def get (e : KV) (g : Nat) : Option Int := (e.find? fun p => decide (p.1 = g)).map (·.2)
def put (e : KV) (g : Nat) (v : Int) : KV := if (e.any fun p => decide (p.1 = g)) = true then e.map (fun p => if p.1 = g then (p.1, v) else p) else e ++ [(g, v)]
def val (e : KV) (g : Nat) : Int := (get e g).getD 0
def enc (e : KV) : List (Key × V) := e.map fun p => (Sum.inl (p.1 : Int), V.int p.2)
theorem inl_eq (a b : Nat) : ((Sum.inl (a : Int) : Key) = Sum.inl (b : Int)) ↔ a = b := by
  constructor
  · intro h; injection h with h; omega
  · intro h; rw [h]
theorem valV_enc (e : KV) (g : Nat) : valV (enc e) (Sum.inl (g : Int)) = (get e g).map V.int := by
  unfold valV get enc
  induction e with
  | nil => rfl
  | cons p r ih =>
    rw [List.map_cons, List.find?_cons, List.find?_cons]
    by_cases c : p.1 = g
    · rw [decide_eq_true ((inl_eq p.1 g).mpr c), decide_eq_true c]
      rfl
    · rw [decide_eq_false (fun h => c ((inl_eq p.1 g).mp h)), decide_eq_false c]
      exact ih
theorem putK_enc (e : KV) (g : Nat) (v : Int) : putK (enc e) (Sum.inl (g : Int)) (V.int v) = enc (put e g v) := by
  unfold putK put enc
  have e1 : ((e.map fun p : Nat × Int => ((Sum.inl (p.1 : Int) : Key), V.int p.2)).any fun kv => decide (kv.1 = Sum.inl (g : Int))) = e.any fun p => decide (p.1 = g) := by
    rw [List.any_map]
    congr 1
    funext p
    exact decide_eq_decide.mpr (inl_eq p.1 g)
  rw [e1]
  by_cases c : (e.any fun p => decide (p.1 = g)) = true
  · rw [if_pos c, if_pos c, List.map_map, List.map_map]
    refine List.map_congr_left fun p _ => ?_
    by_cases d : p.1 = g
    · simp [d]
    · have d2 : ¬ ((p.1 : Int) = (g : Int)) := by omega
      simp [d, d2]
  · rw [if_neg c, if_neg c]
    simp
theorem get_none {e : KV} {g : Nat} (h : ∀ p ∈ e, p.1 ≠ g) : get e g = none := by
  unfold get
  rw [List.find?_eq_none.mpr fun p hp => by simpa using h p hp]
  rfl
theorem val_none {e : KV} {g : Nat} (h : ∀ p ∈ e, p.1 ≠ g) : val e g = 0 := by unfold val; rw [get_none h]; rfl
theorem get_mem {e : KV} {g : Nat} (h : (e.any fun p => decide (p.1 = g)) = true) : ∃ v, get e g = some v := by
  unfold get
  obtain ⟨p, hp, hg⟩ := List.any_eq_true.mp h
  cases q : e.find? fun p => decide (p.1 = g) with
  | none => exact absurd hg (List.find?_eq_none.mp q p hp)
  | some v => exact ⟨v.2, rfl⟩
theorem get_cons (p : Nat × Int) (r : KV) (h : Nat) : get (p :: r) h = if p.1 = h then some p.2 else get r h := by
  unfold get
  rw [List.find?_cons]
  by_cases c : p.1 = h
  · rw [decide_eq_true c, if_pos c]; rfl
  · rw [decide_eq_false c, if_neg c]
theorem get_append (a b : KV) (h : Nat) : get (a ++ b) h = (get a h).or (get b h) := by
  induction a with
  | nil => simp [get]
  | cons p r ih =>
    rw [List.cons_append, get_cons, get_cons, ih]
    by_cases c : p.1 = h
    · simp [c]
    · simp [c]
theorem get_map (e : KV) (g h : Nat) (v : Int) : get (e.map fun p => if p.1 = g then (p.1, v) else p) h = if h = g then (get e h).map fun _ => v else get e h := by
  induction e with
  | nil => simp [get]
  | cons p r ih =>
    rw [List.map_cons, get_cons, ih, get_cons]
    by_cases c : p.1 = g
    · by_cases d : h = g
      · subst d; simp [c]
      · have c2 : ¬ p.1 = h := fun z => d (z ▸ c)
        have c3 : ¬ g = h := fun z => d z.symm
        simp [c, d, c3]
    · by_cases d : h = g
      · subst d; simp [c]
      · simp [c, d]
theorem get_put (e : KV) (g : Nat) (v : Int) (h : Nat) : get (put e g v) h = if h = g then some v else get e h := by
  unfold put
  by_cases c : (e.any fun p => decide (p.1 = g)) = true
  · rw [if_pos c, get_map]
    by_cases d : h = g
    · subst d
      obtain ⟨w, hw⟩ := get_mem c
      simp [hw]
    · simp [d]
  · rw [if_neg c, get_append]
    have hn : ∀ p ∈ e, p.1 ≠ g := fun p hp z => c (List.any_eq_true.mpr ⟨p, hp, decide_eq_true z⟩)
    by_cases d : h = g
    · subst d
      rw [get_none hn]
      simp [get]
    · have d2 : ¬ g = h := fun z => d z.symm
      simp [d, get_cons, d2]
      simp [get]
theorem val_put (e : KV) (g : Nat) (v : Int) (h : Nat) : val (put e g v) h = if h = g then v else val e h := by
  unfold val
  rw [get_put]
  by_cases d : h = g
  · simp [d]
  · simp [d]
structure OkKV (e : KV) : Prop where
  nd : (e.map (·.1)).Nodup
  lt : ∀ p ∈ e, p.1 < 64
theorem OkKV.put {e : KV} (h : OkKV e) {g : Nat} (hg : g < 64) (v : Int) : OkKV (put e g v) := by
  unfold J.put
  by_cases c : (e.any fun p => decide (p.1 = g)) = true
  · rw [if_pos c]
    have ek : ((e.map fun p => if p.1 = g then (p.1, v) else p).map (·.1)) = e.map (·.1) := by
      rw [List.map_map]
      exact List.map_congr_left fun p _ => by by_cases d : p.1 = g <;> simp [d]
    refine ⟨by rw [ek]; exact h.nd, fun p hp => ?_⟩
    have : p.1 ∈ e.map (·.1) := by rw [← ek]; exact List.mem_map_of_mem hp
    obtain ⟨q, hq, e2⟩ := List.mem_map.mp this
    rw [← e2]
    exact h.lt q hq
  · rw [if_neg c]
    refine ⟨?_, fun p hp => ?_⟩
    · rw [List.map_append, List.nodup_append]
      refine ⟨h.nd, by simp, fun x hx y hy => ?_⟩
      obtain ⟨p, hp, rfl⟩ := List.mem_map.mp hx
      have : y = g := by simpa using hy
      rw [this]
      exact fun z => c (List.any_eq_true.mpr ⟨p, hp, decide_eq_true z⟩)
    · rcases List.mem_append.mp hp with q | q
      · exact h.lt p q
      · rw [List.mem_singleton.mp q]; exact hg
theorem OkKV.len {e : KV} (h : OkKV e) : e.length ≤ 64 := by
  have := nodup_le 64 (e.map (·.1)) h.nd fun x hx => by
    obtain ⟨p, hp, rfl⟩ := List.mem_map.mp hx
    exact h.lt p hp
  simpa using this
theorem OkKV.nil : OkKV [] := ⟨by simp, fun p hp => nomatch hp⟩
/-! ### sums -/
theorem sum_add (l : List Nat) (f g : Nat → Int) : (l.map fun x => f x + g x).sum = (l.map f).sum + (l.map g).sum := by
  induction l with
  | nil => rfl
  | cons a r ih => simp only [List.map_cons, List.sum_cons, ih]; omega
theorem sum_add' {α : Type} (l : List α) (f g : α → Int) : (l.map fun x => f x + g x).sum = (l.map f).sum + (l.map g).sum := by
  induction l with
  | nil => rfl
  | cons a r ih => simp only [List.map_cons, List.sum_cons, ih]; omega
theorem sum_zero {α : Type} (l : List α) (f : α → Int) (h : ∀ x ∈ l, f x = 0) : (l.map f).sum = 0 := by
  induction l with
  | nil => rfl
  | cons a r ih =>
    rw [List.map_cons, List.sum_cons, h a (by simp), ih fun x hx => h x (List.mem_cons_of_mem _ hx)]
    rfl
theorem sum_single (n k : Nat) (v : Int) (hk : k < n) : ((List.range n).map fun g => if g = k then v else 0).sum = v := by
  induction n with
  | zero => omega
  | succ n ih =>
    rw [List.range_succ, List.map_append, List.sum_append]
    by_cases c : k = n
    · subst c
      rw [sum_zero _ _ fun x hx => by
        have := List.mem_range.mp hx
        rw [if_neg (by omega)]]
      simp
    · rw [ih (by omega)]
      have : ¬ n = k := fun z => c z.symm
      simp [this]
theorem total_eq {e : KV} (h : OkKV e) : (e.map (·.2)).sum = ((List.range 64).map (val e)).sum := by
  obtain ⟨nd, lt⟩ := h
  induction e with
  | nil => rw [sum_zero _ _ fun x _ => val_none (fun p hp => absurd hp (List.not_mem_nil))]; rfl
  | cons p r ih =>
    rw [List.map_cons, List.nodup_cons] at nd
    have hp : ∀ q ∈ r, q.1 ≠ p.1 := fun q hq z => nd.1 (by rw [← z]; exact List.mem_map_of_mem hq)
    have e1 : ∀ g, val (p :: r) g = (if g = p.1 then p.2 else 0) + val r g := fun g => by
      unfold val
      rw [get_cons]
      by_cases c : p.1 = g
      · subst c
        rw [get_none hp]
        simp
      · have c2 : ¬ g = p.1 := fun z => c z.symm
        simp [c, c2]
    rw [List.map_cons, List.sum_cons, ih nd.2 fun q hq => lt q (List.mem_cons_of_mem _ hq)]
    rw [show (List.range 64).map (val (p :: r)) = (List.range 64).map (fun g => (if g = p.1 then p.2 else 0) + val r g) from List.map_congr_left fun g _ => e1 g]
    rw [sum_add, sum_single 64 p.1 p.2 (lt p (by simp))]
/-! ### rows counted -/
def matchAt (x w : List Nat) (i : Nat) : Bool := (x.drop i).take w.length == w
theorem matchAt_le {x w : List Nat} {i : Nat} (h : matchAt x w i = true) (hi : i ≤ x.length) : i + w.length ≤ x.length := by
  unfold matchAt at h
  have e := congrArg List.length (eq_of_beq h)
  rw [List.length_take, List.length_drop] at e
  omega
def con (x : List Nat) (i : Nat) (F : Nat → Nat → Int) (j h : Nat) (a : Arc) : Int := if matchAt x a.2.1 i = true ∧ j = i + a.2.1.length ∧ h = a.2.2 then F i a.1 else 0
def step (as : List Arc) (x : List Nat) (i : Nat) (F : Nat → Nat → Int) (j h : Nat) : Int := F j h + (as.map (con x i F j h)).sum
def run (as : List Arc) (s : Nat) (x : List Nat) : Nat → Nat → Nat → Int
  | 0 => fun j h => if j = 0 ∧ h = s then 1 else 0
  | i + 1 => step as x i (run as s x i)
/-- the number of the rows from s that read x -/
def cnt (as : List Arc) (s : Nat) (x : List Nat) : Int := ((List.range 64).map (run as s x x.length x.length)).sum
theorem con_self {x : List Nat} {i : Nat} {F : Nat → Nat → Int} {h : Nat} {a : Arc} (ha : 1 ≤ a.2.1.length) : con x i F i h a = 0 := by
  unfold con
  rw [if_neg]
  rintro ⟨_, h2, _⟩
  omega
def tv (T : List KV) (j h : Nat) : Int := match T[j]? with | some e => val e h | none => 0
theorem tv_at {T : List KV} {j h : Nat} {e : KV} (q : T[j]? = some e) : tv T j h = val e h := by unfold tv; rw [q]
theorem tv_set {T : List KV} {k : Nat} {e : KV} (hk : T[k]? = some e) (g : Nat) (v : Int) (j h : Nat) : tv (T.set k (put e g (val e g + v))) j h = tv T j h + if j = k ∧ h = g then v else 0 := by
  have hlt : k < T.length := (List.getElem?_eq_some_iff.mp hk).1
  by_cases c : j = k
  · subst c
    rw [tv_at (e := put e g (val e g + v)) (by rw [List.getElem?_set_self hlt]), tv_at hk, val_put]
    by_cases d : h = g
    · subst d; simp
    · simp [d]
  · have : tv (T.set k (put e g (val e g + v))) j h = tv T j h := by
      unfold tv
      rw [List.getElem?_set_ne (fun z => c z.symm)]
    rw [this]
    simp [c]
structure TabAt (H : Hp) (ds : List Addr) (T : List KV) : Prop where
  len : ds.length = T.length
  nd : ds.Nodup
  dict : ∀ (j : Nat) (d : Addr) (e : KV), ds[j]? = some d → T[j]? = some e → H d = some (.dK (enc e))
  ok : ∀ e ∈ T, OkKV e
theorem TabAt.same {H H' : Hp} {ds : List Addr} {T : List KV} (h : TabAt H ds T) (s : Same H H') : TabAt H' ds T := ⟨h.len, h.nd, fun j d e h1 h2 => s _ _ (h.dict j d e h1 h2), h.ok⟩
theorem TabAt.get {H : Hp} {ds : List Addr} {T : List KV} (h : TabAt H ds T) {j : Nat} (hj : j < T.length) : ∃ d e, ds[j]? = some d ∧ T[j]? = some e ∧ H d = some (.dK (enc e)) ∧ OkKV e := by
  have hd : j < ds.length := by rw [h.len]; exact hj
  refine ⟨ds[j], T[j], List.getElem?_eq_getElem hd, List.getElem?_eq_getElem hj, h.dict j _ _ (List.getElem?_eq_getElem hd) (List.getElem?_eq_getElem hj), h.ok _ (List.getElem_mem hj)⟩
theorem TabAt.set {H : Hp} {ds : List Addr} {T : List KV} (h : TabAt H ds T) {j : Nat} {d : Addr} {e : KV} (hd : ds[j]? = some d) (he : OkKV e) : TabAt (upd H d (.dK (enc e))) ds (T.set j e) := by
  have hj : j < ds.length := (List.getElem?_eq_some_iff.mp hd).1
  refine ⟨by rw [List.length_set]; exact h.len, h.nd, fun k c f h1 h2 => ?_, fun f hf => ?_⟩
  · by_cases q : k = j
    · subst q
      rw [hd] at h1
      cases h1
      rw [List.getElem?_set_self (by rw [← h.len]; exact hj)] at h2
      cases h2
      exact upd_same
    · rw [List.getElem?_set_ne (fun z => q z.symm)] at h2
      have ncd : c ≠ d := fun z => by
        subst z
        have e1 := (List.getElem?_eq_some_iff.mp h1)
        have e2 := (List.getElem?_eq_some_iff.mp hd)
        exact q ((List.getElem_inj h.nd).mp (e1.2.trans e2.2.symm))
      rw [upd_ne ncd]
      exact h.dict k c f h1 h2
  · rcases List.mem_or_eq_of_mem_set hf with q | q
    · exact h.ok f q
    · rw [q]; exact he
theorem dput_enc {H : Hp} {d : Addr} {e : KV} (hd : H d = some (.dK (enc e))) (ok : OkKV e) (g : Nat) (v : Int) : DPut H d (.int (g : Int)) (.int v) (upd H d (.dK (enc (put e g v)))) := by
  have q := DPut.k (k := (Sum.inl (g : Int) : Key)) (v := V.int v) hd (lt_size (by rw [enc, List.length_map]; have := ok.len; omega))
  rw [putK_enc] at q
  exact q
theorem dget_enc {H : Hp} {d : Addr} {e : KV} (hd : Rd H d (.dK (enc e))) (g : Nat) : DGet H d (.int (g : Int)) ((get e g).map V.int) := .inl ⟨_, Sum.inl (g : Int), hd, rfl, (valV_enc e g).symm⟩
theorem enc_vals (e : KV) : (enc e).map (·.2) = (e.map (·.2)).map V.int := by unfold enc; rw [List.map_map, List.map_map]; rfl
theorem starts_S {x w : List Nat} {i : Nat} (hi : i ≤ x.length) (hw : 1 ≤ w.length) : Txt.startswith3 (SX.S x) (SX.S w) (i : Int) = matchAt x w i := by
  have ef : fromIndex (SX.S x).length (i : Int) = i := by
    unfold fromIndex
    rw [if_neg (by omega)]
    omega
  unfold Txt.startswith3
  rw [ef, PySem.StrLaws.subAt_eq, SX.S_len, SX.S_len]
  show (decide (i + w.length ≤ x.length) && ((x.drop i).take w.length == w)) = matchAt x w i
  unfold matchAt
  cases c : ((x.drop i).take w.length == w) with
  | false => simp
  | true =>
    have := matchAt_le (x := x) (w := w) (i := i) c hi
    simp [this]
theorem cutS_mid (x : List Nat) {i k : Nat} (hi : i ≤ x.length) : cutS (SX.S x) (some (i : Int)) (some ((i + k : Nat) : Int)) = SX.S ((x.drop i).take k) := by
  unfold cutS
  rw [HT.sIx_nat, HT.sIx_nat, SX.S_len]
  show SX.S ((x.drop (min i x.length)).take (min (i + k) x.length - min i x.length)) = _
  congr 1
  rw [Nat.min_eq_left hi]
  by_cases c : i + k ≤ x.length
  · rw [Nat.min_eq_left c, show i + k - i = k by omega]
  · rw [Nat.min_eq_right (by omega), List.take_of_length_le (by rw [List.length_drop]; omega), List.take_of_length_le (by rw [List.length_drop]; omega)]
def spCount (C : Addr) : Sp := fun vs H Q _ => ∃ (p : Addr) (sg : List Nat) (us : List V) (as : List Arc) (s : Nat) (x : List Nat), vs = [.ref p, .int (s : Int), .str (SX.S x)] ∧ LoomAt C H p sg us as ∧ s ≤ 63 ∧ x.length ≤ 2000 ∧ (∀ c ∈ x, c ∈ sg) ∧
  ∀ H' : Hp, Same H H' → Q (.int (cnt as s x)) H'
end J


set_option Elab.async false
set_option linter.all false
set_option maxRecDepth 100000
set_option maxHeartbeats 4000000
namespace J
open PySem L2
/-! ### rows of a book, counted from the front and from behind -/
def Sg (g : Nat → Int) : Nat → Nat → Int
  | _, 0 => 0
  | k, m + 1 => g k + Sg g (k + 1) m
theorem Sg_add (f g : Nat → Int) : ∀ (k m : Nat), Sg (fun i => f i + g i) k m = Sg f k m + Sg g k m
  | _, 0 => rfl
  | k, m + 1 => by
    show (f k + g k) + Sg (fun i => f i + g i) (k + 1) m = (f k + Sg f (k + 1) m) + (g k + Sg g (k + 1) m)
    rw [Sg_add f g (k + 1) m]
    omega
theorem Sg_zero (g : Nat → Int) : ∀ (k m : Nat), (∀ i, k ≤ i → i < k + m → g i = 0) → Sg g k m = 0
  | _, 0, _ => rfl
  | k, m + 1, h => by
    show g k + Sg g (k + 1) m = 0
    rw [h k (Nat.le_refl _) (by omega), Sg_zero g (k + 1) m fun i h1 h2 => h i (by omega) (by omega)]
    rfl
theorem Sg_congr {f g : Nat → Int} : ∀ (k m : Nat), (∀ i, k ≤ i → i < k + m → f i = g i) → Sg f k m = Sg g k m
  | _, 0, _ => rfl
  | k, m + 1, h => by
    show f k + Sg f (k + 1) m = g k + Sg g (k + 1) m
    rw [h k (Nat.le_refl _) (by omega), Sg_congr (k + 1) m fun i h1 h2 => h i (by omega) (by omega)]
theorem Sg_one (p : Nat) (v : Int) : ∀ (k m : Nat), k ≤ p → p < k + m → Sg (fun i => if i = p then v else 0) k m = v
  | _, 0, h1, h2 => by omega
  | k, m + 1, h1, h2 => by
    show (if k = p then v else 0) + Sg (fun i => if i = p then v else 0) (k + 1) m = v
    by_cases c : k = p
    · subst c
      rw [if_pos rfl, Sg_zero _ _ _ fun i q _ => if_neg (by omega)]
      omega
    · rw [if_neg c, Sg_one p v (k + 1) m (by omega) (by omega)]
      omega
/-- what a word gives to the number at i, read from behind -/
def bk (x : List Nat) (b : Nat → Int) (i : Nat) (u : List Nat) : Int := if matchAt x u i = true then b (i + u.length) else 0
/-- the table from behind -/
structure Back (x : List Nat) (ws : List (List Nat)) (b : Nat → Int) : Prop where
  last : b x.length = 1
  mid : ∀ i, i < x.length → b i = (ws.map (bk x b i)).sum
theorem fwd_words (x : List Nat) (b : Nat → Int) (F : Nat → Nat → Int) {i : Nat} (hi : i < x.length) : ∀ l : List (List Nat), (∀ u ∈ l, 1 ≤ u.length) →
    Sg (fun j => ((bka l).map (con x i F j 0)).sum * b j) (i + 1) (x.length - i) = F i 0 * (l.map (bk x b i)).sum
  | [], _ => by
    rw [Sg_zero _ _ _ fun j _ _ => by simp [bka]]
    simp
  | u :: r, h => by
    have ih := fwd_words x b F hi r fun v hv => h v (List.mem_cons_of_mem _ hv)
    have e : ∀ j, ((bka (u :: r)).map (con x i F j 0)).sum * b j = (if j = i + u.length then (F i 0 * bk x b i u) else 0) + ((bka r).map (con x i F j 0)).sum * b j := fun j => by
      have e1 : ((bka (u :: r)).map (con x i F j 0)).sum = con x i F j 0 (0, u, 0) + ((bka r).map (con x i F j 0)).sum := by simp [bka]
      rw [e1, Int.add_mul]
      congr 1
      unfold con bk
      by_cases c : j = i + u.length
      · rw [if_pos c]
        by_cases m : matchAt x u i = true
        · rw [if_pos ⟨m, c, rfl⟩, if_pos m, c]
        · rw [if_neg (fun z => m z.1), if_neg m]
          simp
      · rw [if_neg c, if_neg (fun z => c z.2.1)]
        simp
    rw [Sg_congr _ _ fun j _ _ => e j, Sg_add, ih, List.map_cons, List.sum_cons, Int.mul_add]
    congr 1
    have hu := h u (by simp)
    by_cases m : matchAt x u i = true
    · have := matchAt_le m (by omega)
      exact Sg_one _ _ _ _ (by omega) (by omega)
    · have z : bk x b i u = 0 := by unfold bk; rw [if_neg m]
      rw [z, Int.mul_zero]
      exact Sg_zero _ _ _ fun j _ _ => by simp
theorem run_zero (ws : List (List Nat)) (x : List Nat) : ∀ (i j h : Nat), h ≠ 0 → run (bka ws) 0 x i j h = 0
  | 0, j, h, n => by
    show (if j = 0 ∧ h = 0 then (1 : Int) else 0) = 0
    exact if_neg fun z => n z.2
  | i + 1, j, h, n => by
    show run (bka ws) 0 x i j h + ((bka ws).map (con x i (run (bka ws) 0 x i) j h)).sum = 0
    rw [run_zero ws x i j h n, sum_zero _ _ fun a ha => by
      obtain ⟨u, _, rfl⟩ := List.mem_map.mp ha
      unfold con
      exact if_neg fun z => n z.2.2]
    rfl
theorem run_back {x : List Nat} {ws : List (List Nat)} {b : Nat → Int} (hb : Back x ws b) (hw : ∀ u ∈ ws, 1 ≤ u.length) : ∀ i, i ≤ x.length → Sg (fun j => run (bka ws) 0 x i j 0 * b j) i (x.length + 1 - i) = b 0
  | 0, _ => by
    have e : ∀ j, run (bka ws) 0 x 0 j 0 * b j = if j = 0 then b 0 else 0 := fun j => by
      show (if j = 0 ∧ 0 = 0 then (1 : Int) else 0) * b j = _
      by_cases c : j = 0
      · subst c; simp
      · simp [c]
    rw [Sg_congr _ _ fun j _ _ => e j]
    exact Sg_one 0 (b 0) 0 _ (Nat.le_refl _) (by omega)
  | i + 1, hi => by
    have ih := run_back hb hw i (by omega)
    rw [show x.length + 1 - i = (x.length - i) + 1 by omega] at ih
    have ih2 : run (bka ws) 0 x i i 0 * b i + Sg (fun j => run (bka ws) 0 x i j 0 * b j) (i + 1) (x.length - i) = b 0 := ih
    have e : ∀ j, run (bka ws) 0 x (i + 1) j 0 * b j = run (bka ws) 0 x i j 0 * b j + ((bka ws).map (con x i (run (bka ws) 0 x i) j 0)).sum * b j := fun j => by
      show (run (bka ws) 0 x i j 0 + ((bka ws).map (con x i (run (bka ws) 0 x i) j 0)).sum) * b j = _
      rw [Int.add_mul]
    rw [show x.length + 1 - (i + 1) = x.length - i by omega, Sg_congr _ _ fun j _ _ => e j, Sg_add, fwd_words x b _ (by omega) ws hw, ← hb.mid i (by omega)]
    omega
/-- both ways come to the same -/
theorem cnt_back {x : List Nat} {ws : List (List Nat)} {b : Nat → Int} (hb : Back x ws b) (hw : ∀ u ∈ ws, 1 ≤ u.length) : cnt (bka ws) 0 x = b 0 := by
  have e := run_back hb hw x.length (Nat.le_refl _)
  rw [show x.length + 1 - x.length = 0 + 1 by omega] at e
  have e2 : run (bka ws) 0 x x.length x.length 0 * b x.length + 0 = b 0 := e
  rw [hb.last] at e2
  unfold cnt
  have e3 : (List.range 64).map (run (bka ws) 0 x x.length x.length) = (List.range 64).map fun g => if g = 0 then b 0 else 0 := List.map_congr_left fun g _ => by
    by_cases c : g = 0
    · subst c
      rw [if_pos rfl]
      omega
    · rw [if_neg c, run_zero ws x _ _ _ c]
  rw [e3, sum_single 64 0 (b 0) (by decide)]
theorem ixn_at {n M : Nat} (h : M < n) : ixN n (M : Int) = some M := by
  unfold ixN
  rw [if_pos (by omega), if_pos (by omega)]
  rfl
def bl (n : Nat) (b : Nat → Int) : List V := (List.range (n + 1)).map fun i => V.int (b i)
theorem bl_len (n : Nat) (b : Nat → Int) : (bl n b).length = n + 1 := by simp [bl]
theorem bl_at {n i : Nat} (b : Nat → Int) (h : i ≤ n) : (bl n b)[i]? = some (V.int (b i)) := by
  unfold bl
  rw [List.getElem?_map, List.getElem?_range (by omega)]
  rfl
theorem bl_set (n k : Nat) (b : Nat → Int) (v : Int) : (bl n b).set k (V.int v) = bl n fun j => if j = k then v else b j := by
  apply List.ext_getElem?
  intro i
  rw [List.getElem?_set]
  by_cases hi : i ≤ n
  · rw [bl_at _ hi, bl_at _ hi, bl_len]
    by_cases c : k = i
    · subst c
      rw [if_pos rfl, if_pos (by omega), if_pos rfl]
    · have c2 : ¬ i = k := fun z => c z.symm
      rw [if_neg c, if_neg c2]
  · have z : ∀ b, (bl n b)[i]? = none := fun b => List.getElem?_eq_none (by rw [bl_len]; omega)
    rw [z, z, bl_len]
    by_cases c : k = i
    · subst c
      rw [if_pos rfl, if_neg (by omega)]
    · rw [if_neg c]
theorem bl_start (n : Nat) : List.replicate n (V.int 0) ++ [V.int 1] = bl n fun i => if i = n then 1 else 0 := by
  apply List.ext_getElem?
  intro i
  by_cases h1 : i < n
  · rw [List.getElem?_append_left (by simpa using h1), List.getElem?_replicate, if_pos h1, bl_at _ (by omega), if_neg (by omega)]
  · by_cases h2 : i = n
    · subst h2
      rw [List.getElem?_append_right (by simp), bl_at _ (Nat.le_refl _), if_pos rfl]
      simp
    · rw [List.getElem?_eq_none (by simp; omega), List.getElem?_eq_none (by rw [bl_len]; omega)]
def spLCount : Sp := fun vs H Q _ => ∃ (a : Addr) (ws : List (List Nat)) (x : List Nat), vs = [.ref a, .str (SX.S x)] ∧ H a = some (.lst (txts ws)) ∧ ws.length ≤ 1000 ∧ (∀ u ∈ ws, 1 ≤ u.length ∧ u.length ≤ 1000) ∧ x.length ≤ 2000 ∧
  ∀ (H' : Hp) (b : Nat → Int), Same H H' → Back x ws b → Q (.int (b 0)) H'
section
variable {P : Program} {w : World} {K : PySem.W.Frag} {mg : Str → Option Value} {base : Heap}
theorem ok_l_count (T : Tx K mg) : FnOk P w K mg base CX0 1 T.f_l_count T.fd_l_count P_l_count spLCount := by
  refine T.F_l_count.ok sc_l_count (fun vs H Q E h => ?_) (fun cdv A outer s H vs Q E hr h => ?_)
  · obtain ⟨a, ws, x, rfl, _⟩ := h
    rfl
  · obtain ⟨a, ws, x, rfl, ha, hwl, hw, hx, k⟩ := h
    refine ⟨_, (pss_cons (ps_set (i := 2) sc_l_count.nd rfl (Or.inl rfl) (pe_op op_cat (pe_op op_rep (pe_lst (pa_cons pe_int pa_nil)) (pe_callB call_len_str rfl T.n_len (by decide +kernel) (pa_cons (pv 1) pa_nil))) (pe_lst (pa_cons pe_int pa_nil))))
        (pss_cons (ps_for PassesOwn.never rfl (pi_range1 rfl T.n_range (pa_cons (pe_callB call_len_str rfl T.n_len (by decide +kernel) (pa_cons (pv 1) pa_nil)) pa_nil)) (pg_name (i := 3) sc_l_count.nd rfl (Or.inl rfl)) (pss_cons (ps_set (i := 4) sc_l_count.nd rfl (Or.inl rfl) (pe_op op_sub (pe_op op_sub (pe_callB call_len_str rfl T.n_len (by decide +kernel) (pa_cons (pv 1) pa_nil)) pe_int) (pv 3)))
        (pss_one (ps_for PassesOwn.never rfl (pi_list (pv 0)) (pg_name (i := 5) sc_l_count.nd rfl (Or.inl rfl)) (pss_one (ps_if (pt_cmpR op_eq (pe_slice sl_str (pv 1) (po_some (pv 4)) (po_some (pe_op op_add (pv 4) (pe_callB call_len_str rfl T.n_len (by decide +kernel) (pa_cons (pv 5) pa_nil))))) (pv 5) (nomark _)) (pss_one (ps_asg (pe_op op_add (pe_ix (ix_listK (K := K) rfl) (pv 2) (pv 4) (fun _ _ => rfl)) (pe_ix (ix_listK (K := K) rfl) (pv 2) (pe_op op_add (pv 4) (pe_callB call_len_str rfl T.n_len (by decide +kernel) (pa_cons (pv 5) pa_nil))) (fun _ _ => rfl))) (pg_sub (pv 2) (pv 4) set_list))) pss_nil))))))
        (pss_one (ps_ret (pe_ix (ix_listK (K := K) rfl) (pv 2) pe_int (fun _ _ => rfl)))))), ?_⟩
    have hxl : (SX.S x).length ≤ sizeLine := le_size (by rw [SX.S_len]; omega)
    have exl : ((SX.S x).length : Int) = (x.length : Int) := by rw [SX.S_len]
    have wl : (txts ws).length = ws.length := by rw [txts, List.length_map]
    refine ⟨le_size (by simp), fun l1 h1 => ?_⟩
    refine ⟨_, rfl, _, rfl, hxl, l1, _, _, rfl, rfl, upd_same, by rw [exl]; omega, by rw [exl]; omega, by rw [exl]; exact le_size (by simp; omega), fun l2 h2 => ?_⟩
    have e2 : upd (upd H l1 (.lst [.int 0])) l2 (.lst (List.replicate ((SX.S x).length : Int).toNat [V.int 0]).flatten) = upd (upd H l1 (.lst [.int 0])) l2 (.lst (List.replicate x.length (V.int 0))) := by
      rw [exl, Int.toNat_natCast]
      congr 2
      induction x.length with
      | zero => rfl
      | succ n ih => rw [List.replicate_succ, List.flatten_cons, ih, List.replicate_succ]; rfl
    rw [e2]
    have s1 : Same H (upd H l1 (.lst [.int 0])) := Same.new _ h1
    have s2 : Same H (upd (upd H l1 (.lst [.int 0])) l2 (.lst (List.replicate x.length (V.int 0)))) := s1.trans (Same.new _ h2)
    have g2 : upd (upd H l1 (.lst [.int 0])) l2 (.lst (List.replicate x.length (V.int 0))) l2 = some (.lst (List.replicate x.length (V.int 0))) := upd_same
    generalize upd (upd H l1 (.lst [.int 0])) l2 (.lst (List.replicate x.length (V.int 0))) = H2 at *
    refine ⟨le_size (by simp), fun l3 h3 => ?_⟩
    have s3 : Same H2 (upd H2 l3 (.lst [.int 1])) := Same.new _ h3
    have g3 : upd H2 l3 (.lst [.int 1]) l3 = some (.lst [.int 1]) := upd_same
    generalize upd H2 l3 (.lst [.int 1]) = H3 at *
    refine ⟨l2, l3, _, _, rfl, rfl, s3 _ _ g2, g3, by simp; exact le_size (by omega), fun D hD => ?_⟩
    have s4 : Same H (upd H3 D (.lst (List.replicate x.length (V.int 0) ++ [V.int 1]))) := (s2.trans s3).trans (Same.new _ hD)
    have hD0 : H D = none := (s2.trans s3).free hD
    rw [bl_start] at s4 ⊢
    have g4 : upd H3 D (.lst (bl x.length fun i => if i = x.length then 1 else 0)) D = some (.lst (bl x.length fun i => if i = x.length then 1 else 0)) := upd_same
    generalize upd H3 D (.lst (bl x.length fun i => if i = x.length then 1 else 0)) = H4 at *
    have nDa : a ≠ D := fun z => by rw [z, hD0] at ha; cases ha
    refine ⟨_, rfl, _, rfl, hxl, _, rfl, by rw [exl]; omega, by rw [exl]; omega, for_range (lo := 0) (n := x.length) (fun t σ H' => ∃ (b : Nat → Int) (v3 v4 v5 : Option V), σ = [some (.ref a), some (.str (SX.S x)), some (.ref D), v3, v4, v5] ∧
      H' D = some (.lst (bl x.length b)) ∧ Same H H' ∧ b x.length = 1 ∧ (∀ i, i < x.length → x.length - t ≤ i → b i = (ws.map (bk x b i)).sum) ∧ (∀ i, i < x.length - t → b i = 0)) ?_ ?_ ?_⟩
    · exact ⟨_, none, none, none, rfl, g4, s4, if_pos rfl, fun i h1 h2 => by omega, fun i h => if_neg (by omega)⟩
    · rintro t σ H5 ht ⟨b, v3, v4, v5, rfl, hb, s5, b1, b2, b3⟩
      obtain ⟨at_, hat⟩ : ∃ at_, at_ + 1 + t = x.length := ⟨x.length - 1 - t, by omega⟩
      have eat : ((SX.S x).length : Int) - 1 - (0 + (t : Int)) = (at_ : Int) := by rw [exl]; omega
      refine ⟨_, rfl, _, rfl, hxl, _, _, rfl, rfl, _, rfl, _, _, rfl, rfl, ?_⟩
      dsimp only
      rw [eat]
      refine ⟨_, rfl, a, rfl, ⟨_, SqL.of (s5 _ _ ha)⟩, for_list (K := K) (a := a) (xs := txts ws) (fun m σ H' => ∃ (c : Nat → Int) (v5 : Option V), σ = [some (.ref a), some (.str (SX.S x)), some (.ref D), some (.int (0 + (t : Int))), some (.int (at_ : Int)), v5] ∧
        H' D = some (.lst (bl x.length c)) ∧ Same H H' ∧ (∀ j, j ≠ at_ → c j = b j) ∧ c at_ = ((ws.take m).map (bk x b at_)).sum) ?_ ?_ ?_ ?_⟩
      · exact ⟨b, v5, rfl, hb, s5, fun _ _ => rfl, by rw [b3 at_ (by omega)]; rfl⟩
      · rintro m σ H6 _ ⟨_, _, _, _, s6, _⟩
        exact SqL.of (s6 _ _ ha)
      · rintro m y σ H6 hy ⟨c, v5, rfl, hc, s6, c1, c2⟩
        obtain ⟨u, hu, rfl⟩ := txt_at hy
        obtain ⟨u1, u2⟩ := hw u (List.mem_of_getElem? hu)
        have hul : (SX.S u).length ≤ sizeLine := le_size (by rw [SX.S_len]; omega)
        have eend : (at_ : Int) + ((SX.S u).length : Nat) = ((at_ + u.length : Nat) : Int) := by rw [SX.S_len]; omega
        have snoc : ((ws.take (m + 1)).map (bk x b at_)).sum = ((ws.take m).map (bk x b at_)).sum + bk x b at_ u := by
          rw [← take_snoc hu, List.map_append, List.sum_append]
          simp
        refine ⟨_, rfl, _, rfl, _, rfl, _, rfl, _, rfl, _, rfl, hul, _, _, rfl, rfl, ?_⟩
        dsimp only
        rw [eend]
        refine ⟨_, rfl, _, rfl, hxl, ?_⟩
        rw [cutS_mid x (by omega)]
        refine ⟨_, rfl, rfl, _, rfl, ?_⟩
        have em : (V.str (SX.S ((x.drop at_).take u.length)) = V.str (SX.S u)) ↔ matchAt x u at_ = true := by
          unfold matchAt
          constructor
          · intro z
            injection z with z
            exact beq_iff_eq.mpr (S_inj z)
          · intro z
            rw [beq_iff_eq.mp z]
        refine ite2 (fun q => ?_) (fun q => ?_)
        · have hm := em.mp (of_decide_eq_true q)
          have hle := matchAt_le hm (by omega)
          refine ⟨_, rfl, _, rfl, D, _, _, _, rfl, rfl, SqL.of hc, atI_nat (bl_at c (by omega)), ?_⟩
          refine ⟨_, rfl, _, rfl, _, rfl, _, rfl, hul, _, _, rfl, rfl, D, _, _, _, rfl, rfl, SqL.of hc, by rw [eend]; exact atI_nat (bl_at c hle), _, _, rfl, rfl, ?_⟩
          refine ⟨_, rfl, _, rfl, D, _, _, at_, rfl, rfl, hc, ixn_at (by rw [bl_len]; omega), ?_⟩
          refine ⟨fun j => if j = at_ then c at_ + c (at_ + u.length) else c j, _, rfl, by rw [upd_same, bl_set], s6.updNew hD0, fun j n => by show (if j = at_ then _ else c j) = b j; rw [if_neg n]; exact c1 j n, ?_⟩
          show (if at_ = at_ then c at_ + c (at_ + u.length) else _) = _
          rw [if_pos rfl, snoc, c2, c1 _ (by omega)]
          unfold bk
          rw [if_pos hm]
        · have hm : ¬ matchAt x u at_ = true := fun z => q (decide_eq_true (em.mpr z))
          refine ⟨c, _, rfl, hc, s6, c1, ?_⟩
          rw [snoc, c2]
          unfold bk
          rw [if_neg hm]
          omega
      · rintro σ H6 ⟨c, v5, rfl, hc, s6, c1, c2⟩
        have ew : ws.take (txts ws).length = ws := by rw [wl, List.take_length]
        rw [ew] at c2
        have ebk : ∀ i, at_ ≤ i → (ws.map (bk x c i)).sum = (ws.map (bk x b i)).sum := fun i hi => by
          congr 1
          refine List.map_congr_left fun u hu => ?_
          have := (hw u hu).1
          unfold bk
          rw [c1 _ (by omega)]
        refine ⟨c, _, _, _, rfl, hc, s6, by rw [c1 _ (by omega)]; exact b1, fun i h1 h2 => ?_, fun i h => by rw [c1 _ (by omega)]; exact b3 i (by omega)⟩
        rw [ebk i (by omega)]
        by_cases e : i = at_
        · rw [e]; exact c2
        · rw [c1 i e]; exact b2 i h1 (by omega)
    · rintro σ H5 ⟨b, v3, v4, v5, rfl, hb, s5, b1, b2, b3⟩
      exact ⟨_, rfl, D, _, _, _, rfl, rfl, SqL.of hb, atI_nat (j := 0) (bl_at b (Nat.zero_le _)), k _ b s5 ⟨b1, fun i hi => b2 i hi (by omega)⟩⟩
end
end J


set_option Elab.async false
set_option linter.all false
set_option maxRecDepth 100000
set_option maxHeartbeats 4000000
namespace J
open PySem L2
theorem sum_nn : ∀ l : List Int, (∀ x ∈ l, 0 ≤ x) → 0 ≤ l.sum ∧ (0 < l.sum ↔ ∃ x ∈ l, 0 < x)
  | [], _ => by simp
  | a :: l, h => by
    have ha := h a (by simp)
    obtain ⟨h1, h2⟩ := sum_nn l fun x hx => h x (by simp [hx])
    rw [List.sum_cons]
    refine ⟨by omega, ?_⟩
    constructor
    · intro q
      by_cases c : 0 < a
      · exact ⟨a, by simp, c⟩
      · obtain ⟨x, hx, q2⟩ := h2.mp (by omega)
        exact ⟨x, by simp [hx], q2⟩
    · rintro ⟨x, hx, q⟩
      rcases List.mem_cons.mp hx with e | hx
      · subst e; omega
      · have := h2.mpr ⟨x, hx, q⟩
        omega
theorem match_iff {x u : List Nat} {i : Nat} : matchAt x u i = true ↔ u <+: x.drop i := by
  unfold matchAt
  rw [beq_iff_eq, TxO.pre_take]
theorem back_wr {x : List Nat} {ws : List (List Nat)} {b : Nat → Int} (B : Back x ws b) (hw : ∀ u ∈ ws, u ≠ []) : ∀ n i, i ≤ x.length → x.length - i ≤ n → 0 ≤ b i ∧ (0 < b i ↔ TxO.Wr ws (x.drop i)) := by
  intro n
  induction n with
  | zero =>
    intro i hi hn
    obtain rfl : i = x.length := by omega
    rw [B.last, List.drop_length]
    exact ⟨by decide, fun _ => TxO.Wr.nil ws, fun _ => by decide⟩
  | succ n ih =>
    intro i hi hn
    by_cases e : i = x.length
    · subst e
      rw [B.last, List.drop_length]
      exact ⟨by decide, fun _ => TxO.Wr.nil ws, fun _ => by decide⟩
    · have hil : i < x.length := by omega
      have hb : ∀ u ∈ ws, 0 ≤ bk x b i u ∧ (0 < bk x b i u ↔ u <+: x.drop i ∧ TxO.Wr ws (x.drop (i + u.length))) := fun u hu => by
        have ul : u.length ≠ 0 := fun z => hw u hu (List.eq_nil_of_length_eq_zero z)
        unfold bk
        by_cases c : matchAt x u i = true
        · have p := match_iff.mp c
          have pl := p.length_le
          rw [List.length_drop] at pl
          obtain ⟨q1, q2⟩ := ih (i + u.length) (by omega) (by omega)
          rw [if_pos c]
          exact ⟨q1, by rw [q2]; exact ⟨fun h => ⟨p, h⟩, fun h => h.2⟩⟩
        · rw [if_neg c]
          exact ⟨Int.le_refl _, fun h => absurd h (by decide), fun h => absurd (match_iff.mpr h.1) c⟩
      obtain ⟨s1, s2⟩ := sum_nn (ws.map (bk x b i)) fun v hv => by
        obtain ⟨u, hu, rfl⟩ := List.mem_map.mp hv
        exact (hb u hu).1
      rw [B.mid i hil]
      refine ⟨s1, s2.trans ?_⟩
      have dd : ∀ u : List Nat, x.drop (i + u.length) = (x.drop i).drop u.length := fun u => by rw [List.drop_drop]
      constructor
      · rintro ⟨v, hv, q⟩
        obtain ⟨u, hu, rfl⟩ := List.mem_map.mp hv
        obtain ⟨p, hW⟩ := (hb u hu).2.mp q
        obtain ⟨r, hr⟩ := p
        rw [dd, ← hr, List.drop_left] at hW
        rw [← hr]
        exact hW.cons hu
      · intro hW
        obtain ⟨v, u, hu, _, e2, hv⟩ := hW.first (fun z => by have := congrArg List.length z; rw [List.length_drop, List.length_nil] at this; omega) hw
        refine ⟨_, List.mem_map.mpr ⟨u, hu, rfl⟩, (hb u hu).2.mpr ⟨⟨v, e2.symm⟩, ?_⟩⟩
        rw [dd, e2, List.drop_left]
        exact hv
theorem back_zero {x : List Nat} {ws : List (List Nat)} {b : Nat → Int} (B : Back x ws b) (hw : ∀ u ∈ ws, u ≠ []) : 0 ≤ b 0 ∧ (0 < b 0 ↔ TxO.Wr ws x) := by
  have := back_wr B hw x.length 0 (Nat.zero_le _) (by omega)
  rwa [List.drop_zero] at this
/-! ### whether no text has two readings -/
/-- what one reading may be ahead -/
def ends (ws : List (List Nat)) : List (List Nat) := ws.flatMap fun w => (List.range 13).map fun k => w.drop k
theorem ends_len (ws : List (List Nat)) : (ends ws).length = 13 * ws.length := by
  unfold ends
  induction ws with
  | nil => rfl
  | cons w r ih => rw [List.flatMap_cons, List.length_append, ih]; simp; omega
theorem ends_mem {ws : List (List Nat)} {w : List Nat} (hw : w ∈ ws) (hl : w.length ≤ 12) (k : Nat) : w.drop k ∈ ends ws := by
  refine List.mem_flatMap.mpr ⟨w, hw, List.mem_map.mpr ⟨min k 12, by simp; omega, ?_⟩⟩
  by_cases c : k ≤ 12
  · rw [Nat.min_eq_left c]
  · rw [Nat.min_eq_right (by omega), List.drop_eq_nil_of_le (by omega), List.drop_eq_nil_of_le (by omega)]
theorem ends_drop {ws : List (List Nat)} (hl : ∀ w ∈ ws, w.length ≤ 12) {l : List Nat} (h : l ∈ ends ws) (k : Nat) : l.drop k ∈ ends ws := by
  obtain ⟨w, hw, h2⟩ := List.mem_flatMap.mp h
  obtain ⟨j, _, rfl⟩ := List.mem_map.mp h2
  rw [List.drop_drop]
  exact ends_mem hw (hl w hw) _
/-- all that comes of a rest by one word stands among these -/
def Stp (ws : List (List Nat)) (kn td : List (List Nat)) (l : List Nat) : Prop := ∀ w ∈ ws, (l <+: w → w.drop l.length ∈ kn ∨ w.drop l.length ∈ td) ∧ (¬ l <+: w → w <+: l → l.drop w.length ∈ kn ∨ l.drop w.length ∈ td)
structure Sg1 (ws kn td : List (List Nat)) : Prop where
  st : ∀ w ∈ ws, ∀ v ∈ ws, w ≠ v → w <+: v → v.drop w.length ∈ kn ∨ v.drop w.length ∈ td
  sp : ∀ l ∈ kn, Stp ws kn td l
  no : [] ∉ kn
  nd : kn.Nodup
  ke : ∀ l ∈ kn, l ∈ ends ws
  te : ∀ l ∈ td, l ∈ ends ws
theorem single_free {ws kn : List (List Nat)} (S : Sg1 ws kn []) (hw : ∀ u ∈ ws, u ≠ []) : ∀ u ∈ ws, ¬ TxO.Put ws u := by
  have hk : ∀ {l}, (l ∈ kn ∨ l ∈ ([] : List (List Nat))) → l ∈ kn := fun h => h.elim id (fun z => absurd z List.not_mem_nil)
  have key : ∀ ps : List (List Nat), (∀ p ∈ ps, p ∈ ws) → ps.flatten ∈ kn → False := by
    intro ps
    induction ps with
    | nil => intro _ h; exact S.no h
    | cons p r ih =>
      intro hp h
      have hpw := hp p (by simp)
      obtain ⟨a, b⟩ := S.sp _ h p hpw
      by_cases c : (p :: r).flatten <+: p
      · have hl := c.length_le
        rw [List.flatten_cons, List.length_append] at hl
        have e : r.flatten = [] := List.eq_nil_of_length_eq_zero (by omega)
        have q := hk (a c)
        rw [List.flatten_cons, e, List.append_nil, List.drop_length] at q
        exact S.no q
      · have q := hk (b c ⟨r.flatten, by rw [List.flatten_cons]⟩)
        rw [List.flatten_cons, List.drop_left] at q
        exact ih (fun x hx => hp x (by simp [hx])) q
  intro u hu h
  obtain ⟨ps, h1, h2⟩ := h
  cases ps with
  | nil => exact hw u hu h2.symm
  | cons p r =>
    obtain ⟨a, b⟩ := List.mem_filter.mp (h1 p (by simp))
    have hne : p ≠ u := fun e => by
      have := of_decide_eq_true b
      rw [e] at this
      omega
    have q := hk (S.st p a u hu hne ⟨r.flatten, by rw [← h2, List.flatten_cons]⟩)
    rw [← h2, List.flatten_cons, List.drop_left] at q
    exact key r (fun x hx => (List.mem_filter.mp (h1 x (by simp [hx]))).1) q
end J


set_option Elab.async false
set_option linter.all false
set_option maxRecDepth 100000
set_option maxHeartbeats 4000000
/-! bases of two lists of words, held against each other -/
namespace TxO
open PySem L2 SrtC
theorem wr_flat {ws vs : List (List Nat)} {u : List Nat} (h : Wr ws u) (m : ∀ w ∈ ws, Wr vs w) : Wr vs u := by
  obtain ⟨ps, h1, rfl⟩ := h
  induction ps with
  | nil => exact Wr.nil vs
  | cons p r ih =>
    obtain ⟨qs, q1, q2⟩ := m p (h1 p (by simp))
    obtain ⟨rs, r1, r2⟩ := ih fun x hx => h1 x (by simp [hx])
    refine ⟨qs ++ rs, fun x hx => ?_, by rw [List.flatten_append, q2, r2, List.flatten_cons]⟩
    rcases List.mem_append.mp hx with h | h
    · exact q1 x h
    · exact r1 x h
theorem Wr.one {ws : List (List Nat)} {u : List Nat} (h : u ∈ ws) : Wr ws u := ⟨[u], fun p hp => by rw [List.mem_singleton.mp hp]; exact h, by simp⟩
theorem base_wr {ws ys : List (List Nat)} (B : IsBase ws ys) : ∀ (n : Nat), ∀ w ∈ ws, w.length ≤ n → Wr ys w := by
  intro n
  induction n with
  | zero =>
    intro w hw hl
    have e : w = [] := List.eq_nil_of_length_eq_zero (by omega)
    rw [e]
    exact Wr.nil ys
  | succ n ih =>
    intro w hw hl
    by_cases c : Put ws w
    · exact wr_flat c fun v hv => ih v (List.mem_filter.mp hv).1 (by have := of_decide_eq_true (List.mem_filter.mp hv).2; omega)
    · exact Wr.one ((B.2.2 w).mpr ⟨hw, c⟩)
theorem part_le {ps : List (List Nat)} {p : List Nat} (h : p ∈ ps) : p.length ≤ ps.flatten.length := (List.sublist_flatten_of_mem h).length_le
theorem base_in {ws vs bs cs : List (List Nat)} (hne : ∀ w ∈ vs, w ≠ []) (B : IsBase ws bs) (C : IsBase vs cs) (h : ∀ u ∈ bs, Wr vs u) (h2 : ∀ u ∈ cs, Wr ws u) : ∀ u ∈ bs, u ∈ cs := by
  intro u hu
  by_cases c : u ∈ cs
  · exact c
  exfalso
  have hW : Wr cs u := wr_flat (h u hu) fun w hw => base_wr C w.length w hw (Nat.le_refl _)
  obtain ⟨ps, p1, p2⟩ := hW
  apply ((B.2.2 u).mp hu).2
  have hcn : ∀ q ∈ ps, q ≠ [] := fun q hq => hne q ((C.2.2 q).mp (p1 q hq)).1
  have sh : ∀ p ∈ ps, p.length < u.length := fun p hp => by
    have := part_le hp
    rw [p2] at this
    by_cases e : p.length < u.length
    · exact e
    · exfalso
      have e2 := flat_part hcn hp (by rw [p2]; omega)
      rw [e2] at p2
      have : p = u := by simpa using p2
      rw [this] at hp
      exact c (p1 u hp)
  refine wr_flat (ws := ps) ⟨ps, fun p hp => hp, p2⟩ fun p hp => ?_
  obtain ⟨qs, q1, q2⟩ := h2 p (p1 p hp)
  refine ⟨qs, fun q hq => List.mem_filter.mpr ⟨q1 q hq, decide_eq_true ?_⟩, q2⟩
  have := part_le hq
  rw [q2] at this
  have := sh p hp
  omega
/-- told in the base of one, and not written in the other -/
def Tl (bs vs : List (List Nat)) (z : List Nat) : Prop := z ∈ bs ∧ ¬ Wr vs z
theorem same_none {ws vs bs cs : List (List Nat)} (hw : ∀ w ∈ ws, w ≠ []) (hv : ∀ w ∈ vs, w ≠ []) (B : IsBase ws bs) (C : IsBase vs cs) : ((∀ z, ¬ Tl bs vs z) ∧ ∀ z, ¬ Tl cs ws z) ↔ bs = cs := by
  constructor
  · rintro ⟨h1, h2⟩
    have a : ∀ u ∈ bs, Wr vs u := fun u hu => by
      by_cases q : Wr vs u
      · exact q
      · exact absurd ⟨hu, q⟩ (h1 u)
    have b : ∀ u ∈ cs, Wr ws u := fun u hu => by
      by_cases q : Wr ws u
      · exact q
      · exact absurd ⟨hu, q⟩ (h2 u)
    exact sf_mem B.1 C.1 B.2.1 C.2.1 fun u => ⟨base_in hv B C a b u, base_in hw C B b a u⟩
  · intro e
    subst e
    exact ⟨fun z h => h.2 (Wr.one ((C.2.2 z).mp h.1).1), fun z h => h.2 (Wr.one ((B.2.2 z).mp h.1).1)⟩
/-- what same_texts tells -/
def SameR (ws vs : List (List Nat)) (v : V) : Prop := ∃ bs cs, IsBase ws bs ∧ IsBase vs cs ∧ ((v = .non ∧ bs = cs) ∨ ∃ z, v = .str (SX.S z) ∧ bs ≠ cs ∧ (Tl bs vs z ∨ Tl cs ws z) ∧ ∀ y, (Tl bs vs y ∨ Tl cs ws y) → bef y z = false)
/-- a word more that is written in the others changes nothing -/
theorem base_more {ws bs : List (List Nat)} {m : List Nat} (hw : ∀ w ∈ ws, w ≠ []) (hm : m ≠ []) (h : Wr ws m) (B : IsBase ws bs) : IsBase (ws ++ [m]) bs := by
  refine ⟨B.1, B.2.1, fun u => ?_⟩
  rw [B.2.2 u]
  have key : ∀ u, Put (ws ++ [m]) u → Put ws u := fun u hp => by
    refine wr_flat hp fun p hp => ?_
    obtain ⟨a, b⟩ := List.mem_filter.mp hp
    have hpl := of_decide_eq_true b
    rcases List.mem_append.mp a with q | q
    · exact Wr.one (List.mem_filter.mpr ⟨q, b⟩)
    · rw [List.mem_singleton.mp q] at hpl ⊢
      obtain ⟨qs, q1, q2⟩ := h
      refine ⟨qs, fun x hx => List.mem_filter.mpr ⟨q1 x hx, decide_eq_true ?_⟩, q2⟩
      have := part_le hx
      rw [q2] at this
      omega
  constructor
  · rintro ⟨a, b⟩
    exact ⟨List.mem_append_left _ a, fun q => b (key u q)⟩
  · rintro ⟨a, b⟩
    refine ⟨?_, fun q => b (put_mono (fun w hw => List.mem_append_left _ hw) q)⟩
    rcases List.mem_append.mp a with q | q
    · exact q
    · rw [List.mem_singleton.mp q] at b ⊢
      by_cases c : m ∈ ws
      · exact c
      · exfalso
        apply b
        refine put_mono (ws := ws) (fun w hw => List.mem_append_left _ hw) ((wr_other hw m).mp ?_)
        have : (ws.filter fun p => decide (p ≠ m)) = ws := List.filter_eq_self.mpr fun p hp => decide_eq_true fun e => c (e ▸ hp)
        rw [this]
        exact h
end TxO

set_option Elab.async false
set_option linter.all false
set_option maxRecDepth 100000
set_option maxHeartbeats 4000000
namespace J
open PySem L2
/-! ### the number of readings is above 0 just if a text is written in words -/
def bT (x : List Nat) (ws : List (List Nat)) : Nat → Nat → Int
  | 0, i => if i = x.length then 1 else 0
  | n + 1, i => if i = x.length then 1 else (ws.map fun u => if matchAt x u i = true then bT x ws n (i + u.length) else 0).sum
theorem bT_same {x : List Nat} {ws : List (List Nat)} (hw : ∀ u ∈ ws, 1 ≤ u.length) : ∀ n m i, x.length - i ≤ n → x.length - i ≤ m → i ≤ x.length → bT x ws n i = bT x ws m i := by
  intro n
  induction n with
  | zero =>
    intro m i h1 h2 h3
    have e : i = x.length := by omega
    cases m with
    | zero => rfl
    | succ m => simp [bT, e]
  | succ n ih =>
    intro m i h1 h2 h3
    by_cases e : i = x.length
    · cases m with
      | zero => simp [bT, e]
      | succ m => simp [bT, e]
    · cases m with
      | zero => omega
      | succ m =>
        simp only [bT, if_neg e]
        congr 1
        refine List.map_congr_left fun u hu => ?_
        by_cases c : matchAt x u i = true
        · rw [if_pos c, if_pos c]
          have := matchAt_le c (by omega)
          have := hw u hu
          exact ih m (i + u.length) (by omega) (by omega) (by omega)
        · rw [if_neg c, if_neg c]
theorem back_of (x : List Nat) {ws : List (List Nat)} (hw : ∀ u ∈ ws, 1 ≤ u.length) : Back x ws (fun i => bT x ws (x.length - i) i) := by
  refine ⟨?_, fun i hi => ?_⟩
  · show bT x ws (x.length - x.length) x.length = 1
    rw [Nat.sub_self]
    simp [bT]
  · show bT x ws (x.length - i) i = _
    obtain ⟨m, hm⟩ : ∃ m, x.length - i = m + 1 := ⟨x.length - i - 1, by omega⟩
    rw [hm]
    simp only [bT, if_neg (show ¬ i = x.length by omega)]
    congr 1
    refine List.map_congr_left fun u hu => ?_
    unfold bk
    by_cases c : matchAt x u i = true
    · rw [if_pos c, if_pos c]
      have := matchAt_le c (by omega)
      have := hw u hu
      exact bT_same hw _ _ _ (by omega) (by omega) (by omega)
    · rw [if_neg c, if_neg c]
theorem cnt_wr {x : List Nat} {ws : List (List Nat)} (hw : ∀ u ∈ ws, u ≠ []) : 0 < cnt (bka ws) 0 x ↔ TxO.Wr ws x := by
  have hw1 : ∀ u ∈ ws, 1 ≤ u.length := fun u hu => List.length_pos_iff.mpr (hw u hu)
  have B := back_of x hw1
  rw [cnt_back B hw1]
  exact (back_zero B hw).2
def spAlikeB (C : Addr) : Sp := fun vs H Q _ => ∃ (p q : Addr) (sg : List Nat) (us us' : List V) (ws ws' : List (List Nat)), vs = [.ref p, .ref q] ∧ LoomAt C H p sg us (bka ws) ∧ LoomAt C H q sg us' (bka ws') ∧ ∀ H', Same H H' → Q .non H'
def spSameB (C : Addr) : Sp := fun vs H Q _ => ∃ (p q : Addr) (sg : List Nat) (us us' : List V) (ws ws' : List (List Nat)), vs = [.ref p, .ref q] ∧ LoomAt C H p sg us (bka ws) ∧ LoomAt C H q sg us' (bka ws') ∧ ∀ H' v, Same H H' → TxO.SameR ws ws' v → Q v H'
theorem nonempty_of {sg : List Nat} {ws : List (List Nat)} (h : ∀ u ∈ ws, Word sg u) : ∀ u ∈ ws, u ≠ [] := fun u hu z => by
  have := (h u hu).1
  rw [z] at this
  simp at this
section
variable {P : Program} {w : World} {K : PySem.W.Frag} {mg : Str → Option Value} {base : Heap}
theorem ok_check_alike (T : Tx K mg) : FnOk P w K mg base CX0 3 T.f_check_alike T.fd_check_alike P_check_alike (spAlikeB T.C_Loom) := by
  have G_check_book : FnOk P w K mg base CX0 2 T.f_check_book T.fd_check_book P_check_book (spChkBook T.C_Loom) := ok_check_book T
  refine T.F_check_alike.ok sc_check_alike (fun vs H Q E h => ?_) (fun cdv A outer s H vs Q E hr h => ?_)
  · obtain ⟨p, q, sg, us, us', ws, ws', rfl, _⟩ := h
    rfl
  · obtain ⟨p, q, sg, us, us', ws, ws', rfl, hp, hq, k⟩ := h
    refine ⟨_, (pss_cons (ps_expr (pe_call G_check_book (hr.mono (by decide)) rfl T.m_check_book T.F_check_book.kp T.b_check_book .nil pass0 (pa_cons (pv 0) pa_nil)))
        (pss_cons (ps_expr (pe_call G_check_book (hr.mono (by decide)) rfl T.m_check_book T.F_check_book.kp T.b_check_book .nil pass0 (pa_cons (pv 1) pa_nil)))
        (pss_one (ps_if (pt_cmpR op_ne (pe_fld (pv 0) rfl) (pe_fld (pv 1) rfl) (nomark _)) (pss_one ps_never) pss_nil)))), ?_⟩
    refine ⟨_, rfl, p, sg, us, _, rfl, hp, kd_book ws, fun H1 s1 => ?_⟩
    refine ⟨_, rfl, q, sg, us', _, rfl, hq.same s1, kd_book ws', fun H2 s2 => ?_⟩
    have s12 := s1.trans s2
    obtain ⟨dp, Tp, hp2, _, _, _, _⟩ := hp.same s12
    obtain ⟨dq, Tq, hq2, _, _, _, _⟩ := hq.same s12
    refine ⟨_, rfl, p, _, dp, _, _, rfl, hp2, T.cl_Loom, T.na_Loom_signs, lf_signs _ _, ?_⟩
    refine ⟨_, rfl, q, _, dq, _, _, rfl, hq2, T.cl_Loom, T.na_Loom_signs, lf_signs _ _, ?_⟩
    refine ⟨rfl, false, congrArg V.bl (by simp), iteF ?_⟩
    exact k H2 s12
theorem ok_same_texts (T : Tx K mg) : FnOk P w K mg base CX0 5 T.f_same_texts T.fd_same_texts P_same_texts (spSameB T.C_Loom) := by
  have G_check_alike : FnOk P w K mg base CX0 3 T.f_check_alike T.fd_check_alike P_check_alike (spAlikeB T.C_Loom) := ok_check_alike T
  have G_base : FnOk P w K mg base CX0 4 T.f_base T.fd_base P_base (spBase T.C_Loom) := ok_base T
  have G_words : FnOk P w K mg base CX0 3 T.f_words T.fd_words P_words (spPWords T.C_Loom) := ok_words T
  have G_is_written : FnOk P w K mg base CX0 1 T.f_is_written T.fd_is_written P_is_written spWr := ok_is_written T
  have G_shorter_first : FnOk P w K mg base CX0 1 T.f_shorter_first T.fd_shorter_first P_shorter_first (spSF K) := ok_shorter_first T
  refine T.F_same_texts.ok sc_same_texts (fun vs H Q E h => ?_) (fun cdv A outer s H vs Q E hr h => ?_)
  · obtain ⟨p, q, sg, us, us', ws, ws', rfl, _⟩ := h
    rfl
  · obtain ⟨p, q, sg, us, us', ws, ws', rfl, hp, hq, k⟩ := h
    refine ⟨_, (pss_cons (ps_expr (pe_call G_check_alike (hr.mono (by decide)) rfl T.m_check_alike T.F_check_alike.kp T.b_check_alike .nil pass0 (pa_cons (pv 0) (pa_cons (pv 1) pa_nil))))
        (pss_cons (ps_setLc (i := 2) (own := [("word", 5)]) (g := (gName 5)) rfl sc_same_texts.nd rfl rfl (sw_true rfl rfl rfl (by decide +kernel)) (pi_list (pe_call G_base (hr.mono (by decide)) rfl T.m_base T.F_base.kp T.b_base .nil pass0 (pa_cons (pv 0) pa_nil))) (blkOk_by (N := N_same_texts) (sc := defScope s_same_texts) (by decide +kernel)) (fun _ _ _ _ _ => (pg_name (i := 5) sc_same_texts.nd rfl (Or.inl rfl))) (fun _ _ _ _ _ => (pts_one (pt_not (pt_val (pe_call G_is_written (hr.mono (by decide)) rfl T.m_is_written T.F_is_written.kp T.b_is_written .nil pass0 (pa_cons (pe_call G_words (hr.mono (by decide)) rfl T.m_words T.F_words.kp T.b_words .nil pass0 (pa_cons (pv 1) pa_nil)) (pa_cons (pv 5) pa_nil))))))) (fun _ _ _ _ _ => (pv 5)))
        (pss_cons (ps_setLc (i := 3) (own := [("word", 5)]) (g := (gName 5)) rfl sc_same_texts.nd rfl rfl (sw_true rfl rfl rfl (by decide +kernel)) (pi_list (pe_call G_base (hr.mono (by decide)) rfl T.m_base T.F_base.kp T.b_base .nil pass0 (pa_cons (pv 1) pa_nil))) (blkOk_by (N := N_same_texts) (sc := defScope s_same_texts) (by decide +kernel)) (fun _ _ _ _ _ => (pg_name (i := 5) sc_same_texts.nd rfl (Or.inl rfl))) (fun _ _ _ _ _ => (pts_one (pt_not (pt_val (pe_call G_is_written (hr.mono (by decide)) rfl T.m_is_written T.F_is_written.kp T.b_is_written .nil pass0 (pa_cons (pe_call G_words (hr.mono (by decide)) rfl T.m_words T.F_words.kp T.b_words .nil pass0 (pa_cons (pv 0) pa_nil)) (pa_cons (pv 5) pa_nil))))))) (fun _ _ _ _ _ => (pv 5)))
        (pss_cons (ps_set (i := 4) sc_same_texts.nd rfl (Or.inl rfl) (pe_call G_shorter_first (hr.mono (by decide)) rfl T.m_shorter_first T.F_shorter_first.kp T.b_shorter_first .nil pass0 (pa_cons (pe_op op_cat (pv 2) (pv 3)) pa_nil)))
        (pss_one (ps_ret (pe_ifExp (pt_truth (pv 4) (by intro _; rfl)) (pe_ix (ix_listK (K := K) rfl) (pv 4) pe_int (fun _ _ => rfl)) pe_non))))))), ?_⟩
    obtain ⟨_, _, _, _, _, okp, _⟩ := id hp
    obtain ⟨_, _, _, _, _, okq, _⟩ := id hq
    obtain ⟨p1, p2, p3⟩ := bka_words okp
    obtain ⟨q1, q2, q3⟩ := bka_words okq
    refine ⟨_, rfl, _, rfl, p, q, sg, us, us', ws, ws', rfl, hp, hq, fun H1 s1 => ?_⟩
    refine ⟨_, rfl, p, sg, us, ws, rfl, hp.same s1, fun H2 r bs s2 hr0 hr hB => ?_⟩
    have hbw : ∀ u ∈ bs, u ∈ ws := fun u hu => ((hB.2.2 u).mp hu).1
    have bl : bs.length ≤ 200 := Nat.le_trans (List.Nodup.length_le_of_subset hB.2.1 hbw) p2
    have s12 := s1.trans s2
    refine ⟨r, rfl, ⟨_, SqL.of hr⟩, fun D hD => lc_list (K := K) (a := r) (xs := txts bs) (fun i H' => ∃ fs : List (List Nat), H' D = some (.lst (txts fs)) ∧ fs.length ≤ i ∧ (∀ u, u ∈ fs ↔ u ∈ bs.take i ∧ ¬ TxO.Wr ws' u) ∧ Same H2 H') ⟨[], upd_same, Nat.le_refl _, by simp, Same.new _ hD⟩ (fun i H' _ ⟨_, _, _, _, sm⟩ => SqL.of (sm _ _ hr)) ?_ ?_⟩
    · rintro i y H3 hy ⟨fs, hDl, fl, fm, sm⟩
      obtain ⟨u, hu, rfl⟩ := txt_at hy
      have hi := (List.getElem?_eq_some_iff.mp hu).1
      have hub := List.mem_of_getElem? hu
      have et : bs.take (i + 1) = bs.take i ++ [u] := by rw [List.take_add_one, hu]; rfl
      refine ⟨rfl, _, rfl, q, sg, us', ws', rfl, (hq.same s12).same sm, fun H4 r4 s4 hr40 hr4 => ?_⟩
      refine ⟨_, rfl, r4, ws', u, rfl, hr4, fun v hv => ⟨nonempty_of q3 v hv, by have := (q3 v hv).2.1; omega⟩, by omega, by have := (p3 u (hbw u hub)).2.1; omega, fun H5 b s5 hb => ⟨b, rfl, ?_⟩⟩
      have s25 := (sm.trans s4).trans s5
      have hD5 := s5 _ _ (s4 _ _ hDl)
      refine ite2 (fun c => ?_) (fun c => ?_)
      · have nb : ¬ TxO.Wr ws' u := fun z => by
          rw [hb.mpr z] at c
          cases c
        refine ⟨_, rfl, _, hD5, lt_size (by rw [txts_len]; omega), fs ++ [u], by rw [upd_same, ← txts_cat]; rfl, by simp; omega, fun v => ?_, s25.updNew hD⟩
        rw [et, List.mem_append, List.mem_append, List.mem_singleton, fm v]
        constructor
        · rintro (⟨x, y⟩ | rfl)
          · exact ⟨.inl x, y⟩
          · exact ⟨.inr rfl, nb⟩
        · rintro ⟨x | rfl, y⟩
          · exact .inl ⟨x, y⟩
          · exact .inr rfl
      · have pb : TxO.Wr ws' u := by
          cases b with
          | true => exact hb.mp rfl
          | false => exact absurd rfl c
        refine ⟨fs, hD5, by omega, fun v => ?_, s25⟩
        rw [et, List.mem_append, List.mem_singleton, fm v]
        constructor
        · rintro ⟨x, y⟩
          exact ⟨.inl x, y⟩
        · rintro ⟨x | rfl, y⟩
          · exact ⟨x, y⟩
          · exact absurd pb y
    · rintro H3 ⟨fs, hDl, fl, fm, sm⟩
      rw [txts_len] at fl
      rw [txts_len, List.take_length] at fm
      have s13 := s12.trans sm
      refine ⟨_, rfl, q, sg, us', ws', rfl, hq.same s13, fun H4 r2 cs s4 hr20 hr2 hC => ?_⟩
      have hcw : ∀ u ∈ cs, u ∈ ws' := fun u hu => ((hC.2.2 u).mp hu).1
      have cl : cs.length ≤ 200 := Nat.le_trans (List.Nodup.length_le_of_subset hC.2.1 hcw) q2
      have s14 := s13.trans s4
      have hD4 := s4 _ _ hDl
      refine ⟨r2, rfl, ⟨_, SqL.of hr2⟩, fun D2 hD2 => lc_list (K := K) (a := r2) (xs := txts cs) (fun i H' => ∃ gs : List (List Nat), H' D2 = some (.lst (txts gs)) ∧ gs.length ≤ i ∧ (∀ u, u ∈ gs ↔ u ∈ cs.take i ∧ ¬ TxO.Wr ws u) ∧ Same H4 H') ⟨[], upd_same, Nat.le_refl _, by simp, Same.new _ hD2⟩ (fun i H' _ ⟨_, _, _, _, sm⟩ => SqL.of (sm _ _ hr2)) ?_ ?_⟩
      · rintro i y H5 hy ⟨gs, hDl2, gl, gm, sm2⟩
        obtain ⟨u, hu, rfl⟩ := txt_at hy
        have hi := (List.getElem?_eq_some_iff.mp hu).1
        have hub := List.mem_of_getElem? hu
        have et : cs.take (i + 1) = cs.take i ++ [u] := by rw [List.take_add_one, hu]; rfl
        refine ⟨rfl, _, rfl, p, sg, us, ws, rfl, (hp.same s14).same sm2, fun H6 r6 s6 hr60 hr6 => ?_⟩
        refine ⟨_, rfl, r6, ws, u, rfl, hr6, fun v hv => ⟨nonempty_of p3 v hv, by have := (p3 v hv).2.1; omega⟩, by omega, by have := (q3 u (hcw u hub)).2.1; omega, fun H7 b s7 hb => ⟨b, rfl, ?_⟩⟩
        have s27 := (sm2.trans s6).trans s7
        have hD7 := s7 _ _ (s6 _ _ hDl2)
        refine ite2 (fun c => ?_) (fun c => ?_)
        · have nb : ¬ TxO.Wr ws u := fun z => by
            rw [hb.mpr z] at c
            cases c
          refine ⟨_, rfl, _, hD7, lt_size (by rw [txts_len]; omega), gs ++ [u], by rw [upd_same, ← txts_cat]; rfl, by simp; omega, fun v => ?_, s27.updNew hD2⟩
          rw [et, List.mem_append, List.mem_append, List.mem_singleton, gm v]
          constructor
          · rintro (⟨x, y⟩ | rfl)
            · exact ⟨.inl x, y⟩
            · exact ⟨.inr rfl, nb⟩
          · rintro ⟨x | rfl, y⟩
            · exact .inl ⟨x, y⟩
            · exact .inr rfl
        · have pb : TxO.Wr ws u := by
            cases b with
            | true => exact hb.mp rfl
            | false => exact absurd rfl c
          refine ⟨gs, hD7, by omega, fun v => ?_, s27⟩
          rw [et, List.mem_append, List.mem_singleton, gm v]
          constructor
          · rintro ⟨x, y⟩
            exact ⟨.inl x, y⟩
          · rintro ⟨x | rfl, y⟩
            · exact ⟨x, y⟩
            · exact absurd pb y
      · rintro H5 ⟨gs, hDl2, gl, gm, sm2⟩
        rw [txts_len] at gl
        rw [txts_len, List.take_length] at gm
        have hD5 := sm2 _ _ hD4
        have s15 := s14.trans sm2
        refine ⟨_, rfl, _, rfl, D, D2, _, _, rfl, rfl, hD5, hDl2, le_size (by simp [txts]; omega), fun L hL => ?_⟩
        have sL : Same H5 (upd H5 L (.lst (txts fs ++ txts gs))) := Same.new _ hL
        have gL : upd H5 L (.lst (txts fs ++ txts gs)) L = some (.lst (txts (fs ++ gs))) := by rw [upd_same, txts_cat]
        generalize upd H5 L (.lst (txts fs ++ txts gs)) = H6 at *
        have tl : ∀ y, (TxO.Tl bs ws' y ∨ TxO.Tl cs ws y) ↔ y ∈ fs ++ gs := fun y => by
          rw [List.mem_append, fm y, gm y]
          rfl
        refine ⟨L, fs ++ gs, rfl, SqL.of gL, fun u hu => ?_, fun H7 r7 ys s7 hr70 hr7 hsf hpm => ?_⟩
        · rcases (tl u).mpr hu with h | h
          · have := (p3 u (hbw u h.1)).2.1; omega
          · have := (q3 u (hcw u h.1)).2.1; omega
        · have s17 := (s15.trans sL).trans s7
          have hlen : (txts ys).length = ys.length := txts_len ys
          refine ⟨_, rfl, !(txts ys).isEmpty, .inl ⟨_, SqL.of hr7, rfl⟩, ?_⟩
          refine ite2 (fun c => ?_) (fun c => ?_)
          · have hy0 : ys.length ≠ 0 := fun z => by
              have := List.eq_nil_of_length_eq_zero z
              subst this
              cases c
            obtain ⟨z, hz⟩ : ∃ z, ys[0]? = some z := ⟨_, List.getElem?_eq_getElem (by omega)⟩
            have hzm := (tl z).mpr (hpm.mem_iff.mp (List.mem_of_getElem? hz))
            refine ⟨_, rfl, r7, _, _, _, rfl, rfl, SqL.of hr7, atI_nat (j := 0) (by rw [txts, List.getElem?_map, hz]; rfl), ?_⟩
            refine k H7 _ s17 ⟨bs, cs, hB, hC, .inr ⟨z, rfl, fun e => ?_, hzm, fun y hy => ?_⟩⟩
            · obtain ⟨n1, n2⟩ := (TxO.same_none (nonempty_of p3) (nonempty_of q3) hB hC).mpr e
              rcases hzm with h | h
              · exact n1 z h
              · exact n2 z h
            · have hym := hpm.mem_iff.mpr ((tl y).mp hy)
              cases ys with
              | nil => exact absurd rfl hy0
              | cons y0 r =>
                obtain rfl : y0 = z := Option.some.inj hz
                rcases List.mem_cons.mp hym with e | h
                · rw [e]; simp [TxO.bef]
                · exact (List.pairwise_cons.mp hsf).1 y h
          · have hy0 : ys = [] := by
              cases ys with
              | nil => rfl
              | cons y r => exact absurd rfl c
            subst hy0
            have em := hpm.nil_eq
            refine k H7 _ s17 ⟨bs, cs, hB, hC, .inl ⟨rfl, (TxO.same_none (nonempty_of p3) (nonempty_of q3) hB hC).mp ⟨fun y h => ?_, fun y h => ?_⟩⟩⟩
            · have := (tl y).mp (.inl h)
              rw [← em] at this
              simp at this
            · have := (tl y).mp (.inr h)
              rw [← em] at this
              simp at this
end
end J


set_option Elab.async false
set_option linter.all false
set_option maxRecDepth 100000
set_option maxHeartbeats 4000000
/-! all texts over some signs, shorter first; the first one that just one of two lists of words writes -/
namespace TxO
open PySem L2 SrtC
def lay (sg : List Nat) : Nat → List (List Nat)
  | 0 => [[]]
  | k + 1 => (lay sg k).flatMap fun t => sg.map fun c => t ++ [c]
def fnd (sg : List Nat) : Nat → List (List Nat)
  | 0 => [[]]
  | k + 1 => fnd sg k ++ lay sg (k + 1)
theorem lay_mem (sg : List Nat) : ∀ (k : Nat) (y : List Nat), y ∈ lay sg k ↔ y.length = k ∧ ∀ c ∈ y, c ∈ sg
  | 0, y => by
    show y ∈ [[]] ↔ _
    rw [List.mem_singleton]
    constructor
    · rintro rfl
      exact ⟨rfl, by simp⟩
    · rintro ⟨h, _⟩
      exact List.eq_nil_of_length_eq_zero h
  | k + 1, y => by
    show y ∈ (lay sg k).flatMap _ ↔ _
    rw [List.mem_flatMap]
    constructor
    · rintro ⟨t, ht, h⟩
      obtain ⟨c, hc, rfl⟩ := List.mem_map.mp h
      obtain ⟨l, m⟩ := (lay_mem sg k t).mp ht
      refine ⟨by simp [l], fun d hd => ?_⟩
      rcases List.mem_append.mp hd with h | h
      · exact m d h
      · rw [List.mem_singleton.mp h]; exact hc
    · rintro ⟨l, m⟩
      have hne : y ≠ [] := fun z => by rw [z] at l; cases l
      have e := List.dropLast_concat_getLast hne
      refine ⟨y.dropLast, (lay_mem sg k _).mpr ⟨by rw [List.length_dropLast, l]; rfl, fun c hc => m c (List.dropLast_subset y hc)⟩, List.mem_map.mpr ⟨y.getLast hne, m _ (List.getLast_mem hne), e⟩⟩
theorem app_lt : ∀ {t t' : List Nat} (a b : List Nat), t.length = t'.length → t < t' → t ++ a < t' ++ b
  | [], [], _, _, _, h => absurd h (List.lt_irrefl _)
  | [], _ :: _, _, _, l, _ => by simp at l
  | _ :: _, [], _, _, l, _ => by simp at l
  | x :: t, y :: t', a, b, l, h => by
    rw [List.cons_append, List.cons_append, List.cons_lt_cons_iff]
    rcases List.cons_lt_cons_iff.mp h with h | ⟨e, h⟩
    · exact .inl h
    · exact .inr ⟨e, app_lt a b (by simpa using l) h⟩
theorem snoc_lt : ∀ (t : List Nat) {c d : Nat}, c < d → t ++ [c] < t ++ [d]
  | [], c, d, h => by
    show [c] < [d]
    rw [List.cons_lt_cons_iff]
    exact .inl h
  | x :: t, c, d, h => by
    rw [List.cons_append, List.cons_append, List.cons_lt_cons_iff]
    exact .inr ⟨rfl, snoc_lt t h⟩
theorem lay_lt {sg : List Nat} (hs : sg.Pairwise (· < ·)) : ∀ k, (lay sg k).Pairwise (· < ·)
  | 0 => List.pairwise_singleton _ _
  | k + 1 => by
    show ((lay sg k).flatMap _).Pairwise _
    rw [List.pairwise_flatMap]
    refine ⟨fun t _ => List.pairwise_map.mpr (hs.imp fun {c d} h => snoc_lt t h), (lay_lt hs k).imp_of_mem fun {t t'} h1 h2 h x hx y hy => ?_⟩
    obtain ⟨c, _, rfl⟩ := List.mem_map.mp hx
    obtain ⟨d, _, rfl⟩ := List.mem_map.mp hy
    exact app_lt _ _ (by rw [((lay_mem sg k t).mp h1).1, ((lay_mem sg k t').mp h2).1]) h
theorem fnd_mem (sg : List Nat) : ∀ (k : Nat) (y : List Nat), y ∈ fnd sg k ↔ y.length ≤ k ∧ ∀ c ∈ y, c ∈ sg
  | 0, y => by
    rw [show fnd sg 0 = lay sg 0 from rfl, lay_mem]
    exact ⟨fun h => ⟨by omega, h.2⟩, fun h => ⟨by omega, h.2⟩⟩
  | k + 1, y => by
    rw [fnd, List.mem_append, fnd_mem sg k, lay_mem]
    constructor
    · rintro (h | h)
      · exact ⟨by omega, h.2⟩
      · exact ⟨by omega, h.2⟩
    · rintro ⟨h, m⟩
      by_cases c : y.length ≤ k
      · exact .inl ⟨c, m⟩
      · exact .inr ⟨by omega, m⟩
theorem fnd_sf {sg : List Nat} (hs : sg.Pairwise (· < ·)) : ∀ k, SF (fnd sg k)
  | 0 => List.pairwise_singleton _ _
  | k + 1 => by
    rw [fnd, SF, List.pairwise_append]
    refine ⟨fnd_sf hs k, (lay_lt hs (k + 1)).imp_of_mem fun {u v} h1 h2 h => ?_, fun u hu v hv => ?_⟩
    · have e1 := ((lay_mem sg _ u).mp h1).1
      have e2 := ((lay_mem sg _ v).mp h2).1
      unfold bef
      rw [decide_eq_false (by omega : ¬ v.length < u.length), decide_eq_false (List.lt_asymm h), Bool.and_false, Bool.or_false]
    · have e1 := ((fnd_mem sg _ u).mp hu).1
      have e2 := ((lay_mem sg _ v).mp hv).1
      unfold bef
      rw [decide_eq_false (by omega : ¬ v.length < u.length), decide_eq_false (by omega : ¬ v.length = u.length), Bool.false_and, Bool.or_false]
theorem grow_len (sg : List Nat) (l : List (List Nat)) : (l.flatMap fun t => sg.map fun c => t ++ [c]).length = l.length * sg.length := by
  induction l with
  | nil => simp
  | cons a r ih => rw [List.flatMap_cons, List.length_append, ih, List.length_map, List.length_cons, Nat.succ_mul]; omega
theorem lay_le {sg : List Nat} (h : sg.length ≤ 4) : ∀ k, (lay sg k).length ≤ 4 ^ k
  | 0 => Nat.le_refl 1
  | k + 1 => by
    rw [lay, grow_len, Nat.pow_succ]
    exact Nat.mul_le_mul (lay_le h k) h
theorem fnd_le {sg : List Nat} (h : sg.length ≤ 4) : ∀ k, (fnd sg k).length ≤ 4 ^ (k + 1)
  | 0 => by show 1 ≤ 4 ^ 1; decide
  | k + 1 => by
    have a := lay_le h (k + 1)
    have b := fnd_le h k
    rw [fnd, List.length_append, Nat.pow_succ 4 (k + 1)]
    omega
/-! ### told apart -/
def Df (ws vs : List (List Nat)) (y : List Nat) : Prop := ¬ (Wr ws y ↔ Wr vs y)
theorem Df.symm {ws vs : List (List Nat)} {y : List Nat} (h : Df ws vs y) : Df vs ws y := fun e => h e.symm
theorem df_nil (ws vs : List (List Nat)) : ¬ Df ws vs [] := fun h => h ⟨fun _ => Wr.nil _, fun _ => Wr.nil _⟩
theorem wr_base {ws bs : List (List Nat)} (B : IsBase ws bs) {u : List Nat} : Wr bs u ↔ Wr ws u :=
  ⟨fun h => wr_flat h fun w hw => Wr.one ((B.2.2 w).mp hw).1, fun h => wr_flat h fun w hw => base_wr B w.length w hw (Nat.le_refl _)⟩
theorem Tl.df {ws vs bs : List (List Nat)} (B : IsBase ws bs) {z : List Nat} (h : Tl bs vs z) : Df ws vs z := fun e => h.2 (e.mp (Wr.one ((B.2.2 z).mp h.1).1))
theorem wr_tl {ws vs bs : List (List Nat)} (hw : ∀ w ∈ ws, w ≠ []) (B : IsBase ws bs) {y : List Nat} (h : Wr ws y) (n : ¬ Wr vs y) : ∃ p, Tl bs vs p ∧ p.length ≤ y.length ∧ (p.length = y.length → p = y) := by
  obtain ⟨ps, p1, p2⟩ := (wr_base B).mpr h
  have ex : ∃ p ∈ ps, ¬ Wr vs p := by
    by_cases c : ∃ p ∈ ps, ¬ Wr vs p
    · exact c
    · exfalso
      refine n (wr_flat (ws := ps) ⟨ps, fun p hp => hp, p2⟩ fun p hp => ?_)
      by_cases q : Wr vs p
      · exact q
      · exact absurd ⟨p, hp, q⟩ c
  obtain ⟨p, hp, np⟩ := ex
  have pl := part_le hp
  rw [p2] at pl
  refine ⟨p, ⟨p1 p hp, np⟩, pl, fun e => ?_⟩
  have e2 := flat_part (fun q hq => hw q ((B.2.2 q).mp (p1 q hq)).1) hp (by rw [p2]; omega)
  rw [e2] at p2
  simpa using p2
theorem df_tl {ws vs bs cs : List (List Nat)} (hw : ∀ w ∈ ws, w ≠ []) (hv : ∀ w ∈ vs, w ≠ []) (B : IsBase ws bs) (C : IsBase vs cs) {y : List Nat} (h : Df ws vs y) : ∃ p, (Tl bs vs p ∨ Tl cs ws p) ∧ p.length ≤ y.length ∧ (p.length = y.length → p = y) := by
  by_cases a : Wr ws y
  · have b : ¬ Wr vs y := fun b => h ⟨fun _ => b, fun _ => a⟩
    obtain ⟨p, h1, h2⟩ := wr_tl hw B a b
    exact ⟨p, .inl h1, h2⟩
  · have b : Wr vs y := by
      by_cases b : Wr vs y
      · exact b
      · exact absurd ⟨fun q => absurd q a, fun q => absurd q b⟩ h
    obtain ⟨p, h1, h2⟩ := wr_tl hv C b a
    exact ⟨p, .inr h1, h2⟩
/-- the first one told apart -/
def Fst (ws vs ts : List (List Nat)) (o : Option (List Nat)) : Prop := (o = none ∧ ∀ y ∈ ts, ¬ Df ws vs y) ∨ ∃ z, o = some z ∧ z ∈ ts ∧ Df ws vs z ∧ ∀ y ∈ ts, Df ws vs y → bef y z = false
theorem Fst.symm {ws vs ts : List (List Nat)} {o : Option (List Nat)} (h : Fst ws vs ts o) : Fst vs ws ts o := by
  rcases h with ⟨e, h⟩ | ⟨z, e, h1, h2, h3⟩
  · exact .inl ⟨e, fun y hy q => h y hy q.symm⟩
  · exact .inr ⟨z, e, h1, h2.symm, fun y hy q => h3 y hy q.symm⟩
theorem Fst.nil (ws vs : List (List Nat)) : Fst ws vs [] none := .inl ⟨rfl, fun _ h => (nomatch h)⟩
theorem bef_irr (u : List Nat) : bef u u = false := by
  unfold bef
  simp
theorem Fst.new {ws vs ts : List (List Nat)} {i : Nat} {u : List Nat} (h : Fst ws vs (ts.take i) none) (hu : ts[i]? = some u) (d : Df ws vs u) : Fst ws vs (ts.take (i + 1)) (some u) := by
  have e : ts.take (i + 1) = ts.take i ++ [u] := by rw [List.take_add_one, hu]; rfl
  rcases h with ⟨_, h⟩ | ⟨z, e, _⟩
  · refine .inr ⟨u, rfl, by rw [e]; simp, d, fun y hy q => ?_⟩
    rw [e] at hy
    rcases List.mem_append.mp hy with hy | hy
    · exact absurd q (h y hy)
    · rw [List.mem_singleton.mp hy]; exact bef_irr u
  · cases e
theorem Fst.keep {ws vs ts : List (List Nat)} {i : Nat} {u : List Nat} {o : Option (List Nat)} (S : SF ts) (h : Fst ws vs (ts.take i) o) (hu : ts[i]? = some u) (c : o ≠ none ∨ ¬ Df ws vs u) : Fst ws vs (ts.take (i + 1)) o := by
  have e : ts.take (i + 1) = ts.take i ++ [u] := by rw [List.take_add_one, hu]; rfl
  rcases h with ⟨e0, h⟩ | ⟨z, e0, h1, h2, h3⟩
  · refine .inl ⟨e0, fun y hy => ?_⟩
    rw [e] at hy
    rcases List.mem_append.mp hy with hy | hy
    · exact h y hy
    · rw [List.mem_singleton.mp hy]
      exact c.resolve_left fun n => n e0
  · refine .inr ⟨z, e0, by rw [e]; exact List.mem_append_left _ h1, h2, fun y hy q => ?_⟩
    rw [e] at hy
    rcases List.mem_append.mp hy with hy | hy
    · exact h3 y hy q
    · rw [List.mem_singleton.mp hy]
      have S2 : SF (ts.take i ++ [u]) := by rw [← e]; exact S.sublist (List.take_sublist _ _)
      exact (List.pairwise_append.mp S2).2.2 z h1 u (by simp)
def vOf : Option (List Nat) → V
  | none => .non
  | some z => .str (SX.S z)
theorem same_first {ws vs ts : List (List Nat)} {v : V} {o : Option (List Nat)} (hw : ∀ w ∈ ws, w ≠ []) (hv : ∀ w ∈ vs, w ≠ []) (R : SameR ws vs v) (hts : ∀ y, y ∈ ws ∨ y ∈ vs → y ∈ ts) (F : Fst ws vs ts o) : v = vOf o ∧ (o = none → ∀ y, Wr ws y → Wr vs y) := by
  obtain ⟨bs, cs, B, C, h⟩ := R
  rcases h with ⟨rfl, e⟩ | ⟨z, rfl, ne, hz, hm⟩
  · have hno : ∀ y, Wr ws y ↔ Wr vs y := fun y => by rw [← wr_base B, ← wr_base C, e]
    rcases F with ⟨rfl, _⟩ | ⟨d, _, _, h2, _⟩
    · exact ⟨rfl, fun _ y q => (hno y).mp q⟩
    · exact absurd (hno d) h2
  · have zD : Df ws vs z := hz.elim (fun q => q.df B) fun q => (q.df C).symm
    have zt : z ∈ ts := hts z (hz.imp (fun q => ((B.2.2 z).mp q.1).1) fun q => ((C.2.2 z).mp q.1).1)
    rcases F with ⟨_, h⟩ | ⟨d, rfl, h1, h2, h3⟩
    · exact absurd zD (h z zt)
    · have a := h3 z zt zD
      have b : bef d z = false := by
        by_cases c : bef d z = true
        · exfalso
          obtain ⟨p, p1, p2, p3⟩ := df_tl hw hv B C h2
          have q := hm p p1
          unfold bef at c q
          rw [Bool.or_eq_true, Bool.and_eq_true, decide_eq_true_eq, decide_eq_true_eq, decide_eq_true_eq] at c
          rw [Bool.or_eq_false_iff, Bool.and_eq_false_iff, decide_eq_false_iff_not, decide_eq_false_iff_not, decide_eq_false_iff_not] at q
          by_cases e : p.length = d.length
          · obtain rfl := p3 e
            rcases c with c | ⟨c1, c2⟩
            · exact q.1 c
            · rcases q.2 with q2 | q2
              · exact q2 c1
              · exact q2 c2
          · apply q.1
            rcases c with c | c
            · omega
            · omega
        · exact Bool.eq_false_iff.mpr c
      exact ⟨congrArg (fun x => V.str (SX.S x)) (bef_tri a b), fun e => nomatch e⟩
end TxO

set_option Elab.async false
set_option linter.all false
set_option maxRecDepth 100000
set_option maxHeartbeats 4000000
namespace J
open PySem L2
theorem S_cat (u v : List Nat) : SX.S u ++ SX.S v = SX.S (u ++ v) := by
  show PySem.Str.mk _ = PySem.Str.mk _
  simp [SX.S]
def spTexts : Sp := fun vs H Q _ => ∃ sg : List Nat, vs = [.str (SX.S sg), .int 4] ∧ Signs sg ∧
  ∀ H' (r : Addr), Same H H' → H r = none → H' r = some (.lst (txts (TxO.fnd sg 4))) → Q (.ref r) H'
section
variable {P : Program} {w : World} {K : PySem.W.Frag} {mg : Str → Option Value} {base : Heap}
theorem ok_l_texts (T : Tx K mg) : FnOk P w K mg base CX0 1 T.f_l_texts T.fd_l_texts P_l_texts spTexts := by
  refine T.F_l_texts.ok sc_l_texts (fun vs H Q E h => ?_) (fun cdv A outer s H vs Q E hr h => ?_)
  · obtain ⟨sg, rfl, _⟩ := h
    rfl
  · obtain ⟨sg, rfl, hsg, k⟩ := h
    refine ⟨_, (pss_cons (ps_set (i := 2) sc_l_texts.nd rfl (Or.inl rfl) (pe_lst (pa_cons pe_str pa_nil)))
        (pss_cons (ps_set (i := 3) sc_l_texts.nd rfl (Or.inl rfl) (pe_lst (pa_cons pe_str pa_nil)))
        (pss_cons (ps_for PassesOwn.never rfl (pi_range1 rfl T.n_range (pa_cons (pv 1) pa_nil)) (pg_name (i := 4) sc_l_texts.nd rfl (Or.inl rfl)) (pss_cons (ps_set (i := 5) sc_l_texts.nd rfl (Or.inl rfl) (pe_lst pa_nil))
        (pss_cons (ps_for PassesOwn.never rfl (pi_list (pv 3)) (pg_name (i := 6) sc_l_texts.nd rfl (Or.inr rfl)) (pss_one (ps_set (i := 5) sc_l_texts.nd rfl (Or.inl rfl) (pe_op op_cat (pv 5) (pe_lc (own := [("_law_sign", 7)]) (g := (gName 7)) rfl sc_l_texts.nd (pi_str (pv 0)) (blkOk_by (N := N_l_texts) (sc := defScope s_l_texts) (by decide +kernel)) (fun _ _ _ _ _ => (pg_name (i := 7) sc_l_texts.nd rfl (Or.inl rfl))) (fun _ _ _ _ _ => pts_nil) (fun _ _ _ _ _ => (pe_op op_add_str (pv 6) (pv 7))))))))
        (pss_cons (ps_set (i := 3) sc_l_texts.nd rfl (Or.inl rfl) (pv 5))
        (pss_one (ps_set (i := 2) sc_l_texts.nd rfl (Or.inl rfl) (pe_op op_cat (pv 2) (pv 3))))))))
        (pss_one (ps_ret (pv 2)))))), ?_⟩
    refine ⟨le_size (by simp), fun F hF => ?_⟩
    have sF : Same H (upd H F (.lst [.str (PySem.Str.ofString "")])) := Same.new _ hF
    have gF : upd H F (.lst [.str (PySem.Str.ofString "")]) F = some (.lst (txts (TxO.fnd sg 0))) := upd_same
    generalize upd H F (.lst [.str (PySem.Str.ofString "")]) = H1 at *
    refine ⟨le_size (by simp), fun L hL => ?_⟩
    have sL : Same H1 (upd H1 L (.lst [.str (PySem.Str.ofString "")])) := Same.new _ hL
    have gL : upd H1 L (.lst [.str (PySem.Str.ofString "")]) L = some (.lst (txts (TxO.lay sg 0))) := upd_same
    have hL0 := sF.free hL
    have gF2 := sL _ _ gF
    have s2 := sF.trans sL
    generalize upd H1 L (.lst [.str (PySem.Str.ofString "")]) = H2 at *
    refine ⟨_, rfl, 4, rfl, by decide, by decide, for_range (lo := 0) (n := 4) (fun i σ H' => ∃ (F L : Addr) (v4 v5 v6 v7 : Option V), σ = [some (.str (SX.S sg)), some (.int 4), some (.ref F), some (.ref L), v4, v5, v6, v7] ∧ H' F = some (.lst (txts (TxO.fnd sg i))) ∧ H' L = some (.lst (txts (TxO.lay sg i))) ∧ H F = none ∧ Same H H') ?_ ?_ ?_⟩
    · exact ⟨F, L, none, none, none, none, rfl, gF2, gL, hF, s2⟩
    · rintro i σ H3 hi ⟨F, L, v4, v5, v6, v7, rfl, hF3, hL3, hF0, s3⟩
      have hb : ∀ j, j ≤ 4 → (TxO.lay sg j).length ≤ 256 := fun j hj => Nat.le_trans (TxO.lay_le hsg.2.1 j) (Nat.pow_le_pow_right (by decide) hj)
      have hf : ∀ j, j ≤ 4 → (TxO.fnd sg j).length ≤ 1024 := fun j hj => Nat.le_trans (TxO.fnd_le hsg.2.1 j) (Nat.pow_le_pow_right (n := 4) (i := j + 1) (j := 5) (by decide) (by omega))
      refine ⟨Nat.zero_le _, fun M hM => ?_⟩
      have sM : Same H3 (upd H3 M (.lst [])) := Same.new _ hM
      have gM : upd H3 M (.lst []) M = some (.lst []) := upd_same
      have hF4 := sM _ _ hF3
      have hL4 := sM _ _ hL3
      have s4 := s3.trans sM
      generalize upd H3 M (.lst []) = H4 at *
      refine ⟨_, rfl, L, rfl, ⟨_, SqL.of hL4⟩, for_list (K := K) (a := L) (xs := txts (TxO.lay sg i)) (fun j σ H' => ∃ (M : Addr) (v6 v7 : Option V), σ = [some (.str (SX.S sg)), some (.int 4), some (.ref F), some (.ref L), some (.int (0 + (i : Int))), some (.ref M), v6, v7] ∧ H' M = some (.lst (txts (((TxO.lay sg i).take j).flatMap fun t => sg.map fun c => t ++ [c]))) ∧ Same H4 H') ?_ ?_ ?_ ?_⟩
      · exact ⟨M, v6, v7, rfl, gM, Same.refl _⟩
      · rintro j σ H5 _ ⟨M, v6, v7, rfl, _, sm⟩
        exact SqL.of (sm _ _ hL4)
      · rintro j y σ H5 hy ⟨M, v6, v7, rfl, hM5, sm⟩
        obtain ⟨u, hu, rfl⟩ := txt_at hy
        have hul := ((TxO.lay_mem sg i u).mp (List.mem_of_getElem? hu)).1
        have et : (TxO.lay sg i).take (j + 1) = (TxO.lay sg i).take j ++ [u] := by rw [List.take_add_one, hu]; rfl
        refine ⟨_, rfl, _, rfl, _, rfl, fun D hD => lc_it (walk_str (z := SX.S sg)) (fun m H' => H' D = some (.lst (txts ((sg.take m).map fun c => u ++ [c]))) ∧ Same H5 H') ⟨upd_same, Same.new _ hD⟩ (fun _ _ _ _ => trivial) ?_ ?_⟩
        · rintro m x H6 H7 hm ⟨hDl, s6⟩ ⟨rfl, c, hc, rfl⟩
          have q : sg[m]? = some c := by simpa using hc
          have hm2 : m < sg.length := (List.getElem?_eq_some_iff.mp q).1
          have hs4 := hsg.2.1
          refine ⟨rfl, _, rfl, _, rfl, SX.S u, SX.S [c], rfl, rfl, le_size (by rw [SX.S_len, SX.S_len, List.length_singleton]; omega), _, hDl, lt_size (by rw [txts_len, List.length_map, List.length_take]; omega), ?_, s6.updNew hD⟩
          rw [upd_same, List.take_add_one, q, List.map_append, S_cat, ← txts_cat]
          rfl
        · rintro H6 ⟨hDl, s6⟩
          have hlen : (SX.S sg).cps.size = sg.length := SX.S_len sg
          rw [hlen, List.take_length] at hDl
          have hM6 := s6 _ _ hM5
          have g1 : (((TxO.lay sg i).take j).flatMap fun t => sg.map fun c => t ++ [c]).length ≤ 1024 := by
            rw [TxO.grow_len, List.length_take]
            have := hb i (by omega)
            exact Nat.le_trans (Nat.mul_le_mul (Nat.le_trans (Nat.min_le_right _ _) this) hsg.2.1) (by decide)
          refine ⟨M, D, _, _, rfl, rfl, hM6, hDl, le_size (by rw [txts_len, txts_len, List.length_map]; have := hsg.2.1; omega), fun N hN => ?_⟩
          refine ⟨N, _, _, rfl, ?_, (sm.trans s6).trans (Same.new _ hN)⟩
          rw [upd_same, txts_cat, et, List.flatMap_append]
          simp
      · rintro σ H5 ⟨M, v6, v7, rfl, hM5, sm⟩
        rw [txts_len, List.take_length] at hM5
        have hF5 := sm _ _ hF4
        refine ⟨_, rfl, _, rfl, _, rfl, F, M, _, _, rfl, rfl, hF5, hM5, le_size ?_, fun N hN => ?_⟩
        · have e1 := hf (i + 1) (by omega)
          rw [TxO.fnd, List.length_append] at e1
          rw [txts_len, txts_len]
          show _ + (TxO.lay sg (i + 1)).length ≤ _
          omega
        · have s5 := s4.trans sm
          refine ⟨N, M, _, _, _, _, rfl, ?_, ?_, s5.free hN, s5.trans (Same.new _ hN)⟩
          · rw [upd_same, txts_cat]
            rfl
          · rw [upd_ne (fun z => by rw [← z, hM5] at hN; cases hN)]
            exact hM5
    · rintro σ H3 ⟨F, L, v4, v5, v6, v7, rfl, hF3, hL3, hF0, s3⟩
      exact ⟨_, rfl, k H3 F s3 hF0 hF3⟩
end
end J


set_option Elab.async false
set_option linter.all false
set_option maxRecDepth 100000
set_option maxHeartbeats 4000000
namespace J
open PySem L2
theorem flatL {ls : List (List Nat)} {k : Nat} (h : ∀ l ∈ ls, l.length ≤ k) : ls.flatten.length ≤ k * ls.length := by
  induction ls with
  | nil => simp
  | cons a r ih =>
    have h1 := h a (by simp)
    have h2 := ih fun l hl => h l (List.mem_cons_of_mem _ hl)
    rw [List.flatten_cons, List.length_append, List.length_cons, Nat.mul_add]
    omega
theorem sumF (ls : List (List Nat)) : ((ls.map SX.S).map (·.length)).sum = ls.flatten.length := by
  induction ls with
  | nil => rfl
  | cons a r ih => rw [List.map_cons, List.map_cons, List.sum_cons, ih, SX.S_len, List.flatten_cons, List.length_append]
/-- a word of at most so many signs -/
def WordL (sg : List Nat) (m : Nat) (u : List Nat) : Prop := 1 ≤ u.length ∧ u.length ≤ m ∧ ∀ c ∈ u, c ∈ sg
theorem WordL.word {sg : List Nat} {m : Nat} {u : List Nat} (h : WordL sg m u) (hm : m ≤ 12) : Word sg u := ⟨h.1, Nat.le_trans h.2.1 hm, h.2.2⟩
theorem wordL_of {sg : List Nat} {m : Nat} {u : List Nat} (h : Word sg u ∧ (u.length : Int) ≤ (m : Int)) : WordL sg m u := ⟨h.1.1, by omega, h.1.2.2⟩
def spBeside (K : PySem.W.Frag) (ns : List Int) : Sp := fun vs H Q _ => ∃ (a p q : Addr) (sg : List Nat) (ws : List (List Nat)), vs = [.ref a, .ref p, .str (SX.S sg), .ref q] ∧ St K ns a H p ∧ q ≠ p ∧ H q = some (.lst (txts ws)) ∧ Signs sg ∧ (∀ u ∈ ws, WordL sg 4 u) ∧ 1 ≤ ws.length ∧ ws.length ≤ 4 ∧
  ∀ H' (r : Addr) us, Ex p H H' → St K ns a H' p → H r = none → r ≠ p → H' r = some (.lst (txts us)) → 1 ≤ us.length → us.length ≤ 40 → (∀ u ∈ us, WordL sg 4 u) → Q (.ref r) H'
theorem at_txt {ws : List (List Nat)} {r : Int} (h0 : 0 ≤ r) (h1 : r < ((txts ws).length : Int)) : ∃ u, u ∈ ws ∧ atI (txts ws) r = some (.str (SX.S u)) := by
  obtain ⟨v, hv, hat⟩ := atI_mem (xs := txts ws) h0 h1
  obtain ⟨u, huw, rfl⟩ := List.mem_map.mp hv
  exact ⟨u, huw, hat⟩
section
variable {P : Program} {w : World} {K : PySem.W.Frag} {mg : Str → Option Value} {base : Heap}
theorem ok_l_beside (T : Tx K mg) (ns : List Int) : FnOk P w K mg base CX0 4 T.f_l_beside T.fd_l_beside P_l_beside (spBeside K ns) := by
  have G_l_take : FnOk P w K mg base CX0 1 T.f_l_take T.fd_l_take P_l_take (spTake K ns) := ok_l_take T ns
  have G_l_words : FnOk P w K mg base CX0 3 T.f_l_words T.fd_l_words P_l_words (spWords K ns) := ok_l_words T ns
  have G_l_shuffled : FnOk P w K mg base CX0 2 T.f_l_shuffled T.fd_l_shuffled P_l_shuffled (spShuf K ns) := ok_l_shuffled T ns
  refine T.F_l_beside.ok sc_l_beside (fun vs H Q E h => ?_) (fun cdv A outer s H vs Q E hr h => ?_)
  · obtain ⟨a, p, q, sg, ws, rfl, _⟩ := h
    rfl
  · obtain ⟨a, p, q, sg, ws, rfl, hst, nqp, hq, hsg, hws, l1, l2, k⟩ := h
    refine ⟨_, (pss_cons (ps_set (i := 4) sc_l_beside.nd rfl (Or.inl rfl) (pe_callTy (call_list_ofK (K := K) rfl) rfl T.n_list (by decide +kernel) (pa_cons (pv 3) pa_nil)))
        (pss_cons (ps_set (i := 5) sc_l_beside.nd rfl (Or.inl rfl) (pe_call G_l_take (hr.mono (by decide)) rfl T.m_l_take T.F_l_take.kp T.b_l_take .nil pass0 (pa_cons (pv 0) (pa_cons (pv 1) (pa_cons pe_int pa_nil)))))
        (pss_cons (ps_if (pt_cmpR op_eq (pv 5) pe_int (nomark _)) (pss_one (ps_ret (pe_call G_l_words (hr.mono (by decide)) rfl T.m_l_words T.F_l_words.kp T.b_l_words .nil pass0 (pa_cons (pv 0) (pa_cons (pv 1) (pa_cons (pv 2) (pa_cons pe_int (pa_cons pe_int pa_nil)))))))) pss_nil)
        (pss_cons (ps_for PassesOwn.never rfl (pi_range1 rfl T.n_range (pa_cons (pe_op op_add pe_int (pe_call G_l_take (hr.mono (by decide)) rfl T.m_l_take T.F_l_take.kp T.b_l_take .nil pass0 (pa_cons (pv 0) (pa_cons (pv 1) (pa_cons pe_int pa_nil))))) pa_nil)) (pg_name (i := 6) sc_l_beside.nd rfl (Or.inl rfl)) (pss_cons (ps_par (i := 7) (j := 8) (by rfl) sc_l_beside.nd rfl rfl (by decide) rfl rfl (pa_cons (pe_ix (ix_listK (K := K) rfl) (pv 3) (pe_call G_l_take (hr.mono (by decide)) rfl T.m_l_take T.F_l_take.kp T.b_l_take .nil pass0 (pa_cons (pv 0) (pa_cons (pv 1) (pa_cons (pe_callB (call_len_seqK (K := K) rfl) rfl T.n_len (by decide +kernel) (pa_cons (pv 3) pa_nil)) pa_nil)))) (fun _ _ => rfl)) (pa_cons (pe_ix (ix_listK (K := K) rfl) (pv 3) (pe_call G_l_take (hr.mono (by decide)) rfl T.m_l_take T.F_l_take.kp T.b_l_take .nil pass0 (pa_cons (pv 0) (pa_cons (pv 1) (pa_cons (pe_callB (call_len_seqK (K := K) rfl) rfl T.n_len (by decide +kernel) (pa_cons (pv 3) pa_nil)) pa_nil)))) (fun _ _ => rfl)) pa_nil)) (by rfl))
        (C8.pss_cut (ps_if (PW.pt (pw_and (pt_cmpR op_eq (pv 5) pe_int (nomark _)) (pw_and1 (pt_cmpR op_gt (pe_callB (call_len_seqK (K := K) rfl) rfl T.n_len (by decide +kernel) (pa_cons (pv 4) pa_nil)) pe_int (nomark _))))) (pss_one (ps_expr (pe_bm PySem.F.plainAttrs_list PySem.F.slot_list_pop PySem.F.type_list_pop mt_popAt (pv 4) (pa_cons (pe_call G_l_take (hr.mono (by decide)) rfl T.m_l_take T.F_l_take.kp T.b_l_take .nil pass0 (pa_cons (pv 0) (pa_cons (pv 1) (pa_cons (pe_callB (call_len_seqK (K := K) rfl) rfl T.n_len (by decide +kernel) (pa_cons (pv 4) pa_nil)) pa_nil)))) pa_nil)))) pss_nil)
        (C8.pss_cut (ps_if (pt_cmpR op_eq (pv 5) pe_int (nomark _)) (pss_one (ps_expr (pe_bm PySem.F.plainAttrs_list PySem.F.slot_list_append PySem.F.type_list_append mt_append (pv 4) (pa_cons (pe_slice sl_str (pe_op op_add_str (pv 7) (pv 8)) po_none (po_some pe_int)) pa_nil)))) pss_nil)
        (pss_one (ps_if (pt_cmpR op_gt (pv 5) pe_int (nomark _)) (pss_one (ps_expr (pe_bm PySem.F.plainAttrs_list PySem.F.slot_list_append PySem.F.type_list_append mt_append (pv 4) (pa_cons (pe_ifExp (pt_cmpR op_lt (pe_callB call_len_str rfl T.n_len (by decide +kernel) (pa_cons (pe_op op_add_str (pv 7) (pv 8)) pa_nil)) pe_int (nomark _)) (pe_op op_add_str (pv 7) (pv 8)) (pv 7)) pa_nil)))) pss_nil))))))
        (pss_one (ps_ret (pe_call G_l_shuffled (hr.mono (by decide)) rfl T.m_l_shuffled T.F_l_shuffled.kp T.b_l_shuffled .nil pass0 (pa_cons (pv 0) (pa_cons (pv 1) (pa_cons (pv 4) pa_nil)))))))))), ?_⟩
    refine ⟨_, rfl, q, _, rfl, .inl (SqL.of hq), fun R hR => ?_⟩
    have sR : Same H (upd H R (.lst (txts ws))) := Same.new _ hR
    have gR : upd H R (.lst (txts ws)) R = some (.lst (txts ws)) := upd_same
    have nR := hst.ne hR
    have nRq : R ≠ q := hp_ne hq hR
    have st1 := hst.same sR
    have hq1 := sR _ _ hq
    generalize upd H R (.lst (txts ws)) = H1 at *
    refine ⟨_, rfl, _, rfl, a, p, 5, rfl, st1, by decide, by decide, fun H2 r x2 st2 r0 r1 => ?_⟩
    have X2 : Ex p H H2 := (Same.ex sR).trans x2
    refine ⟨_, rfl, rfl, _, rfl, ?_⟩
    refine ite2 (fun c => ?_) (fun c => ?_)
    · refine ⟨_, rfl, _, rfl, _, rfl, a, p, sg, 4, 4, rfl, st2, hsg, by decide, by decide, by decide, by decide, fun H3 b us x3 st3 hb0 nbp hb hus m1 m2 => ?_⟩
      exact k H3 b us (X2.trans x3) st3 (X2.free hb0 nbp) nbp hb m1 (by omega) fun u hu => wordL_of (hus u hu)
    · refine ⟨_, rfl, _, rfl, a, p, 2, rfl, st2, by decide, by decide, fun H3 r3 x3 st3 r30 r31 => ⟨_, _, rfl, rfl, ?_⟩⟩
      have X3 := X2.trans x3
      refine ⟨_, rfl, by omega, by omega, for_range (lo := 0) (n := (1 + r3).toNat) (fun i σ H' => ∃ (vs : List (List Nat)) (v6 v7 v8 : Option V), σ = [some (.ref a), some (.ref p), some (.str (SX.S sg)), some (.ref q), some (.ref R), some (.int r), v6, v7, v8] ∧ Ex p H H' ∧ St K ns a H' p ∧ H' q = some (.lst (txts ws)) ∧ H' R = some (.lst (txts vs)) ∧ (∀ u ∈ vs, WordL sg 4 u) ∧ 1 ≤ vs.length ∧ vs.length ≤ 4 + 2 * i) ?_ ?_ ?_⟩
      · exact ⟨ws, none, none, none, rfl, X3, st3, x3 _ _ nqp (x2 _ _ nqp hq1), x3 _ _ nR (x2 _ _ nR gR), hws, l1, by omega⟩
      · rintro i σ H4 hi ⟨vs, v6, v7, v8, rfl, x4, st4, hq4, hR4, hw4, m1, m2⟩
        refine ⟨_, rfl, _, rfl, _, rfl, _, rfl, q, _, rfl, .inl (SqL.of hq4), a, p, _, rfl, st4, by rw [txts_len]; omega, by rw [txts_len]; omega, fun H5 r5 x5 st5 r50 r51 => ?_⟩
        obtain ⟨u, huw, hu⟩ := at_txt r50 r51
        have hq5 := x5 _ _ nqp hq4
        refine ⟨q, _, _, _, rfl, rfl, SqL.of hq5, hu, ?_⟩
        refine ⟨_, rfl, _, rfl, _, rfl, _, rfl, q, _, rfl, .inl (SqL.of hq5), a, p, _, rfl, st5, by rw [txts_len]; omega, by rw [txts_len]; omega, fun H6 r6 x6 st6 r60 r61 => ?_⟩
        obtain ⟨t, htw, ht⟩ := at_txt r60 r61
        have hq6 := x6 _ _ nqp hq5
        refine ⟨q, _, _, _, rfl, rfl, SqL.of hq6, ht, ?_⟩
        have X6 := (x4.trans x5).trans x6
        have hR6 := x6 _ _ nR (x5 _ _ nR hR4)
        have hwu := hws u huw
        have hwt := hws t htw
        refine ⟨_, _, rfl, ?_⟩
        refine ⟨fun σ' H' => ∃ (vs : List (List Nat)), σ' = [some (.ref a), some (.ref p), some (.str (SX.S sg)), some (.ref q), some (.ref R), some (.int r), some (.int (0 + (i : Int))), some (.str (SX.S u)), some (.str (SX.S t))] ∧ Ex p H H' ∧ St K ns a H' p ∧ H' q = some (.lst (txts ws)) ∧ H' R = some (.lst (txts vs)) ∧ (∀ u ∈ vs, WordL sg 4 u) ∧ 1 ≤ vs.length ∧ vs.length ≤ 4 + 2 * i, ?_, ?_⟩
        · refine ⟨_, rfl, rfl, _, rfl, ?_⟩
          refine ite2 (fun c => ?_) (fun c => iteF ⟨vs, rfl, X6, st6, hq6, hR6, hw4, m1, m2⟩)
          refine ⟨_, rfl, R, _, rfl, .inl (SqL.of hR6), _, _, rfl, rfl, _, rfl, ?_⟩
          refine ite2 (fun d => ?_) (fun d => ⟨vs, rfl, X6, st6, hq6, hR6, hw4, m1, m2⟩)
          have d' : ((txts vs).length : Int) > 1 := of_decide_eq_true d
          rw [txts_len] at d'
          refine ⟨_, rfl, .inl ⟨rfl, _, SqL.of hR6⟩, _, rfl, _, rfl, _, rfl, R, _, rfl, .inl (SqL.of hR6), a, p, _, rfl, st6, by rw [txts_len]; omega, by rw [txts_len]; omega, fun H7 r7 x7 st7 r70 r71 => ?_⟩
          rw [txts_len] at r71
          obtain ⟨j, rfl⟩ := Int.eq_ofNat_of_zero_le r70
          have hj : j < vs.length := by exact_mod_cast r71
          have ej : vs[j]? = some vs[j] := List.getElem?_eq_getElem hj
          have hR7 := x7 _ _ nR hR6
          have X7 := X6.trans x7
          refine ⟨R, txts vs, _, j, _, rfl, rfl, hR7, by omega, by omega, by rw [txts_len]; exact seq_at (by omega) (by omega), by rw [txts, List.getElem?_map, ej]; rfl, ?_⟩
          rw [txts_erase]
          have hXR : Ex p H (upd H7 R (.lst (txts (vs.eraseIdx j)))) := X7.updNew hR
          refine ⟨vs.eraseIdx j, rfl, hXR, hst.upd st7 hXR nR, by rw [upd_ne nRq.symm]; exact x7 _ _ nqp hq6, upd_same, fun u hu => hw4 u (List.mem_of_mem_eraseIdx hu), ?_, ?_⟩
          · rw [List.length_eraseIdx_of_lt hj]; omega
          · rw [List.length_eraseIdx_of_lt hj]; omega
        · clear hR6 hR4 hw4 m1 m2 hq6 st6 X6 hq5 hq4
          rintro σ' H7 ⟨vs, rfl, x7, st7, hq7, hR7, hw7, m1, m2⟩
          refine ⟨fun σ' H' => ∃ (vs : List (List Nat)), σ' = [some (.ref a), some (.ref p), some (.str (SX.S sg)), some (.ref q), some (.ref R), some (.int r), some (.int (0 + (i : Int))), some (.str (SX.S u)), some (.str (SX.S t))] ∧ Ex p H H' ∧ St K ns a H' p ∧ H' q = some (.lst (txts ws)) ∧ H' R = some (.lst (txts vs)) ∧ (∀ u ∈ vs, WordL sg 4 u) ∧ 1 ≤ vs.length ∧ vs.length ≤ 5 + 2 * i, ?_, ?_⟩
          · refine ⟨_, rfl, rfl, _, rfl, ?_⟩
            refine ite2 (fun c => ?_) (fun c => ⟨vs, rfl, x7, st7, hq7, hR7, hw7, m1, by omega⟩)
            refine ⟨_, rfl, .inl ⟨rfl, _, SqL.of hR7⟩, _, rfl, _, rfl, SX.S u, SX.S t, rfl, rfl, le_size (by rw [SX.S_len, SX.S_len]; have := hwu.2.1; have := hwt.2.1; omega), _, rfl, _, rfl, le_size (by rw [S_cat, SX.S_len, List.length_append]; have := hwu.2.1; have := hwt.2.1; omega), ?_⟩
            rw [S_cat, show (4 : Int) = ((4 : Nat) : Int) from rfl, TxO.cut_to]
            refine ⟨R, _, _, rfl, rfl, hR7, lt_size (by rw [txts_len]; omega), ?_⟩
            have hXR : Ex p H (upd H7 R (.lst (txts vs ++ [V.str (SX.S ((u ++ t).take 4))]))) := x7.updNew hR
            refine ⟨vs ++ [(u ++ t).take 4], rfl, hXR, hst.upd st7 hXR nR, by rw [upd_ne nRq.symm]; exact hq7, by rw [upd_same, ← txts_cat]; rfl, fun v hv => ?_, by simp, by simp; omega⟩
            rcases List.mem_append.mp hv with h | h
            · exact hw7 v h
            · rw [List.mem_singleton.mp h]
              refine ⟨by rw [List.length_take, List.length_append]; have := hwu.1; omega, by rw [List.length_take]; omega, fun c hc => ?_⟩
              rcases List.mem_append.mp (List.mem_of_mem_take hc) with h | h
              · exact hwu.2.2 c h
              · exact hwt.2.2 c h
          · clear hR7 hw7 m1 m2 hq7 st7 x7
            rintro σ' H8 ⟨vs, rfl, x8, st8, hq8, hR8, hw8, m1, m2⟩
            refine ⟨_, rfl, _, _, rfl, rfl, _, rfl, ?_⟩
            refine ite2 (fun c => ?_) (fun c => ⟨vs, some _, some _, some _, rfl, x8, st8, hq8, hR8, hw8, m1, by omega⟩)
            have done : ∀ v, WordL sg 4 v → (∃ (us : List (List Nat)) (v6 v7 v8 : Option V), [some (V.ref a), some (.ref p), some (.str (SX.S sg)), some (.ref q), some (.ref R), some (.int r), some (.int (0 + (i : Int))), some (.str (SX.S u)), some (.str (SX.S t))] = [some (.ref a), some (.ref p), some (.str (SX.S sg)), some (.ref q), some (.ref R), some (.int r), v6, v7, v8] ∧ Ex p H (upd H8 R (.lst (txts vs ++ [V.str (SX.S v)]))) ∧ St K ns a (upd H8 R (.lst (txts vs ++ [V.str (SX.S v)]))) p ∧ upd H8 R (.lst (txts vs ++ [V.str (SX.S v)])) q = some (.lst (txts ws)) ∧ upd H8 R (.lst (txts vs ++ [V.str (SX.S v)])) R = some (.lst (txts us)) ∧ (∀ u ∈ us, WordL sg 4 u) ∧ 1 ≤ us.length ∧ us.length ≤ 4 + 2 * (i + 1)) := fun v hv => by
              have hXR : Ex p H (upd H8 R (.lst (txts vs ++ [V.str (SX.S v)]))) := x8.updNew hR
              refine ⟨vs ++ [v], _, _, _, rfl, hXR, hst.upd st8 hXR nR, by rw [upd_ne nRq.symm]; exact hq8, by rw [upd_same, ← txts_cat]; rfl, fun x hx => ?_, by simp, by simp; omega⟩
              rcases List.mem_append.mp hx with h | h
              · exact hw8 x h
              · rw [List.mem_singleton.mp h]; exact hv
            have sz : (SX.S u).length + (SX.S t).length ≤ sizeLine := le_size (by rw [SX.S_len, SX.S_len]; have := hwu.2.1; have := hwt.2.1; omega)
            refine ⟨_, rfl, .inl ⟨rfl, _, SqL.of hR8⟩, _, rfl, _, rfl, SX.S u, SX.S t, rfl, rfl, sz, _, rfl, le_size (by rw [S_cat, SX.S_len, List.length_append]; have := hwu.2.1; have := hwt.2.1; omega), _, _, rfl, rfl, _, rfl, ?_⟩
            refine ite2 (fun d => ?_) (fun d => ?_)
            · have d' := of_decide_eq_true d
              rw [S_cat, SX.S_len, List.length_append] at d'
              refine ⟨_, rfl, _, rfl, SX.S u, SX.S t, rfl, rfl, sz, ?_⟩
              rw [S_cat]
              refine ⟨R, _, _, rfl, rfl, hR8, lt_size (by rw [txts_len]; omega), ?_⟩
              exact done _ ⟨by rw [List.length_append]; have := hwu.1; omega, by rw [List.length_append]; omega, fun c hc => (List.mem_append.mp hc).elim (hwu.2.2 c) (hwt.2.2 c)⟩
            · refine ⟨_, rfl, R, _, _, rfl, rfl, hR8, lt_size (by rw [txts_len]; omega), ?_⟩
              exact done _ hwu
      · rintro σ H4 ⟨vs, v6, v7, v8, rfl, x4, st4, hq4, hR4, hw4, m1, m2⟩
        refine ⟨_, rfl, _, rfl, _, rfl, a, p, R, vs, rfl, st4, nR, hR4, by omega, fun H5 r5 us x5 st5 hr0 nr hr hperm => ?_⟩
        have hl := hperm.length_eq
        refine k H5 r5 us (x4.trans x5) st5 (x4.free hr0 nr) nr hr (by omega) (by omega) fun u hu => hw4 u (hperm.mem_iff.mp hu)
end
end J


set_option Elab.async false
set_option linter.all false
set_option maxRecDepth 100000
set_option maxHeartbeats 4000000
namespace J
open PySem L2
/-! ### rows (length, text) -/
abbrev rowHO (u : List Nat) : HO := .tup [.int (u.length : Int), .str (SX.S u)]
def Rws (H : Hp) (vs : List V) (us : List (List Nat)) : Prop := vs.length = us.length ∧ ∀ (i : Nat) (u : List Nat), us[i]? = some u → ∃ t, vs[i]? = some (V.ref t) ∧ H t = some (rowHO u)
theorem Rws.nil (H : Hp) : Rws H [] [] := ⟨rfl, fun i a e => by simp at e⟩
theorem Rws.same {H H' : Hp} {vs : List V} {us : List (List Nat)} (h : Rws H vs us) (s : Same H H') : Rws H' vs us :=
  ⟨h.1, fun i a e => by obtain ⟨t, h1, h2⟩ := h.2 i a e; exact ⟨t, h1, s _ _ h2⟩⟩
theorem Rws.updL {H : Hp} {vs xs : List V} {us : List (List Nat)} {p : Addr} {o : HO} (h : Rws H vs us) (hp : H p = some (.lst xs)) : Rws (upd H p o) vs us :=
  ⟨h.1, fun i a e => by
    obtain ⟨t, h1, h2⟩ := h.2 i a e
    exact ⟨t, h1, by rw [upd_ne (fun z => by rw [z, hp] at h2; cases h2)]; exact h2⟩⟩
theorem Rws.snoc {H : Hp} {vs : List V} {us : List (List Nat)} {t : Addr} {u : List Nat} (h : Rws H vs us) (ht : H t = some (rowHO u)) : Rws H (vs ++ [V.ref t]) (us ++ [u]) := by
  refine ⟨by simp [h.1], fun i b e => ?_⟩
  by_cases hi : i < us.length
  · rw [List.getElem?_append_left hi] at e
    rw [List.getElem?_append_left (by rw [h.1]; exact hi)]
    exact h.2 i b e
  · rw [List.getElem?_append_right (by omega)] at e
    have e0 : i - us.length = 0 := by
      have q := (List.getElem?_eq_some_iff.mp e).1
      simp at q
      omega
    rw [e0] at e
    cases e
    refine ⟨t, ?_, ht⟩
    rw [List.getElem?_append_right (by rw [h.1]; omega), h.1, e0]
    rfl
/-- what stands in a row -/
def cellsAt (H : Hp) (x : V) : List Key := match x with
  | .ref t => match H t with
    | some (.tup [.int n, .str z]) => [.inl n, .inr z]
    | _ => []
  | _ => []
def wordOf (cs : List Key) : List Nat := match cs with
  | [_, .inr z] => TxO.un z
  | _ => []
def cellOf (u : List Nat) : List Key := [.inl (u.length : Int), .inr (SX.S u)]
theorem wordOf_cell (u : List Nat) : wordOf (cellOf u) = u := TxO.un_S u
theorem cellsAt_row {H : Hp} {t : Addr} {u : List Nat} (h : H t = some (rowHO u)) : cellsAt H (.ref t) = cellOf u := by
  show (match H t with
    | some (.tup [.int n, .str z]) => ([.inl n, .inr z] : List Key)
    | _ => []) = _
  rw [h]
  rfl
theorem Rws.mem {H : Hp} {vs : List V} {us : List (List Nat)} (h : Rws H vs us) {x : V} (hx : x ∈ vs) : ∃ u t, u ∈ us ∧ x = .ref t ∧ H t = some (rowHO u) := by
  obtain ⟨i, hi, e⟩ := List.mem_iff_getElem.mp hx
  have hu : us[i]? = some (us[i]'(by rw [← h.1]; exact hi)) := List.getElem?_eq_getElem _
  obtain ⟨t, h1, h2⟩ := h.2 i _ hu
  rw [List.getElem?_eq_getElem hi, e] at h1
  exact ⟨_, t, List.mem_of_getElem? hu, Option.some.inj h1, h2⟩
theorem Rws.words {H : Hp} {vs : List V} {us : List (List Nat)} (h : Rws H vs us) : vs.map (fun x => wordOf (cellsAt H x)) = us := by
  apply List.ext_getElem?
  intro i
  rw [List.getElem?_map]
  by_cases hi : i < us.length
  · have hu : us[i]? = some us[i] := List.getElem?_eq_getElem hi
    obtain ⟨t, h1, h2⟩ := h.2 i _ hu
    rw [h1, hu]
    show some (wordOf (cellsAt H (.ref t))) = _
    rw [cellsAt_row h2, wordOf_cell]
  · rw [List.getElem?_eq_none (by rw [h.1]; omega), List.getElem?_eq_none (by omega)]
    rfl
theorem lex_bef (u v : List Nat) : SrtC.lexC (cellOf v) (cellOf u) = TxO.bef v u := by
  show (if (Sum.inl (v.length : Int) : Key) = .inl (u.length : Int) then (if (Sum.inr (SX.S v) : Key) = .inr (SX.S u) then false else SrtC.sLt (SX.S v) (SX.S u)) else decide ((v.length : Int) < (u.length : Int))) = (decide (v.length < u.length) || (decide (v.length = u.length) && decide (v < u)))
  have e1 : ((Sum.inl (v.length : Int) : Key) = .inl (u.length : Int)) ↔ v.length = u.length := ⟨fun h => by injection h with h; omega, fun h => by rw [h]⟩
  by_cases c : v.length = u.length
  · rw [if_pos (e1.mpr c), decide_eq_true c, decide_eq_false (by omega), Bool.false_or, Bool.true_and]
    by_cases d : v = u
    · rw [if_pos (by rw [d]), d]
      exact (decide_eq_false (List.lt_irrefl u)).symm
    · rw [if_neg (fun h => d (by injection h with h; exact S_inj h)), TxO.sLt_S]
  · rw [if_neg (fun h => c (e1.mp h)), decide_eq_false c, Bool.false_and, Bool.or_false]
    exact decide_eq_decide.mpr (by omega)
theorem Rws.sorted {H : Hp} {xs ys : List V} {us : List (List Nat)} (h : Rws H xs us) (hs : SrtO.Srtd (fun x y => SrtC.lexC (cellsAt H x) (cellsAt H y)) ys) (hp : ys.Perm xs) : ∃ gs, Rws H ys gs ∧ TxO.SF gs ∧ gs.Perm us := by
  have hm : ∀ x ∈ ys, ∃ u t, u ∈ us ∧ x = .ref t ∧ H t = some (rowHO u) := fun x hx => h.mem (hp.mem_iff.mp hx)
  refine ⟨ys.map (fun x => wordOf (cellsAt H x)), ⟨by simp, fun i u hu => ?_⟩, ?_, ?_⟩
  · rw [List.getElem?_map] at hu
    obtain ⟨x, hx, rfl⟩ := Option.map_eq_some_iff.mp hu
    obtain ⟨u, t, _, rfl, ht⟩ := hm x (List.mem_of_getElem? hx)
    exact ⟨t, hx, by rw [cellsAt_row ht, wordOf_cell]; exact ht⟩
  · rw [TxO.SF, List.pairwise_map]
    refine hs.imp_of_mem fun {x y} hx hy q => ?_
    obtain ⟨u, t, _, rfl, ht⟩ := hm x hx
    obtain ⟨v, t', _, rfl, ht'⟩ := hm y hy
    replace q : SrtC.lexC (cellsAt H (.ref t')) (cellsAt H (.ref t)) = false := q
    rw [cellsAt_row ht, cellsAt_row ht', lex_bef] at q
    rw [cellsAt_row ht, cellsAt_row ht', wordOf_cell, wordOf_cell]
    exact q
  · have := hp.map (fun x => wordOf (cellsAt H x))
    rw [h.words] at this
    exact this
theorem cut_drop (vs : List (List Nat)) (n : Nat) : cutV (txts vs) (some (n : Int)) none = txts (vs.drop n) := by
  unfold cutV
  rw [HT.sIx_nat, HT.sIx_none, txts_len]
  show ((txts vs).drop (min n vs.length)).take (vs.length - min n vs.length) = _
  by_cases c : n ≤ vs.length
  · rw [Nat.min_eq_left c, List.take_of_length_le (by rw [List.length_drop, txts_len]; omega)]
    simp [txts]
  · rw [Nat.min_eq_right (by omega), List.drop_eq_nil_of_le (by rw [txts_len]; omega), List.drop_eq_nil_of_le (by omega), List.take_nil]
    rfl
/-- some lists of words -/
def Rls (H : Hp) (p R : Addr) (sg : List Nat) (rl : List (Addr × List (List Nat))) : Prop :=
  H R = some (.lst (rl.map fun e => V.ref e.1)) ∧ ∀ e ∈ rl, H e.1 = some (.lst (txts e.2)) ∧ e.1 ≠ p ∧ e.1 ≠ R ∧ 1 ≤ e.2.length ∧ e.2.length ≤ 40 ∧ ∀ u ∈ e.2, Word sg u
theorem Rls.same {H H' : Hp} {p R : Addr} {sg : List Nat} {rl : List (Addr × List (List Nat))} (h : Rls H p R sg rl) (s : Same H H') : Rls H' p R sg rl :=
  ⟨s _ _ h.1, fun e he => ⟨s _ _ (h.2 e he).1, (h.2 e he).2⟩⟩
theorem Rls.ex {H H' : Hp} {p R : Addr} {sg : List Nat} {rl : List (Addr × List (List Nat))} (h : Rls H p R sg rl) (x : Ex p H H') (n : R ≠ p) : Rls H' p R sg rl :=
  ⟨x _ _ n h.1, fun e he => ⟨x _ _ (h.2 e he).2.1 (h.2 e he).1, (h.2 e he).2⟩⟩
theorem Rls.snoc {H : Hp} {p R : Addr} {sg : List Nat} {rl : List (Addr × List (List Nat))} {D : Addr} {ws : List (List Nat)} (h : Rls H p R sg rl) (hD : H D = some (.lst (txts ws))) (n1 : D ≠ p) (n2 : D ≠ R) (l1 : 1 ≤ ws.length) (l2 : ws.length ≤ 40) (hw : ∀ u ∈ ws, Word sg u) : Rls (upd H R (.lst ((rl.map fun e => V.ref e.1) ++ [V.ref D]))) p R sg (rl ++ [(D, ws)]) := by
  refine ⟨by rw [upd_same]; simp, fun e he => ?_⟩
  rcases List.mem_append.mp he with he | he
  · obtain ⟨a, b, c, d⟩ := h.2 e he
    exact ⟨by rw [upd_ne c]; exact a, b, c, d⟩
  · rw [List.mem_singleton.mp he]
    exact ⟨by rw [upd_ne n2]; exact hD, n1, n2, l1, l2, hw⟩
theorem flat_vOf (o : Option (List Nat)) : TxO.vOf o = .non ∨ Flat (TxO.vOf o) := by
  cases o with
  | none => exact .inl rfl
  | some z => exact .inr (.inr (.inr ⟨_, rfl⟩))
theorem df_iff {ws vs : List (List Nat)} {y : List Nat} {b c : Int} (hb : 0 < b ↔ TxO.Wr ws y) (hc : 0 < c ↔ TxO.Wr vs y) : (!decide (V.bl (decide (b > 0)) = V.bl (decide (c > 0)))) = true ↔ TxO.Df ws vs y := by
  have e : (V.bl (decide (b > 0)) = V.bl (decide (c > 0))) ↔ (TxO.Wr ws y ↔ TxO.Wr vs y) := by
    rw [← hb, ← hc]
    constructor
    · intro h
      injection h with h
      exact decide_eq_decide.mp h
    · intro h
      rw [decide_eq_decide.mpr h]
  unfold TxO.Df
  rw [Bool.not_eq_true', decide_eq_false_iff_not, e]
def spLikeO : Sp := fun vs H Q _ => ∃ o, vs = [TxO.vOf o, TxO.vOf o] ∧ Q (.bl true) H
def spFar (K : PySem.W.Frag) (ns : List Int) : Sp := fun vs H Q _ => ∃ (a p q : Addr) (sg : List Nat) (ws : List (List Nat)), vs = [.ref a, .ref p, .str (SX.S sg), .ref q] ∧ St K ns a H p ∧ q ≠ p ∧ H q = some (.lst (txts ws)) ∧ Signs sg ∧ (∀ u ∈ ws, WordL sg 4 u) ∧ 1 ≤ ws.length ∧ ws.length ≤ 4 ∧
  ∀ H', Ex p H H' → St K ns a H' p → Q (.bl true) H'
section
variable {P : Program} {w : World} {K : PySem.W.Frag} {mg : Str → Option Value} {base : Heap}
theorem ok_l_likeO (T : Tx K mg) : FnOk P w K mg base CX0 2 T.f_l_like T.fd_l_like P_l_like spLikeO := by
  have G_l_like : FnOk P w K mg base CX0 1 T.f_l_like T.fd_l_like P_l_like spNo := ok_l_likeN T
  refine T.F_l_like.ok sc_l_like (fun vs H Q E h => ?_) (fun cdv A outer s H vs Q E hr h => ?_)
  · obtain ⟨x, rfl, _⟩ := h
    rfl
  · obtain ⟨o, rfl, k⟩ := h
    refine ⟨_, (pss_cons (ps_if (pt_cmpR op_isN (pv 1) pe_non (nomark _)) (pss_one (ps_ret (pe_cmpR op_isN (pv 0) pe_non (nomark _)))) pss_nil)
        (pss_cons (ps_if (pt_val (pe_callB (call_isiK' (K := K) rfl) rfl T.n_isinstance (by decide +kernel) (pa_cons (pv 1) (pa_cons (pe_bltn (v := V.ty "bool") (u := .type "bool") rfl T.n_bool (by decide +kernel) rfl) pa_nil)))) (pss_one (ps_ret (pe_and (pe_callB (call_isiK' (K := K) rfl) rfl T.n_isinstance (by decide +kernel) (pa_cons (pv 0) (pa_cons (pe_bltn (v := V.ty "bool") (u := .type "bool") rfl T.n_bool (by decide +kernel) rfl) pa_nil))) (pe_one (pe_cmpR op_eq (pv 0) (pv 1) (nomark _)))))) pss_nil)
        (pss_cons (ps_if (pt_val (pe_callB (call_isiK' (K := K) rfl) rfl T.n_isinstance (by decide +kernel) (pa_cons (pv 1) (pa_cons (pe_bltn (v := V.ty "int") (u := .type "int") rfl T.n_int (by decide +kernel) rfl) pa_nil)))) (pss_one (ps_ret (pe_and (pe_callB (call_isiK' (K := K) rfl) rfl T.n_isinstance (by decide +kernel) (pa_cons (pv 0) (pa_cons (pe_bltn (v := V.ty "int") (u := .type "int") rfl T.n_int (by decide +kernel) rfl) pa_nil))) (pe_and (pe_not (pe_callB (call_isiK' (K := K) rfl) rfl T.n_isinstance (by decide +kernel) (pa_cons (pv 0) (pa_cons (pe_bltn (v := V.ty "bool") (u := .type "bool") rfl T.n_bool (by decide +kernel) rfl) pa_nil)))) (pe_one (pe_cmpR op_eq (pv 0) (pv 1) (nomark _))))))) pss_nil)
        (pss_cons (ps_if (pt_val (pe_callB (call_isiK' (K := K) rfl) rfl T.n_isinstance (by decide +kernel) (pa_cons (pv 1) (pa_cons (pe_bltn (v := V.ty "str") (u := .type "str") rfl T.n_str (by decide +kernel) rfl) pa_nil)))) (pss_one (ps_ret (pe_and (pe_callB (call_isiK' (K := K) rfl) rfl T.n_isinstance (by decide +kernel) (pa_cons (pv 0) (pa_cons (pe_bltn (v := V.ty "str") (u := .type "str") rfl T.n_str (by decide +kernel) rfl) pa_nil))) (pe_one (pe_cmpR op_eq (pv 0) (pv 1) (nomark _)))))) pss_nil)
        (pss_cons (ps_if (pt_val (pe_callB (call_isiK' (K := K) rfl) rfl T.n_isinstance (by decide +kernel) (pa_cons (pv 1) (pa_cons (pe_bltn (v := V.ty "dict") (u := .type "dict") rfl T.n_dict (by decide +kernel) rfl) pa_nil)))) (pss_cons (ps_if (PW.pt (pw_or (pt_not (pt_val (pe_callB (call_isiK' (K := K) rfl) rfl T.n_isinstance (by decide +kernel) (pa_cons (pv 0) (pa_cons (pe_bltn (v := V.ty "dict") (u := .type "dict") rfl T.n_dict (by decide +kernel) rfl) pa_nil))))) (pw_or1 (pt_cmpR op_ne (pe_callB (call_len_seqK (K := K) rfl) rfl T.n_len (by decide +kernel) (pa_cons (pv 0) pa_nil)) (pe_callB (call_len_seqK (K := K) rfl) rfl T.n_len (by decide +kernel) (pa_cons (pv 1) pa_nil)) (nomark _))))) (pss_one (ps_ret pe_bl)) pss_nil)
        (pss_one ps_never)) pss_nil)
        (pss_cons (ps_if (PW.pt (pw_and (pt_val (pe_callB (call_isiK' (K := K) rfl) rfl T.n_isinstance (by decide +kernel) (pa_cons (pv 1) (pa_cons (pe_bltn (v := V.ty "tuple") (u := .type "tuple") rfl T.n_tuple (by decide +kernel) rfl) pa_nil)))) (pw_and1 (pt_not (pt_val (pe_callB (call_isiK' (K := K) rfl) rfl T.n_isinstance (by decide +kernel) (pa_cons (pv 0) (pa_cons (pe_bltn (v := V.ty "tuple") (u := .type "tuple") rfl T.n_tuple (by decide +kernel) rfl) pa_nil)))))))) (pss_one (ps_ret pe_bl)) pss_nil)
        (pss_cons (ps_if (PW.pt (pw_or (PW.pt (pw_and (pt_val (pe_callB (call_isiK' (K := K) rfl) rfl T.n_isinstance (by decide +kernel) (pa_cons (pv 1) (pa_cons (pe_bltn (v := V.ty "list") (u := .type "list") rfl T.n_list (by decide +kernel) rfl) pa_nil)))) (pw_and1 (pt_not (pt_val (pe_callB (call_isiK' (K := K) rfl) rfl T.n_isinstance (by decide +kernel) (pa_cons (pv 0) (pa_cons (pe_bltn (v := V.ty "list") (u := .type "list") rfl T.n_list (by decide +kernel) rfl) pa_nil)))))))) (pw_or1 (pt_cmpR op_ne (pe_callB (call_len_seqK (K := K) rfl) rfl T.n_len (by decide +kernel) (pa_cons (pv 0) pa_nil)) (pe_callB (call_len_seqK (K := K) rfl) rfl T.n_len (by decide +kernel) (pa_cons (pv 1) pa_nil)) (nomark _))))) (pss_one (ps_ret pe_bl)) pss_nil)
        (pss_one (ps_ret (pe_callB (cr_allK (K := K) rfl rfl) rfl T.n_all (by decide +kernel) (pa_cons (pe_lc (own := [("_law_k", 2)]) (g := (gName 2)) rfl sc_l_like.nd (pi_range1 rfl T.n_range (pa_cons (pe_callB (call_len_seqK (K := K) rfl) rfl T.n_len (by decide +kernel) (pa_cons (pv 1) pa_nil)) pa_nil)) (blkOk_by (N := N_l_like) (sc := defScope s_l_like) (by decide +kernel)) (fun _ _ _ _ _ => (pg_name (i := 2) sc_l_like.nd rfl (Or.inl rfl))) (fun _ _ _ _ _ => pts_nil) (fun _ _ _ _ _ => (pe_call G_l_like (hr.mono (by decide)) rfl T.m_l_like T.F_l_like.kp T.b_l_like .nil pass0 (pa_cons (pe_ix (ix_listK (K := K) rfl) (pv 0) (pv 2) (fun _ _ => rfl)) (pa_cons (pe_ix (ix_listK (K := K) rfl) (pv 1) (pv 2) (fun _ _ => rfl)) pa_nil))))) pa_nil))))))))))), ?_⟩
    cases o with
    | none =>
      refine ⟨_, rfl, rfl, _, rfl, iteT ?_⟩
      refine ⟨_, rfl, rfl, ?_⟩
      exact k
    | some z =>
      refine ⟨_, rfl, rfl, _, rfl, iteF ?_⟩
      refine ⟨_, rfl, _, _, _, _, false, rfl, .ty "bool", .base (.str (SX.S z)), kit_ty (by decide +kernel), false, rfl, iteF ?_⟩
      refine ⟨_, rfl, _, _, _, _, false, rfl, .ty "int", .base (.str (SX.S z)), kit_ty (by decide +kernel), false, rfl, iteF ?_⟩
      refine ⟨_, rfl, _, _, _, _, true, rfl, .ty "str", .base (.str (SX.S z)), kit_ty (by decide +kernel), true, rfl, iteT ?_⟩
      refine ⟨_, rfl, _, _, _, _, true, rfl, .ty "str", .base (.str (SX.S z)), kit_ty (by decide +kernel), true, rfl, ?_⟩
      refine ⟨_, rfl, _, rfl, rfl, ?_⟩
      rw [decide_eq_true rfl]
      exact k
theorem ok_l_far_right (T : Tx K mg) (ns : List Int) : FnOk P w K mg base CX0 7 T.f_l_far_right T.fd_l_far_right P_l_far_right (spFar K ns) := by
  have G_l_take : FnOk P w K mg base CX0 1 T.f_l_take T.fd_l_take P_l_take (spTake K ns) := ok_l_take T ns
  have G_l_word : FnOk P w K mg base CX0 2 T.f_l_word T.fd_l_word P_l_word (spWord K ns) := ok_l_word T ns
  have G_l_count : FnOk P w K mg base CX0 1 T.f_l_count T.fd_l_count P_l_count spLCount := ok_l_count T
  have G_l_like : FnOk P w K mg base CX0 2 T.f_l_like T.fd_l_like P_l_like spLikeO := ok_l_likeO T
  have G_book : FnOk P w K mg base CX0 6 T.f_book T.fd_book P_book (spBook T.C_Loom) := ok_book T
  have G_same_texts : FnOk P w K mg base CX0 5 T.f_same_texts T.fd_same_texts P_same_texts (spSameB T.C_Loom) := ok_same_texts T
  refine T.F_l_far_right.ok sc_l_far_right (fun vs H Q E h => ?_) (fun cdv A outer s H vs Q E hr h => ?_)
  · obtain ⟨a, p, q, sg, ws, rfl, _⟩ := h
    rfl
  · obtain ⟨a, p, q, sg, ws, rfl, hst, nqp, hq, hsg, hws, l1, l2, k⟩ := h
    refine ⟨_, (pss_cons (ps_set (i := 4) sc_l_far_right.nd rfl (Or.inl rfl) (pe_lst pa_nil))
        (pss_cons (ps_for PassesOwn.never rfl (pi_range1 rfl T.n_range (pa_cons pe_int pa_nil)) (pg_name (i := 5) sc_l_far_right.nd rfl (Or.inl rfl)) (pss_cons (ps_set (i := 6) sc_l_far_right.nd rfl (Or.inl rfl) (pe_callTy (call_list_ofK (K := K) rfl) rfl T.n_list (by decide +kernel) (pa_cons (pv 3) pa_nil)))
        (pss_cons (ps_for PassesOwn.never rfl (pi_range1 rfl T.n_range (pa_cons (pe_op op_add pe_int (pe_call G_l_take (hr.mono (by decide)) rfl T.m_l_take T.F_l_take.kp T.b_l_take .nil pass0 (pa_cons (pv 0) (pa_cons (pv 1) (pa_cons pe_int pa_nil))))) pa_nil)) (pg_name (i := 7) sc_l_far_right.nd rfl (Or.inl rfl)) (pss_cons (ps_setLc (i := 8) (own := [("_law_i", 12)]) (g := (gName 12)) rfl sc_l_far_right.nd rfl rfl (sw_true rfl rfl rfl (by decide +kernel)) (pi_range1 rfl T.n_range (pa_cons (pe_op op_add pe_int (pe_call G_l_take (hr.mono (by decide)) rfl T.m_l_take T.F_l_take.kp T.b_l_take .nil pass0 (pa_cons (pv 0) (pa_cons (pv 1) (pa_cons pe_int pa_nil))))) pa_nil)) (blkOk_by (N := N_l_far_right) (sc := defScope s_l_far_right) (by decide +kernel)) (fun _ _ _ _ _ => (pg_name (i := 12) sc_l_far_right.nd rfl (Or.inl rfl))) (fun _ _ _ _ _ => pts_nil) (fun _ _ _ _ _ => (pe_ix (ix_listK (K := K) rfl) (pv 3) (pe_call G_l_take (hr.mono (by decide)) rfl T.m_l_take T.F_l_take.kp T.b_l_take .nil pass0 (pa_cons (pv 0) (pa_cons (pv 1) (pa_cons (pe_callB (call_len_seqK (K := K) rfl) rfl T.n_len (by decide +kernel) (pa_cons (pv 3) pa_nil)) pa_nil)))) (fun _ _ => rfl))))
        (pss_one (ps_expr (pe_bm PySem.F.plainAttrs_list PySem.F.slot_list_append PySem.F.type_list_append mt_append (pv 6) (pa_cons (pe_slice sl_str (pe_op op_add_str (pe_join pe_str (pv 8)) (pe_call G_l_word (hr.mono (by decide)) rfl T.m_l_word T.F_l_word.kp T.b_l_word .nil pass0 (pa_cons (pv 0) (pa_cons (pv 1) (pa_cons (pv 2) (pa_cons pe_int pa_nil)))))) po_none (po_some (pe_op op_add pe_int (pe_call G_l_take (hr.mono (by decide)) rfl T.m_l_take T.F_l_take.kp T.b_l_take .nil pass0 (pa_cons (pv 0) (pa_cons (pv 1) (pa_cons pe_int pa_nil))))))) pa_nil))))))
        (pss_one (ps_expr (pe_bm PySem.F.plainAttrs_list PySem.F.slot_list_append PySem.F.type_list_append mt_append (pv 4) (pa_cons (pe_slice (sl_listK (K := K) rfl) (pv 6) (po_some (pe_call G_l_take (hr.mono (by decide)) rfl T.m_l_take T.F_l_take.kp T.b_l_take .nil pass0 (pa_cons (pv 0) (pa_cons (pv 1) (pa_cons pe_int pa_nil))))) po_none) pa_nil)))))))
        (pss_cons (ps_set (i := 9) sc_l_far_right.nd rfl (Or.inl rfl) pe_non)
        (pss_cons (ps_for PassesOwn.never rfl (pi_list (pe_lc (own := [("_law_row", 11)]) (g := (gName 11)) rfl sc_l_far_right.nd (pi_list (pe_callB cr_sortedC rfl T.n_sorted (by decide +kernel) (pa_cons (pe_lc (own := [("_law_word_here", 13)]) (g := (gName 13)) rfl sc_l_far_right.nd (pi_list (pe_op op_cat (pe_ix (ix_listK (K := K) rfl) (pv 4) pe_int (fun _ _ => rfl)) (pe_ix (ix_listK (K := K) rfl) (pv 4) pe_int (fun _ _ => rfl)))) (blkOk_by (N := N_l_far_right) (sc := defScope s_l_far_right) (by decide +kernel)) (fun _ _ _ _ _ => (pg_name (i := 13) sc_l_far_right.nd rfl (Or.inl rfl))) (fun _ _ _ _ _ => pts_nil) (fun _ _ _ _ _ => (pe_tup (pa_cons (pe_callB call_len_str rfl T.n_len (by decide +kernel) (pa_cons (pv 13) pa_nil)) (pa_cons (pv 13) pa_nil))))) pa_nil))) (blkOk_by (N := N_l_far_right) (sc := defScope s_l_far_right) (by decide +kernel)) (fun _ _ _ _ _ => (pg_name (i := 11) sc_l_far_right.nd rfl (Or.inl rfl))) (fun _ _ _ _ _ => pts_nil) (fun _ _ _ _ _ => (pe_ix (ix_tupK (K := K) rfl) (pv 11) pe_int (fun _ _ => rfl))))) (pg_name (i := 10) sc_l_far_right.nd rfl (Or.inl rfl)) (pss_one (ps_if (PW.pt (pw_and (pt_cmpR op_isN (pv 9) pe_non (nomark _)) (pw_and1 (pt_cmpR op_ne (pe_cmpR op_gt (pe_call G_l_count (hr.mono (by decide)) rfl T.m_l_count T.F_l_count.kp T.b_l_count .nil pass0 (pa_cons (pe_ix (ix_listK (K := K) rfl) (pv 4) pe_int (fun _ _ => rfl)) (pa_cons (pv 10) pa_nil))) pe_int (nomark _)) (pe_cmpR op_gt (pe_call G_l_count (hr.mono (by decide)) rfl T.m_l_count T.F_l_count.kp T.b_l_count .nil pass0 (pa_cons (pe_ix (ix_listK (K := K) rfl) (pv 4) pe_int (fun _ _ => rfl)) (pa_cons (pv 10) pa_nil))) pe_int (nomark _)) (nomark _))))) (pss_one (ps_set (i := 9) sc_l_far_right.nd rfl (Or.inl rfl) (pv 10))) pss_nil)))
        (pss_one (ps_ret (pe_call G_l_like (hr.mono (by decide)) rfl T.m_l_like T.F_l_like.kp T.b_l_like .nil pass0 (pa_cons (pe_call G_same_texts (hr.mono (by decide)) rfl T.m_same_texts T.F_same_texts.kp T.b_same_texts .nil pass0 (pa_cons (pe_call G_book (hr.mono (by decide)) rfl T.m_book T.F_book.kp T.b_book .nil pass0 (pa_cons (pv 2) (pa_cons (pe_ix (ix_listK (K := K) rfl) (pv 4) pe_int (fun _ _ => rfl)) pa_nil))) (pa_cons (pe_call G_book (hr.mono (by decide)) rfl T.m_book T.F_book.kp T.b_book .nil pass0 (pa_cons (pv 2) (pa_cons (pe_ix (ix_listK (K := K) rfl) (pv 4) pe_int (fun _ _ => rfl)) pa_nil))) pa_nil))) (pa_cons (pv 9) pa_nil))))))))), ?_⟩
    refine ⟨Nat.zero_le _, fun R hR => ?_⟩
    have sR : Same H (upd H R (.lst [])) := Same.new _ hR
    have gR : upd H R (.lst []) R = some (.lst []) := upd_same
    have nR := hst.ne hR
    have nRq : R ≠ q := hp_ne hq hR
    have st1 := hst.same sR
    have hq1 := sR _ _ hq
    generalize upd H R (.lst []) = H1 at *
    refine ⟨2, rfl, by decide, by decide, for_range (lo := 0) (n := 2) (fun i σ H' => ∃ (rl : List (Addr × List (List Nat))) (v5 v6 v7 v8 : Option V), σ = [some (.ref a), some (.ref p), some (.str (SX.S sg)), some (.ref q), some (.ref R), v5, v6, v7, v8, none, none, none, none, none] ∧ Ex p H H' ∧ St K ns a H' p ∧ H' q = some (.lst (txts ws)) ∧ Rls H' p R sg rl ∧ rl.length = i) ?_ ?_ ?_⟩
    · exact ⟨[], none, none, none, none, rfl, Same.ex sR, st1, hq1, ⟨gR, fun e he => (nomatch he)⟩, rfl⟩
    · rintro i σ H2 hi ⟨rl, v5, v6, v7, v8, rfl, x2, st2, hq2, hR2, hrl⟩
      refine ⟨_, rfl, q, _, rfl, .inl (SqL.of hq2), fun M hM => ?_⟩
      have sM : Same H2 (upd H2 M (.lst (txts ws))) := Same.new _ hM
      have gM : upd H2 M (.lst (txts ws)) M = some (.lst (txts ws)) := upd_same
      have nM := st2.ne hM
      have nMq : M ≠ q := hp_ne hq2 hM
      have nMR : M ≠ R := hp_ne hR2.1 hM
      have nMe : ∀ e ∈ rl, e.1 ≠ M := fun e he => (hp_ne (hR2.2 e he).1 hM).symm
      have hM0 : H M = none := x2.free hM nM
      have st3 := st2.same sM
      have hq3 := sM _ _ hq2
      have hR3 := hR2.same sM
      have x3 := x2.trans (Same.ex (p := p) sM)
      generalize upd H2 M (.lst (txts ws)) = H3 at *
      refine ⟨_, rfl, _, rfl, a, p, 3, rfl, st3, by decide, by decide, fun H4 r4 x4 st4 r40 r41 => ⟨_, _, rfl, rfl, ?_⟩⟩
      have X4 := x3.trans x4
      have toM : ∀ {H' : Hp} {vs us : List (List Nat)}, H' M = some (.lst (txts vs)) → Rls H' p R sg rl → Rls (upd H' M (.lst (txts us))) p R sg rl := fun {H' vs us} hm h => ⟨by rw [upd_ne nMR.symm]; exact h.1, fun e he => ⟨by rw [upd_ne (nMe e he)]; exact (h.2 e he).1, (h.2 e he).2⟩⟩
      refine ⟨_, rfl, by omega, by omega, for_range (lo := 0) (n := (1 + r4).toNat) (fun j σ H' => ∃ (vs : List (List Nat)) (v7 v8 : Option V), σ = [some (.ref a), some (.ref p), some (.str (SX.S sg)), some (.ref q), some (.ref R), some (.int (0 + (i : Int))), some (.ref M), v7, v8, none, none, none, none, none] ∧ Ex p H H' ∧ St K ns a H' p ∧ H' q = some (.lst (txts ws)) ∧ Rls H' p R sg rl ∧ H' M = some (.lst (txts vs)) ∧ (∀ u ∈ vs, Word sg u) ∧ 1 + j ≤ vs.length ∧ vs.length ≤ 4 + j) ?_ ?_ ?_⟩
      · exact ⟨ws, v7, v8, rfl, X4, st4, x4 _ _ nqp hq3, hR3.ex x4 nR, x4 _ _ nM gM, fun u hu => (hws u hu).word (by decide), by omega, by omega⟩
      · rintro j σ H5 hj ⟨vs, v7, v8, rfl, x5, st5, hq5, hR5, hM5, hv5, m1, m2⟩
        refine ⟨_, rfl, _, rfl, a, p, 3, rfl, st5, by decide, by decide, fun H6 r6 x6 st6 r60 r61 => ⟨_, _, rfl, rfl, ?_⟩⟩
        have X6 := x5.trans x6
        have hq6 := x6 _ _ nqp hq5
        have hM6 := x6 _ _ nM hM5
        have hR6 := hR5.ex x6 nR
        refine ⟨_, rfl, by omega, by omega, fun D hD => lc_range (lo := 0) (n := (2 + r6).toNat) (fun m H' => ∃ us : List (List Nat), us.length = m ∧ (∀ u ∈ us, WordL sg 4 u) ∧ H' D = some (.lst (txts us)) ∧ Ex p H6 H' ∧ St K ns a H' p) ?_ ?_ ?_⟩
        · exact ⟨[], rfl, fun _ h => (nomatch h), upd_same, Ex.new _ hD, st6.same (Same.new _ hD)⟩
        · rintro m H7 hm ⟨us, rfl, hu, hDl, x7, st7⟩
          have nD := st6.ne hD
          have hq7 := x7 _ _ nqp hq6
          refine ⟨rfl, _, rfl, _, rfl, _, rfl, _, rfl, q, _, rfl, .inl (SqL.of hq7), a, p, _, rfl, st7, by rw [txts_len]; omega, by rw [txts_len]; omega, fun H8 r8 x8 st8 r80 r81 => ?_⟩
          obtain ⟨u, huw, hat⟩ := at_txt r80 r81
          refine ⟨q, _, _, _, rfl, rfl, SqL.of (x8 _ _ nqp hq7), hat, ?_⟩
          refine ⟨_, x8 _ _ nD hDl, lt_size (by rw [txts_len]; omega), us ++ [u], by simp, ?_, by rw [upd_same, ← txts_cat]; rfl, (x7.trans x8).updNew hD, hst.upd st8 (((X6.trans x7).trans x8).updNew (X6.free hD nD)) nD⟩
          intro d hd
          rcases List.mem_append.mp hd with h | h
          · exact hu d h
          · rw [List.mem_singleton.mp h]; exact hws u huw
        · rintro H7 ⟨us, hul, hu, hDl, x7, st7⟩
          have nD := st6.ne hD
          have hM7 := x7 _ _ nM hM6
          have X7 := X6.trans x7
          have fl := flatL (ls := us) (k := 4) fun u hu2 => (hu u hu2).2.1
          refine ⟨_, rfl, .inl ⟨rfl, _, SqL.of hM7⟩, ?_⟩
          refine ⟨⟨_, rfl⟩, _, rfl, _, _, us.map SX.S, rfl, rfl, .inl (by rw [txts_S]; exact SqL.of hDl), ?_, ?_⟩
          · rw [sumF, emptyS, SX.S_len, List.length_nil, Nat.mul_zero, Nat.add_zero]
            omega
          rw [emptyS, join_flat]
          refine ⟨_, rfl, _, rfl, _, rfl, a, p, sg, 2, rfl, st7, hsg, by decide, by decide, fun H8 t x8 st8 ht htl => ?_⟩
          refine ⟨_, _, rfl, rfl, le_size (by rw [SX.S_len, SX.S_len]; omega), ?_⟩
          rw [S_cat]
          refine ⟨_, rfl, _, rfl, a, p, 7, rfl, st8, by decide, by decide, fun H9 r9 x9 st9 r90 r91 => ⟨_, _, rfl, rfl, _, rfl, _, rfl, le_size (by rw [SX.S_len, List.length_append]; omega), ?_⟩⟩
          obtain ⟨c, rfl⟩ := Int.eq_ofNat_of_zero_le r90
          rw [show (6 + (c : Int)) = ((6 + c : Nat) : Int) by omega, TxO.cut_to]
          have X9 := (X7.trans x8).trans x9
          have hM9 := x9 _ _ nM (x8 _ _ nM hM7)
          refine ⟨M, _, _, rfl, rfl, hM9, lt_size (by rw [txts_len]; omega), ?_⟩
          have hXM : Ex p H (upd H9 M (.lst (txts vs ++ [V.str (SX.S ((us.flatten ++ t).take (6 + c)))]))) := X9.updNew hM0
          have hR9 := ((hR6.ex x7 nR).ex x8 nR).ex x9 nR
          have hq9 := x9 _ _ nqp (x8 _ _ nqp (x7 _ _ nqp hq6))
          refine ⟨vs ++ [(us.flatten ++ t).take (6 + c)], _, _, rfl, hXM, hst.upd st9 hXM nM, by rw [upd_ne nMq.symm]; exact hq9, ?_, by rw [upd_same, ← txts_cat]; rfl, fun u hu2 => ?_, by simp; omega, by simp; omega⟩
          · have := toM (us := vs ++ [(us.flatten ++ t).take (6 + c)]) hM9 hR9
            rw [← txts_cat] at this
            exact this
          rcases List.mem_append.mp hu2 with h | h
          · exact hv5 u h
          · rw [List.mem_singleton.mp h]
            have := ht.1
            refine ⟨by rw [List.length_take, List.length_append]; omega, by rw [List.length_take]; omega, fun d hd => ?_⟩
            rcases List.mem_append.mp (List.mem_of_mem_take hd) with h | h
            · obtain ⟨x, hx, hcx⟩ := List.mem_flatten.mp h
              exact (hu x hx).2.2 d hcx
            · exact ht.2.2 d h
      · rintro σ H5 ⟨vs, v7, v8, rfl, x5, st5, hq5, hR5, hM5, hv5, m1, m2⟩
        refine ⟨_, rfl, .inl ⟨rfl, _, SqL.of hR5.1⟩, _, rfl, _, rfl, _, rfl, a, p, 2, rfl, st5, by decide, by decide, fun H6 r6 x6 st6 r60 r61 => ?_⟩
        obtain ⟨c, rfl⟩ := Int.eq_ofNat_of_zero_le r60
        have hM6 := x6 _ _ nM hM5
        refine ⟨_, rfl, M, _, rfl, SqL.of hM6, fun D hD => ?_⟩
        rw [cut_drop]
        have sD : Same H6 (upd H6 D (.lst (txts (vs.drop c)))) := Same.new _ hD
        have gD : upd H6 D (.lst (txts (vs.drop c))) D = some (.lst (txts (vs.drop c))) := upd_same
        have hR6 := hR5.ex x6 nR
        have nD := st6.ne hD
        have nDR : D ≠ R := hp_ne hR6.1 hD
        have hR7 := hR6.same sD
        have st7 := st6.same sD
        have X7 := (x5.trans x6).trans (Same.ex (p := p) sD)
        have hq7 := sD _ _ (x6 _ _ nqp hq5)
        generalize upd H6 D (.lst (txts (vs.drop c))) = H7 at *
        have lb : (rl.map fun e => V.ref e.1).length = rl.length := List.length_map _
        refine ⟨R, _, _, rfl, rfl, hR7.1, lt_size (by rw [lb]; omega), ?_⟩
        have hXR : Ex p H (upd H7 R (.lst ((rl.map fun e => V.ref e.1) ++ [V.ref D]))) := X7.updNew hR
        refine ⟨rl ++ [(D, vs.drop c)], _, _, _, _, rfl, hXR, hst.upd st7 hXR nR, by rw [upd_ne nRq.symm]; exact hq7, hR7.snoc gD nD nDR (by rw [List.length_drop]; omega) (by rw [List.length_drop]; omega) (fun u hu => hv5 u (List.mem_of_mem_drop hu)), by simp; omega⟩
    · rintro σ H2 ⟨rl, v5, v6, v7, v8, rfl, x2, st2, hq2, hR2, hrl⟩
      obtain ⟨e0, e1, rfl⟩ : ∃ e0 e1, rl = [e0, e1] := by
        match rl, hrl with
        | [e0, e1], _ => exact ⟨e0, e1, rfl⟩
      obtain ⟨A0, ws0⟩ := e0
      obtain ⟨A1, ws1⟩ := e1
      obtain ⟨hRl, hRe⟩ := hR2
      obtain ⟨h0, _, _, c1, c2, w0⟩ := hRe (A0, ws0) (by simp)
      obtain ⟨h1, _, _, d1, d2, w1⟩ := hRe (A1, ws1) (by simp)
      replace hRl : H2 R = some (.lst [.ref A0, .ref A1]) := hRl
      replace h0 : H2 A0 = some (.lst (txts ws0)) := h0
      replace h1 : H2 A1 = some (.lst (txts ws1)) := h1
      replace c1 : 1 ≤ ws0.length := c1
      replace c2 : ws0.length ≤ 40 := c2
      replace d1 : 1 ≤ ws1.length := d1
      replace d2 : ws1.length ≤ 40 := d2
      replace w0 : ∀ u ∈ ws0, Word sg u := w0
      replace w1 : ∀ u ∈ ws1, Word sg u := w1
      have i0 : atI ([.ref A0, .ref A1] : List V) 0 = some (.ref A0) := rfl
      have i1 : atI ([.ref A0, .ref A1] : List V) 1 = some (.ref A1) := rfl
      have wAll : ∀ u ∈ ws0 ++ ws1, Word sg u := fun u hu => (List.mem_append.mp hu).elim (w0 u) (w1 u)
      refine ⟨_, rfl, R, _, _, _, rfl, rfl, SqL.of hRl, i0, _, rfl, R, _, _, _, rfl, rfl, SqL.of hRl, i1, A0, A1, _, _, rfl, rfl, h0, h1, le_size (by rw [txts_len, txts_len]; omega), fun C hC => ?_⟩
      have sC : Same H2 (upd H2 C (.lst (txts ws0 ++ txts ws1))) := Same.new _ hC
      have gC : upd H2 C (.lst (txts ws0 ++ txts ws1)) C = some (.lst (txts (ws0 ++ ws1))) := by rw [upd_same, txts_cat]
      generalize upd H2 C (.lst (txts ws0 ++ txts ws1)) = H3 at *
      refine ⟨C, rfl, ⟨_, SqL.of gC⟩, fun D hD => lc_list (K := K) (a := C) (xs := txts (ws0 ++ ws1)) (fun i H' => ∃ us : List V, H' D = some (.lst us) ∧ Rws H' us ((ws0 ++ ws1).take i) ∧ Same H3 H') ⟨[], upd_same, .nil _, Same.new _ hD⟩ (fun i H' _ ⟨_, _, _, sm⟩ => SqL.of (sm _ _ gC)) ?_ ?_⟩
      · rintro i y H4 hy ⟨us, hDl, hRw, sm⟩
        obtain ⟨u, hu, rfl⟩ := txt_at hy
        have hul := (wAll u (List.mem_of_getElem? hu)).2.1
        have et : (ws0 ++ ws1).take (i + 1) = (ws0 ++ ws1).take i ++ [u] := by rw [List.take_add_one, hu]; rfl
        refine ⟨rfl, _, rfl, _, rfl, le_size (by rw [SX.S_len]; omega), _, rfl, le_size (by simp), fun t ht => ?_⟩
        rw [SX.S_len]
        have st : Same H4 (upd H4 t (rowHO u)) := Same.new _ ht
        have hD5 := st _ _ hDl
        have hl : us.length ≤ 80 := by
          rw [hRw.1, List.length_take, List.length_append]
          omega
        refine ⟨_, hD5, lt_size (by omega), us ++ [.ref t], upd_same, ?_, (sm.trans st).updNew hD⟩
        rw [et]
        exact ((hRw.same st).snoc upd_same).updL hD5
      · rintro H4 ⟨us, hDl, hRw, sm⟩
        rw [txts_len, List.take_length] at hRw
        refine ⟨D, us, cellsAt H4, true, [false], rfl, SqL.of hDl, fun x hx => ?_, fun ys pp hs hpm hp0 => ?_⟩
        · obtain ⟨u, t, _, rfl, ht⟩ := hRw.mem hx
          exact ⟨t, rfl, by rw [cellsAt_row ht]; exact SqT.of ht, by rw [cellsAt_row ht]; rfl⟩
        · obtain ⟨gs, hG, hsf, hgp⟩ := hRw.sorted hs hpm
          have sp : Same H4 (upd H4 pp (.lst ys)) := Same.new _ hp0
          have gp : upd H4 pp (.lst ys) pp = some (.lst ys) := upd_same
          have hG5 := hG.same sp
          have s5 := (sC.trans sm).trans sp
          have gl := hgp.length_eq
          rw [List.length_append] at gl
          generalize upd H4 pp (.lst ys) = H5 at *
          refine ⟨pp, rfl, ⟨_, SqL.of gp⟩, fun D2 hD2 => lc_list (K := K) (a := pp) (xs := ys) (fun i H' => H' D2 = some (.lst (txts (gs.take i))) ∧ Same H5 H') ⟨upd_same, Same.new _ hD2⟩ (fun i H' _ ⟨_, sm⟩ => SqL.of (sm _ _ gp)) ?_ ?_⟩
          · rintro i y H6 hy ⟨hDl, sm⟩
            have hi : i < gs.length := by rw [← hG5.1]; exact (List.getElem?_eq_some_iff.mp hy).1
            have hg : gs[i]? = some gs[i] := List.getElem?_eq_getElem hi
            obtain ⟨t, ht1, ht2⟩ := hG5.2 i _ hg
            rw [ht1] at hy
            cases hy
            refine ⟨rfl, _, rfl, t, _, _, _, rfl, rfl, SqT.of (sm _ _ ht2), rfl, _, hDl, lt_size (by rw [txts_len, List.length_take]; omega), ?_, sm.updNew hD2⟩
            rw [upd_same, List.take_add_one, hg, ← txts_cat]
            rfl
          · rintro H6 ⟨hD6, s6⟩
            rw [hG5.1, List.take_length] at hD6
            have s26 := s5.trans s6
            have gw : ∀ u, u ∈ gs ↔ u ∈ ws0 ∨ u ∈ ws1 := fun u => by rw [hgp.mem_iff, List.mem_append]
            have X6 : Ex p H H6 := x2.trans (Same.ex s26)
            have st6 := st2.same s26
            have hR6 := s26 _ _ hRl
            have h06 := s26 _ _ h0
            have h16 := s26 _ _ h1
            clear gp hG5 hG hs hpm hp0 hRw hDl sm sp s5
            refine ⟨D2, rfl, ⟨_, SqL.of hD6⟩, for_list (K := K) (a := D2) (xs := txts gs) (fun i σ H' => ∃ (o : Option (List Nat)) (v10 : Option V), σ = [some (.ref a), some (.ref p), some (.str (SX.S sg)), some (.ref q), some (.ref R), v5, v6, v7, v8, some (TxO.vOf o), v10, none, none, none] ∧ TxO.Fst ws0 ws1 (gs.take i) o ∧ Same H6 H') ?_ ?_ ?_ ?_⟩
            · exact ⟨none, none, rfl, TxO.Fst.nil _ _, Same.refl _⟩
            · rintro i σ H7 _ ⟨o, v10, rfl, _, sm⟩
              exact SqL.of (sm _ _ hD6)
            · rintro i y σ H7 hy ⟨o, v10, rfl, hF, sm⟩
              obtain ⟨u, hu, rfl⟩ := txt_at hy
              have hug := (gw u).mp (List.mem_of_getElem? hu)
              have huw : Word sg u := hug.elim (w0 u) (w1 u)
              refine ⟨_, rfl, rfl, _, rfl, ?_⟩
              refine ite2 (fun c => ?_) (fun c => ⟨o, _, rfl, hF.keep hsf hu (.inl fun z => c (by rw [z]; rfl)), sm⟩)
              have eo : o = none := by
                cases o with
                | none => rfl
                | some z => exact absurd (of_decide_eq_true c) (fun z => nomatch z)
              subst eo
              refine ⟨_, rfl, R, _, _, _, rfl, rfl, SqL.of (sm _ _ hR6), i0, _, rfl, A0, ws0, u, rfl, sm _ _ h06, by omega, fun v hv => ⟨(w0 v hv).1, by have := (w0 v hv).2.1; omega⟩, by have := huw.2.1; omega, fun H8 b s8 hb => ⟨_, _, rfl, rfl, ?_⟩⟩
              have s68 := sm.trans s8
              refine ⟨_, rfl, R, _, _, _, rfl, rfl, SqL.of (s68 _ _ hR6), i1, _, rfl, A1, ws1, u, rfl, s68 _ _ h16, by omega, fun v hv => ⟨(w1 v hv).1, by have := (w1 v hv).2.1; omega⟩, by have := huw.2.1; omega, fun H9 b' s9 hb' => ⟨_, _, rfl, rfl, rfl, _, rfl, ?_⟩⟩
              have s69 := s68.trans s9
              have dd := df_iff (back_zero hb (nonempty_of w0)).2 (back_zero hb' (nonempty_of w1)).2
              refine ite2 (fun d => ?_) (fun d => ?_)
              · exact ⟨_, rfl, some u, _, rfl, hF.new hu (dd.mp d), s69⟩
              · exact ⟨none, _, rfl, hF.keep hsf hu (.inr fun z => d (dd.mpr z)), s69⟩
            · rintro σ H7 ⟨o, v10, rfl, hF, sm⟩
              rw [txts_len, List.take_length] at hF
              have hR7 := sm _ _ hR6
              have h07 := sm _ _ h06
              have h17 := sm _ _ h16
              refine ⟨_, rfl, _, rfl, R, _, _, _, rfl, rfl, SqL.of hR7, i0, A0, sg, ws0, rfl, .inl h07, hsg, c1, by omega, w0, fun H8 b us s8 hb0 hL => ?_⟩
              refine ⟨_, rfl, _, rfl, R, _, _, _, rfl, rfl, SqL.of (s8 _ _ hR7), i1, A1, sg, ws1, rfl, .inl (s8 _ _ h17), hsg, d1, by omega, w1, fun H9 b' us' s9 hb0' hL' => ?_⟩
              refine ⟨b, b', sg, us, us', ws0, ws1, rfl, hL.same s9, hL', fun H10 v s10 hSR => ?_⟩
              obtain ⟨rfl, _⟩ := TxO.same_first (nonempty_of w0) (nonempty_of w1) hSR (fun y hy => (gw y).mpr hy) hF
              refine ⟨_, rfl, o, rfl, ?_⟩
              have s710 := (s8.trans s9).trans s10
              exact k H10 (X6.trans (Same.ex (sm.trans s710))) ((st6.same sm).same s710)
end
end J


set_option Elab.async false
set_option linter.all false
set_option maxRecDepth 100000
set_option maxHeartbeats 4000000
namespace J
open PySem L2
theorem signs5 {v : V} (h : v ∈ ([.str "ab", .str "ab", .str "abc", .str "a", .str "xz"] : List V)) : ∃ sg, v = .str (SX.S sg) ∧ Signs sg := by
  simp only [List.mem_cons, List.not_mem_nil, or_false] at h
  rcases h with rfl | rfl | rfl | rfl | rfl
  · exact ⟨[97, 98], rfl, by decide⟩
  · exact ⟨[97, 98], rfl, by decide⟩
  · exact ⟨[97, 98, 99], rfl, by decide⟩
  · exact ⟨[97], rfl, by decide⟩
  · exact ⟨[120, 122], rfl, by decide⟩
theorem same_self {ws : List (List Nat)} {v : V} (h : TxO.SameR ws ws v) : v = .non := by
  obtain ⟨bs, cs, B, C, h⟩ := h
  rcases h with ⟨rfl, _⟩ | ⟨z, _, ne, _⟩
  · rfl
  · exact absurd (TxO.sf_mem B.1 C.1 B.2.1 C.2.1 fun u => (B.2.2 u).trans (C.2.2 u).symm) ne
def spLaw (K : PySem.W.Frag) : Sp := fun vs H Q _ => ∃ (a : Addr) (ns : List Int), vs = [.ref a] ∧ SqL K H a (ns.map V.int) ∧ ns.length ≤ 63 ∧ ∀ H', Q (.bl true) H'
section
variable {P : Program} {w : World} {K : PySem.W.Frag} {mg : Str → Option Value} {base : Heap}
theorem ok_law (T : Tx K mg) : FnOk P w K mg base CX0 8 T.f_law T.fd_law P_law (spLaw K) := by
  refine T.F_law.ok sc_law (fun vs H Q E h => ?_) (fun cdv A outer s H vs Q E hr h => ?_)
  · obtain ⟨a, ns, rfl, _⟩ := h
    rfl
  · obtain ⟨a, ns, rfl, hS, hlen, k⟩ := h
    have G_l_take : FnOk P w K mg base CX0 1 T.f_l_take T.fd_l_take P_l_take (spTake K ns) := ok_l_take T ns
    have G_l_words : FnOk P w K mg base CX0 3 T.f_l_words T.fd_l_words P_l_words (spWords K ns) := ok_l_words T ns
    have G_l_beside : FnOk P w K mg base CX0 4 T.f_l_beside T.fd_l_beside P_l_beside (spBeside K ns) := ok_l_beside T ns
    have G_l_texts : FnOk P w K mg base CX0 1 T.f_l_texts T.fd_l_texts P_l_texts spTexts := ok_l_texts T
    have G_l_count : FnOk P w K mg base CX0 1 T.f_l_count T.fd_l_count P_l_count spLCount := ok_l_count T
    have G_l_like : FnOk P w K mg base CX0 2 T.f_l_like T.fd_l_like P_l_like spLikeO := ok_l_likeO T
    have G_l_far_right : FnOk P w K mg base CX0 7 T.f_l_far_right T.fd_l_far_right P_l_far_right (spFar K ns) := ok_l_far_right T ns
    have G_book : FnOk P w K mg base CX0 6 T.f_book T.fd_book P_book (spBook T.C_Loom) := ok_book T
    have G_same_texts : FnOk P w K mg base CX0 5 T.f_same_texts T.fd_same_texts P_same_texts (spSameB T.C_Loom) := ok_same_texts T
    have KB_same_texts_one_other : KBn K T.fd_same_texts P_same_texts 0 ["one", "other"] (fun _ ws => ws) (fun _ zs => zs) :=
      T.F_same_texts.kbinds (fun x => x) (fun _ _ _ _ _ _ ws hl => match ws, hl with | [_, _], _ => rfl) (fun h => h)
    refine ⟨_, (pss_cons (ps_set (i := 1) sc_law.nd rfl (Or.inr rfl) (pe_lst (pa_cons pe_int (pa_cons pe_int (pa_cons pe_int (pa_cons pe_int pa_nil))))))
        (pss_cons (ps_for PassesOwn.never rfl (pi_range1 rfl T.n_range (pa_cons pe_int pa_nil)) (pg_name (i := 2) sc_law.nd rfl (Or.inl rfl)) (pss_cons (ps_set (i := 3) sc_law.nd rfl (Or.inl rfl) (pe_ix (ix_listK (K := K) rfl) (pe_lst (pa_cons pe_str (pa_cons pe_str (pa_cons pe_str (pa_cons pe_str (pa_cons pe_str pa_nil)))))) (pe_call G_l_take (hr.mono (by decide)) rfl T.m_l_take T.F_l_take.kp T.b_l_take .nil pass0 (pa_cons (pv 0) (pa_cons (pv 1) (pa_cons pe_int pa_nil)))) (fun _ _ => rfl)))
        (pss_cons (ps_set (i := 4) sc_law.nd rfl (Or.inr rfl) (pe_call G_l_words (hr.mono (by decide)) rfl T.m_l_words T.F_l_words.kp T.b_l_words .nil pass0 (pa_cons (pv 0) (pa_cons (pv 1) (pa_cons (pv 3) (pa_cons pe_int (pa_cons pe_int pa_nil)))))))
        (pss_cons (ps_set (i := 5) sc_law.nd rfl (Or.inl rfl) (pe_call G_l_beside (hr.mono (by decide)) rfl T.m_l_beside T.F_l_beside.kp T.b_l_beside .nil pass0 (pa_cons (pv 0) (pa_cons (pv 1) (pa_cons (pv 3) (pa_cons (pv 4) pa_nil))))))
        (pss_cons (ps_par (i := 6) (j := 7) (by rfl) sc_law.nd rfl rfl (by decide) rfl rfl (pa_cons (pe_call G_book (hr.mono (by decide)) rfl T.m_book T.F_book.kp T.b_book .nil pass0 (pa_cons (pv 3) (pa_cons (pv 4) pa_nil))) (pa_cons (pe_call G_book (hr.mono (by decide)) rfl T.m_book T.F_book.kp T.b_book .nil pass0 (pa_cons (pv 3) (pa_cons (pv 5) pa_nil))) pa_nil)) (by rfl))
        (pss_cons (ps_set (i := 8) sc_law.nd rfl (Or.inl rfl) pe_non)
        (pss_cons (ps_for PassesOwn.never rfl (pi_list (pe_call G_l_texts (hr.mono (by decide)) rfl T.m_l_texts T.F_l_texts.kp T.b_l_texts .nil pass0 (pa_cons (pv 3) (pa_cons pe_int pa_nil)))) (pg_name (i := 9) sc_law.nd rfl (Or.inl rfl)) (pss_one (ps_if (PW.pt (pw_and (pt_cmpR op_isN (pv 8) pe_non (nomark _)) (pw_and (pt_cmpR op_ne (pv 9) pe_str (nomark _)) (pw_and1 (pt_cmpR op_ne (pe_cmpR op_gt (pe_call G_l_count (hr.mono (by decide)) rfl T.m_l_count T.F_l_count.kp T.b_l_count .nil pass0 (pa_cons (pv 4) (pa_cons (pv 9) pa_nil))) pe_int (nomark _)) (pe_cmpR op_gt (pe_call G_l_count (hr.mono (by decide)) rfl T.m_l_count T.F_l_count.kp T.b_l_count .nil pass0 (pa_cons (pv 5) (pa_cons (pv 9) pa_nil))) pe_int (nomark _)) (nomark _)))))) (pss_one (ps_set (i := 8) sc_law.nd rfl (Or.inl rfl) (pv 9))) pss_nil)))
        (pss_cons (ps_if (PW.pt (pw_or (pt_not (pt_val (pe_call G_l_like (hr.mono (by decide)) rfl T.m_l_like T.F_l_like.kp T.b_l_like .nil pass0 (pa_cons (pe_call G_same_texts (hr.mono (by decide)) rfl T.m_same_texts T.F_same_texts.kp T.b_same_texts .nil pass0 (pa_cons (pv 6) (pa_cons (pv 7) pa_nil))) (pa_cons (pv 8) pa_nil))))) (pw_or1 (pt_not (pt_val (pe_call G_l_like (hr.mono (by decide)) rfl T.m_l_like T.F_l_like.kp T.b_l_like .nil pass0 (pa_cons (pe_callN0 G_same_texts (hr.mono (by decide)) rfl T.m_same_texts T.F_same_texts.kp KB_same_texts_one_other pass0 (pk_cons (pv 7) (pk_cons (pv 6) pk_nil))) (pa_cons (pv 8) pa_nil)))))))) (pss_one (ps_ret pe_bl)) pss_nil)
        (pss_cons (ps_if (PW.pt (pw_or (pt_cmpR op_notN (pe_call G_same_texts (hr.mono (by decide)) rfl T.m_same_texts T.F_same_texts.kp T.b_same_texts .nil pass0 (pa_cons (pv 6) (pa_cons (pv 6) pa_nil))) pe_non (nomark _)) (pw_or1 (pt_not (pt_val (pe_call G_l_far_right (hr.mono (by decide)) rfl T.m_l_far_right T.F_l_far_right.kp T.b_l_far_right .nil pass0 (pa_cons (pv 0) (pa_cons (pv 1) (pa_cons (pv 3) (pa_cons (pv 4) pa_nil)))))))))) (pss_one (ps_ret pe_bl)) pss_nil)
        (pss_one (ps_for PassesOwn.never rfl (pi_range1 rfl T.n_range (pa_cons pe_int pa_nil)) (pg_name (i := 10) sc_law.nd rfl (Or.inl rfl)) (pss_cons (ps_set (i := 9) sc_law.nd rfl (Or.inl rfl) (pe_join pe_str (pe_lc (own := [("_law_j", 11)]) (g := (gName 11)) rfl sc_law.nd (pi_range1 rfl T.n_range (pa_cons pe_int pa_nil)) (blkOk_by (N := N_law) (sc := defScope s_law) (by decide +kernel)) (fun _ _ _ _ _ => (pg_name (i := 11) sc_law.nd rfl (Or.inl rfl))) (fun _ _ _ _ _ => pts_nil) (fun _ _ _ _ _ => (pe_ix (ix_listK (K := K) rfl) (pv 4) (pe_call G_l_take (hr.mono (by decide)) rfl T.m_l_take T.F_l_take.kp T.b_l_take .nil pass0 (pa_cons (pv 0) (pa_cons (pv 1) (pa_cons (pe_callB (call_len_seqK (K := K) rfl) rfl T.n_len (by decide +kernel) (pa_cons (pv 4) pa_nil)) pa_nil)))) (fun _ _ => rfl))))))
        (pss_one (ps_if (PW.pt (pw_and (pt_cmpR op_isN (pv 8) pe_non (nomark _)) (pw_and1 (pt_cmpR op_eq (pe_call G_l_count (hr.mono (by decide)) rfl T.m_l_count T.F_l_count.kp T.b_l_count .nil pass0 (pa_cons (pv 5) (pa_cons (pv 9) pa_nil))) pe_int (nomark _))))) (pss_one (ps_ret pe_bl)) pss_nil))))))))))))))
        (pss_one (ps_ret pe_bl)))), ?_⟩
    refine ⟨le_size (by simp), fun p hp => ?_⟩
    have st0 : St K ns a (upd H p (.lst [.int 0, .int 0, .int 0, .int 0])) p := ⟨⟨0, 0, 0, 0, upd_same, Int.le_refl _⟩, (Scr.mk hS hp).ex (Ex.new _ hp)⟩
    generalize upd H p (.lst [.int 0, .int 0, .int 0, .int 0]) = H1 at *
    refine ⟨4, rfl, by decide, by decide, for_range (lo := 0) (n := 4) (fun i σ H' => ∃ v2 v3 v4 v5 v6 v7 v8 v9 v10 : Option V, σ = [some (.ref a), some (.ref p), v2, v3, v4, v5, v6, v7, v8, v9, v10, none] ∧ St K ns a H' p) ?_ ?_ ?_⟩
    · exact ⟨none, none, none, none, none, none, none, none, none, rfl, st0⟩
    · rintro i σ H2 hi ⟨v2, v3, v4, v5, v6, v7, v8, v9, v10, rfl, st2⟩
      refine ⟨le_size (by simp), fun l hl => ?_⟩
      have nl := st2.ne hl
      refine ⟨_, rfl, _, rfl, a, p, 5, rfl, st2.same (Same.new _ hl), by decide, by decide, fun H3 r3 x3 st3 r30 r31 => ?_⟩
      obtain ⟨v, hv, hat⟩ := atI_mem (xs := ([.str "ab", .str "ab", .str "abc", .str "a", .str "xz"] : List V)) r30 (by simpa using r31)
      obtain ⟨sg, rfl, hsg⟩ := signs5 hv
      refine ⟨l, _, _, _, rfl, rfl, SqL.of (x3 _ _ nl upd_same), hat, ?_⟩
      refine ⟨_, rfl, _, rfl, _, rfl, a, p, sg, 4, 4, rfl, st3, hsg, by decide, by decide, by decide, by decide, fun H4 q ws x4 st4 hq0 nqp hq hws0 l1 l2 => ?_⟩
      have l2' : ws.length ≤ 4 := by omega
      have hws : ∀ u ∈ ws, WordL sg 4 u := fun u hu => wordL_of (hws0 u hu)
      have hww : ∀ u ∈ ws, Word sg u := fun u hu => (hws0 u hu).1
      clear hws0
      refine ⟨_, rfl, _, rfl, _, rfl, _, rfl, a, p, q, sg, ws, rfl, st4, nqp, hq, hsg, hws, l1, l2', fun H5 r vs x5 st5 hr0 nrp hr m1 m2 hvs => ?_⟩
      have hvw : ∀ u ∈ vs, Word sg u := fun u hu => (hvs u hu).word (by decide)
      have hq5 := x5 _ _ nqp hq
      refine ⟨_, rfl, _, rfl, q, sg, ws, rfl, .inl hq5, hsg, l1, by omega, hww, fun H6 b us s6 hb0 hL6 => ?_⟩
      refine ⟨_, rfl, _, rfl, r, sg, vs, rfl, .inl (s6 _ _ hr), hsg, m1, by omega, hvw, fun H7 b' us' s7 hb0' hL7' => ?_⟩
      refine ⟨_, _, rfl, ?_⟩
      have hL7 := hL6.same s7
      have s57 := s6.trans s7
      have hq7 := s57 _ _ hq5
      have hr7 := s57 _ _ hr
      have st7 := st5.same s57
      refine ⟨_, rfl, sg, rfl, hsg, fun H8 D s8 hD0 hD => ⟨D, rfl, ⟨_, SqL.of hD⟩, for_list (K := K) (a := D) (xs := txts (TxO.fnd sg 4)) (fun j σ H' => ∃ (o : Option (List Nat)) (v9 : Option V), σ = [some (.ref a), some (.ref p), some (.int (0 + (i : Int))), some (.str (SX.S sg)), some (.ref q), some (.ref r), some (.ref b), some (.ref b'), some (TxO.vOf o), v9, v10, none] ∧ TxO.Fst ws vs ((TxO.fnd sg 4).take j) o ∧ Same H8 H') ?_ ?_ ?_ ?_⟩⟩
      · exact ⟨none, v9, rfl, TxO.Fst.nil _ _, Same.refl _⟩
      · rintro j σ H9 _ ⟨o, v9, rfl, _, sm⟩
        exact SqL.of (sm _ _ hD)
      · rintro j y σ H9 hy ⟨o, v9, rfl, hF, sm⟩
        obtain ⟨u, hu, rfl⟩ := txt_at hy
        have hul := ((TxO.fnd_mem sg 4 u).mp (List.mem_of_getElem? hu)).1
        have hsf := TxO.fnd_sf hsg.2.2.2 4
        refine ⟨_, rfl, rfl, _, rfl, ?_⟩
        refine ite2 (fun c => ?_) (fun c => ⟨o, _, rfl, hF.keep hsf hu (.inl fun z => c (by rw [z]; rfl)), sm⟩)
        have eo : o = none := by
          cases o with
          | none => rfl
          | some z => exact absurd (of_decide_eq_true c) (fun z => nomatch z)
        subst eo
        refine ⟨_, rfl, rfl, _, rfl, ?_⟩
        refine ite2 (fun c => ?_) (fun c => ⟨none, _, rfl, hF.keep hsf hu (.inr fun z => ?_), sm⟩)
        · have hq9 := sm _ _ (s8 _ _ hq7)
          have hr9 := sm _ _ (s8 _ _ hr7)
          refine ⟨_, rfl, _, rfl, q, ws, u, rfl, hq9, by omega, fun x hx => ⟨(hws x hx).1, by have := (hws x hx).2.1; omega⟩, by omega, fun H10 n s10 hn => ⟨_, _, rfl, rfl, ?_⟩⟩
          refine ⟨_, rfl, _, rfl, r, vs, u, rfl, s10 _ _ hr9, by omega, fun x hx => ⟨(hvs x hx).1, by have := (hvs x hx).2.1; omega⟩, by omega, fun H11 n' s11 hn' => ⟨_, _, rfl, rfl, rfl, _, rfl, ?_⟩⟩
          have s12 := (sm.trans s10).trans s11
          have dd := df_iff (back_zero hn (nonempty_of hww)).2 (back_zero hn' (nonempty_of hvw)).2
          refine ite2 (fun d => ?_) (fun d => ?_)
          · exact ⟨_, rfl, some u, _, rfl, hF.new hu (dd.mp d), s12⟩
          · exact ⟨none, _, rfl, hF.keep hsf hu (.inr fun z => d (dd.mpr z)), s12⟩
        · have e : u = [] := by
            by_cases e : u = []
            · exact e
            · exfalso
              apply c
              rw [Bool.not_eq_true', decide_eq_false_iff_not]
              intro h
              injection h with h
              exact e (S_inj (v := []) h)
          subst e
          exact TxO.df_nil _ _ z
      · rintro σ H9 ⟨o, v9, rfl, hF, sm⟩
        rw [txts_len, List.take_length] at hF
        have inT : ∀ y, y ∈ ws ∨ y ∈ vs → y ∈ TxO.fnd sg 4 := fun y hy => (TxO.fnd_mem sg 4 y).mpr (hy.elim (fun h => (hws y h).2) fun h => (hvs y h).2)
        have hL9 := (hL7.same s8).same sm
        have hL9' := (hL7'.same s8).same sm
        have s79 := s8.trans sm
        refine ⟨_, rfl, _, rfl, b, b', sg, us, us', ws, vs, rfl, hL9, hL9', fun H10 v s10 hSR => ?_⟩
        obtain ⟨rfl, hno⟩ := TxO.same_first (nonempty_of hww) (nonempty_of hvw) hSR inT hF
        refine ⟨_, rfl, o, rfl, true, rfl, iteF ?_⟩
        refine ⟨_, rfl, _, rfl, rfl, rfl, b', b, sg, us', us, vs, ws, rfl, hL9'.same s10, hL9.same s10, fun H11 v s11 hSR' => ?_⟩
        obtain ⟨rfl, _⟩ := TxO.same_first (nonempty_of hvw) (nonempty_of hww) hSR' (fun y hy => inT y hy.symm) hF.symm
        refine ⟨_, rfl, o, rfl, true, rfl, iteF ?_⟩
        have s911 := s10.trans s11
        have hL11 := hL9.same s911
        refine ⟨_, rfl, _, rfl, b, b, sg, us, us, ws, ws, rfl, hL11, hL11, fun H12 v s12 hSR2 => ?_⟩
        obtain rfl := same_self hSR2
        refine ⟨rfl, false, rfl, iteF ?_⟩
        have s712 := (s79.trans s911).trans s12
        have st12 := st7.same s712
        have hq12 := s712 _ _ hq7
        have hr12 := s712 _ _ hr7
        refine ⟨_, rfl, _, rfl, _, rfl, _, rfl, a, p, q, sg, ws, rfl, st12, nqp, hq12, hsg, hws, l1, l2', fun H13 x13 st13 => ⟨true, rfl, iteF ?_⟩⟩
        have hq13 := x13 _ _ nqp hq12
        have hr13 := x13 _ _ nrp hr12
        refine ⟨3, rfl, by decide, by decide, for_range (lo := 0) (n := 3) (fun j σ H' => ∃ v9 v10 : Option V, σ = [some (.ref a), some (.ref p), some (.int (0 + (i : Int))), some (.str (SX.S sg)), some (.ref q), some (.ref r), some (.ref b), some (.ref b'), some (TxO.vOf o), v9, v10, none] ∧ Ex p H13 H' ∧ St K ns a H' p ∧ H' q = some (.lst (txts ws)) ∧ H' r = some (.lst (txts vs))) ?_ ?_ ?_⟩
        · exact ⟨_, _, rfl, Ex.refl _ _, st13, hq13, hr13⟩
        · rintro j σ H14 hj ⟨v9, v10, rfl, x14, st14, hq14, hr14⟩
          refine ⟨⟨_, rfl⟩, 4, rfl, by decide, by decide, fun D hD => lc_range (lo := 0) (n := 4) (fun m H' => ∃ us : List (List Nat), us.length = m ∧ (∀ u ∈ us, u ∈ ws) ∧ H' D = some (.lst (txts us)) ∧ Ex p H14 H' ∧ St K ns a H' p) ?_ ?_ ?_⟩
          · exact ⟨[], rfl, fun _ h => (nomatch h), upd_same, Ex.new _ hD, st14.same (Same.new _ hD)⟩
          · rintro m H15 hm ⟨us, rfl, hu, hDl, x15, st15⟩
            have nD := st14.ne hD
            have hq15 := x15 _ _ nqp hq14
            refine ⟨rfl, _, rfl, _, rfl, _, rfl, _, rfl, q, _, rfl, .inl (SqL.of hq15), a, p, _, rfl, st15, by rw [txts_len]; omega, by rw [txts_len]; omega, fun H16 r6 x16 st16 r60 r61 => ?_⟩
            obtain ⟨u, huw, hat⟩ := at_txt r60 r61
            refine ⟨q, _, _, _, rfl, rfl, SqL.of (x16 _ _ nqp hq15), hat, ?_⟩
            refine ⟨_, x16 _ _ nD hDl, lt_size (by rw [txts_len]; omega), us ++ [u], by simp, ?_, by rw [upd_same, ← txts_cat]; rfl, (x15.trans x16).updNew hD, st14.upd st16 ((x15.trans x16).updNew hD) nD⟩
            intro d hd
            rcases List.mem_append.mp hd with h | h
            · exact hu d h
            · rw [List.mem_singleton.mp h]; exact huw
          · rintro H15 ⟨us, hul, hu, hDl, x15, st15⟩
            have fl := flatL (ls := us) (k := 4) fun u hu2 => (hws u (hu u hu2)).2.1
            have hul4 : us.length = 4 := hul
            refine ⟨_, _, us.map SX.S, rfl, rfl, .inl (by rw [txts_S]; exact SqL.of hDl), ?_, ?_⟩
            · rw [sumF, emptyS, SX.S_len, List.length_nil, Nat.mul_zero, Nat.add_zero]
              exact le_size (by omega)
            rw [emptyS, join_flat]
            have hWr : TxO.Wr ws us.flatten := ⟨us, hu, rfl⟩
            have hr15 := x15 _ _ nrp hr14
            have hq15 := x15 _ _ nqp hq14
            have x1315 := x14.trans x15
            refine ⟨_, rfl, rfl, _, rfl, ?_⟩
            refine ite2 (fun c => ?_) (fun c => ⟨_, _, rfl, x1315, st15, hq15, hr15⟩)
            have eo : o = none := by
              cases o with
              | none => rfl
              | some z => exact absurd (of_decide_eq_true c) (fun z => nomatch z)
            subst eo
            have hWv := hno rfl _ hWr
            refine ⟨_, rfl, _, rfl, r, vs, us.flatten, rfl, hr15, by omega, fun x hx => ⟨(hvs x hx).1, by have := (hvs x hx).2.1; omega⟩, by omega, fun H16 n s16 hn => ⟨rfl, false, congrArg V.bl (decide_eq_false fun z => ?_), iteF ?_⟩⟩
            · injection z with z
              have := (back_zero hn (nonempty_of hvw)).2.mpr hWv
              omega
            · exact ⟨_, _, rfl, x1315.trans (Same.ex s16), st15.same s16, s16 _ _ hq15, s16 _ _ hr15⟩
        · rintro σ H14 ⟨v9, v10, rfl, x14, st14, _, _⟩
          exact ⟨_, _, _, _, _, _, _, _, _, rfl, st14⟩
    · rintro σ H2 ⟨v2, v3, v4, v5, v6, v7, v8, v9, v10, rfl, st2⟩
      exact k _
end
end J


set_option Elab.async false
set_option linter.all false
set_option maxRecDepth 100000
set_option maxHeartbeats 4000000
namespace J
open PySem L2
theorem all_mk {l : PySem.W.OpenLaw} {w : World} {K : PySem.W.Frag} {h : Heap} {mg : Str → Option Value} {fa f_InvalidLoom_init f_is_number f_is_sequence f_is_signs f_is_string_over f_is_word f_check_signs f_is_arc f_Loom_init f_Loom_eq f_shorter_first f_book f_is_book f_check_book f_words f_check_alike f_is_written f_base f_same_texts f_l_take f_l_like f_l_word f_l_words f_l_shuffled f_l_texts f_l_count f_l_beside f_l_far_right f_law C_InvalidLoom C_Loom : Addr} (X : K.In h) (G : h.Ns mainGlobals mg) (hfa : mg "law" = some (.ref fa))
    {od_InvalidLoom_init an_InvalidLoom_init : Option Addr} {sl_InvalidLoom_init : Array (Option Value)} {oc_InvalidLoom_init kV_InvalidLoom_init dc_InvalidLoom_init pm_InvalidLoom_init cd_InvalidLoom_init ct_InvalidLoom_init : Value}
    {od_is_number an_is_number : Option Addr} {sl_is_number : Array (Option Value)} {oc_is_number kV_is_number dc_is_number pm_is_number cd_is_number ct_is_number : Value}
    {od_is_sequence an_is_sequence : Option Addr} {sl_is_sequence : Array (Option Value)} {oc_is_sequence kV_is_sequence dc_is_sequence pm_is_sequence cd_is_sequence ct_is_sequence : Value}
    {od_is_signs an_is_signs : Option Addr} {sl_is_signs : Array (Option Value)} {oc_is_signs kV_is_signs dc_is_signs pm_is_signs cd_is_signs ct_is_signs : Value}
    {od_is_string_over an_is_string_over : Option Addr} {sl_is_string_over : Array (Option Value)} {oc_is_string_over kV_is_string_over dc_is_string_over pm_is_string_over cd_is_string_over ct_is_string_over : Value}
    {od_is_word an_is_word : Option Addr} {sl_is_word : Array (Option Value)} {oc_is_word kV_is_word dc_is_word pm_is_word cd_is_word ct_is_word : Value}
    {od_check_signs an_check_signs : Option Addr} {sl_check_signs : Array (Option Value)} {oc_check_signs kV_check_signs dc_check_signs pm_check_signs cd_check_signs ct_check_signs : Value}
    {od_is_arc an_is_arc : Option Addr} {sl_is_arc : Array (Option Value)} {oc_is_arc kV_is_arc dc_is_arc pm_is_arc cd_is_arc ct_is_arc : Value}
    {od_Loom_init an_Loom_init : Option Addr} {sl_Loom_init : Array (Option Value)} {oc_Loom_init kV_Loom_init dc_Loom_init pm_Loom_init cd_Loom_init ct_Loom_init : Value}
    {od_Loom_eq an_Loom_eq : Option Addr} {sl_Loom_eq : Array (Option Value)} {oc_Loom_eq kV_Loom_eq dc_Loom_eq pm_Loom_eq cd_Loom_eq ct_Loom_eq : Value}
    {od_shorter_first an_shorter_first : Option Addr} {sl_shorter_first : Array (Option Value)} {oc_shorter_first kV_shorter_first dc_shorter_first pm_shorter_first cd_shorter_first ct_shorter_first : Value}
    {od_book an_book : Option Addr} {sl_book : Array (Option Value)} {oc_book kV_book dc_book pm_book cd_book ct_book : Value}
    {od_is_book an_is_book : Option Addr} {sl_is_book : Array (Option Value)} {oc_is_book kV_is_book dc_is_book pm_is_book cd_is_book ct_is_book : Value}
    {od_check_book an_check_book : Option Addr} {sl_check_book : Array (Option Value)} {oc_check_book kV_check_book dc_check_book pm_check_book cd_check_book ct_check_book : Value}
    {od_words an_words : Option Addr} {sl_words : Array (Option Value)} {oc_words kV_words dc_words pm_words cd_words ct_words : Value}
    {od_check_alike an_check_alike : Option Addr} {sl_check_alike : Array (Option Value)} {oc_check_alike kV_check_alike dc_check_alike pm_check_alike cd_check_alike ct_check_alike : Value}
    {od_is_written an_is_written : Option Addr} {sl_is_written : Array (Option Value)} {oc_is_written kV_is_written dc_is_written pm_is_written cd_is_written ct_is_written : Value}
    {od_base an_base : Option Addr} {sl_base : Array (Option Value)} {oc_base kV_base dc_base pm_base cd_base ct_base : Value}
    {od_same_texts an_same_texts : Option Addr} {sl_same_texts : Array (Option Value)} {oc_same_texts kV_same_texts dc_same_texts pm_same_texts cd_same_texts ct_same_texts : Value}
    {od_l_take an_l_take : Option Addr} {sl_l_take : Array (Option Value)} {oc_l_take kV_l_take dc_l_take pm_l_take cd_l_take ct_l_take : Value}
    {od_l_like an_l_like : Option Addr} {sl_l_like : Array (Option Value)} {oc_l_like kV_l_like dc_l_like pm_l_like cd_l_like ct_l_like : Value}
    {od_l_word an_l_word : Option Addr} {sl_l_word : Array (Option Value)} {oc_l_word kV_l_word dc_l_word pm_l_word cd_l_word ct_l_word : Value}
    {od_l_words an_l_words : Option Addr} {sl_l_words : Array (Option Value)} {oc_l_words kV_l_words dc_l_words pm_l_words cd_l_words ct_l_words : Value}
    {od_l_shuffled an_l_shuffled : Option Addr} {sl_l_shuffled : Array (Option Value)} {oc_l_shuffled kV_l_shuffled dc_l_shuffled pm_l_shuffled cd_l_shuffled ct_l_shuffled : Value}
    {od_l_texts an_l_texts : Option Addr} {sl_l_texts : Array (Option Value)} {oc_l_texts kV_l_texts dc_l_texts pm_l_texts cd_l_texts ct_l_texts : Value}
    {od_l_count an_l_count : Option Addr} {sl_l_count : Array (Option Value)} {oc_l_count kV_l_count dc_l_count pm_l_count cd_l_count ct_l_count : Value}
    {od_l_beside an_l_beside : Option Addr} {sl_l_beside : Array (Option Value)} {oc_l_beside kV_l_beside dc_l_beside pm_l_beside cd_l_beside ct_l_beside : Value}
    {od_l_far_right an_l_far_right : Option Addr} {sl_l_far_right : Array (Option Value)} {oc_l_far_right kV_l_far_right dc_l_far_right pm_l_far_right cd_l_far_right ct_l_far_right : Value}
    {od_law an_law : Option Addr} {sl_law : Array (Option Value)} {oc_law kV_law dc_law pm_law cd_law ct_law : Value}
    {t_MOST_SIGNS : Tok}
    {t_LONGEST_WORD : Tok}
    {t_LAST_STATE : Tok}
    {t_MOST_ARCS : Tok}
    (a_CLoom : PySem.W.nsIn K mainGlobals "Loom" = some (some (.ref C_Loom)))
    (a_CInvalidLoom : PySem.W.nsIn K mainGlobals "InvalidLoom" = some (some (.ref C_InvalidLoom)))
    (a_InvalidLoom_init : PySem.W.findIn K (.ref C_InvalidLoom) "__init__" = some (some (.ref f_InvalidLoom_init)))
    (i_InvalidLoom_init : PySem.W.isFn K (.ref f_InvalidLoom_init) = true)
    (l_InvalidLoom_init : K.lookup f_InvalidLoom_init = some ⟨oc_InvalidLoom_init, od_InvalidLoom_init, .func (PySem.W.fnOf "__init__" "InvalidLoom.__init__" (defArgs s_InvalidLoom_init) (defBody s_InvalidLoom_init) (defScope s_InvalidLoom_init) .none kV_InvalidLoom_init dc_InvalidLoom_init pm_InvalidLoom_init an_InvalidLoom_init cd_InvalidLoom_init ct_InvalidLoom_init), sl_InvalidLoom_init⟩)
    (c_InvalidLoom_init : PySem.W.codeIn K cd_InvalidLoom_init "InvalidLoom.__init__" = true)
    (k_InvalidLoom_init : PySem.W.keepIn K (.ref f_InvalidLoom_init) = true)
    (a_is_number : PySem.W.nsIn K mainGlobals "is_number" = some (some (.ref f_is_number)))
    (l_is_number : K.lookup f_is_number = some ⟨oc_is_number, od_is_number, .func (PySem.W.fnOf "is_number" "is_number" (defArgs s_is_number) (defBody s_is_number) (defScope s_is_number) .none kV_is_number dc_is_number pm_is_number an_is_number cd_is_number ct_is_number), sl_is_number⟩)
    (c_is_number : PySem.W.codeIn K cd_is_number "is_number" = true)
    (k_is_number : PySem.W.keepIn K (.ref f_is_number) = true)
    (a_is_sequence : PySem.W.nsIn K mainGlobals "is_sequence" = some (some (.ref f_is_sequence)))
    (l_is_sequence : K.lookup f_is_sequence = some ⟨oc_is_sequence, od_is_sequence, .func (PySem.W.fnOf "is_sequence" "is_sequence" (defArgs s_is_sequence) (defBody s_is_sequence) (defScope s_is_sequence) .none kV_is_sequence dc_is_sequence pm_is_sequence an_is_sequence cd_is_sequence ct_is_sequence), sl_is_sequence⟩)
    (c_is_sequence : PySem.W.codeIn K cd_is_sequence "is_sequence" = true)
    (k_is_sequence : PySem.W.keepIn K (.ref f_is_sequence) = true)
    (a_is_signs : PySem.W.nsIn K mainGlobals "is_signs" = some (some (.ref f_is_signs)))
    (l_is_signs : K.lookup f_is_signs = some ⟨oc_is_signs, od_is_signs, .func (PySem.W.fnOf "is_signs" "is_signs" (defArgs s_is_signs) (defBody s_is_signs) (defScope s_is_signs) .none kV_is_signs dc_is_signs pm_is_signs an_is_signs cd_is_signs ct_is_signs), sl_is_signs⟩)
    (c_is_signs : PySem.W.codeIn K cd_is_signs "is_signs" = true)
    (k_is_signs : PySem.W.keepIn K (.ref f_is_signs) = true)
    (a_is_string_over : PySem.W.nsIn K mainGlobals "is_string_over" = some (some (.ref f_is_string_over)))
    (l_is_string_over : K.lookup f_is_string_over = some ⟨oc_is_string_over, od_is_string_over, .func (PySem.W.fnOf "is_string_over" "is_string_over" (defArgs s_is_string_over) (defBody s_is_string_over) (defScope s_is_string_over) .none kV_is_string_over dc_is_string_over pm_is_string_over an_is_string_over cd_is_string_over ct_is_string_over), sl_is_string_over⟩)
    (c_is_string_over : PySem.W.codeIn K cd_is_string_over "is_string_over" = true)
    (k_is_string_over : PySem.W.keepIn K (.ref f_is_string_over) = true)
    (a_is_word : PySem.W.nsIn K mainGlobals "is_word" = some (some (.ref f_is_word)))
    (l_is_word : K.lookup f_is_word = some ⟨oc_is_word, od_is_word, .func (PySem.W.fnOf "is_word" "is_word" (defArgs s_is_word) (defBody s_is_word) (defScope s_is_word) .none kV_is_word dc_is_word pm_is_word an_is_word cd_is_word ct_is_word), sl_is_word⟩)
    (c_is_word : PySem.W.codeIn K cd_is_word "is_word" = true)
    (k_is_word : PySem.W.keepIn K (.ref f_is_word) = true)
    (a_check_signs : PySem.W.nsIn K mainGlobals "check_signs" = some (some (.ref f_check_signs)))
    (l_check_signs : K.lookup f_check_signs = some ⟨oc_check_signs, od_check_signs, .func (PySem.W.fnOf "check_signs" "check_signs" (defArgs s_check_signs) (defBody s_check_signs) (defScope s_check_signs) .none kV_check_signs dc_check_signs pm_check_signs an_check_signs cd_check_signs ct_check_signs), sl_check_signs⟩)
    (c_check_signs : PySem.W.codeIn K cd_check_signs "check_signs" = true)
    (k_check_signs : PySem.W.keepIn K (.ref f_check_signs) = true)
    (a_is_arc : PySem.W.nsIn K mainGlobals "is_arc" = some (some (.ref f_is_arc)))
    (l_is_arc : K.lookup f_is_arc = some ⟨oc_is_arc, od_is_arc, .func (PySem.W.fnOf "is_arc" "is_arc" (defArgs s_is_arc) (defBody s_is_arc) (defScope s_is_arc) .none kV_is_arc dc_is_arc pm_is_arc an_is_arc cd_is_arc ct_is_arc), sl_is_arc⟩)
    (c_is_arc : PySem.W.codeIn K cd_is_arc "is_arc" = true)
    (k_is_arc : PySem.W.keepIn K (.ref f_is_arc) = true)
    (a_Loom_init : PySem.W.findIn K (.ref C_Loom) "__init__" = some (some (.ref f_Loom_init)))
    (i_Loom_init : PySem.W.isFn K (.ref f_Loom_init) = true)
    (l_Loom_init : K.lookup f_Loom_init = some ⟨oc_Loom_init, od_Loom_init, .func (PySem.W.fnOf "__init__" "Loom.__init__" (defArgs s_Loom_init) (defBody s_Loom_init) (defScope s_Loom_init) .none kV_Loom_init dc_Loom_init pm_Loom_init an_Loom_init cd_Loom_init ct_Loom_init), sl_Loom_init⟩)
    (c_Loom_init : PySem.W.codeIn K cd_Loom_init "Loom.__init__" = true)
    (k_Loom_init : PySem.W.keepIn K (.ref f_Loom_init) = true)
    (a_Loom_eq : PySem.W.findIn K (.ref C_Loom) "__eq__" = some (some (.ref f_Loom_eq)))
    (l_Loom_eq : K.lookup f_Loom_eq = some ⟨oc_Loom_eq, od_Loom_eq, .func (PySem.W.fnOf "__eq__" "Loom.__eq__" (defArgs s_Loom_eq) (defBody s_Loom_eq) (defScope s_Loom_eq) .none kV_Loom_eq dc_Loom_eq pm_Loom_eq an_Loom_eq cd_Loom_eq ct_Loom_eq), sl_Loom_eq⟩)
    (c_Loom_eq : PySem.W.codeIn K cd_Loom_eq "Loom.__eq__" = true)
    (k_Loom_eq : PySem.W.keepIn K (.ref f_Loom_eq) = true)
    (a_shorter_first : PySem.W.nsIn K mainGlobals "shorter_first" = some (some (.ref f_shorter_first)))
    (l_shorter_first : K.lookup f_shorter_first = some ⟨oc_shorter_first, od_shorter_first, .func (PySem.W.fnOf "shorter_first" "shorter_first" (defArgs s_shorter_first) (defBody s_shorter_first) (defScope s_shorter_first) .none kV_shorter_first dc_shorter_first pm_shorter_first an_shorter_first cd_shorter_first ct_shorter_first), sl_shorter_first⟩)
    (c_shorter_first : PySem.W.codeIn K cd_shorter_first "shorter_first" = true)
    (k_shorter_first : PySem.W.keepIn K (.ref f_shorter_first) = true)
    (a_book : PySem.W.nsIn K mainGlobals "book" = some (some (.ref f_book)))
    (l_book : K.lookup f_book = some ⟨oc_book, od_book, .func (PySem.W.fnOf "book" "book" (defArgs s_book) (defBody s_book) (defScope s_book) .none kV_book dc_book pm_book an_book cd_book ct_book), sl_book⟩)
    (c_book : PySem.W.codeIn K cd_book "book" = true)
    (k_book : PySem.W.keepIn K (.ref f_book) = true)
    (a_is_book : PySem.W.nsIn K mainGlobals "is_book" = some (some (.ref f_is_book)))
    (l_is_book : K.lookup f_is_book = some ⟨oc_is_book, od_is_book, .func (PySem.W.fnOf "is_book" "is_book" (defArgs s_is_book) (defBody s_is_book) (defScope s_is_book) .none kV_is_book dc_is_book pm_is_book an_is_book cd_is_book ct_is_book), sl_is_book⟩)
    (c_is_book : PySem.W.codeIn K cd_is_book "is_book" = true)
    (k_is_book : PySem.W.keepIn K (.ref f_is_book) = true)
    (a_check_book : PySem.W.nsIn K mainGlobals "check_book" = some (some (.ref f_check_book)))
    (l_check_book : K.lookup f_check_book = some ⟨oc_check_book, od_check_book, .func (PySem.W.fnOf "check_book" "check_book" (defArgs s_check_book) (defBody s_check_book) (defScope s_check_book) .none kV_check_book dc_check_book pm_check_book an_check_book cd_check_book ct_check_book), sl_check_book⟩)
    (c_check_book : PySem.W.codeIn K cd_check_book "check_book" = true)
    (k_check_book : PySem.W.keepIn K (.ref f_check_book) = true)
    (a_words : PySem.W.nsIn K mainGlobals "words" = some (some (.ref f_words)))
    (l_words : K.lookup f_words = some ⟨oc_words, od_words, .func (PySem.W.fnOf "words" "words" (defArgs s_words) (defBody s_words) (defScope s_words) .none kV_words dc_words pm_words an_words cd_words ct_words), sl_words⟩)
    (c_words : PySem.W.codeIn K cd_words "words" = true)
    (k_words : PySem.W.keepIn K (.ref f_words) = true)
    (a_check_alike : PySem.W.nsIn K mainGlobals "check_alike" = some (some (.ref f_check_alike)))
    (l_check_alike : K.lookup f_check_alike = some ⟨oc_check_alike, od_check_alike, .func (PySem.W.fnOf "check_alike" "check_alike" (defArgs s_check_alike) (defBody s_check_alike) (defScope s_check_alike) .none kV_check_alike dc_check_alike pm_check_alike an_check_alike cd_check_alike ct_check_alike), sl_check_alike⟩)
    (c_check_alike : PySem.W.codeIn K cd_check_alike "check_alike" = true)
    (k_check_alike : PySem.W.keepIn K (.ref f_check_alike) = true)
    (a_is_written : PySem.W.nsIn K mainGlobals "is_written" = some (some (.ref f_is_written)))
    (l_is_written : K.lookup f_is_written = some ⟨oc_is_written, od_is_written, .func (PySem.W.fnOf "is_written" "is_written" (defArgs s_is_written) (defBody s_is_written) (defScope s_is_written) .none kV_is_written dc_is_written pm_is_written an_is_written cd_is_written ct_is_written), sl_is_written⟩)
    (c_is_written : PySem.W.codeIn K cd_is_written "is_written" = true)
    (k_is_written : PySem.W.keepIn K (.ref f_is_written) = true)
    (a_base : PySem.W.nsIn K mainGlobals "base" = some (some (.ref f_base)))
    (l_base : K.lookup f_base = some ⟨oc_base, od_base, .func (PySem.W.fnOf "base" "base" (defArgs s_base) (defBody s_base) (defScope s_base) .none kV_base dc_base pm_base an_base cd_base ct_base), sl_base⟩)
    (c_base : PySem.W.codeIn K cd_base "base" = true)
    (k_base : PySem.W.keepIn K (.ref f_base) = true)
    (a_same_texts : PySem.W.nsIn K mainGlobals "same_texts" = some (some (.ref f_same_texts)))
    (l_same_texts : K.lookup f_same_texts = some ⟨oc_same_texts, od_same_texts, .func (PySem.W.fnOf "same_texts" "same_texts" (defArgs s_same_texts) (defBody s_same_texts) (defScope s_same_texts) .none kV_same_texts dc_same_texts pm_same_texts an_same_texts cd_same_texts ct_same_texts), sl_same_texts⟩)
    (c_same_texts : PySem.W.codeIn K cd_same_texts "same_texts" = true)
    (k_same_texts : PySem.W.keepIn K (.ref f_same_texts) = true)
    (a_l_take : PySem.W.nsIn K mainGlobals "_law_take" = some (some (.ref f_l_take)))
    (l_l_take : K.lookup f_l_take = some ⟨oc_l_take, od_l_take, .func (PySem.W.fnOf "_law_take" "_law_take" (defArgs s_l_take) (defBody s_l_take) (defScope s_l_take) .none kV_l_take dc_l_take pm_l_take an_l_take cd_l_take ct_l_take), sl_l_take⟩)
    (c_l_take : PySem.W.codeIn K cd_l_take "_law_take" = true)
    (k_l_take : PySem.W.keepIn K (.ref f_l_take) = true)
    (a_l_like : PySem.W.nsIn K mainGlobals "_law_like" = some (some (.ref f_l_like)))
    (l_l_like : K.lookup f_l_like = some ⟨oc_l_like, od_l_like, .func (PySem.W.fnOf "_law_like" "_law_like" (defArgs s_l_like) (defBody s_l_like) (defScope s_l_like) .none kV_l_like dc_l_like pm_l_like an_l_like cd_l_like ct_l_like), sl_l_like⟩)
    (c_l_like : PySem.W.codeIn K cd_l_like "_law_like" = true)
    (k_l_like : PySem.W.keepIn K (.ref f_l_like) = true)
    (a_l_word : PySem.W.nsIn K mainGlobals "_law_word" = some (some (.ref f_l_word)))
    (l_l_word : K.lookup f_l_word = some ⟨oc_l_word, od_l_word, .func (PySem.W.fnOf "_law_word" "_law_word" (defArgs s_l_word) (defBody s_l_word) (defScope s_l_word) .none kV_l_word dc_l_word pm_l_word an_l_word cd_l_word ct_l_word), sl_l_word⟩)
    (c_l_word : PySem.W.codeIn K cd_l_word "_law_word" = true)
    (k_l_word : PySem.W.keepIn K (.ref f_l_word) = true)
    (a_l_words : PySem.W.nsIn K mainGlobals "_law_words" = some (some (.ref f_l_words)))
    (l_l_words : K.lookup f_l_words = some ⟨oc_l_words, od_l_words, .func (PySem.W.fnOf "_law_words" "_law_words" (defArgs s_l_words) (defBody s_l_words) (defScope s_l_words) .none kV_l_words dc_l_words pm_l_words an_l_words cd_l_words ct_l_words), sl_l_words⟩)
    (c_l_words : PySem.W.codeIn K cd_l_words "_law_words" = true)
    (k_l_words : PySem.W.keepIn K (.ref f_l_words) = true)
    (a_l_shuffled : PySem.W.nsIn K mainGlobals "_law_shuffled" = some (some (.ref f_l_shuffled)))
    (l_l_shuffled : K.lookup f_l_shuffled = some ⟨oc_l_shuffled, od_l_shuffled, .func (PySem.W.fnOf "_law_shuffled" "_law_shuffled" (defArgs s_l_shuffled) (defBody s_l_shuffled) (defScope s_l_shuffled) .none kV_l_shuffled dc_l_shuffled pm_l_shuffled an_l_shuffled cd_l_shuffled ct_l_shuffled), sl_l_shuffled⟩)
    (c_l_shuffled : PySem.W.codeIn K cd_l_shuffled "_law_shuffled" = true)
    (k_l_shuffled : PySem.W.keepIn K (.ref f_l_shuffled) = true)
    (a_l_texts : PySem.W.nsIn K mainGlobals "_law_texts" = some (some (.ref f_l_texts)))
    (l_l_texts : K.lookup f_l_texts = some ⟨oc_l_texts, od_l_texts, .func (PySem.W.fnOf "_law_texts" "_law_texts" (defArgs s_l_texts) (defBody s_l_texts) (defScope s_l_texts) .none kV_l_texts dc_l_texts pm_l_texts an_l_texts cd_l_texts ct_l_texts), sl_l_texts⟩)
    (c_l_texts : PySem.W.codeIn K cd_l_texts "_law_texts" = true)
    (k_l_texts : PySem.W.keepIn K (.ref f_l_texts) = true)
    (a_l_count : PySem.W.nsIn K mainGlobals "_law_count" = some (some (.ref f_l_count)))
    (l_l_count : K.lookup f_l_count = some ⟨oc_l_count, od_l_count, .func (PySem.W.fnOf "_law_count" "_law_count" (defArgs s_l_count) (defBody s_l_count) (defScope s_l_count) .none kV_l_count dc_l_count pm_l_count an_l_count cd_l_count ct_l_count), sl_l_count⟩)
    (c_l_count : PySem.W.codeIn K cd_l_count "_law_count" = true)
    (k_l_count : PySem.W.keepIn K (.ref f_l_count) = true)
    (a_l_beside : PySem.W.nsIn K mainGlobals "_law_beside" = some (some (.ref f_l_beside)))
    (l_l_beside : K.lookup f_l_beside = some ⟨oc_l_beside, od_l_beside, .func (PySem.W.fnOf "_law_beside" "_law_beside" (defArgs s_l_beside) (defBody s_l_beside) (defScope s_l_beside) .none kV_l_beside dc_l_beside pm_l_beside an_l_beside cd_l_beside ct_l_beside), sl_l_beside⟩)
    (c_l_beside : PySem.W.codeIn K cd_l_beside "_law_beside" = true)
    (k_l_beside : PySem.W.keepIn K (.ref f_l_beside) = true)
    (a_l_far_right : PySem.W.nsIn K mainGlobals "_law_far_right" = some (some (.ref f_l_far_right)))
    (l_l_far_right : K.lookup f_l_far_right = some ⟨oc_l_far_right, od_l_far_right, .func (PySem.W.fnOf "_law_far_right" "_law_far_right" (defArgs s_l_far_right) (defBody s_l_far_right) (defScope s_l_far_right) .none kV_l_far_right dc_l_far_right pm_l_far_right an_l_far_right cd_l_far_right ct_l_far_right), sl_l_far_right⟩)
    (c_l_far_right : PySem.W.codeIn K cd_l_far_right "_law_far_right" = true)
    (k_l_far_right : PySem.W.keepIn K (.ref f_l_far_right) = true)
    (a_law : PySem.W.nsIn K mainGlobals "law" = some (some (.ref f_law)))
    (l_law : K.lookup f_law = some ⟨oc_law, od_law, .func (PySem.W.fnOf "law" "law" (defArgs s_law) (defBody s_law) (defScope s_law) .none kV_law dc_law pm_law an_law cd_law ct_law), sl_law⟩)
    (c_law : PySem.W.codeIn K cd_law "law" = true)
    (k_law : PySem.W.keepIn K (.ref f_law) = true)
    (pg_Loom : PySem.W.plainGet K C_Loom Str.empty = true)
    (hd_Loom : PySem.W.hasDictIn K C_Loom = true)
    (po_Loom : PySem.W.plainOver K C_Loom = true)
    (sa_Loom : PySem.W.findIn K (.ref C_Loom) "__setattr__" = some (some (.builtin "object.__setattr__")))
    (mk_Loom : PySem.W.makesIn K C_Loom = true)
    (kc_Loom : PySem.W.keepIn K (.ref C_Loom) = true)
    (na_Loom_signs : PySem.W.findIn K (.ref C_Loom) "signs" = some none)
    (na_Loom_arcs : PySem.W.findIn K (.ref C_Loom) "arcs" = some none)
    (ic_Loom : PySem.W.findIn K (.ref C_Loom) "__class__" = some (some (.builtin "object.__class__")))
    (ig : PySem.W.specialIn K (.builtin "object.__class__") "__get__" = some (some (.builtin "getset_descriptor.__get__")))
    (it : PySem.W.takesIn K (.builtin "object.__class__") = some true)
    (im_Loom : PySem.W.mroIn K C_Loom (.type "object") = some true)
    (cc_Loom : PySem.W.isClsIn K C_Loom = true)
    (ty_Loom : PySem.W.typeIn K (.ref C_Loom) = some (.type "type"))
    (z_all : PySem.W.nsIn K mainGlobals "all" = some none)
    (z_bool : PySem.W.nsIn K mainGlobals "bool" = some none)
    (z_dict : PySem.W.nsIn K mainGlobals "dict" = some none)
    (z_enumerate : PySem.W.nsIn K mainGlobals "enumerate" = some none)
    (z_int : PySem.W.nsIn K mainGlobals "int" = some none)
    (z_isinstance : PySem.W.nsIn K mainGlobals "isinstance" = some none)
    (z_len : PySem.W.nsIn K mainGlobals "len" = some none)
    (z_list : PySem.W.nsIn K mainGlobals "list" = some none)
    (z_range : PySem.W.nsIn K mainGlobals "range" = some none)
    (z_set : PySem.W.nsIn K mainGlobals "set" = some none)
    (z_sorted : PySem.W.nsIn K mainGlobals "sorted" = some none)
    (z_str : PySem.W.nsIn K mainGlobals "str" = some none)
    (z_tuple : PySem.W.nsIn K mainGlobals "tuple" = some none)
    (z_zip : PySem.W.nsIn K mainGlobals "zip" = some none)
    (g_MOST_SIGNS : PySem.W.nsIn K mainGlobals "MOST_SIGNS" = some (some (.int 4 t_MOST_SIGNS)))
    (g_LONGEST_WORD : PySem.W.nsIn K mainGlobals "LONGEST_WORD" = some (some (.int 12 t_LONGEST_WORD)))
    (g_LAST_STATE : PySem.W.nsIn K mainGlobals "LAST_STATE" = some (some (.int 63 t_LAST_STATE)))
    (g_MOST_ARCS : PySem.W.nsIn K mainGlobals "MOST_ARCS" = some (some (.int 200 t_MOST_ARCS)))
    : ∃ fd : FuncData, (∀ (s : Shared) (v : Value), BindsTo s fd ⟨[v], []⟩ [("_law_script", v)]) ∧ ∀ base : Heap, K.In base → base.Ns mainGlobals mg → FnOk l.prog w K mg base CX0 8 fa fd P_law (spLaw K) := by
  have e := hfa.symm.trans (PySem.W.mg_of X G a_law)
  cases e
  have F_InvalidLoom_init := fun_mk (st := s_InvalidLoom_init) l_InvalidLoom_init c_InvalidLoom_init k_InvalidLoom_init
  have b_InvalidLoom_init := F_InvalidLoom_init.binds (ps := P_InvalidLoom_init) fun _ _ _ _ _ _ us hl => match us, hl with | [_, _, _], _ => rfl
  have F_is_number := fun_mk (st := s_is_number) l_is_number c_is_number k_is_number
  have b_is_number := F_is_number.binds (ps := P_is_number) fun _ _ _ _ _ _ us hl => match us, hl with | [_, _, _], _ => rfl
  have F_is_sequence := fun_mk (st := s_is_sequence) l_is_sequence c_is_sequence k_is_sequence
  have b_is_sequence := F_is_sequence.binds (ps := P_is_sequence) fun _ _ _ _ _ _ us hl => match us, hl with | [_, _, _], _ => rfl
  have F_is_signs := fun_mk (st := s_is_signs) l_is_signs c_is_signs k_is_signs
  have b_is_signs := F_is_signs.binds (ps := P_is_signs) fun _ _ _ _ _ _ us hl => match us, hl with | [_], _ => rfl
  have F_is_string_over := fun_mk (st := s_is_string_over) l_is_string_over c_is_string_over k_is_string_over
  have b_is_string_over := F_is_string_over.binds (ps := P_is_string_over) fun _ _ _ _ _ _ us hl => match us, hl with | [_, _, _, _], _ => rfl
  have F_is_word := fun_mk (st := s_is_word) l_is_word c_is_word k_is_word
  have b_is_word := F_is_word.binds (ps := P_is_word) fun _ _ _ _ _ _ us hl => match us, hl with | [_, _], _ => rfl
  have F_check_signs := fun_mk (st := s_check_signs) l_check_signs c_check_signs k_check_signs
  have b_check_signs := F_check_signs.binds (ps := P_check_signs) fun _ _ _ _ _ _ us hl => match us, hl with | [_], _ => rfl
  have F_is_arc := fun_mk (st := s_is_arc) l_is_arc c_is_arc k_is_arc
  have b_is_arc := F_is_arc.binds (ps := P_is_arc) fun _ _ _ _ _ _ us hl => match us, hl with | [_, _], _ => rfl
  have F_Loom_init := fun_mk (st := s_Loom_init) l_Loom_init c_Loom_init k_Loom_init
  have b_Loom_init := F_Loom_init.binds (ps := P_Loom_init) fun _ _ _ _ _ _ us hl => match us, hl with | [_, _, _], _ => rfl
  have F_Loom_eq := fun_mk (st := s_Loom_eq) l_Loom_eq c_Loom_eq k_Loom_eq
  have b_Loom_eq := F_Loom_eq.binds (ps := P_Loom_eq) fun _ _ _ _ _ _ us hl => match us, hl with | [_, _], _ => rfl
  have F_shorter_first := fun_mk (st := s_shorter_first) l_shorter_first c_shorter_first k_shorter_first
  have b_shorter_first := F_shorter_first.binds (ps := P_shorter_first) fun _ _ _ _ _ _ us hl => match us, hl with | [_], _ => rfl
  have F_book := fun_mk (st := s_book) l_book c_book k_book
  have b_book := F_book.binds (ps := P_book) fun _ _ _ _ _ _ us hl => match us, hl with | [_, _], _ => rfl
  have F_is_book := fun_mk (st := s_is_book) l_is_book c_is_book k_is_book
  have b_is_book := F_is_book.binds (ps := P_is_book) fun _ _ _ _ _ _ us hl => match us, hl with | [_], _ => rfl
  have F_check_book := fun_mk (st := s_check_book) l_check_book c_check_book k_check_book
  have b_check_book := F_check_book.binds (ps := P_check_book) fun _ _ _ _ _ _ us hl => match us, hl with | [_], _ => rfl
  have F_words := fun_mk (st := s_words) l_words c_words k_words
  have b_words := F_words.binds (ps := P_words) fun _ _ _ _ _ _ us hl => match us, hl with | [_], _ => rfl
  have F_check_alike := fun_mk (st := s_check_alike) l_check_alike c_check_alike k_check_alike
  have b_check_alike := F_check_alike.binds (ps := P_check_alike) fun _ _ _ _ _ _ us hl => match us, hl with | [_, _], _ => rfl
  have F_is_written := fun_mk (st := s_is_written) l_is_written c_is_written k_is_written
  have b_is_written := F_is_written.binds (ps := P_is_written) fun _ _ _ _ _ _ us hl => match us, hl with | [_, _], _ => rfl
  have F_base := fun_mk (st := s_base) l_base c_base k_base
  have b_base := F_base.binds (ps := P_base) fun _ _ _ _ _ _ us hl => match us, hl with | [_], _ => rfl
  have F_same_texts := fun_mk (st := s_same_texts) l_same_texts c_same_texts k_same_texts
  have b_same_texts := F_same_texts.binds (ps := P_same_texts) fun _ _ _ _ _ _ us hl => match us, hl with | [_, _], _ => rfl
  have F_l_take := fun_mk (st := s_l_take) l_l_take c_l_take k_l_take
  have b_l_take := F_l_take.binds (ps := P_l_take) fun _ _ _ _ _ _ us hl => match us, hl with | [_, _, _], _ => rfl
  have F_l_like := fun_mk (st := s_l_like) l_l_like c_l_like k_l_like
  have b_l_like := F_l_like.binds (ps := P_l_like) fun _ _ _ _ _ _ us hl => match us, hl with | [_, _], _ => rfl
  have F_l_word := fun_mk (st := s_l_word) l_l_word c_l_word k_l_word
  have b_l_word := F_l_word.binds (ps := P_l_word) fun _ _ _ _ _ _ us hl => match us, hl with | [_, _, _, _], _ => rfl
  have F_l_words := fun_mk (st := s_l_words) l_l_words c_l_words k_l_words
  have b_l_words := F_l_words.binds (ps := P_l_words) fun _ _ _ _ _ _ us hl => match us, hl with | [_, _, _, _, _], _ => rfl
  have F_l_shuffled := fun_mk (st := s_l_shuffled) l_l_shuffled c_l_shuffled k_l_shuffled
  have b_l_shuffled := F_l_shuffled.binds (ps := P_l_shuffled) fun _ _ _ _ _ _ us hl => match us, hl with | [_, _, _], _ => rfl
  have F_l_texts := fun_mk (st := s_l_texts) l_l_texts c_l_texts k_l_texts
  have b_l_texts := F_l_texts.binds (ps := P_l_texts) fun _ _ _ _ _ _ us hl => match us, hl with | [_, _], _ => rfl
  have F_l_count := fun_mk (st := s_l_count) l_l_count c_l_count k_l_count
  have b_l_count := F_l_count.binds (ps := P_l_count) fun _ _ _ _ _ _ us hl => match us, hl with | [_, _], _ => rfl
  have F_l_beside := fun_mk (st := s_l_beside) l_l_beside c_l_beside k_l_beside
  have b_l_beside := F_l_beside.binds (ps := P_l_beside) fun _ _ _ _ _ _ us hl => match us, hl with | [_, _, _, _], _ => rfl
  have F_l_far_right := fun_mk (st := s_l_far_right) l_l_far_right c_l_far_right k_l_far_right
  have b_l_far_right := F_l_far_right.binds (ps := P_l_far_right) fun _ _ _ _ _ _ us hl => match us, hl with | [_, _, _, _], _ => rfl
  have F_law := fun_mk (st := s_law) l_law c_law k_law
  have b_law := F_law.binds (ps := P_law) fun _ _ _ _ _ _ us hl => match us, hl with | [_], _ => rfl
  exact ⟨_, fun s v => .of_eq rfl, fun base _ _ => ok_law {
    f_InvalidLoom_init := _
    fd_InvalidLoom_init := _
    F_InvalidLoom_init := F_InvalidLoom_init
    b_InvalidLoom_init := b_InvalidLoom_init
    f_is_number := _
    fd_is_number := _
    F_is_number := F_is_number
    b_is_number := b_is_number
    m_is_number := PySem.W.mg_of X G a_is_number
    f_is_sequence := _
    fd_is_sequence := _
    F_is_sequence := F_is_sequence
    b_is_sequence := b_is_sequence
    m_is_sequence := PySem.W.mg_of X G a_is_sequence
    f_is_signs := _
    fd_is_signs := _
    F_is_signs := F_is_signs
    b_is_signs := b_is_signs
    m_is_signs := PySem.W.mg_of X G a_is_signs
    f_is_string_over := _
    fd_is_string_over := _
    F_is_string_over := F_is_string_over
    b_is_string_over := b_is_string_over
    m_is_string_over := PySem.W.mg_of X G a_is_string_over
    f_is_word := _
    fd_is_word := _
    F_is_word := F_is_word
    b_is_word := b_is_word
    m_is_word := PySem.W.mg_of X G a_is_word
    f_check_signs := _
    fd_check_signs := _
    F_check_signs := F_check_signs
    b_check_signs := b_check_signs
    m_check_signs := PySem.W.mg_of X G a_check_signs
    f_is_arc := _
    fd_is_arc := _
    F_is_arc := F_is_arc
    b_is_arc := b_is_arc
    m_is_arc := PySem.W.mg_of X G a_is_arc
    f_Loom_init := _
    fd_Loom_init := _
    F_Loom_init := F_Loom_init
    b_Loom_init := b_Loom_init
    f_Loom_eq := _
    fd_Loom_eq := _
    F_Loom_eq := F_Loom_eq
    b_Loom_eq := b_Loom_eq
    f_shorter_first := _
    fd_shorter_first := _
    F_shorter_first := F_shorter_first
    b_shorter_first := b_shorter_first
    m_shorter_first := PySem.W.mg_of X G a_shorter_first
    f_book := _
    fd_book := _
    F_book := F_book
    b_book := b_book
    m_book := PySem.W.mg_of X G a_book
    f_is_book := _
    fd_is_book := _
    F_is_book := F_is_book
    b_is_book := b_is_book
    m_is_book := PySem.W.mg_of X G a_is_book
    f_check_book := _
    fd_check_book := _
    F_check_book := F_check_book
    b_check_book := b_check_book
    m_check_book := PySem.W.mg_of X G a_check_book
    f_words := _
    fd_words := _
    F_words := F_words
    b_words := b_words
    m_words := PySem.W.mg_of X G a_words
    f_check_alike := _
    fd_check_alike := _
    F_check_alike := F_check_alike
    b_check_alike := b_check_alike
    m_check_alike := PySem.W.mg_of X G a_check_alike
    f_is_written := _
    fd_is_written := _
    F_is_written := F_is_written
    b_is_written := b_is_written
    m_is_written := PySem.W.mg_of X G a_is_written
    f_base := _
    fd_base := _
    F_base := F_base
    b_base := b_base
    m_base := PySem.W.mg_of X G a_base
    f_same_texts := _
    fd_same_texts := _
    F_same_texts := F_same_texts
    b_same_texts := b_same_texts
    m_same_texts := PySem.W.mg_of X G a_same_texts
    f_l_take := _
    fd_l_take := _
    F_l_take := F_l_take
    b_l_take := b_l_take
    m_l_take := PySem.W.mg_of X G a_l_take
    f_l_like := _
    fd_l_like := _
    F_l_like := F_l_like
    b_l_like := b_l_like
    m_l_like := PySem.W.mg_of X G a_l_like
    f_l_word := _
    fd_l_word := _
    F_l_word := F_l_word
    b_l_word := b_l_word
    m_l_word := PySem.W.mg_of X G a_l_word
    f_l_words := _
    fd_l_words := _
    F_l_words := F_l_words
    b_l_words := b_l_words
    m_l_words := PySem.W.mg_of X G a_l_words
    f_l_shuffled := _
    fd_l_shuffled := _
    F_l_shuffled := F_l_shuffled
    b_l_shuffled := b_l_shuffled
    m_l_shuffled := PySem.W.mg_of X G a_l_shuffled
    f_l_texts := _
    fd_l_texts := _
    F_l_texts := F_l_texts
    b_l_texts := b_l_texts
    m_l_texts := PySem.W.mg_of X G a_l_texts
    f_l_count := _
    fd_l_count := _
    F_l_count := F_l_count
    b_l_count := b_l_count
    m_l_count := PySem.W.mg_of X G a_l_count
    f_l_beside := _
    fd_l_beside := _
    F_l_beside := F_l_beside
    b_l_beside := b_l_beside
    m_l_beside := PySem.W.mg_of X G a_l_beside
    f_l_far_right := _
    fd_l_far_right := _
    F_l_far_right := F_l_far_right
    b_l_far_right := b_l_far_right
    m_l_far_right := PySem.W.mg_of X G a_l_far_right
    f_law := _
    fd_law := _
    F_law := F_law
    b_law := b_law
    m_law := PySem.W.mg_of X G a_law
    n_all := PySem.W.mg_none_of X G z_all
    n_bool := PySem.W.mg_none_of X G z_bool
    n_dict := PySem.W.mg_none_of X G z_dict
    n_enumerate := PySem.W.mg_none_of X G z_enumerate
    n_int := PySem.W.mg_none_of X G z_int
    n_isinstance := PySem.W.mg_none_of X G z_isinstance
    n_len := PySem.W.mg_none_of X G z_len
    n_list := PySem.W.mg_none_of X G z_list
    n_range := PySem.W.mg_none_of X G z_range
    n_set := PySem.W.mg_none_of X G z_set
    n_sorted := PySem.W.mg_none_of X G z_sorted
    n_str := PySem.W.mg_none_of X G z_str
    n_tuple := PySem.W.mg_none_of X G z_tuple
    n_zip := PySem.W.mg_none_of X G z_zip
    t_MOST_SIGNS := t_MOST_SIGNS
    g_MOST_SIGNS := PySem.W.mg_of X G g_MOST_SIGNS
    t_LONGEST_WORD := t_LONGEST_WORD
    g_LONGEST_WORD := PySem.W.mg_of X G g_LONGEST_WORD
    t_LAST_STATE := t_LAST_STATE
    g_LAST_STATE := PySem.W.mg_of X G g_LAST_STATE
    t_MOST_ARCS := t_MOST_ARCS
    g_MOST_ARCS := PySem.W.mg_of X G g_MOST_ARCS
    C_Loom := C_Loom
    M_Loom := ⟨mk_Loom, a_Loom_init, i_Loom_init, kc_Loom⟩
    cl_Loom := ⟨pg_Loom, hd_Loom, po_Loom, sa_Loom⟩
    g_Loom := PySem.W.mg_of X G a_CLoom
    na_Loom_signs := na_Loom_signs
    na_Loom_arcs := na_Loom_arcs
    ic_Loom := ic_Loom
    ig := ig
    it := it
    im_Loom := im_Loom
    cc_Loom := cc_Loom
    ty_Loom := ty_Loom }⟩
theorem walk {l : PySem.W.OpenLaw} {q : Program} {loose : List Str} {XP : (Str → Option Value) → Heap → Prop} {YP : World → Heap → Prop} {d : DefRec} {K : Params → PySem.W.Frag} (hn : l.most = some 63) (hdf : d.params.defaults = [])
    (hY : ∀ (w : World) (h : Heap), YP w h → (K w.params).In h)
    (F : ∀ (w : World) (mg : Str → Option Value) (fa : Addr) (h : Heap), (K w.params).In h → h.Ns mainGlobals mg → mg d.name = some (.ref fa) →
      ∃ fd : FuncData, (∀ (s : Shared) (u : Value), BindsTo s fd ⟨[u], []⟩ [("_law_script", u)]) ∧ ∀ base : Heap, (K w.params).In base → base.Ns mainGlobals mg → FnOk l.prog w (K w.params) mg base CX0 8 fa fd P_law (spLaw (K w.params))) :
    PySem.W.WalkO q loose XP YP l.row.toRowW d [] (fun f vs => PySem.call f vs) :=
  L2.walk_of (n := 63) (k := 8) (x := "_law_script") (CX := fun _ => CX0) (sp := fun w => spLaw (K w.params)) hn (by decide) hdf ⟨rfl, by decide, by decide⟩ hY F (fun _ _ a ns hl _ hS => ⟨a, ns, rfl, hS, hl, fun _ => rfl⟩) fun _ _ _ _ _ z => z
end J

open PySem PySem.W PyProof.Rows in
set_option maxRecDepth 100000 in
set_option maxHeartbeats 0 in
theorem PySem.Challenge.cw_onewayread_k32_same_texts_by_all_texts_holds : PySem.Challenge.rw_onewayread_k32_same_texts_by_all_texts.Holds := by
  w_on; o_law; k_head; (case hw => w_witness2)
  k_fill
  refine J.walk (l := PySem.Challenge.rw_onewayread_k32_same_texts_by_all_texts) rfl rfl (fun w h Y => PySem.W.kIn_of Y) ?F
  case F =>
    intro w mg fa h KX G hmg
    refine' J.all_mk KX G hmg ?a_CLoom ?a_CInvalidLoom ?a_InvalidLoom_init ?i_InvalidLoom_init ?l_InvalidLoom_init ?c_InvalidLoom_init ?k_InvalidLoom_init ?a_is_number ?l_is_number ?c_is_number ?k_is_number ?a_is_sequence ?l_is_sequence ?c_is_sequence ?k_is_sequence ?a_is_signs ?l_is_signs ?c_is_signs ?k_is_signs ?a_is_string_over ?l_is_string_over ?c_is_string_over ?k_is_string_over ?a_is_word ?l_is_word ?c_is_word ?k_is_word ?a_check_signs ?l_check_signs ?c_check_signs ?k_check_signs ?a_is_arc ?l_is_arc ?c_is_arc ?k_is_arc ?a_Loom_init ?i_Loom_init ?l_Loom_init ?c_Loom_init ?k_Loom_init ?a_Loom_eq ?l_Loom_eq ?c_Loom_eq ?k_Loom_eq ?a_shorter_first ?l_shorter_first ?c_shorter_first ?k_shorter_first ?a_book ?l_book ?c_book ?k_book ?a_is_book ?l_is_book ?c_is_book ?k_is_book ?a_check_book ?l_check_book ?c_check_book ?k_check_book ?a_words ?l_words ?c_words ?k_words ?a_check_alike ?l_check_alike ?c_check_alike ?k_check_alike ?a_is_written ?l_is_written ?c_is_written ?k_is_written ?a_base ?l_base ?c_base ?k_base ?a_same_texts ?l_same_texts ?c_same_texts ?k_same_texts ?a_l_take ?l_l_take ?c_l_take ?k_l_take ?a_l_like ?l_l_like ?c_l_like ?k_l_like ?a_l_word ?l_l_word ?c_l_word ?k_l_word ?a_l_words ?l_l_words ?c_l_words ?k_l_words ?a_l_shuffled ?l_l_shuffled ?c_l_shuffled ?k_l_shuffled ?a_l_texts ?l_l_texts ?c_l_texts ?k_l_texts ?a_l_count ?l_l_count ?c_l_count ?k_l_count ?a_l_beside ?l_l_beside ?c_l_beside ?k_l_beside ?a_l_far_right ?l_l_far_right ?c_l_far_right ?k_l_far_right ?a_law ?l_law ?c_law ?k_law ?pg_Loom ?hd_Loom ?po_Loom ?sa_Loom ?mk_Loom ?kc_Loom ?na_Loom_signs ?na_Loom_arcs ?ic_Loom ?ig ?it ?im_Loom ?cc_Loom ?ty_Loom ?z_all ?z_bool ?z_dict ?z_enumerate ?z_int ?z_isinstance ?z_len ?z_list ?z_range ?z_set ?z_sorted ?z_str ?z_tuple ?z_zip ?g_MOST_SIGNS ?g_LONGEST_WORD ?g_LAST_STATE ?g_MOST_ARCS
    (case a_CLoom => k_is)
    (case a_CInvalidLoom => k_is)
    (case a_InvalidLoom_init => k_is)
    (case i_InvalidLoom_init => k_is)
    (case l_InvalidLoom_init => k_is)
    (case c_InvalidLoom_init => k_is)
    (case k_InvalidLoom_init => k_is)
    (case a_is_number => k_is)
    (case l_is_number => k_is)
    (case c_is_number => k_is)
    (case k_is_number => k_is)
    (case a_is_sequence => k_is)
    (case l_is_sequence => k_is)
    (case c_is_sequence => k_is)
    (case k_is_sequence => k_is)
    (case a_is_signs => k_is)
    (case l_is_signs => k_is)
    (case c_is_signs => k_is)
    (case k_is_signs => k_is)
    (case a_is_string_over => k_is)
    (case l_is_string_over => k_is)
    (case c_is_string_over => k_is)
    (case k_is_string_over => k_is)
    (case a_is_word => k_is)
    (case l_is_word => k_is)
    (case c_is_word => k_is)
    (case k_is_word => k_is)
    (case a_check_signs => k_is)
    (case l_check_signs => k_is)
    (case c_check_signs => k_is)
    (case k_check_signs => k_is)
    (case a_is_arc => k_is)
    (case l_is_arc => k_is)
    (case c_is_arc => k_is)
    (case k_is_arc => k_is)
    (case a_Loom_init => k_is)
    (case i_Loom_init => k_is)
    (case l_Loom_init => k_is)
    (case c_Loom_init => k_is)
    (case k_Loom_init => k_is)
    (case a_Loom_eq => k_is)
    (case l_Loom_eq => k_is)
    (case c_Loom_eq => k_is)
    (case k_Loom_eq => k_is)
    (case a_shorter_first => k_is)
    (case l_shorter_first => k_is)
    (case c_shorter_first => k_is)
    (case k_shorter_first => k_is)
    (case a_book => k_is)
    (case l_book => k_is)
    (case c_book => k_is)
    (case k_book => k_is)
    (case a_is_book => k_is)
    (case l_is_book => k_is)
    (case c_is_book => k_is)
    (case k_is_book => k_is)
    (case a_check_book => k_is)
    (case l_check_book => k_is)
    (case c_check_book => k_is)
    (case k_check_book => k_is)
    (case a_words => k_is)
    (case l_words => k_is)
    (case c_words => k_is)
    (case k_words => k_is)
    (case a_check_alike => k_is)
    (case l_check_alike => k_is)
    (case c_check_alike => k_is)
    (case k_check_alike => k_is)
    (case a_is_written => k_is)
    (case l_is_written => k_is)
    (case c_is_written => k_is)
    (case k_is_written => k_is)
    (case a_base => k_is)
    (case l_base => k_is)
    (case c_base => k_is)
    (case k_base => k_is)
    (case a_same_texts => k_is)
    (case l_same_texts => k_is)
    (case c_same_texts => k_is)
    (case k_same_texts => k_is)
    (case a_l_take => k_is)
    (case l_l_take => k_is)
    (case c_l_take => k_is)
    (case k_l_take => k_is)
    (case a_l_like => k_is)
    (case l_l_like => k_is)
    (case c_l_like => k_is)
    (case k_l_like => k_is)
    (case a_l_word => k_is)
    (case l_l_word => k_is)
    (case c_l_word => k_is)
    (case k_l_word => k_is)
    (case a_l_words => k_is)
    (case l_l_words => k_is)
    (case c_l_words => k_is)
    (case k_l_words => k_is)
    (case a_l_shuffled => k_is)
    (case l_l_shuffled => k_is)
    (case c_l_shuffled => k_is)
    (case k_l_shuffled => k_is)
    (case a_l_texts => k_is)
    (case l_l_texts => k_is)
    (case c_l_texts => k_is)
    (case k_l_texts => k_is)
    (case a_l_count => k_is)
    (case l_l_count => k_is)
    (case c_l_count => k_is)
    (case k_l_count => k_is)
    (case a_l_beside => k_is)
    (case l_l_beside => k_is)
    (case c_l_beside => k_is)
    (case k_l_beside => k_is)
    (case a_l_far_right => k_is)
    (case l_l_far_right => k_is)
    (case c_l_far_right => k_is)
    (case k_l_far_right => k_is)
    (case a_law => k_is)
    (case l_law => k_is)
    (case c_law => k_is)
    (case k_law => k_is)
    (case pg_Loom => k_is)
    (case hd_Loom => k_is)
    (case po_Loom => k_is)
    (case sa_Loom => k_is)
    (case mk_Loom => k_is)
    (case kc_Loom => k_is)
    (case na_Loom_signs => k_is)
    (case na_Loom_arcs => k_is)
    (case ic_Loom => k_is)
    (case ig => k_is)
    (case it => k_is)
    (case im_Loom => k_is)
    (case cc_Loom => k_is)
    (case ty_Loom => k_is)
    (case z_all => k_is)
    (case z_bool => k_is)
    (case z_dict => k_is)
    (case z_enumerate => k_is)
    (case z_int => k_is)
    (case z_isinstance => k_is)
    (case z_len => k_is)
    (case z_list => k_is)
    (case z_range => k_is)
    (case z_set => k_is)
    (case z_sorted => k_is)
    (case z_str => k_is)
    (case z_tuple => k_is)
    (case z_zip => k_is)
    (case g_MOST_SIGNS => k_is)
    (case g_LONGEST_WORD => k_is)
    (case g_LAST_STATE => k_is)
    (case g_MOST_ARCS => k_is)

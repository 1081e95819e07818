import PyProof.Rows.All
import Wide.All
import OpenK.AllK
import Wide.FinOn
import HandS.ForMost
import KE.GoesMore
import HandS.IsInst
import HandS.ListItems
import HandS.Sort
import KE.KDictList
import HandS.Defaults
import KE.KxIndex
import HandS.StrMore
import HandS.Conv
import HandS.Codes
import HandS.Walk
import HandS.SortInts
import PySem.Challenge.RW_onewayread_k04_rows_counted_in_long_text
set_option Elab.async false
set_option linter.all false
set_option maxRecDepth 100000
set_option maxHeartbeats 4000000
/-! zip of two texts, in a for and in a comprehension -/
namespace L2
open PySem PySem.Spec PyProof.Rows
/-- two texts at once, the signs in new pairs -/
def ItzS (x y : Str) : It :=
  ⟨fun i _ => i < min x.cps.size y.cps.size,
    fun i H v H' => ∃ T c d, v = .ref T ∧ H T = none ∧ H' = upd H T (.tup [.str ⟨#[c]⟩, .str ⟨#[d]⟩]) ∧ x.cps[i]? = some c ∧ y.cps[i]? = some d,
    fun i _ => i = min x.cps.size y.cps.size⟩
theorem turn_zipS {P : Program} {w : World} {K : PySem.W.Frag} {elts : List Expr} {kk : Nat} {tpos : Pos} {x y : Str} {t1 t2 : Tok} {z TI TO i1 i2 : Addr} (D : ZipSep2 z TI TO i1 i2 [i1] [i2]) :
    Turn P w K (.Tuple elts kk tpos) (ItzS x y) [z, TI, TO, i1, i2] z (fun i h => IsZip h z TI TO .none ∧ IsTupOf2 h TI (.ref i1) (.ref i2) ∧ (∃ x y, IsTupOf2 h TO x y) ∧ h.IsStrIter i1 (strIterType x) x t1 i ∧ h.IsStrIter i2 (strIterType y) y t2 i) where
  mem := by simp
  obj := fun i h st c hc => by
    obtain ⟨hz, hTI, ⟨x, y, hTO⟩, ⟨o1, e1, _, d1⟩, ⟨o2, e2, _, d2⟩⟩ := st
    have e' : c = z ∨ c = TI ∨ c = TO ∨ c = i1 ∨ c = i2 := by simpa using hc
    rcases e' with q | q | q | q | q
    · rw [q]; exact ⟨_, hz, fun v q => nomatch q⟩
    · rw [q]; exact ⟨_, hTI, fun v q => nomatch q⟩
    · rw [q]; exact ⟨_, hTO, fun v q => nomatch q⟩
    · rw [q]; exact ⟨o1, e1, fun v q => by rw [d1] at q; cases q⟩
    · rw [q]; exact ⟨o2, e2, fun v q => by rw [d2] at q; cases q⟩
  keep := fun i h h' st k => by
    obtain ⟨hz, hTI, ⟨x, y, hTO⟩, ⟨o1, e1, r1⟩, ⟨o2, e2, r2⟩⟩ := st
    exact ⟨k z (by simp) _ hz, k TI (by simp) _ hTI, ⟨x, y, k TO (by simp) _ hTO⟩, ⟨o1, k i1 (by simp) _ e1, r1⟩, ⟨o2, k i2 (by simp) _ e2, r2⟩⟩
  item := by
    intro X hP hw hK hc i pins s σ H E I hf st hg
    subst hP hw hK
    obtain ⟨hz, hTI, ⟨x0, y0, hTO⟩, h1, h2⟩ := st
    have hg' : i < min x.cps.size y.cps.size := hg
    have hzl : z < s.heap.objs.size := Heap.lt_size hz
    have hd := I.ok.hd hc
    refine wpAny_pyNext_zipD2_item D (Draws.text (A := X.A.in1) hd i1 x t1) (Draws.text (A := X.A.in1) hd i2 y t2) hz hTI hTO h1 h2 (by omega) (by omega) fun u u2 h' tk p1 p2 z' TO' h1' h2' hT hsz hk => ?_
    obtain ⟨c, tc, hcx, rfl⟩ := p1
    obtain ⟨d, td, hdy, rfl⟩ := p2
    refine ⟨_, rfl, wpAny_letOwnedTupleGo_zip (s := { s with heap := h', toks := tk }) z' fun h'' z'' sb => ?_⟩
    have hT2 : h''.get? s.heap.objs.size = some { cls := .type "tuple", data := .seq #[.str ⟨#[c]⟩ tc, .str ⟨#[d]⟩ td] } := (sb.2 _ (Nat.ne_of_gt hzl)).trans hT
    have new : ObjOk X.prog X.w (upd H s.heap.objs.size (.tup [.str ⟨#[c]⟩, .str ⟨#[d]⟩])) h'' s.heap.objs.size (.tup [.str ⟨#[c]⟩, .str ⟨#[d]⟩]) :=
      ⟨by show 2 ≤ sizeLine; decide, [.str ⟨#[c]⟩ tc, .str ⟨#[d]⟩ td], .cons ⟨_, rfl⟩ (.cons ⟨_, rfl⟩ .nil), ⟨_, hT2, rfl, _, rfl⟩⟩
    have I1 : Inv X pins σ (upd H s.heap.objs.size (.tup [.str ⟨#[c]⟩, .str ⟨#[d]⟩])) { s with heap := h'', toks := tk } :=
      I.turnedNew (t' := tk) (ch := [z, TI, TO, i1, i2]) (fun c o hb q => (sb.2 c (fun q' => hb (by simp [q']))).trans (hk c o (fun q' => hb (by simp [q'])) (fun q' => hb (by simp [q'])) (fun q' => hb (by simp [q'])) (fun q' => hb (by simp [q'])) q)) hf (Nat.le_refl _) new
    have nz1 : i1 ≠ z := D.zi1.symm
    have nz2 : i2 ≠ z := D.zi2.symm
    refine ⟨.ref s.heap.objs.size, _, I1, rfl, ⟨_, c, d, rfl, I.hok.fresh (Nat.le_refl _), rfl, hcx, hdy⟩, ⟨z'', ?_, ⟨_, _, (sb.2 _ D.TOz).trans TO'⟩, ?_, ?_⟩, fun c hcm => ?_⟩
    · exact (sb.2 _ D.TIz).trans (hk _ _ D.TIz D.TITO D.TIi1 D.TIi2 hTI)
    · obtain ⟨o, e, r⟩ := h1'
      exact ⟨o, (sb.2 _ nz1).trans e, r⟩
    · obtain ⟨o, e, r⟩ := h2'
      exact ⟨o, (sb.2 _ nz2).trans e, r⟩
    · have hlt : c < s.heap.objs.size := by
        have e' : c = z ∨ c = TI ∨ c = TO ∨ c = i1 ∨ c = i2 := by simpa using hcm
        rcases e' with q | q | q | q | q
        · rw [q]; exact hzl
        · rw [q]; exact Heap.lt_size hTI
        · rw [q]; exact Heap.lt_size hTO
        · rw [q]; obtain ⟨_, e1, _⟩ := h1; exact Heap.lt_size e1
        · rw [q]; obtain ⟨_, e2, _⟩ := h2; exact Heap.lt_size e2
      rw [upd_ne (Nat.ne_of_lt hlt)]
      exact (hf c hcm).1
  done := by
    intro X hP hw hK hc i pins s σ H E I hf st hg
    subst hP hw hK
    obtain ⟨hz, hTI, ⟨x0, y0, hTO⟩, h1, h2⟩ := st
    have hg' : i = min x.cps.size y.cps.size := hg
    have hd := I.ok.hd hc
    exact wpAny_pyNext_zipD2_end D (Draws.text (A := X.A.in1) hd i1 x t1) (Draws.text (A := X.A.in1) hd i2 y t2) hz hTI hTO h1 h2 (by omega) (by omega) (by omega) fun h' tk hk => ⟨rfl, I.turnedL (t' := tk) (ch := [z, TI, TO, i1, i2]) (fun c o hb q =>
      hk c o (fun q' => hb (by simp [q'])) (fun q' => hb (by simp [q'])) (fun q' => hb (by simp [q'])) (fun q' => hb (by simp [q'])) q) hf⟩
  self := fun A i s Q E st h => wpAny_pyIter_zip st.1 h
def iZipS (ta : TA) : TI := fun σ H R => ta σ H fun vs H1 => ∃ x y, vs = [.str x, .str y] ∧ R (ItzS x y) H1
theorem pi_zipS {X : Cx} {e e2 : Expr} {ta : TA} {p pos tpos : Pos} {elts : List Expr} {kk : Nat} (hg : Gl X "zip") (hm : X.mg "zip" = none) (ha : PA X [e, e2] ta)
    (hs : starEach [e, e2] X.env = (false, eval e X.env) :: starEach [e2] X.env := by rfl) (hpl : (backTo pos (starEach [e2] X.env)).any (·.1) = false := by rfl) :
    PI X (.Tuple elts kk tpos) (.Call (.Name "zip" p) [e, e2] [] pos) (iZipS ta) := by
  refine ⟨fun pins s σ H R I h => ?_⟩
  refine Call_ (ld_blt I hg hm PyProof.Rows.boot_zip (PyProof.Rows.callWith_type1 (thn (ha.run pos pins s σ H _ I h) fun us s1 ⟨vs, H1, I1, r1, q1⟩ => ?_) hs hpl))
  obtain ⟨x, y, ex, q⟩ := q1
  subst ex
  cases r1 with
  | cons r rr =>
    cases rr with
    | cons r' rr =>
      cases rr
      obtain ⟨t1, rfl⟩ := r
      obtain ⟨t2, rfl⟩ := r'
      refine zip_begins2 (begins_text x t1) (begins_text y t2) trivial trivial fun h' hz hTI hTO h1 h2 hsz hk => wpAny_pyIter_zip hz ?_
      have I2 : Inv X pins σ H1 { s1 with heap := h' } := I1.kept (t' := s1.toks) hk
      generalize hn : s1.heap.objs.size = n at hz hTI hTO h1 h2 hsz ⊢
      have D : ZipSep2 (n + 4) (n + 2) (n + 3) n (n + 1) [n] [n + 1] := by constructor <;> simp <;> omega
      refine ⟨n + 4, [n + 4, n + 2, n + 3, n, n + 1], _, _, H1, rfl, I2, turn_zipS (t1 := t1) (t2 := t2) D, ⟨hz, hTI, ⟨_, _, hTO⟩, ⟨_, h1, rfl, rfl⟩, ⟨_, h2, rfl, rfl⟩⟩, fun c hcm => ?_, q⟩
      have e' : c = n + 4 ∨ c = n + 2 ∨ c = n + 3 ∨ c = n ∨ c = n + 1 := by simpa using hcm
      have hle : s1.heap.objs.size ≤ c := by
        rw [hn]
        rcases e' with q | q | q | q | q
        · rw [q]; exact Nat.le_add_right _ _
        · rw [q]; exact Nat.le_add_right _ _
        · rw [q]; exact Nat.le_add_right _ _
        · rw [q]; exact Nat.le_refl _
        · rw [q]; exact Nat.le_add_right _ _
      exact I1.fpOk hle (I1.hok.fresh hle)
end L2

set_option Elab.async false
set_option linter.all false
set_option maxRecDepth 100000
/-! the rules whose reading names the written part, with that part a letter of its own (within a comprehension the place's own name of it can't be found by unification) -/
namespace L2
open PySem PySem.Spec PyProof.Rows
variable {X : Cx} {K : PySem.W.Frag}
theorem ix_listK (h : X.K = K) : IxR X (rIxL K) := by subst h; exact ix_list
theorem ix_tupK (h : X.K = K) : IxR X (rIxT K) := by subst h; exact ix_tup
theorem call_tuple_ofK (h : X.K = K) : CallR X (.type "tuple") (fun xs H Q => ∃ p ys, xs = [.ref p] ∧ ((SqL K H p ys ∧ ∀ l, H l = none → Q (.ref l) (upd H l (.tup ys))) ∨ (SqT K H p ys ∧ Q (.ref p) H))) := by subst h; exact call_tuple_of
theorem call_list_ofK (h : X.K = K) : CallR X (.type "list") (fun xs H Q => ∃ p ys, xs = [.ref p] ∧ (SqL K H p ys ∨ SqT K H p ys) ∧ ∀ l, H l = none → Q (.ref l) (upd H l (.lst ys))) := by subst h; exact call_list_of
theorem call_len_seqK (h : X.K = K) : CallR X (.builtin "len") (fun xs H Q => ∃ p ys, xs = [.ref p] ∧ (SqL K H p ys ∨ SqT K H p ys) ∧ Q (.int ys.length) H) := by subst h; exact call_len_seq
theorem call_isiK' (h : X.K = K) : CallR X (.builtin "isinstance") (rIsi K) := by subst h; exact call_isi
theorem call_isiTK (h : X.K = K) : CallR X (.builtin "isinstance") (rIsiT K) := by subst h; exact call_isiT
theorem sl_listK (h : X.K = K) : SlR X (rSlL K) := by subst h; exact sl_list
theorem cr_allK (h : X.K = K) (hc : X.calm = true) : CallR X (.builtin "all") (rAll K) := by subst h; exact cr_all hc
theorem cr_anyK (h : X.K = K) (hc : X.calm = true) : CallR X (.builtin "any") (rAny K) := by subst h; exact cr_any hc
theorem cr_sumK (h : X.K = K) (hc : X.calm = true) : CallR X (.builtin "sum") (rSum K) := by subst h; exact cr_sum hc
end L2

set_option Elab.async false
set_option linter.all false
set_option maxRecDepth 100000
set_option maxHeartbeats 4000000
/-! list(d.values()) -/
namespace L2
open PySem PySem.Spec PyProof.Rows
def tListVals (te : TE) : TE := fun σ H Q => te σ H fun x H1 => ∃ d kvs, x = V.ref d ∧ H1 d = some (.dK kvs) ∧ ∀ p, H1 p = none → Q (.ref p) (upd H1 p (.lst (kvs.map (·.2))))
theorem kv_vals {κ : Type} : ∀ {kvs : List (κ × V)} {vs : List (κ × Value)}, KV kvs vs → Vals (kvs.map (·.2)) (vs.map (·.2))
  | [], [], _ => .nil
  | _ :: _, _ :: _, .cons h t => .cons h.2 (kv_vals t)
section
variable {X : Cx} {e : Expr} {te : TE} {p apos cpos pos : Pos}
theorem pe_listVals (hc : X.calm = true) (he : PE X e te) (hg : Gl X "list") (hm : X.mg "list" = none) (hv : bootBuiltins "list" = some (.type "list")) (hbase : attributeBase e "values" X.env (eval e X.env) = eval e X.env := by rfl) (hline : (apos.endLine == cpos.line) = true := by rfl)
    (hs : starEach [.Call (.Attribute e "values" apos) [] [] cpos] X.env = (false, eval (.Call (.Attribute e "values" apos) [] [] cpos) X.env) :: starEach [] X.env := by rfl) :
    PE X (.Call (.Name "list" p) [.Call (.Attribute e "values" apos) [] [] cpos] [] pos) (tListVals te) := by
  refine ⟨fun pins s σ H Q I hq => ?_⟩
  refine wpAny_Call_Name_kw (ld_blt I hg hm hv ?_)
  refine PyProof.Rows.callWith_type1 ?_ hs rfl
  rw [hs]
  show wpAny _ _ (spliced ((false, eval (.Call (.Attribute e "values" apos) [] [] cpos) X.env) :: backTo pos (starEach [] X.env))) _ _ s
  refine Calls.spliced_cons ?_
  refine wpAny_Call_method (T := "dict") (id := "dict.values") hbase rfl hline F.plainAttrs_dict F.slot_dict_values F.type_dict_values (thn (he.run pins s σ H _ I hq) fun u s1 ⟨x, H1, I1, rx, d, kvs, ex, hd, q⟩ => ?_)
  subst ex
  obtain rfl : u = Value.ref d := rx
  obtain ⟨hz, hs0, vs, kv, hdo⟩ := I1.hok d _ hd
  obtain ⟨ep, hat⟩ := hdo.dictAt
  have lk : kvs.length = vs.length := Paired.length kv
  have I2 : Inv X pins σ H1 { s1 with heap := s1.heap.push { cls := .type "dict_values", data := .fields #[.ref d] } } := I1.kept (t' := s1.toks) fun b ob q => Heap.get?_push_of_some _ q
  refine ⟨hdo.typeIs, hdo.mapOf.noDict, ?_⟩
  show wpAny _ _ (callWith cpos (.builtin "dict.values") [.ref d] [] []) _ X.xe s1
  refine method_meetsIn F.slot_dict_values F.entry_dict_values rfl (PySem.evalArgs_none ⟨rfl, hdo.typeIs, F.args_dict_values_1 _, _, meets_dict_values (mixKind X.prog X.w) d hs0, ⟨vs, hdo⟩, ?_⟩)
  refine Calls.spliced_nil ?_
  refine PySem.W.kdl_call (PySem.W.kdl_values (knd := mixKind X.prog X.w) (kvs := vs) (ep := ep) (r := s1.heap.objs.size) (d := d)) (I1.ok.hd hc) ⟨⟨_, Heap.get?_push_size _ rfl, rfl, rfl⟩, hat.push _⟩ (by rw [← lk]; exact hz) fun h' tk acc c' hk hD hacc => ?_
  have ev : acc.toList = vs.map (·.2) := PySem.W.kdl_vals_eq _ (by rw [Array.length_toList]; exact hacc.1) fun j v e => hacc.2 j v (by rw [← Array.getElem?_toList]; exact e)
  refine ⟨.ref _, upd H1 _ (.lst (kvs.map (·.2))), I2.laid (t' := tk) hk (Nat.le_refl _)
    (show ObjOk X.prog X.w _ _ _ (.lst (kvs.map (·.2))) from ⟨by rw [List.length_map]; exact hz, acc.toList, c', by rw [ev]; exact kv_vals kv, by rw [Array.toArray_toList]; exact hD⟩), rfl, q _ (I2.hok.fresh (Nat.le_refl _))⟩
end
end L2

set_option Elab.async false
set_option linter.all false
set_option maxRecDepth 100000
set_option maxHeartbeats 4000000
/-! a call by keywords alone; a text times a number -/
namespace L2
open PySem PySem.Spec PyProof.Rows
theorem Fun.kbinds {K : PySem.W.Frag} {x qual : Str} {st : Stmt} {f : Addr} {fd : FuncData} {ps ks : List Str} (F : Fun K x qual st f fd) (g : {α : Type} → List α → List α)
    (h : ∀ (kV doc pm : Value) (an : Option Addr) (cdv ct : Value) (ws : List Value), ws.length = ks.length → bindArgs (PySem.W.fnOf x qual (defArgs st) (defBody st) (defScope st) .none kV doc pm an cdv ct) ⟨[], ks.zip ws⟩ = pure (ps.zip (g ws)))
    (hrel : ∀ {zs : List V} {ws : List Value}, Vals zs ws → Vals (g zs) (g ws)) : KBn K fd ps 0 ks (fun _ ws => g ws) (fun _ zs => g zs) := by
  obtain ⟨oc, od, kV, doc, pm, an, cdv, ct, osl, rfl, lk, hcd⟩ := F.ex
  refine ⟨fun s us ws _ h0 hl => ?_, fun _ r => hrel r⟩
  cases us with
  | nil => exact BindsTo.of_eq (h kV doc pm an cdv ct ws hl)
  | cons a r => cases h0
section
variable {X : Cx} {CX : CXT} {k : Nat} {f : Addr} {fd : FuncData} {ps ks : List Str} {sp : Sp} {E : XK} {x : Str} {p pos : Pos} {kws : List Keyword} {tk : TA} {g : List Value → List Value → List Value} {gV : List V → List V → List V}
theorem pe_callN0 (F : FnOk X.prog X.w X.K X.mg X.base CX k f fd ps sp) (hr : Room k X.A) (hg : Gl X x) (hm : X.mg x = some (.ref f)) (hk : PySem.W.keepIn X.K (.ref f) = true) (hb : KBn X.K fd ps 0 ks g gV) (hx : Passes CX X E)
    (hkw : PK X kws tk) (hall : (backToKw pos (keywordEach kws X.env)).all (·.1.isSome) = true := by rfl) (hks : (backToKw pos (keywordEach kws X.env)).filterMap (·.1) = ks := by rfl)
    (hdb : (x == ("__debug__" : Str)) = false := by decide)
    (hpl : ((backTo pos (starEach [] X.env)).any (·.1) || (backToKw pos (keywordEach kws X.env)).any (·.1.isNone)) = false := by rfl) :
    PE X (.Call (.Name x p) [] kws pos) (tCallN 0 ks.length sp gV E tNil tk) := by
  refine ⟨fun pins s σ H Q I h => ?_⟩
  refine wpAny_Call_Name_kw (ld_glob I hg hm ?_ hdb)
  refine PySem.W.callWith_KW0 (h₀ := X.base) I.ok.mod.kin hk hall ?_ hpl
  refine thn (hkw.run pos pins s σ H _ I h) fun ws s2 ⟨zs, H2, I2, rz, l1, l2, q2⟩ => ⟨I2.kIn, ?_⟩
  rw [hks]
  exact run_fnN (us := []) (vs := []) F hr hb hx I2 .nil rz rfl l2 q2
theorem op_mul_str : OpR X (binaryOp .Mult) (fun x y H Q => ∃ z n, x = .str z ∧ y = .int n ∧ z.length ≤ 16 ∧ -(2 ^ 63 : Int) ≤ n ∧ n ≤ 1048576 ∧ Q (.str (Txt.mul z n)) H) := by
  intro pins s σ H x y v u Q I rx ry h
  obtain ⟨z, n, rfl, rfl, h1, h2, h3, q⟩ := h
  obtain ⟨t, rfl⟩ := rx
  obtain ⟨t', rfl⟩ := ry
  exact SB.mul (mulOk_of 16 1048576 h1 h3 h2 (by decide) (by decide)) fun t' tk => ⟨.str _, H, I.tok _, ⟨_, rfl⟩, q⟩
end
end L2

set_option Elab.async false
set_option linter.all false
set_option maxRecDepth 100000
set_option maxHeartbeats 4000000
namespace J
open PySem L2
def topS (i : Nat) : Stmt := PySem.Challenge.pw_onewayread_k04_rows_counted_in_long_text.main.body.getD i (.Pass ⟨0, 0, 0, 0⟩)
abbrev s_InvalidLoom_init : Stmt := inClass (topS 2) 0
abbrev N_InvalidLoom_init : List Str := ["self", "part", "at"]
abbrev P_InvalidLoom_init : List Str := ["self", "part", "at"]
theorem sc_InvalidLoom_init : FnScope N_InvalidLoom_init P_InvalidLoom_init (defScope s_InvalidLoom_init) := ⟨rfl, rfl, rfl, by decide +kernel, rfl, by decide +kernel, by decide +kernel⟩
abbrev s_is_number : Stmt := topS 10
abbrev N_is_number : List Str := ["thing", "low", "high"]
abbrev P_is_number : List Str := ["thing", "low", "high"]
theorem sc_is_number : FnScope N_is_number P_is_number (defScope s_is_number) := ⟨rfl, rfl, rfl, by decide +kernel, rfl, by decide +kernel, by decide +kernel⟩
abbrev s_is_sequence : Stmt := topS 11
abbrev N_is_sequence : List Str := ["thing", "fewest", "most"]
abbrev P_is_sequence : List Str := ["thing", "fewest", "most"]
theorem sc_is_sequence : FnScope N_is_sequence P_is_sequence (defScope s_is_sequence) := ⟨rfl, rfl, rfl, by decide +kernel, rfl, by decide +kernel, by decide +kernel⟩
abbrev s_is_signs : Stmt := topS 12
abbrev N_is_signs : List Str := ["thing", "letters", "sign", "one", "other"]
abbrev P_is_signs : List Str := ["thing"]
theorem sc_is_signs : FnScope N_is_signs P_is_signs (defScope s_is_signs) := ⟨rfl, rfl, rfl, by decide +kernel, rfl, by decide +kernel, by decide +kernel⟩
abbrev s_is_string_over : Stmt := topS 13
abbrev N_is_string_over : List Str := ["signs", "thing", "fewest", "most", "sign"]
abbrev P_is_string_over : List Str := ["signs", "thing", "fewest", "most"]
theorem sc_is_string_over : FnScope N_is_string_over P_is_string_over (defScope s_is_string_over) := ⟨rfl, rfl, rfl, by decide +kernel, rfl, by decide +kernel, by decide +kernel⟩
abbrev s_is_word : Stmt := topS 14
abbrev N_is_word : List Str := ["signs", "thing"]
abbrev P_is_word : List Str := ["signs", "thing"]
theorem sc_is_word : FnScope N_is_word P_is_word (defScope s_is_word) := ⟨rfl, rfl, rfl, by decide +kernel, rfl, by decide +kernel, by decide +kernel⟩
abbrev s_check_signs : Stmt := topS 15
abbrev N_check_signs : List Str := ["signs"]
abbrev P_check_signs : List Str := ["signs"]
theorem sc_check_signs : FnScope N_check_signs P_check_signs (defScope s_check_signs) := ⟨rfl, rfl, rfl, by decide +kernel, rfl, by decide +kernel, by decide +kernel⟩
abbrev s_check_state : Stmt := topS 16
abbrev N_check_state : List Str := ["state"]
abbrev P_check_state : List Str := ["state"]
theorem sc_check_state : FnScope N_check_state P_check_state (defScope s_check_state) := ⟨rfl, rfl, rfl, by decide +kernel, rfl, by decide +kernel, by decide +kernel⟩
abbrev s_check_text : Stmt := topS 17
abbrev N_check_text : List Str := ["signs", "text"]
abbrev P_check_text : List Str := ["signs", "text"]
theorem sc_check_text : FnScope N_check_text P_check_text (defScope s_check_text) := ⟨rfl, rfl, rfl, by decide +kernel, rfl, by decide +kernel, by decide +kernel⟩
abbrev s_count : Stmt := topS 19
abbrev N_count : List Str := ["loom", "state", "text", "ways", "at", "place", "word", "goal", "end", "_"]
abbrev P_count : List Str := ["loom", "state", "text"]
theorem sc_count : FnScope N_count P_count (defScope s_count) := ⟨rfl, rfl, rfl, by decide +kernel, rfl, by decide +kernel, by decide +kernel⟩
abbrev s_is_arc : Stmt := topS 22
abbrev N_is_arc : List Str := ["signs", "thing", "state", "word", "goal"]
abbrev P_is_arc : List Str := ["signs", "thing"]
theorem sc_is_arc : FnScope N_is_arc P_is_arc (defScope s_is_arc) := ⟨rfl, rfl, rfl, by decide +kernel, rfl, by decide +kernel, by decide +kernel⟩
abbrev s_Loom_init : Stmt := inClass (topS 23) 0
abbrev N_Loom_init : List Str := ["self", "signs", "arcs", "at", "arc"]
abbrev P_Loom_init : List Str := ["self", "signs", "arcs"]
theorem sc_Loom_init : FnScope N_Loom_init P_Loom_init (defScope s_Loom_init) := ⟨rfl, rfl, rfl, by decide +kernel, rfl, by decide +kernel, by decide +kernel⟩
abbrev s_Loom_eq : Stmt := inClass (topS 23) 1
abbrev N_Loom_eq : List Str := ["self", "other"]
abbrev P_Loom_eq : List Str := ["self", "other"]
theorem sc_Loom_eq : FnScope N_Loom_eq P_Loom_eq (defScope s_Loom_eq) := ⟨rfl, rfl, rfl, by decide +kernel, rfl, by decide +kernel, by decide +kernel⟩
abbrev s_l_state : Stmt := topS 25
abbrev N_l_state : List Str := ["_law_script"]
abbrev P_l_state : List Str := ["_law_script"]
theorem sc_l_state : FnScope N_l_state P_l_state (defScope s_l_state) := ⟨rfl, rfl, rfl, by decide +kernel, rfl, by decide +kernel, by decide +kernel⟩
abbrev s_l_draw : Stmt := topS 26
abbrev N_l_draw : List Str := ["_law_state_here", "_law_many", "_law_digit", "_law_cell", "_law_number"]
abbrev P_l_draw : List Str := ["_law_state_here", "_law_many"]
theorem sc_l_draw : FnScope N_l_draw P_l_draw (defScope s_l_draw) := ⟨rfl, rfl, rfl, by decide +kernel, rfl, by decide +kernel, by decide +kernel⟩
abbrev s_l_is_integer : Stmt := topS 27
abbrev N_l_is_integer : List Str := ["_law_thing"]
abbrev P_l_is_integer : List Str := ["_law_thing"]
theorem sc_l_is_integer : FnScope N_l_is_integer P_l_is_integer (defScope s_l_is_integer) := ⟨rfl, rfl, rfl, by decide +kernel, rfl, by decide +kernel, by decide +kernel⟩
abbrev s_l_word : Stmt := topS 28
abbrev N_l_word : List Str := ["_law_state_here", "_law_signs", "_law_most", "_law_size", "_law_k"]
abbrev P_l_word : List Str := ["_law_state_here", "_law_signs", "_law_most"]
theorem sc_l_word : FnScope N_l_word P_l_word (defScope s_l_word) := ⟨rfl, rfl, rfl, by decide +kernel, rfl, by decide +kernel, by decide +kernel⟩
abbrev s_l_loom : Stmt := topS 29
abbrev N_l_loom : List Str := ["_law_state_here", "_law_signs", "_law_places", "_law_many", "_law_most", "_law_arcs", "_law_k", "_law_start"]
abbrev P_l_loom : List Str := ["_law_state_here"]
theorem sc_l_loom : FnScope N_l_loom P_l_loom (defScope s_l_loom) := ⟨rfl, rfl, rfl, by decide +kernel, rfl, by decide +kernel, by decide +kernel⟩
abbrev s_l_made : Stmt := topS 30
abbrev N_l_made : List Str := ["_law_pair"]
abbrev P_l_made : List Str := ["_law_pair"]
theorem sc_l_made : FnScope N_l_made P_l_made (defScope s_l_made) := ⟨rfl, rfl, rfl, by decide +kernel, rfl, by decide +kernel, by decide +kernel⟩
abbrev s_l_leaving : Stmt := topS 31
abbrev N_l_leaving : List Str := ["_law_arcs", "_law_here", "_law_at"]
abbrev P_l_leaving : List Str := ["_law_arcs", "_law_here"]
theorem sc_l_leaving : FnScope N_l_leaving P_l_leaving (defScope s_l_leaving) := ⟨rfl, rfl, rfl, by decide +kernel, rfl, by decide +kernel, by decide +kernel⟩
abbrev s_l_met : Stmt := topS 32
abbrev N_l_met : List Str := ["_law_arcs", "_law_found", "_law_turn", "_law_here", "_law_at"]
abbrev P_l_met : List Str := ["_law_arcs"]
theorem sc_l_met : FnScope N_l_met P_l_met (defScope s_l_met) := ⟨rfl, rfl, rfl, by decide +kernel, rfl, by decide +kernel, by decide +kernel⟩
abbrev s_l_joined : Stmt := topS 33
abbrev N_l_joined : List Str := ["_law_arcs", "_law_row", "_law_at"]
abbrev P_l_joined : List Str := ["_law_arcs", "_law_row"]
theorem sc_l_joined : FnScope N_l_joined P_l_joined (defScope s_l_joined) := ⟨rfl, rfl, rfl, by decide +kernel, rfl, by decide +kernel, by decide +kernel⟩
abbrev s_l_end : Stmt := topS 34
abbrev N_l_end : List Str := ["_law_arcs", "_law_here", "_law_row"]
abbrev P_l_end : List Str := ["_law_arcs", "_law_here", "_law_row"]
theorem sc_l_end : FnScope N_l_end P_l_end (defScope s_l_end) := ⟨rfl, rfl, rfl, by decide +kernel, rfl, by decide +kernel, by decide +kernel⟩
abbrev s_l_walk : Stmt := topS 35
abbrev N_l_walk : List Str := ["_law_state_here", "_law_arcs", "_law_here", "_law_many", "_law_row", "_law_k", "_law_goals"]
abbrev P_l_walk : List Str := ["_law_state_here", "_law_arcs", "_law_here", "_law_many"]
theorem sc_l_walk : FnScope N_l_walk P_l_walk (defScope s_l_walk) := ⟨rfl, rfl, rfl, by decide +kernel, rfl, by decide +kernel, by decide +kernel⟩
abbrev s_l_counted : Stmt := topS 36
abbrev N_l_counted : List Str := ["_law_arcs", "_law_here", "_law_text", "_law_table", "_law_place", "_law_place_state", "_law_at", "_law_word_here", "_law_after", "_law_row", "_law_k", "_law_one"]
abbrev P_l_counted : List Str := ["_law_arcs", "_law_here", "_law_text"]
theorem sc_l_counted : FnScope N_l_counted P_l_counted (defScope s_l_counted) := ⟨rfl, rfl, rfl, by decide +kernel, rfl, by decide +kernel, by decide +kernel⟩
abbrev s_law : Stmt := topS 37
abbrev N_law : List Str := ["_law_script", "_law_state_here", "_law_turn", "_law_pair", "_law_signs", "_law_arcs", "_law_loom_here", "_law_here", "_law_size", "_law_text", "_law_more", "_law_one", "_law_told", "_law_twins", "_law_long_text", "_law_k"]
abbrev P_law : List Str := ["_law_script"]
theorem sc_law : FnScope N_law P_law (defScope s_law) := ⟨rfl, rfl, rfl, by decide +kernel, rfl, by decide +kernel, by decide +kernel⟩
/-- what the top has written -/
structure Tx (K : PySem.W.Frag) (mg : Str → Option Value) : Type where
  f_InvalidLoom_init : Addr
  fd_InvalidLoom_init : FuncData
  F_InvalidLoom_init : Fun K "__init__" "InvalidLoom.__init__" s_InvalidLoom_init f_InvalidLoom_init fd_InvalidLoom_init
  b_InvalidLoom_init : Binds K fd_InvalidLoom_init P_InvalidLoom_init []
  f_is_number : Addr
  fd_is_number : FuncData
  F_is_number : Fun K "is_number" "is_number" s_is_number f_is_number fd_is_number
  b_is_number : Binds K fd_is_number P_is_number []
  m_is_number : mg "is_number" = some (.ref f_is_number)
  f_is_sequence : Addr
  fd_is_sequence : FuncData
  F_is_sequence : Fun K "is_sequence" "is_sequence" s_is_sequence f_is_sequence fd_is_sequence
  b_is_sequence : Binds K fd_is_sequence P_is_sequence []
  m_is_sequence : mg "is_sequence" = some (.ref f_is_sequence)
  f_is_signs : Addr
  fd_is_signs : FuncData
  F_is_signs : Fun K "is_signs" "is_signs" s_is_signs f_is_signs fd_is_signs
  b_is_signs : Binds K fd_is_signs P_is_signs []
  m_is_signs : mg "is_signs" = some (.ref f_is_signs)
  f_is_string_over : Addr
  fd_is_string_over : FuncData
  F_is_string_over : Fun K "is_string_over" "is_string_over" s_is_string_over f_is_string_over fd_is_string_over
  b_is_string_over : Binds K fd_is_string_over P_is_string_over []
  m_is_string_over : mg "is_string_over" = some (.ref f_is_string_over)
  f_is_word : Addr
  fd_is_word : FuncData
  F_is_word : Fun K "is_word" "is_word" s_is_word f_is_word fd_is_word
  b_is_word : Binds K fd_is_word P_is_word []
  m_is_word : mg "is_word" = some (.ref f_is_word)
  f_check_signs : Addr
  fd_check_signs : FuncData
  F_check_signs : Fun K "check_signs" "check_signs" s_check_signs f_check_signs fd_check_signs
  b_check_signs : Binds K fd_check_signs P_check_signs []
  m_check_signs : mg "check_signs" = some (.ref f_check_signs)
  f_check_state : Addr
  fd_check_state : FuncData
  F_check_state : Fun K "check_state" "check_state" s_check_state f_check_state fd_check_state
  b_check_state : Binds K fd_check_state P_check_state []
  m_check_state : mg "check_state" = some (.ref f_check_state)
  f_check_text : Addr
  fd_check_text : FuncData
  F_check_text : Fun K "check_text" "check_text" s_check_text f_check_text fd_check_text
  b_check_text : Binds K fd_check_text P_check_text []
  m_check_text : mg "check_text" = some (.ref f_check_text)
  f_count : Addr
  fd_count : FuncData
  F_count : Fun K "count" "count" s_count f_count fd_count
  b_count : Binds K fd_count P_count []
  m_count : mg "count" = some (.ref f_count)
  f_is_arc : Addr
  fd_is_arc : FuncData
  F_is_arc : Fun K "is_arc" "is_arc" s_is_arc f_is_arc fd_is_arc
  b_is_arc : Binds K fd_is_arc P_is_arc []
  m_is_arc : mg "is_arc" = some (.ref f_is_arc)
  f_Loom_init : Addr
  fd_Loom_init : FuncData
  F_Loom_init : Fun K "__init__" "Loom.__init__" s_Loom_init f_Loom_init fd_Loom_init
  b_Loom_init : Binds K fd_Loom_init P_Loom_init []
  f_Loom_eq : Addr
  fd_Loom_eq : FuncData
  F_Loom_eq : Fun K "__eq__" "Loom.__eq__" s_Loom_eq f_Loom_eq fd_Loom_eq
  b_Loom_eq : Binds K fd_Loom_eq P_Loom_eq []
  f_l_state : Addr
  fd_l_state : FuncData
  F_l_state : Fun K "_law_state" "_law_state" s_l_state f_l_state fd_l_state
  b_l_state : Binds K fd_l_state P_l_state []
  m_l_state : mg "_law_state" = some (.ref f_l_state)
  f_l_draw : Addr
  fd_l_draw : FuncData
  F_l_draw : Fun K "_law_draw" "_law_draw" s_l_draw f_l_draw fd_l_draw
  b_l_draw : Binds K fd_l_draw P_l_draw []
  m_l_draw : mg "_law_draw" = some (.ref f_l_draw)
  f_l_is_integer : Addr
  fd_l_is_integer : FuncData
  F_l_is_integer : Fun K "_law_is_integer" "_law_is_integer" s_l_is_integer f_l_is_integer fd_l_is_integer
  b_l_is_integer : Binds K fd_l_is_integer P_l_is_integer []
  m_l_is_integer : mg "_law_is_integer" = some (.ref f_l_is_integer)
  f_l_word : Addr
  fd_l_word : FuncData
  F_l_word : Fun K "_law_word" "_law_word" s_l_word f_l_word fd_l_word
  b_l_word : Binds K fd_l_word P_l_word []
  m_l_word : mg "_law_word" = some (.ref f_l_word)
  f_l_loom : Addr
  fd_l_loom : FuncData
  F_l_loom : Fun K "_law_loom" "_law_loom" s_l_loom f_l_loom fd_l_loom
  b_l_loom : Binds K fd_l_loom P_l_loom []
  m_l_loom : mg "_law_loom" = some (.ref f_l_loom)
  f_l_made : Addr
  fd_l_made : FuncData
  F_l_made : Fun K "_law_made" "_law_made" s_l_made f_l_made fd_l_made
  b_l_made : Binds K fd_l_made P_l_made []
  m_l_made : mg "_law_made" = some (.ref f_l_made)
  f_l_leaving : Addr
  fd_l_leaving : FuncData
  F_l_leaving : Fun K "_law_leaving" "_law_leaving" s_l_leaving f_l_leaving fd_l_leaving
  b_l_leaving : Binds K fd_l_leaving P_l_leaving []
  m_l_leaving : mg "_law_leaving" = some (.ref f_l_leaving)
  f_l_met : Addr
  fd_l_met : FuncData
  F_l_met : Fun K "_law_met" "_law_met" s_l_met f_l_met fd_l_met
  b_l_met : Binds K fd_l_met P_l_met []
  m_l_met : mg "_law_met" = some (.ref f_l_met)
  f_l_joined : Addr
  fd_l_joined : FuncData
  F_l_joined : Fun K "_law_joined" "_law_joined" s_l_joined f_l_joined fd_l_joined
  b_l_joined : Binds K fd_l_joined P_l_joined []
  m_l_joined : mg "_law_joined" = some (.ref f_l_joined)
  f_l_end : Addr
  fd_l_end : FuncData
  F_l_end : Fun K "_law_end" "_law_end" s_l_end f_l_end fd_l_end
  b_l_end : Binds K fd_l_end P_l_end []
  m_l_end : mg "_law_end" = some (.ref f_l_end)
  f_l_walk : Addr
  fd_l_walk : FuncData
  F_l_walk : Fun K "_law_walk" "_law_walk" s_l_walk f_l_walk fd_l_walk
  b_l_walk : Binds K fd_l_walk P_l_walk []
  m_l_walk : mg "_law_walk" = some (.ref f_l_walk)
  f_l_counted : Addr
  fd_l_counted : FuncData
  F_l_counted : Fun K "_law_counted" "_law_counted" s_l_counted f_l_counted fd_l_counted
  b_l_counted : Binds K fd_l_counted P_l_counted []
  m_l_counted : mg "_law_counted" = some (.ref f_l_counted)
  f_law : Addr
  fd_law : FuncData
  F_law : Fun K "law" "law" s_law f_law fd_law
  b_law : Binds K fd_law P_law []
  m_law : mg "law" = some (.ref f_law)
  n_all : mg "all" = none
  n_bool : mg "bool" = none
  n_enumerate : mg "enumerate" = none
  n_int : mg "int" = none
  n_isinstance : mg "isinstance" = none
  n_len : mg "len" = none
  n_list : mg "list" = none
  n_range : mg "range" = none
  n_sorted : mg "sorted" = none
  n_str : mg "str" = none
  n_sum : mg "sum" = none
  n_tuple : mg "tuple" = none
  n_zip : mg "zip" = none
  t_MOST_SIGNS : Tok
  g_MOST_SIGNS : mg "MOST_SIGNS" = some (.int 4 t_MOST_SIGNS)
  t_LONGEST_WORD : Tok
  g_LONGEST_WORD : mg "LONGEST_WORD" = some (.int 12 t_LONGEST_WORD)
  t_LONGEST_TEXT : Tok
  g_LONGEST_TEXT : mg "LONGEST_TEXT" = some (.int 2000 t_LONGEST_TEXT)
  t_LAST_STATE : Tok
  g_LAST_STATE : mg "LAST_STATE" = some (.int 63 t_LAST_STATE)
  t_MOST_ARCS : Tok
  g_MOST_ARCS : mg "MOST_ARCS" = some (.int 200 t_MOST_ARCS)
  C_Loom : Addr
  M_Loom : Mk K C_Loom f_Loom_init
  cl_Loom : Cls K C_Loom
  g_Loom : mg "Loom" = some (.ref C_Loom)
  na_Loom_signs : NoAttr K C_Loom "signs"
  na_Loom_arcs : NoAttr K C_Loom "arcs"
end J

set_option Elab.async false
set_option linter.all false
set_option maxRecDepth 100000
set_option maxHeartbeats 4000000
namespace J
open PySem L2
/-! ### frames -/
/-- all that was tracked but what stands at p is as it was -/
def Ex (p : Addr) (H H' : Hp) : Prop := ∀ b o, b ≠ p → H b = some o → H' b = some o
theorem Ex.refl (p : Addr) (H : Hp) : Ex p H H := fun _ _ _ h => h
theorem Ex.trans {p : Addr} {H H1 H2 : Hp} (a : Ex p H H1) (b : Ex p H1 H2) : Ex p H H2 := fun c o n h => b c o n (a c o n h)
theorem Ex.upd {p : Addr} {H : Hp} (o : HO) : Ex p H (upd H p o) := fun c u n h => by rw [upd_ne n]; exact h
theorem Ex.new {p q : Addr} {H : Hp} (o : HO) (h : H q = none) : Ex p H (L2.upd H q o) := fun c u n e => by
  rw [upd_ne (ne_of_none e h)]; exact e
theorem Same.ex {p : Addr} {H H' : Hp} (s : Same H H') : Ex p H H' := fun c o _ h => s c o h
theorem Same.new {q : Addr} {H : Hp} (o : HO) (h : H q = none) : Same H (L2.upd H q o) := fun c u e => by
  rw [upd_ne (ne_of_none e h)]; exact e
/-! ### the pool of draws -/
def stv (l : Addr) (a b c d e : Int) : List V := [.ref l, .int a, .int b, .int c, .int d, .int e]
def StAt (ns : List Int) (l : Addr) (H : Hp) (p : Addr) : Prop := ∃ (a b c d e : Int), H l = some (.lst (ns.map V.int)) ∧ H p = some (.lst (stv l a b c d e)) ∧ 0 ≤ a
theorem StAt.there {ns : List Int} {l : Addr} {H : Hp} {p : Addr} (h : StAt ns l H p) : (∃ o, H p = some o) ∧ ∃ o, H l = some o := by
  obtain ⟨a, b, c, d, e, h1, h2, h3⟩ := h
  exact ⟨⟨_, h2⟩, _, h1⟩
theorem hp_ne {H : Hp} {p q : Addr} {o : HO} (h : H p = some o) (hq : H q = none) : q ≠ p := by
  intro z
  rw [z, h] at hq
  cases hq
theorem StAt.ne {ns : List Int} {l : Addr} {H : Hp} {p q : Addr} (h : StAt ns l H p) (hq : H q = none) : q ≠ p ∧ q ≠ l := by
  obtain ⟨⟨o, h1⟩, u, h2⟩ := h.there
  exact ⟨hp_ne h1 hq, hp_ne h2 hq⟩
theorem StAt.same {ns : List Int} {l : Addr} {H H' : Hp} {p : Addr} (h : StAt ns l H p) (s : Same H H') : StAt ns l H' p := by
  obtain ⟨a, b, c, d, e, h1, h2, h3⟩ := h
  exact ⟨a, b, c, d, e, s _ _ h1, s _ _ h2, h3⟩
theorem StAt.upd {ns : List Int} {l : Addr} {H : Hp} {p q : Addr} {o : HO} (h : StAt ns l H p) (n : q ≠ p ∧ q ≠ l) : StAt ns l (L2.upd H q o) p := by
  obtain ⟨a, b, c, d, e, h1, h2, h3⟩ := h
  exact ⟨a, b, c, d, e, by rw [upd_ne n.2.symm]; exact h1, by rw [upd_ne n.1.symm]; exact h2, h3⟩
theorem Ex.free {p q : Addr} {H H' : Hp} (x : Ex p H H') (hq : H' q = none) (n : q ≠ p) : H q = none := by
  cases e : H q with
  | none => rfl
  | some o => rw [x _ _ n e] at hq; cases hq
theorem Ex.updNew {p q : Addr} {H H' : Hp} {o : HO} (x : Ex p H H') (hq : H q = none) : Ex p H (L2.upd H' q o) := fun b u n e => by
  rw [upd_ne (ne_of_none e hq)]; exact x b u n e
def spState (K : PySem.W.Frag) (ns : List Int) : Sp := fun vs H Q _ => ∃ a : Addr, vs = [.ref a] ∧ SqL K H a (ns.map V.int) ∧ ∀ H' p l, Same H H' → H p = none → H l = none → StAt ns l H' p → Q (.ref p) H'
def spDraw (ns : List Int) : Sp := fun vs H Q _ => ∃ (p l : Addr) (m : Int), vs = [.ref p, .int m] ∧ StAt ns l H p ∧ 0 < m ∧ m < 1073741824 ∧
  ∀ H' (r : Int), Ex p H H' → StAt ns l H' p → 0 ≤ r → r < m → Q (.int r) H'
theorem fm_nonneg (a : Int) {b : Int} (h : 0 < b) : 0 ≤ a.fmod b := Int.fmod_nonneg_of_pos a h
theorem fm_lt (a : Int) {b : Int} (h : 0 < b) : a.fmod b < b := Int.fmod_lt_of_pos a h
theorem atI_ints {ns : List Int} {a : Int} (h0 : 0 ≤ a) (h1 : a < ns.length) : ∃ n, atI (ns.map V.int) a = some (V.int n) := by
  obtain ⟨j, rfl⟩ := Int.eq_ofNat_of_zero_le h0
  have hj : j < ns.length := by exact_mod_cast h1
  exact ⟨ns[j], atI_nat (by rw [List.getElem?_map, List.getElem?_eq_getElem hj]; rfl)⟩
section
variable {P : Program} {w : World} {K : PySem.W.Frag} {mg : Str → Option Value} {base : Heap}
theorem ok_l_state (T : Tx K mg) (ns : List Int) : FnOk P w K mg base CX0 1 T.f_l_state T.fd_l_state P_l_state (spState K ns) := by
  refine T.F_l_state.ok sc_l_state (fun vs H Q E h => ?_) (fun cdv A outer s H vs Q E hr h => ?_)
  · obtain ⟨a, rfl, _⟩ := h
    rfl
  · obtain ⟨a, rfl, hS, k⟩ := h
    refine ⟨_, (pss_one (ps_ret (pe_lst (pa_cons (pe_callTy (call_list_ofK (K := K) rfl) rfl T.n_list (by decide +kernel) (pa_cons (pv 0) pa_nil)) (pa_cons pe_int (pa_cons pe_int (pa_cons pe_int (pa_cons pe_int (pa_cons pe_int pa_nil))))))))), ?_⟩
    refine ⟨_, rfl, a, _, rfl, .inl hS, fun l hl => ?_⟩
    refine ⟨by show 6 ≤ sizeLine; decide, fun p hp => ?_⟩
    have nlp : l ≠ p := fun q => by
      rw [q, upd_same] at hp
      cases hp
    have hp0 : H p = none := by rw [upd_ne nlp.symm] at hp; exact hp
    refine k _ p l ((Same.new _ hl).trans (Same.new _ hp)) hp0 hl ⟨0, 0, 0, 0, 0, ?_, upd_same, Int.le_refl _⟩
    rw [upd_ne nlp, upd_same]
theorem ok_l_draw (T : Tx K mg) (ns : List Int) : FnOk P w K mg base CX0 1 T.f_l_draw T.fd_l_draw P_l_draw (spDraw ns) := by
  refine T.F_l_draw.ok sc_l_draw (fun vs H Q E h => ?_) (fun cdv A outer s H vs Q E hr h => ?_)
  · obtain ⟨p, l, m, rfl, _⟩ := h
    rfl
  · obtain ⟨p, l, m, rfl, hst, hm, hm2, k⟩ := h
    refine ⟨_, (C8.pss_cut (ps_if (PW.pt (pw_and (pt_cmpR op_gt (pe_ix (ix_listK (K := K) rfl) (pv 0) pe_int (fun _ _ => rfl)) pe_int (nomark _)) (pw_and1 (pt_cmpR op_lt (pe_ix (ix_listK (K := K) rfl) (pv 0) pe_int (fun _ _ => rfl)) pe_int (nomark _))))) (pss_cons (ps_set (i := 2) sc_l_draw.nd rfl (Or.inl rfl) (pe_op op_modN (pe_callTy call_int1 rfl T.n_int (by decide +kernel) (pa_cons (pe_ix (ix_listK (K := K) rfl) (pv 0) pe_int (fun _ _ => rfl)) pa_nil)) (pv 1)))
        (pss_cons (ps_asg (pe_op op_fdivN (pe_ix (ix_listK (K := K) rfl) (pv 0) pe_int (fun _ _ => rfl)) (pv 1)) (pg_sub (pv 0) pe_int set_list))
        (pss_cons (ps_asg (pe_op op_add (pe_ix (ix_listK (K := K) rfl) (pv 0) pe_int (fun _ _ => rfl)) pe_int) (pg_sub (pv 0) pe_int set_list))
        (pss_one (ps_ret (pv 2)))))) pss_nil)
        (pss_cons (ps_asg (pe_op op_add (pe_ix (ix_listK (K := K) rfl) (pv 0) pe_int (fun _ _ => rfl)) pe_int) (pg_sub (pv 0) pe_int set_list))
        (C8.pss_cut (ps_if (pt_cmpR op_lt (pe_ix (ix_listK (K := K) rfl) (pv 0) pe_int (fun _ _ => rfl)) (pe_callB (call_len_seqK (K := K) rfl) rfl T.n_len (by decide +kernel) (pa_cons (pe_ix (ix_listK (K := K) rfl) (pv 0) pe_int (fun _ _ => rfl)) pa_nil)) (nomark _)) (pss_cons (ps_set (i := 3) sc_l_draw.nd rfl (Or.inl rfl) (pe_ix (ix_listK (K := K) rfl) (pe_ix (ix_listK (K := K) rfl) (pv 0) pe_int (fun _ _ => rfl)) (pe_ix (ix_listK (K := K) rfl) (pv 0) pe_int (fun _ _ => rfl)) (fun _ _ => rfl)))
        (pss_cons (ps_asg (pe_op op_add (pe_ix (ix_listK (K := K) rfl) (pv 0) pe_int (fun _ _ => rfl)) pe_int) (pg_sub (pv 0) pe_int set_list))
        (pss_cons (ps_asg (pe_op op_modN (pe_op op_add (pe_op op_mul (pe_ix (ix_listK (K := K) rfl) (pv 0) pe_int (fun _ _ => rfl)) pe_int) (pe_callTy call_int1 rfl T.n_int (by decide +kernel) (pa_cons (pv 3) pa_nil))) (pe_op op_pow pe_int pe_int)) (pg_sub (pv 0) pe_int set_list))
        (pss_one (ps_if (pt_cmpR op_ge (pv 3) (pe_op op_pow pe_int pe_int) (nomark _)) (pss_cons (ps_asg (pe_op op_fdivN (pv 3) (pv 1)) (pg_sub (pv 0) pe_int set_list))
        (pss_cons (ps_asg pe_int (pg_sub (pv 0) pe_int set_list))
        (pss_one (ps_ret (pe_op op_modN (pe_callTy call_int1 rfl T.n_int (by decide +kernel) (pa_cons (pv 3) pa_nil)) (pv 1)))))) pss_nil))))) pss_nil)
        (pss_cons (ps_set (i := 4) sc_l_draw.nd rfl (Or.inl rfl) (pe_op op_modN (pe_op op_mul (pe_op op_add (pe_op op_add (pe_op op_mul (pe_callTy call_int1 rfl T.n_int (by decide +kernel) (pa_cons (pe_ix (ix_listK (K := K) rfl) (pv 0) pe_int (fun _ _ => rfl)) pa_nil)) pe_int) (pe_op op_mul pe_int (pe_ix (ix_listK (K := K) rfl) (pv 0) pe_int (fun _ _ => rfl)))) pe_int) pe_int) pe_int))
        (pss_cons (ps_set (i := 4) sc_l_draw.nd rfl (Or.inl rfl) (pe_op op_modN (pe_op op_mul (pv 4) (pe_op op_add (pe_op op_fdivN (pv 4) pe_int) pe_int)) pe_int))
        (pss_cons (ps_set (i := 4) sc_l_draw.nd rfl (Or.inl rfl) (pe_op op_modN (pe_op op_mul (pv 4) (pe_op op_add (pe_op op_fdivN (pv 4) pe_int) pe_int)) pe_int))
        (pss_one (ps_ret (pe_op op_modN (pv 4) (pv 1)))))))))), ?_⟩
    obtain ⟨a, b, c, d, e, hl, hp, ha⟩ := hst
    have npl : p ≠ l := by
      intro q
      rw [q, hl] at hp
      injection hp with hp
      injection hp with hp
      cases ns with
      | nil => cases hp
      | cons x r => cases hp
    have nlp := npl.symm
    -- the Mid behind the first if: as at the start
    refine ⟨fun σ' H' => σ' = [some (.ref p), some (.int m), none, none, none] ∧ H' = H, ?_, ?_⟩
    · refine ⟨_, rfl, _, _, _, _, rfl, rfl, SqL.of hp, rfl, _, _, rfl, rfl, _, rfl, ?_⟩
      refine ite2 (fun c1 => ?_) (fun c1 => ?_)
      · refine ⟨_, rfl, _, _, _, _, rfl, rfl, SqL.of hp, rfl, _, _, rfl, rfl, _, rfl, ?_⟩
        refine ite2 (fun c2 => ?_) (fun c2 => ?_)
        · refine ⟨_, rfl, _, _, _, _, rfl, rfl, SqL.of hp, rfl, .inl ⟨_, rfl, _, rfl, _, _, rfl, rfl, by omega, ?_⟩⟩
          refine ⟨_, rfl, _, _, _, _, rfl, rfl, SqL.of hp, rfl, _, rfl, _, _, rfl, rfl, ⟨by omega, by omega⟩, _, rfl, p, _, _, _, rfl, rfl, hp, rfl, ?_⟩
          refine ⟨_, rfl, _, _, _, _, rfl, rfl, SqL.of upd_same, rfl, _, _, rfl, rfl, _, rfl, p, _, _, _, rfl, rfl, upd_same, rfl, ?_⟩
          refine ⟨_, rfl, k _ _ ((Ex.upd _).trans (Ex.upd _)) ⟨_, _, _, _, _, ?_, upd_same, ?_⟩ (fm_nonneg _ hm) (fm_lt _ hm)⟩
          · rw [upd_ne nlp, upd_ne nlp]; exact hl
          · exact ha
        · exact ⟨rfl, rfl⟩
      · exact iteF ⟨rfl, rfl⟩
    · rintro σ' H' ⟨rfl, rfl⟩
      refine ⟨_, rfl, _, _, _, _, rfl, rfl, SqL.of hp, rfl, _, _, rfl, rfl, _, rfl, p, _, _, _, rfl, rfl, hp, rfl, ?_⟩
      refine ⟨fun σ2 H2 => ∃ v a b c d e, σ2 = [some (.ref p), some (.int m), none, v, none] ∧ Ex p H' H2 ∧ H2 l = some (.lst (ns.map V.int)) ∧ H2 p = some (.lst (stv l a b c d e)) ∧ 0 ≤ a, ?_, ?_⟩
      · refine ⟨_, rfl, _, _, _, _, rfl, rfl, SqL.of upd_same, rfl, _, rfl, _, _, _, _, rfl, rfl, SqL.of upd_same, rfl, l, _, rfl, .inl (SqL.of (by rw [upd_ne nlp]; exact hl)), _, _, rfl, rfl, _, rfl, ?_⟩
        refine ite2 (fun c1 => ?_) (fun c1 => ?_)
        · rw [List.length_map] at c1
          obtain ⟨n, hn⟩ := atI_ints (ns := ns) ha (by simpa using c1)
          refine ⟨_, rfl, _, _, _, _, rfl, rfl, SqL.of upd_same, rfl, _, rfl, _, _, _, _, rfl, rfl, SqL.of upd_same, rfl, l, _, _, _, rfl, rfl, SqL.of (by rw [upd_ne nlp]; exact hl), hn, ?_⟩
          refine ⟨_, rfl, _, _, _, _, rfl, rfl, SqL.of upd_same, rfl, _, _, rfl, rfl, _, rfl, p, _, _, _, rfl, rfl, upd_same, rfl, ?_⟩
          refine ⟨_, rfl, _, _, _, _, rfl, rfl, SqL.of upd_same, rfl, _, _, rfl, rfl, .inr (by decide), _, rfl, .inl ⟨_, rfl, _, _, rfl, rfl, _, _, rfl, rfl, ⟨by decide, by decide, by decide⟩, _, _, rfl, rfl, (by decide : (10 : Int) ^ 18 ≠ 0), _, rfl, p, _, _, _, rfl, rfl, upd_same, rfl, ?_⟩⟩
          refine ⟨_, rfl, _, _, rfl, rfl, ⟨by decide, by decide, by decide⟩, _, _, rfl, rfl, _, rfl, ?_⟩
          have el : ∀ {o1 o2 o3 : HO}, upd (upd (upd H' p o1) p o2) p o3 l = some (.lst (ns.map V.int)) := fun {o1 o2 o3} => by rw [upd_ne nlp, upd_ne nlp, upd_ne nlp]; exact hl
          refine ite2 (fun c2 => ?_) (fun c2 => ?_)
          · refine ⟨_, rfl, _, rfl, _, _, rfl, rfl, ⟨by omega, by omega⟩, _, rfl, p, _, _, _, rfl, rfl, upd_same, rfl, ?_⟩
            refine ⟨_, rfl, p, _, _, _, rfl, rfl, upd_same, rfl, ?_⟩
            refine ⟨_, rfl, .inl ⟨_, rfl, _, rfl, _, _, rfl, rfl, by omega, ?_⟩⟩
            refine k _ _ (((((Ex.upd _).trans (Ex.upd _)).trans (Ex.upd _)).trans (Ex.upd _)).trans (Ex.upd _)) ⟨_, _, _, _, _, ?_, upd_same, ?_⟩ (fm_nonneg _ hm) (fm_lt _ hm)
            · rw [upd_ne nlp, upd_ne nlp]; exact el
            · omega
          · exact ⟨_, _, _, _, _, _, rfl, ((Ex.upd _).trans (Ex.upd _)).trans (Ex.upd _), el, upd_same, by omega⟩
        · exact ⟨_, _, _, _, _, _, rfl, Ex.upd _, by rw [upd_ne nlp]; exact hl, upd_same, ha⟩
      · rintro σ2 H2 ⟨v, a, b, c, d, e, rfl, x2, hl2, hp2, ha2⟩
        refine ⟨_, rfl, _, _, _, _, rfl, rfl, SqL.of hp2, rfl, .inl ⟨_, rfl, _, _, rfl, rfl, .inr (by decide), _, rfl, _, _, _, _, rfl, rfl, SqL.of hp2, rfl, _, _, rfl, rfl, .inl (by decide), _, _, rfl, rfl, _, _, rfl, rfl, _, _, rfl, rfl, .inr (by decide), _, _, rfl, rfl, (by decide : (2147483647 : Int) ≠ 0), ?_⟩⟩
        have hx0 := fm_nonneg ((e * 1000003 + 7919 * d + 1) * 48271) (b := 2147483647) (by decide)
        have hx1 := fm_lt ((e * 1000003 + 7919 * d + 1) * 48271) (b := 2147483647) (by decide)
        refine ⟨_, rfl, _, rfl, _, _, rfl, rfl, ⟨by decide, by decide⟩, _, _, rfl, rfl, _, _, rfl, rfl, .inl ⟨Int.lt_of_lt_of_le (by decide) hx0, Int.lt_trans hx1 (by decide)⟩, _, _, rfl, rfl, (by decide : (2147483647 : Int) ≠ 0), ?_⟩
        refine ⟨_, rfl, _, rfl, _, _, rfl, rfl, ⟨by decide, by decide⟩, _, _, rfl, rfl, _, _, rfl, rfl, .inl ⟨Int.lt_of_lt_of_le (by decide) (fm_nonneg _ (by decide)), Int.lt_trans (fm_lt _ (by decide)) (by decide)⟩, _, _, rfl, rfl, (by decide : (2147483399 : Int) ≠ 0), ?_⟩
        refine ⟨_, rfl, _, rfl, _, _, rfl, rfl, by omega, ?_⟩
        exact k _ _ x2 ⟨_, _, _, _, _, hl2, hp2, ha2⟩ (fm_nonneg _ hm) (fm_lt _ hm)
end
end J

set_option Elab.async false
set_option linter.all false
set_option maxRecDepth 100000
set_option maxHeartbeats 4000000
namespace J
open PySem L2

theorem joinL_nil : ∀ ys : List (List Nat), TL.joinL [] ys = ys.flatten
  | [] => rfl
  | [p] => by simp [TL.joinL]
  | p :: q :: r => by
    show p ++ ([] ++ TL.joinL [] (q :: r)) = _
    rw [joinL_nil (q :: r)]
    simp
theorem join_flat (ys : List (List Nat)) : Txt.join (SX.S []) (ys.map SX.S) = SX.S ys.flatten := by rw [SX.join_S, joinL_nil]
theorem emptyS : Str.ofString "" = SX.S [] := rfl
theorem sum_ones (us : List Nat) : ((us.map fun c => SX.S [c]).map (·.length)).sum = us.length := by
  induction us with
  | nil => rfl
  | cons a r ih => simp only [List.map_cons, List.sum_cons, ih, SX.S_len, List.length_cons, List.length_nil]; omega
theorem atI_mem {α : Type} {xs : List α} {i : Int} (h0 : 0 ≤ i) (h1 : i < xs.length) : ∃ v, v ∈ xs ∧ atI xs i = some v := by
  obtain ⟨j, rfl⟩ := Int.eq_ofNat_of_zero_le h0
  have hj : j < xs.length := by exact_mod_cast h1
  exact ⟨xs[j], List.getElem_mem hj, atI_nat (List.getElem?_eq_getElem hj)⟩
/-- signs that a loom may have -/
def Signs (sg : List Nat) : Prop := sg ∈ ([[97], [97, 98], [97, 98, 99], [120, 122], [98, 100, 107, 122], [113, 119]] : List (List Nat))
theorem Signs.len {sg : List Nat} (h : Signs sg) : 1 ≤ sg.length ∧ sg.length ≤ 4 := by
  revert sg; unfold Signs; decide
/-- a word over the signs -/
def Word (sg u : List Nat) : Prop := 1 ≤ u.length ∧ u.length ≤ 12 ∧ ∀ c ∈ u, c ∈ sg
def spWord (ns : List Int) : Sp := fun vs H Q _ => ∃ (p l : Addr) (sg : List Nat) (m : Int), vs = [.ref p, .str (SX.S sg), .int m] ∧ StAt ns l H p ∧ Signs sg ∧ 0 < m ∧ m ≤ 12 ∧
  ∀ H' u, Ex p H H' → StAt ns l H' p → Word sg u → Q (.str (SX.S u)) H'
theorem sizeLine16 : (16777216 : Nat) ≤ sizeLine := by decide
theorem le_size {n : Nat} (h : n ≤ 100000) : n ≤ sizeLine := Nat.le_trans h (by decide)
theorem lt_size {n : Nat} (h : n ≤ 100000) : n < sizeLine := Nat.lt_of_le_of_lt h (by decide)
section
variable {P : Program} {w : World} {K : PySem.W.Frag} {mg : Str → Option Value} {base : Heap}

theorem ok_l_word (T : Tx K mg) (ns : List Int) : FnOk P w K mg base CX0 2 T.f_l_word T.fd_l_word P_l_word (spWord ns) := by
  have G_l_draw : FnOk P w K mg base CX0 1 T.f_l_draw T.fd_l_draw P_l_draw (spDraw ns) := ok_l_draw T ns
  refine T.F_l_word.ok sc_l_word (fun vs H Q E h => ?_) (fun cdv A outer s H vs Q E hr h => ?_)
  · obtain ⟨p, l, sg, m, rfl, _⟩ := h
    rfl
  · obtain ⟨p, l, sg, m, rfl, hst, hsg, hm, hm2, k⟩ := h
    refine ⟨_, (pss_cons (ps_set (i := 3) sc_l_word.nd rfl (Or.inl rfl) (pe_op op_add pe_int (pe_call G_l_draw (hr.mono (by decide)) rfl T.m_l_draw T.F_l_draw.kp T.b_l_draw .nil pass0 (pa_cons (pv 0) (pa_cons (pv 2) pa_nil)))))
        (pss_one (ps_ret (pe_join pe_str (pe_lc (own := [("_law_k", 4)]) (g := (gName 4)) rfl sc_l_word.nd (pi_range1 rfl T.n_range (pa_cons (pv 3) pa_nil)) (blkOk_by (N := N_l_word) (sc := defScope s_l_word) (by decide +kernel)) (fun _ _ _ _ _ => (pg_name (i := 4) sc_l_word.nd rfl (Or.inl rfl))) (fun _ _ _ _ _ => pts_nil) (fun _ _ _ _ _ => (pe_ix ix_str (pv 1) (pe_call G_l_draw (hr.mono (by decide)) rfl T.m_l_draw T.F_l_draw.kp T.b_l_draw .nil pass0 (pa_cons (pv 0) (pa_cons (pe_callB call_len_str rfl T.n_len (by decide +kernel) (pa_cons (pv 1) pa_nil)) pa_nil))) (fun _ _ => rfl)))))))), ?_⟩
    have hlen := hsg.len
    refine ⟨_, rfl, _, rfl, p, l, m, rfl, hst, hm, by omega, fun H1 r x1 st1 r0 r1 => ⟨_, _, rfl, rfl, ?_⟩⟩
    refine ⟨⟨_, rfl⟩, _, rfl, _, rfl, by omega, by omega, fun D hD => lc_range (lo := 0) (n := (1 + r).toNat) (fun i H' => ∃ us : List Nat, us.length = i ∧ (∀ c ∈ us, c ∈ sg) ∧ H' D = some (.lst ((us.map fun c => SX.S [c]).map V.str)) ∧ Ex p H H' ∧ StAt ns l H' p) ?_ ?_ ?_⟩
    · exact ⟨[], rfl, fun _ h => (nomatch h), upd_same, x1.trans (Ex.new _ hD), st1.same (Same.new _ hD)⟩
    · rintro i H2 hi ⟨us, rfl, hu, hDs, x2, st2⟩
      refine ⟨rfl, ?_⟩
      refine ⟨_, rfl, _, rfl, _, rfl, _, rfl, le_size (by rw [SX.S_len]; omega), p, l, _, rfl, st2, by rw [SX.S_len]; omega, by rw [SX.S_len]; omega, fun H3 r3 x3 st3 r30 r31 => ?_⟩
      rw [SX.S_len] at r31
      obtain ⟨c, hc, hat⟩ := atI_mem (xs := sg) r30 r31
      have nD := st1.ne hD
      refine ⟨_, _, c, rfl, rfl, le_size (by rw [SX.S_len]; omega), hat, _, x3 _ _ nD.1 hDs, lt_size (by simp; omega), us ++ [c], by simp, ?_, ?_, (x2.trans x3).updNew (x1.free hD nD.1), st3.upd nD⟩
      · intro d hd
        rcases List.mem_append.mp hd with h | h
        · exact hu d h
        · rw [List.mem_singleton.mp h]; exact hc
      · rw [upd_same]; simp
    · rintro H2 ⟨us, hl, hu, hDs, x2, st2⟩
      have hf : ∀ l : List Nat, (l.map fun c => [c]).flatten = l := fun l => by induction l with
        | nil => rfl
        | cons a l ih => simpa using ih
      refine ⟨_, _, us.map fun c => SX.S [c], rfl, rfl, .inl (SqL.of hDs), ?_, ?_⟩
      · rw [sum_ones, emptyS, SX.S_len]
        simp
        omega
      · have e : us.map (fun c => SX.S [c]) = (us.map fun c => [c]).map SX.S := by rw [List.map_map]; rfl
        rw [e, emptyS, join_flat, hf]
        exact k _ us x2 st2 ⟨by omega, by omega, hu⟩
end
end J

set_option Elab.async false
set_option linter.all false
set_option maxRecDepth 100000
set_option maxHeartbeats 4000000
namespace J
open PySem L2

/-- an arc: its state, its word, where it leads -/
abbrev Arc := Nat × List Nat × Nat
def arcHO (a : Arc) : HO := .tup [.int (a.1 : Int), .str (SX.S a.2.1), .int (a.2.2 : Int)]
def Arcs (H : Hp) (vs : List V) (as : List Arc) : Prop := vs.length = as.length ∧ ∀ (i : Nat) (a : Arc), as[i]? = some a → ∃ t, vs[i]? = some (V.ref t) ∧ H t = some (arcHO a)
theorem Arcs.same {H H' : Hp} {vs : List V} {as : List Arc} (h : Arcs H vs as) (s : Same H H') : Arcs H' vs as :=
  ⟨h.1, fun i a e => by obtain ⟨t, h1, h2⟩ := h.2 i a e; exact ⟨t, h1, s _ _ h2⟩⟩
theorem Arcs.ex {H H' : Hp} {p : Addr} {xs : List V} {vs : List V} {as : List Arc} (h : Arcs H vs as) (x : Ex p H H') (hp : H p = some (.lst xs)) : Arcs H' vs as :=
  ⟨h.1, fun i a e => by
    obtain ⟨t, h1, h2⟩ := h.2 i a e
    exact ⟨t, h1, x _ _ (fun z => by rw [z, hp] at h2; cases h2) h2⟩⟩
theorem Arcs.snoc {H : Hp} {vs : List V} {as : List Arc} {t : Addr} {a : Arc} (h : Arcs H vs as) (ht : H t = some (arcHO a)) : Arcs H (vs ++ [V.ref t]) (as ++ [a]) := by
  refine ⟨by simp [h.1], fun i b e => ?_⟩
  by_cases hi : i < as.length
  · rw [List.getElem?_append_left hi] at e
    rw [List.getElem?_append_left (by rw [h.1]; exact hi)]
    exact h.2 i b e
  · rw [List.getElem?_append_right (by omega)] at e
    have e0 : i - as.length = 0 := by
      have q := (List.getElem?_eq_some_iff.mp e).1
      simp at q
      omega
    rw [e0] at e
    cases e
    refine ⟨t, ?_, ht⟩
    rw [List.getElem?_append_right (by rw [h.1]; omega), h.1, e0]
    rfl
theorem Arcs.updL {H : Hp} {vs xs : List V} {as : List Arc} {p : Addr} {o : HO} (h : Arcs H vs as) (hp : H p = some (.lst xs)) : Arcs (upd H p o) vs as := h.ex (Ex.upd o) hp
theorem Arcs.st {ns : List Int} {l p : Addr} {H H' : Hp} {vs : List V} {as : List Arc} (h : Arcs H vs as) (st : StAt ns l H p) (x : Ex p H H') : Arcs H' vs as := by
  obtain ⟨a, b, c, d, e, h1, h2, h3⟩ := st
  exact h.ex x h2
theorem Arcs.nil (H : Hp) : Arcs H [] [] := ⟨rfl, fun i a e => by simp at e⟩
theorem ex_upd_lst {p : Addr} {H : Hp} {o : HO} : Ex p H (upd H p o) := Ex.upd o
def OkArc (sg : List Nat) (a : Arc) : Prop := a.1 ≤ 63 ∧ Word sg a.2.1 ∧ a.2.2 ≤ 63
def OkArcs (sg : List Nat) (as : List Arc) : Prop := 1 ≤ as.length ∧ as.length ≤ 13 ∧ (∀ a ∈ as, OkArc sg a) ∧ ∃ a : Arc, as[0]? = some a ∧ a.1 = 0
/-- what a place's menu hands out: a list of states -/
def Pl (p l : Addr) (H : Hp) (v : V) : Prop := ∃ a, ∃ xs : List Nat, v = .ref a ∧ a ≠ p ∧ a ≠ l ∧ H a = some (.lst (xs.map fun n : Nat => V.int (n : Int))) ∧ 1 ≤ xs.length ∧ xs.length ≤ 4 ∧ ∀ x ∈ xs, x ≤ 63
theorem Pl.same {p l : Addr} {H H' : Hp} {v : V} (h : Pl p l H v) (s : Same H H') : Pl p l H' v := by
  obtain ⟨a, xs, h1, h2, h3, h4, h5⟩ := h
  exact ⟨a, xs, h1, h2, h3, s _ _ h4, h5⟩
theorem Pl.ex {p l : Addr} {H H' : Hp} {v : V} (h : Pl p l H v) (s : Ex p H H') : Pl p l H' v := by
  obtain ⟨a, xs, h1, h2, h3, h4, h5⟩ := h
  exact ⟨a, xs, h1, h2, h3, s _ _ h2 h4, h5⟩
theorem Pl.new {p l a : Addr} {H : Hp} (xs : List Nat) (n : a ≠ p ∧ a ≠ l) (h : 1 ≤ xs.length ∧ xs.length ≤ 4) (hx : ∀ x ∈ xs, x ≤ 63) {vs : List V} (e : vs = xs.map fun n : Nat => V.int (n : Int)) : Pl p l (upd H a (.lst vs)) (.ref a) :=
  ⟨a, xs, rfl, n.1, n.2, by rw [upd_same, e], h.1, h.2, hx⟩
theorem signs_menu {v : V} (h : v ∈ ([.str "a", .str "ab", .str "ab", .str "ab", .str "abc", .str "xz", .str "bdkz", .str "qw"] : List V)) : ∃ sg, v = .str (SX.S sg) ∧ Signs sg := by
  simp only [List.mem_cons, List.not_mem_nil, or_false] at h
  rcases h with rfl | rfl | rfl | rfl | rfl | rfl | rfl | rfl
  · exact ⟨[97], rfl, by unfold Signs; decide⟩
  · exact ⟨[97, 98], rfl, by unfold Signs; decide⟩
  · exact ⟨[97, 98], rfl, by unfold Signs; decide⟩
  · exact ⟨[97, 98], rfl, by unfold Signs; decide⟩
  · exact ⟨[97, 98, 99], rfl, by unfold Signs; decide⟩
  · exact ⟨[120, 122], rfl, by unfold Signs; decide⟩
  · exact ⟨[98, 100, 107, 122], rfl, by unfold Signs; decide⟩
  · exact ⟨[113, 119], rfl, by unfold Signs; decide⟩
theorem most_menu {v : V} (h : v ∈ ([.int 1, .int 2, .int 2, .int 3, .int 3, .int 4] : List V)) : ∃ m : Int, v = .int m ∧ 0 < m ∧ m ≤ 12 := by
  simp only [List.mem_cons, List.not_mem_nil, or_false] at h
  rcases h with rfl | rfl | rfl | rfl | rfl | rfl <;> exact ⟨_, rfl, by decide, by decide⟩
def spLoom (ns : List Int) : Sp := fun vs H Q _ => ∃ (p l : Addr), vs = [.ref p] ∧ StAt ns l H p ∧
  ∀ (H' : Hp) (q r : Addr) (sg : List Nat) (us : List V) (as : List Arc), Ex p H H' → StAt ns l H' p → H q = none → H r = none → H' q = some (.tup [.str (SX.S sg), .ref r]) → H' r = some (.lst us) → Arcs H' us as → OkArcs sg as → Signs sg → Q (.ref q) H'
section
variable {P : Program} {w : World} {K : PySem.W.Frag} {mg : Str → Option Value} {base : Heap}

theorem ok_l_loom (T : Tx K mg) (ns : List Int) : FnOk P w K mg base CX0 3 T.f_l_loom T.fd_l_loom P_l_loom (spLoom ns) := by
  have G_l_draw : FnOk P w K mg base CX0 1 T.f_l_draw T.fd_l_draw P_l_draw (spDraw ns) := ok_l_draw T ns
  have G_l_word : FnOk P w K mg base CX0 2 T.f_l_word T.fd_l_word P_l_word (spWord ns) := ok_l_word T ns
  refine T.F_l_loom.ok sc_l_loom (fun vs H Q E h => ?_) (fun cdv A outer s H vs Q E hr h => ?_)
  · obtain ⟨p, l, rfl, _⟩ := h
    rfl
  · obtain ⟨p, l, rfl, hst, k⟩ := h
    refine ⟨_, (pss_cons (ps_set (i := 1) sc_l_loom.nd rfl (Or.inl rfl) (pe_ix (ix_listK (K := K) rfl) (pe_lst (pa_cons pe_str (pa_cons pe_str (pa_cons pe_str (pa_cons pe_str (pa_cons pe_str (pa_cons pe_str (pa_cons pe_str (pa_cons pe_str pa_nil))))))))) (pe_call G_l_draw (hr.mono (by decide)) rfl T.m_l_draw T.F_l_draw.kp T.b_l_draw .nil pass0 (pa_cons (pv 0) (pa_cons pe_int pa_nil))) (fun _ _ => rfl)))
        (pss_cons (ps_set (i := 2) sc_l_loom.nd rfl (Or.inl rfl) (pe_ix (ix_listK (K := K) rfl) (pe_lst (pa_cons (pe_lst (pa_cons pe_int pa_nil)) (pa_cons (pe_lst (pa_cons pe_int pa_nil)) (pa_cons (pe_lst (pa_cons pe_int (pa_cons pe_int pa_nil))) (pa_cons (pe_lst (pa_cons pe_int (pa_cons pe_int pa_nil))) (pa_cons (pe_lst (pa_cons pe_int (pa_cons pe_int (pa_cons pe_int pa_nil)))) (pa_cons (pe_lst (pa_cons pe_int (pa_cons pe_int pa_nil))) (pa_cons (pe_lst (pa_cons pe_int (pa_cons pe_int (pa_cons pe_int pa_nil)))) (pa_cons (pe_lst (pa_cons pe_int (pa_cons pe_int (pa_cons pe_int (pa_cons pe_int pa_nil))))) pa_nil))))))))) (pe_call G_l_draw (hr.mono (by decide)) rfl T.m_l_draw T.F_l_draw.kp T.b_l_draw .nil pass0 (pa_cons (pv 0) (pa_cons pe_int pa_nil))) (fun _ _ => rfl)))
        (pss_cons (ps_set (i := 3) sc_l_loom.nd rfl (Or.inl rfl) (pe_op op_add pe_int (pe_call G_l_draw (hr.mono (by decide)) rfl T.m_l_draw T.F_l_draw.kp T.b_l_draw .nil pass0 (pa_cons (pv 0) (pa_cons pe_int pa_nil)))))
        (C8.pss_cut (ps_if (pt_cmpR op_eq (pe_call G_l_draw (hr.mono (by decide)) rfl T.m_l_draw T.F_l_draw.kp T.b_l_draw .nil pass0 (pa_cons (pv 0) (pa_cons pe_int pa_nil))) pe_int (nomark _)) (pss_one (ps_set (i := 3) sc_l_loom.nd rfl (Or.inl rfl) (pe_op op_add pe_int (pe_call G_l_draw (hr.mono (by decide)) rfl T.m_l_draw T.F_l_draw.kp T.b_l_draw .nil pass0 (pa_cons (pv 0) (pa_cons pe_int pa_nil)))))) pss_nil)
        (pss_cons (ps_set (i := 4) sc_l_loom.nd rfl (Or.inl rfl) (pe_ix (ix_listK (K := K) rfl) (pe_lst (pa_cons pe_int (pa_cons pe_int (pa_cons pe_int (pa_cons pe_int (pa_cons pe_int (pa_cons pe_int pa_nil))))))) (pe_call G_l_draw (hr.mono (by decide)) rfl T.m_l_draw T.F_l_draw.kp T.b_l_draw .nil pass0 (pa_cons (pv 0) (pa_cons pe_int pa_nil))) (fun _ _ => rfl)))
        (C8.pss_cut (ps_if (pt_cmpR op_eq (pe_call G_l_draw (hr.mono (by decide)) rfl T.m_l_draw T.F_l_draw.kp T.b_l_draw .nil pass0 (pa_cons (pv 0) (pa_cons pe_int pa_nil))) pe_int (nomark _)) (pss_one (ps_set (i := 4) sc_l_loom.nd rfl (Or.inl rfl) pe_int)) pss_nil)
        (pss_cons (ps_set (i := 5) sc_l_loom.nd rfl (Or.inl rfl) (pe_lst pa_nil))
        (pss_cons (ps_for PassesOwn.never rfl (pi_range1 rfl T.n_range (pa_cons (pv 3) pa_nil)) (pg_name (i := 6) sc_l_loom.nd rfl (Or.inl rfl)) (pss_cons (ps_set (i := 7) sc_l_loom.nd rfl (Or.inl rfl) (pe_ix (ix_listK (K := K) rfl) (pv 2) (pe_call G_l_draw (hr.mono (by decide)) rfl T.m_l_draw T.F_l_draw.kp T.b_l_draw .nil pass0 (pa_cons (pv 0) (pa_cons (pe_callB (call_len_seqK (K := K) rfl) rfl T.n_len (by decide +kernel) (pa_cons (pv 2) pa_nil)) pa_nil))) (fun _ _ => rfl)))
        (C8.pss_cut (ps_if (pt_cmpR op_eq (pv 6) pe_int (nomark _)) (pss_one (ps_set (i := 7) sc_l_loom.nd rfl (Or.inl rfl) pe_int)) pss_nil)
        (pss_one (ps_expr (pe_bm PySem.F.plainAttrs_list PySem.F.slot_list_append PySem.F.type_list_append mt_append (pv 5) (pa_cons (pe_tup (pa_cons (pv 7) (pa_cons (pe_call G_l_word (hr.mono (by decide)) rfl T.m_l_word T.F_l_word.kp T.b_l_word .nil pass0 (pa_cons (pv 0) (pa_cons (pv 1) (pa_cons (pv 4) pa_nil)))) (pa_cons (pe_ix (ix_listK (K := K) rfl) (pv 2) (pe_call G_l_draw (hr.mono (by decide)) rfl T.m_l_draw T.F_l_draw.kp T.b_l_draw .nil pass0 (pa_cons (pv 0) (pa_cons (pe_callB (call_len_seqK (K := K) rfl) rfl T.n_len (by decide +kernel) (pa_cons (pv 2) pa_nil)) pa_nil))) (fun _ _ => rfl)) pa_nil)))) pa_nil)))))))
        (C8.pss_cut (ps_if (pt_cmpR op_eq (pe_call G_l_draw (hr.mono (by decide)) rfl T.m_l_draw T.F_l_draw.kp T.b_l_draw .nil pass0 (pa_cons (pv 0) (pa_cons pe_int pa_nil))) pe_int (nomark _)) (pss_one (ps_expr (pe_bm PySem.F.plainAttrs_list PySem.F.slot_list_append PySem.F.type_list_append mt_append (pv 5) (pa_cons (pe_ix (ix_listK (K := K) rfl) (pv 5) (pe_call G_l_draw (hr.mono (by decide)) rfl T.m_l_draw T.F_l_draw.kp T.b_l_draw .nil pass0 (pa_cons (pv 0) (pa_cons (pe_callB (call_len_seqK (K := K) rfl) rfl T.n_len (by decide +kernel) (pa_cons (pv 5) pa_nil)) pa_nil))) (fun _ _ => rfl)) pa_nil)))) pss_nil)
        (pss_one (ps_ret (pe_tup (pa_cons (pv 1) (pa_cons (pv 5) pa_nil)))))))))))))), ?_⟩
    -- the signs
    refine ⟨le_size (by decide), fun D hD => ?_⟩
    have stD := hst.same (Same.new (.lst [.str "a", .str "ab", .str "ab", .str "ab", .str "abc", .str "xz", .str "bdkz", .str "qw"]) hD)
    have nD := hst.ne hD
    refine ⟨_, rfl, p, l, 8, rfl, stD, by decide, by decide, fun H1 r x1 st1 r0 r1 => ?_⟩
    obtain ⟨v, hv, hat⟩ := atI_mem (xs := ([.str "a", .str "ab", .str "ab", .str "ab", .str "abc", .str "xz", .str "bdkz", .str "qw"] : List V)) r0 (by simpa using r1)
    refine ⟨_, _, _, v, rfl, rfl, SqL.of (x1 _ _ nD.1 upd_same), hat, ?_⟩
    obtain ⟨sg, rfl, hsg⟩ := signs_menu hv
    have X1 : Ex p H H1 := (Ex.new _ hD).trans x1
    -- the places
    refine ⟨le_size (by decide), fun l1 h1 => ⟨le_size (by decide), fun l2 h2 => ⟨le_size (by decide), fun l3 h3 => ⟨le_size (by decide), fun l4 h4 => ⟨le_size (by decide), fun l5 h5 => ⟨le_size (by decide), fun l6 h6 => ⟨le_size (by decide), fun l7 h7 => ⟨le_size (by decide), fun l8 h8 => ⟨le_size (show 8 ≤ 100000 by decide), fun l9 h9 => ?_⟩⟩⟩⟩⟩⟩⟩⟩⟩
    have s1 := Same.new (.lst [V.int 0]) h1
    have s2 := Same.new (.lst [V.int 0]) h2
    have s3 := Same.new (.lst [V.int 0, V.int 1]) h3
    have s4 := Same.new (.lst [V.int 0, V.int 1]) h4
    have s5 := Same.new (.lst [V.int 0, V.int 1, V.int 2]) h5
    have s6 := Same.new (.lst [V.int 0, V.int 63]) h6
    have s7 := Same.new (.lst [V.int 0, V.int 7, V.int 12]) h7
    have s8 := Same.new (.lst [V.int 0, V.int 2, V.int 3, V.int 1]) h8
    have s9 := Same.new (.lst [V.ref l1, V.ref l2, V.ref l3, V.ref l4, V.ref l5, V.ref l6, V.ref l7, V.ref l8]) h9
    have t1 := st1.same s1
    have t2 := t1.same s2
    have t3 := t2.same s3
    have t4 := t3.same s4
    have t5 := t4.same s5
    have t6 := t5.same s6
    have t7 := t6.same s7
    have t8 := t7.same s8
    have t9 := t8.same s9
    have hPl : ∀ v ∈ ([V.ref l1, V.ref l2, V.ref l3, V.ref l4, V.ref l5, V.ref l6, V.ref l7, V.ref l8] : List V), Pl p l _ v := fun v hv => by
      simp only [List.mem_cons, List.not_mem_nil, or_false] at hv
      rcases hv with rfl | rfl | rfl | rfl | rfl | rfl | rfl | rfl
      · exact (Pl.new [0] (st1.ne h1) (by decide) (by decide) rfl).same (s2.trans (s3.trans (s4.trans (s5.trans (s6.trans (s7.trans (s8.trans s9)))))))
      · exact (Pl.new [0] (t1.ne h2) (by decide) (by decide) rfl).same (s3.trans (s4.trans (s5.trans (s6.trans (s7.trans (s8.trans s9))))))
      · exact (Pl.new [0, 1] (t2.ne h3) (by decide) (by decide) rfl).same (s4.trans (s5.trans (s6.trans (s7.trans (s8.trans s9)))))
      · exact (Pl.new [0, 1] (t3.ne h4) (by decide) (by decide) rfl).same (s5.trans (s6.trans (s7.trans (s8.trans s9))))
      · exact (Pl.new [0, 1, 2] (t4.ne h5) (by decide) (by decide) rfl).same (s6.trans (s7.trans (s8.trans s9)))
      · exact (Pl.new [0, 63] (t5.ne h6) (by decide) (by decide) rfl).same (s7.trans (s8.trans s9))
      · exact (Pl.new [0, 7, 12] (t6.ne h7) (by decide) (by decide) rfl).same (s8.trans s9)
      · exact (Pl.new [0, 2, 3, 1] (t7.ne h8) (by decide) (by decide) rfl).same s9
    have n9 := t8.ne h9
    refine ⟨_, rfl, p, l, 8, rfl, t9, by decide, by decide, fun H2 r2 x2 st2 r20 r21 => ?_⟩
    obtain ⟨v, hv, hat⟩ := atI_mem (xs := ([V.ref l1, V.ref l2, V.ref l3, V.ref l4, V.ref l5, V.ref l6, V.ref l7, V.ref l8] : List V)) r20 (by simpa using r21)
    refine ⟨_, _, _, v, rfl, rfl, SqL.of (x2 _ _ n9.1 upd_same), hat, ?_⟩
    have pl2 := (hPl v hv).ex x2
    have X2 : Ex p H H2 := X1.trans ((Same.ex (s1.trans (s2.trans (s3.trans (s4.trans (s5.trans (s6.trans (s7.trans (s8.trans s9))))))))).trans x2)
    clear hPl t1 t2 t3 t4 t5 t6 t7 t8 t9 s1 s2 s3 s4 s5 s6 s7 s8 s9
    -- how many
    refine ⟨_, rfl, p, l, 6, rfl, st2, by decide, by decide, fun H3 r3 x3 st3 r30 r31 => ⟨_, _, rfl, rfl, ?_⟩⟩
    refine ⟨fun σ' H' => ∃ m : Int, σ' = [some (.ref p), some (.str (SX.S sg)), some v, some (.int m), none, none, none, none] ∧ 1 ≤ m ∧ m ≤ 12 ∧ Ex p H H' ∧ StAt ns l H' p ∧ Pl p l H' v, ?_, ?_⟩
    · refine ⟨_, rfl, p, l, 12, rfl, st3, by decide, by decide, fun H4 r4 x4 st4 r40 r41 => ⟨rfl, _, rfl, ?_⟩⟩
      refine ite2 (fun c => ?_) (fun c => ?_)
      · refine ⟨_, rfl, p, l, 5, rfl, st4, by decide, by decide, fun H5 r5 x5 st5 r50 r51 => ⟨_, _, rfl, rfl, ?_⟩⟩
        exact ⟨8 + r5, rfl, by omega, by omega, X2.trans (x3.trans (x4.trans x5)), st5, ((pl2.ex x3).ex x4).ex x5⟩
      · exact ⟨1 + r3, rfl, by omega, by omega, X2.trans (x3.trans x4), st4, (pl2.ex x3).ex x4⟩
    · rintro σ3 H3' ⟨many, rfl, m1, m2, X3, st3', pl3⟩
      -- the greatest length
      refine ⟨le_size (by decide), fun D3 hD3 => ?_⟩
      have nD3 := st3'.ne hD3
      have sD3 := Same.new (.lst [V.int 1, V.int 2, V.int 2, V.int 3, V.int 3, V.int 4]) hD3
      refine ⟨_, rfl, p, l, 6, rfl, st3'.same sD3, by decide, by decide, fun H4 r4 x4 st4 r40 r41 => ?_⟩
      obtain ⟨vm, hvm, hat4⟩ := atI_mem (xs := ([V.int 1, V.int 2, V.int 2, V.int 3, V.int 3, V.int 4] : List V)) r40 (by simpa using r41)
      refine ⟨_, _, _, vm, rfl, rfl, SqL.of (x4 _ _ nD3.1 upd_same), hat4, ?_⟩
      obtain ⟨mo, rfl, mo1, mo2⟩ := most_menu hvm
      have X4 : Ex p H H4 := X3.trans ((Same.ex sD3).trans x4)
      have pl4 := (pl3.same sD3).ex x4
      refine ⟨fun σ' H' => ∃ mo : Int, σ' = [some (.ref p), some (.str (SX.S sg)), some v, some (.int many), some (.int mo), none, none, none] ∧ 0 < mo ∧ mo ≤ 12 ∧ Ex p H H' ∧ StAt ns l H' p ∧ Pl p l H' v, ?_, ?_⟩
      · refine ⟨_, rfl, p, l, 16, rfl, st4, by decide, by decide, fun H5 r5 x5 st5 r50 r51 => ⟨rfl, _, rfl, ?_⟩⟩
        refine ite2 (fun c => ?_) (fun c => ?_)
        · exact ⟨12, rfl, by decide, by decide, X4.trans x5, st5, pl4.ex x5⟩
        · exact ⟨mo, rfl, mo1, mo2, X4.trans x5, st5, pl4.ex x5⟩
      · rintro σ5 H5 ⟨mo, rfl, mo1, mo2, X5, st5, pl5⟩
        -- the arcs
        refine ⟨Nat.zero_le _, fun Ar hA => ?_⟩
        have nA := st5.ne hA
        have hA0 := X5.free hA nA.1
        have sA := Same.new (.lst []) hA
        refine ⟨_, rfl, _, rfl, by omega, by omega, for_range (lo := 0) (n := many.toNat) (fun i σ H' => ∃ (us : List V) (as : List Arc) (v6 v7 : Option V), σ = [some (.ref p), some (.str (SX.S sg)), some v, some (.int many), some (.int mo), some (.ref Ar), v6, v7] ∧
          as.length = i ∧ (∀ a ∈ as, OkArc sg a) ∧ (0 < i → ∃ a : Arc, as[0]? = some a ∧ a.1 = 0) ∧ H' Ar = some (.lst us) ∧ Arcs H' us as ∧ Ex p H H' ∧ StAt ns l H' p ∧ Pl p l H' v) ?_ ?_ ?_⟩
        · exact ⟨[], [], none, none, rfl, rfl, fun _ h => (nomatch h), fun h => absurd h (Nat.lt_irrefl _), upd_same, Arcs.nil _, X5.updNew hA0, st5.upd nA, pl5.same sA⟩
        · rintro i σ H6 hi ⟨us, as, v6, v7, rfl, rfl, hok, hz, hAr, harc, X6, st6, pl6⟩
          obtain ⟨pa, xs, rfl, np, nl, hpa, xl1, xl2, xb⟩ := pl6
          have nApa : Ar ≠ pa := by
            obtain ⟨a', xs', e', _, _, h', _⟩ := pl5
            cases e'
            exact hp_ne h' hA
          -- the start
          refine ⟨_, rfl, _, rfl, _, rfl, pa, _, rfl, .inl (SqL.of hpa), p, l, _, rfl, st6, by rw [List.length_map]; omega, by rw [List.length_map]; omega, fun H7 r7 x7 st7 r70 r71 => ?_⟩
          obtain ⟨vs7, hvs7, hat7⟩ := atI_mem r70 r71
          obtain ⟨s7, hs7, rfl⟩ := List.mem_map.mp hvs7
          refine ⟨_, _, _, _, rfl, rfl, SqL.of (x7 _ _ np hpa), hat7, ?_⟩
          refine ⟨fun σ' H' => ∃ s8 : Nat, σ' = [some (.ref p), some (.str (SX.S sg)), some (.ref pa), some (.int many), some (.int mo), some (.ref Ar), some (.int (0 + (as.length : Int))), some (.int (s8 : Int))] ∧ s8 ≤ 63 ∧ (as.length = 0 → s8 = 0) ∧ H' = H7, ?_, ?_⟩
          · refine ⟨_, rfl, rfl, _, rfl, ?_⟩
            refine ite2 (fun c => ?_) (fun c => ?_)
            · exact ⟨0, rfl, by omega, fun _ => rfl, rfl⟩
            · refine ⟨s7, rfl, xb _ hs7, fun z => absurd ?_ c, rfl⟩
              rw [z]
              decide
          · rintro σ8 H8 ⟨s8, rfl, hs8, hz8, rfl⟩
            have hln : as.length ≤ 100000 := by clear hz; omega
            have hA7 := x7 _ _ nA.1 hAr
            have arc7 := harc.st st6 x7
            refine ⟨_, rfl, .inl ⟨rfl, _, SqL.of hA7⟩, _, rfl, _, rfl, _, rfl, _, rfl, p, l, sg, mo, rfl, st7, hsg, mo1, mo2, fun H9 u9 x9 st9 hw9 => ?_⟩
            have hpa9 := x9 _ _ np (x7 _ _ np hpa)
            refine ⟨_, rfl, _, rfl, _, rfl, pa, _, rfl, .inl (SqL.of hpa9), p, l, _, rfl, st9, by rw [List.length_map]; omega, by rw [List.length_map]; omega, fun H10 r10 x10 st10 r100 r101 => ?_⟩
            obtain ⟨vs10, hvs10, hat10⟩ := atI_mem r100 r101
            obtain ⟨s10, hs10, rfl⟩ := List.mem_map.mp hvs10
            refine ⟨_, _, _, _, rfl, rfl, SqL.of (x10 _ _ np hpa9), hat10, le_size (show 3 ≤ 100000 by decide), fun t ht => ?_⟩
            have nt := st10.ne ht
            have hA10 := x10 _ _ nA.1 (x9 _ _ nA.1 hA7)
            have nAt : t ≠ Ar := hp_ne hA10 ht
            have st := Same.new (arcHO (s8, u9, s10)) ht
            have X11 : Ex p H (upd H10 t (arcHO (s8, u9, s10))) := X6.trans (x7.trans (x9.trans (x10.trans (Same.ex st))))
            refine ⟨Ar, us, _, rfl, rfl, st _ _ hA10, lt_size (by rw [harc.1]; exact hln), ?_⟩
            have arc10 := ((arc7.st st7 x9).st st9 x10).same st
            have nn := (arc10.snoc (t := t) (a := (s8, u9, s10)) upd_same)
            refine ⟨us ++ [.ref t], as ++ [(s8, u9, s10)], _, _, rfl, by simp, ?_, fun _ => ?_, upd_same, ?_, X11.updNew hA0, (st10.same st).upd nA, ?_⟩
            · intro a ha
              rcases List.mem_append.mp ha with h | h
              · exact hok a h
              · rw [List.mem_singleton.mp h]
                exact ⟨hs8, hw9, xb _ hs10⟩
            · by_cases h0 : as.length = 0
              · have e : as = [] := List.eq_nil_of_length_eq_zero h0
                subst e
                exact ⟨_, rfl, hz8 rfl⟩
              · obtain ⟨a, ha, ha0⟩ := hz (by omega)
                exact ⟨a, by rw [List.getElem?_append_left (by omega)]; exact ha, ha0⟩
            · exact nn.updL (st _ _ hA10)
            · exact ⟨pa, xs, rfl, np, nl, by rw [upd_ne nApa.symm]; exact st _ _ (x10 _ _ np hpa9), xl1, xl2, xb⟩
        · rintro σ H6 ⟨us, as, v6, v7, rfl, hl, hok, hz, hAr, harc, X6, st6, pl6⟩
          have hl1 : 1 ≤ as.length ∧ as.length ≤ 12 := by clear hz; omega
          obtain ⟨a0, ha0, hz0⟩ := hz (by omega)
          refine ⟨fun σ' H' => ∃ (us : List V) (as : List Arc), σ' = [some (.ref p), some (.str (SX.S sg)), some v, some (.int many), some (.int mo), some (.ref Ar), v6, v7] ∧ OkArcs sg as ∧ H' Ar = some (.lst us) ∧ Arcs H' us as ∧ Ex p H H' ∧ StAt ns l H' p, ?_, ?_⟩
          · refine ⟨_, rfl, p, l, 4, rfl, st6, by decide, by decide, fun H7 r7 x7 st7 r70 r71 => ⟨rfl, _, rfl, ?_⟩⟩
            have hA7 := x7 _ _ nA.1 hAr
            have arc7 := harc.st st6 x7
            refine ite2 (fun c => ?_) (fun c => ?_)
            · refine ⟨_, rfl, .inl ⟨rfl, _, SqL.of hA7⟩, _, rfl, _, rfl, _, rfl, Ar, us, rfl, .inl (SqL.of hA7), p, l, _, rfl, st7, by rw [harc.1]; omega, by rw [harc.1]; omega, fun H8 r8 x8 st8 r80 r81 => ?_⟩
              have hA8 := x8 _ _ nA.1 hA7
              have arc8 := arc7.st st7 x8
              obtain ⟨j, rfl⟩ := Int.eq_ofNat_of_zero_le r80
              have hj : j < as.length := by rw [harc.1] at r81; exact_mod_cast r81
              obtain ⟨t, ht1, ht2⟩ := arc8.2 j as[j] (List.getElem?_eq_getElem hj)
              refine ⟨_, _, _, _, rfl, rfl, SqL.of hA8, atI_nat ht1, Ar, us, _, rfl, rfl, hA8, lt_size (by rw [harc.1]; omega), ?_⟩
              refine ⟨us ++ [.ref t], as ++ [as[j]], rfl, ⟨by simp, by simp; omega, ?_, a0, by rw [List.getElem?_append_left (by omega)]; exact ha0, hz0⟩, upd_same, (arc8.snoc ht2).updL hA8, (X6.trans (x7.trans x8)).updNew hA0, st8.upd nA⟩
              intro a ha
              rcases List.mem_append.mp ha with h | h
              · exact hok a h
              · rw [List.mem_singleton.mp h]
                exact hok _ (List.getElem_mem hj)
            · exact ⟨us, as, rfl, ⟨hl1.1, by omega, hok, a0, ha0, hz0⟩, hA7, arc7, X6.trans x7, st7⟩
          · rintro σ9 H9 ⟨us, as, rfl, hok, hA9, arc9, X9, st9⟩
            refine ⟨_, rfl, _, rfl, le_size (show 2 ≤ 100000 by decide), fun q hq => ?_⟩
            have sq := Same.new (.tup [.str (SX.S sg), .ref Ar]) hq
            refine k _ q Ar sg us as (X9.trans (Same.ex sq)) (st9.same sq) (X9.free hq (st9.ne hq).1) hA0 upd_same (sq _ _ hA9) (arc9.same sq) hok hsg
end
end J

set_option Elab.async false
set_option linter.all false
set_option maxRecDepth 100000
set_option maxHeartbeats 4000000
namespace J
open PySem L2

def spNumber : Sp := fun vs H Q _ => ∃ i lo hi : Int, vs = [.int i, .int lo, .int hi] ∧ ∀ b : Bool, (b = true ↔ lo ≤ i ∧ i ≤ hi) → Q (.bl b) H
def spSequence (K : PySem.W.Frag) : Sp := fun vs H Q _ => ∃ (a : Addr) (xs : List V) (lo hi : Int), vs = [.ref a, .int lo, .int hi] ∧ H a = some (.lst xs) ∧ ∀ (H' : Hp) (b : Bool), Same H H' → (b = true ↔ lo ≤ xs.length ∧ xs.length ≤ hi) → Q (.bl b) H'
def spOver : Sp := fun vs H Q _ => ∃ (sg u : List Nat) (lo hi : Int), vs = [.str (SX.S sg), .str (SX.S u), .int lo, .int hi] ∧ lo ≤ u.length ∧ u.length ≤ hi ∧ hi ≤ 100000 ∧ (∀ c ∈ u, c ∈ sg) ∧ ∀ H' : Hp, Same H H' → Q (.bl true) H'
def spIsWord : Sp := fun vs H Q _ => ∃ (sg u : List Nat), vs = [.str (SX.S sg), .str (SX.S u)] ∧ Word sg u ∧ ∀ H' : Hp, Same H H' → Q (.bl true) H'
def spSigns : Sp := fun vs H Q _ => ∃ sg : List Nat, vs = [.str (SX.S sg)] ∧ Signs sg ∧ ∀ H' : Hp, Same H H' → Q (.bl true) H'
def spArc : Sp := fun vs H Q _ => ∃ (sg : List Nat) (t : Addr) (a : Arc), vs = [.str (SX.S sg), .ref t] ∧ H t = some (arcHO a) ∧ OkArc sg a ∧ ∀ H' : Hp, Same H H' → Q (.bl true) H'
def spState1 : Sp := fun vs H Q _ => ∃ i : Int, vs = [.int i] ∧ 0 ≤ i ∧ i ≤ 63 ∧ Q .non H
def spText1 : Sp := fun vs H Q _ => ∃ (sg u : List Nat), vs = [.str (SX.S sg), .str (SX.S u)] ∧ u.length ≤ 2000 ∧ (∀ c ∈ u, c ∈ sg) ∧ ∀ H' : Hp, Same H H' → Q .non H'
theorem rep_snoc (n : Nat) : (HO.lst ((List.replicate n true).map V.bl ++ [V.bl true])) = HO.lst ((List.replicate (n + 1) true).map V.bl) := by
  congr 1
  rw [List.replicate_succ']
  simp
theorem _root_.L2.Same.updNew {q : Addr} {H H' : Hp} {o : HO} (x : Same H H') (hq : H q = none) : Same H (L2.upd H' q o) := fun b u e => by
  rw [upd_ne (ne_of_none e hq)]; exact x b u e
theorem all_true {n : Nat} : (List.replicate n true).all id = true := by simp
section
variable {P : Program} {w : World} {K : PySem.W.Frag} {mg : Str → Option Value} {base : Heap}

theorem ok_is_number (T : Tx K mg) : FnOk P w K mg base CX0 1 T.f_is_number T.fd_is_number P_is_number spNumber := by
  refine T.F_is_number.ok sc_is_number (fun vs H Q E h => ?_) (fun cdv A outer s H vs Q E hr h => ?_)
  · obtain ⟨i, lo, hi, rfl, _⟩ := h
    rfl
  · obtain ⟨i, lo, hi, rfl, k⟩ := h
    refine ⟨_, (pss_one (ps_ret (pe_and (pe_callB (call_isiK' (K := K) rfl) rfl T.n_isinstance (by decide +kernel) (pa_cons (pv 0) (pa_cons (pe_bltn (v := V.ty "int") (u := .type "int") rfl T.n_int (by decide +kernel) rfl) pa_nil))) (pe_and (pe_not (pe_callB (call_isiK' (K := K) rfl) rfl T.n_isinstance (by decide +kernel) (pa_cons (pv 0) (pa_cons (pe_bltn (v := V.ty "bool") (u := .type "bool") rfl T.n_bool (by decide +kernel) rfl) pa_nil)))) (pe_one (pe_chain op_le op_le (pv 1) (pv 0) (pv 2))))))), ?_⟩
    refine ⟨_, rfl, _, _, _, _, true, rfl, .ty "int", .base (.int i), kit_ty (by decide +kernel), true, rfl, ?_⟩
    refine ⟨_, rfl, _, _, _, _, false, rfl, .ty "bool", .base (.int i), kit_ty (by decide +kernel), false, rfl, true, rfl, ?_⟩
    refine ⟨_, rfl, _, rfl, _, _, rfl, rfl, _, rfl, ?_⟩
    refine ite2 (fun c => ?_) (fun c => ?_)
    · refine ⟨_, rfl, _, _, rfl, rfl, k _ ?_⟩
      have c1 := of_decide_eq_true c
      constructor
      · intro h; exact ⟨c1, of_decide_eq_true h⟩
      · intro h; exact decide_eq_true h.2
    · refine k _ ?_
      constructor
      · intro h; cases h
      · intro h; exact absurd (decide_eq_true h.1) c

theorem ok_is_sequence (T : Tx K mg) : FnOk P w K mg base CX0 1 T.f_is_sequence T.fd_is_sequence P_is_sequence (spSequence K) := by
  refine T.F_is_sequence.ok sc_is_sequence (fun vs H Q E h => ?_) (fun cdv A outer s H vs Q E hr h => ?_)
  · obtain ⟨a, xs, lo, hi, rfl, _⟩ := h
    rfl
  · obtain ⟨a, xs, lo, hi, rfl, ha, k⟩ := h
    refine ⟨_, (pss_one (ps_ret (pe_and (pe_callB (call_isiTK (K := K) rfl) rfl T.n_isinstance (by decide +kernel) (pa_cons (pv 0) (pa_cons (pe_tup (pa_cons (pe_bltn (v := V.ty "list") (u := .type "list") rfl T.n_list (by decide +kernel) rfl) (pa_cons (pe_bltn (v := V.ty "tuple") (u := .type "tuple") rfl T.n_tuple (by decide +kernel) rfl) pa_nil))) pa_nil))) (pe_one (pe_chain op_le op_le (pv 1) (pe_callB (call_len_seqK (K := K) rfl) rfl T.n_len (by decide +kernel) (pa_cons (pv 0) pa_nil)) (pv 2)))))), ?_⟩
    refine ⟨_, rfl, le_size (by decide), fun t ht => ?_⟩
    have st := Same.new (.tup [V.ty "list", V.ty "tuple"]) ht
    refine ⟨_, _, _, _, [.type "list", .type "tuple"], true, rfl, upd_same, .cons (.ty _) (.cons (.ty _) .nil), .base (.lst (st _ _ ha)), kitAny_cons (b := true) (kit_ty (by decide +kernel)) (fun q => nomatch q) (fun _ => rfl), true, rfl, ?_⟩
    refine ⟨_, rfl, _, rfl, a, xs, rfl, .inl (SqL.of (st _ _ ha)), _, _, rfl, rfl, _, rfl, ?_⟩
    refine ite2 (fun c => ?_) (fun c => ?_)
    · refine ⟨_, rfl, _, _, rfl, rfl, k _ _ st ?_⟩
      have c1 := of_decide_eq_true c
      constructor
      · intro h; exact ⟨c1, of_decide_eq_true h⟩
      · intro h; exact decide_eq_true h.2
    · refine k _ _ st ?_
      constructor
      · intro h; cases h
      · intro h; exact absurd (decide_eq_true h.1) c

theorem ok_is_string_over (T : Tx K mg) : FnOk P w K mg base CX0 1 T.f_is_string_over T.fd_is_string_over P_is_string_over spOver := by
  refine T.F_is_string_over.ok sc_is_string_over (fun vs H Q E h => ?_) (fun cdv A outer s H vs Q E hr h => ?_)
  · obtain ⟨sg, u, lo, hi, rfl, _⟩ := h
    rfl
  · obtain ⟨sg, u, lo, hi, rfl, h1, h2, h3, hu, k⟩ := h
    refine ⟨_, (pss_cons (ps_if (PW.pt (pw_or (pt_not (pt_val (pe_callB (call_isiK' (K := K) rfl) rfl T.n_isinstance (by decide +kernel) (pa_cons (pv 1) (pa_cons (pe_bltn (v := V.ty "str") (u := .type "str") rfl T.n_str (by decide +kernel) rfl) pa_nil))))) (pw_or1 (pt_not (pt_chain op_le op_le (pv 2) (pe_callB call_len_str rfl T.n_len (by decide +kernel) (pa_cons (pv 1) pa_nil)) (pv 3)))))) (pss_one (ps_ret pe_bl)) pss_nil)
        (pss_one (ps_ret (pe_callB (cr_allK (K := K) rfl rfl) rfl T.n_all (by decide +kernel) (pa_cons (pe_lc (own := [("sign", 4)]) (g := (gName 4)) rfl sc_is_string_over.nd (pi_str (pv 1)) (blkOk_by (N := N_is_string_over) (sc := defScope s_is_string_over) (by decide +kernel)) (fun _ _ _ _ _ => (pg_name (i := 4) sc_is_string_over.nd rfl (Or.inl rfl))) (fun _ _ _ _ _ => pts_nil) (fun _ _ _ _ _ => (pe_cmpR op_in_sign (pv 4) (pv 0) rfl))) pa_nil))))), ?_⟩
    have hl : (SX.S u).length ≤ sizeLine := le_size (by rw [SX.S_len]; omega)
    refine ⟨_, rfl, _, _, _, _, true, rfl, .ty "str", .base (.str _), kit_ty (by decide +kernel), true, rfl, ?_⟩
    have e : ((SX.S u).length : Int) = u.length := by rw [SX.S_len]
    refine ⟨_, rfl, _, rfl, _, rfl, hl, _, _, rfl, rfl, true, congrArg V.bl (decide_eq_true (by rw [e]; exact h1)), ?_⟩
    refine ⟨_, rfl, _, _, rfl, rfl, true, congrArg V.bl (decide_eq_true (by rw [e]; exact h2)), ?_⟩
    refine ⟨_, rfl, _, rfl, fun D hD => lc_it (walk_str (z := SX.S u)) (fun i H' => H' D = some (.lst ((List.replicate i true).map V.bl)) ∧ Same H H') ⟨upd_same, Same.new _ hD⟩ (fun _ _ _ _ => trivial) ?_ ?_⟩
    · rintro i x H1 H2 hi ⟨hDl, sm⟩ ⟨rfl, c, hc, rfl⟩
      have hcu : c ∈ u := by
        have q : u[i]? = some c := by simpa using hc
        exact List.mem_of_getElem? q
      have hi2 : i ≤ 100000 := by
        have q : i < (SX.S u).length := hi
        rw [SX.S_len] at q
        omega
      refine ⟨rfl, _, rfl, _, rfl, c, _, rfl, rfl, _, hDl, lt_size (by simp; exact hi2), ?_, sm.updNew hD⟩
      rw [upd_same, decide_eq_true (by simpa using hu c hcu), rep_snoc]
    · rintro H1 ⟨hDl, sm⟩
      refine ⟨D, _, rfl, SqL.of hDl, ?_⟩
      rw [all_true]
      exact k _ sm

theorem ok_is_word (T : Tx K mg) : FnOk P w K mg base CX0 2 T.f_is_word T.fd_is_word P_is_word spIsWord := by
  have G_is_string_over : FnOk P w K mg base CX0 1 T.f_is_string_over T.fd_is_string_over P_is_string_over spOver := ok_is_string_over T
  refine T.F_is_word.ok sc_is_word (fun vs H Q E h => ?_) (fun cdv A outer s H vs Q E hr h => ?_)
  · obtain ⟨sg, u, rfl, _⟩ := h
    rfl
  · obtain ⟨sg, u, rfl, ⟨h1, h2, h3⟩, k⟩ := h
    refine ⟨_, (pss_one (ps_ret (pe_call G_is_string_over (hr.mono (by decide)) rfl T.m_is_string_over T.F_is_string_over.kp T.b_is_string_over .nil pass0 (pa_cons (pv 0) (pa_cons (pv 1) (pa_cons pe_int (pa_cons (pe_glob (v := V.int 12) rfl T.g_LONGEST_WORD ⟨_, rfl⟩) pa_nil))))))), ?_⟩
    exact ⟨_, rfl, _, rfl, sg, u, 1, 12, rfl, by omega, by omega, by omega, h3, k⟩
theorem ok_check_state (T : Tx K mg) : FnOk P w K mg base CX0 2 T.f_check_state T.fd_check_state P_check_state spState1 := by
  have G_is_number : FnOk P w K mg base CX0 1 T.f_is_number T.fd_is_number P_is_number spNumber := ok_is_number T
  refine T.F_check_state.ok sc_check_state (fun vs H Q E h => ?_) (fun cdv A outer s H vs Q E hr h => ?_)
  · obtain ⟨i, rfl, _⟩ := h
    rfl
  · obtain ⟨i, rfl, h1, h2, k⟩ := h
    refine ⟨_, (pss_one (ps_if (pt_not (pt_val (pe_call G_is_number (hr.mono (by decide)) rfl T.m_is_number T.F_is_number.kp T.b_is_number .nil pass0 (pa_cons (pv 0) (pa_cons pe_int (pa_cons (pe_glob (v := V.int 63) rfl T.g_LAST_STATE ⟨_, rfl⟩) pa_nil)))))) (pss_one ps_never) pss_nil)), ?_⟩
    refine ⟨_, rfl, i, 0, 63, rfl, fun b hb => ⟨b, rfl, ?_⟩⟩
    rw [hb.mpr ⟨h1, h2⟩]
    exact k
theorem ok_check_text (T : Tx K mg) : FnOk P w K mg base CX0 2 T.f_check_text T.fd_check_text P_check_text spText1 := by
  have G_is_string_over : FnOk P w K mg base CX0 1 T.f_is_string_over T.fd_is_string_over P_is_string_over spOver := ok_is_string_over T
  refine T.F_check_text.ok sc_check_text (fun vs H Q E h => ?_) (fun cdv A outer s H vs Q E hr h => ?_)
  · obtain ⟨sg, u, rfl, _⟩ := h
    rfl
  · obtain ⟨sg, u, rfl, h1, h2, k⟩ := h
    refine ⟨_, (pss_one (ps_if (pt_not (pt_val (pe_call G_is_string_over (hr.mono (by decide)) rfl T.m_is_string_over T.F_is_string_over.kp T.b_is_string_over .nil pass0 (pa_cons (pv 0) (pa_cons (pv 1) (pa_cons pe_int (pa_cons (pe_glob (v := V.int 2000) rfl T.g_LONGEST_TEXT ⟨_, rfl⟩) pa_nil))))))) (pss_one ps_never) pss_nil)), ?_⟩
    exact ⟨_, rfl, _, rfl, sg, u, 0, 2000, rfl, by omega, by omega, by omega, h2, fun H' sm => ⟨true, rfl, k H' sm⟩⟩
theorem ok_is_arc (T : Tx K mg) : FnOk P w K mg base CX0 3 T.f_is_arc T.fd_is_arc P_is_arc spArc := by
  have G_is_number : FnOk P w K mg base CX0 1 T.f_is_number T.fd_is_number P_is_number spNumber := ok_is_number T
  have G_is_word : FnOk P w K mg base CX0 2 T.f_is_word T.fd_is_word P_is_word spIsWord := ok_is_word T
  refine T.F_is_arc.ok sc_is_arc (fun vs H Q E h => ?_) (fun cdv A outer s H vs Q E hr h => ?_)
  · obtain ⟨sg, t, a, rfl, _⟩ := h
    rfl
  · obtain ⟨sg, t, ⟨s1, u, g1⟩, rfl, ht, ⟨hs, hw, hg⟩, k⟩ := h
    refine ⟨_, (pss_cons (ps_if (PW.pt (pw_or (pt_not (pt_val (pe_callB (call_isiK' (K := K) rfl) rfl T.n_isinstance (by decide +kernel) (pa_cons (pv 1) (pa_cons (pe_bltn (v := V.ty "tuple") (u := .type "tuple") rfl T.n_tuple (by decide +kernel) rfl) pa_nil))))) (pw_or1 (pt_cmpR op_ne (pe_callB (call_len_seqK (K := K) rfl) rfl T.n_len (by decide +kernel) (pa_cons (pv 1) pa_nil)) pe_int (nomark _))))) (pss_one (ps_ret pe_bl)) pss_nil)
        (pss_cons (ps_asg (pv 1) (pg_tup rfl (pgs_cons (pg_name (i := 2) sc_is_arc.nd rfl (Or.inl rfl)) (pgs_cons (pg_name (i := 3) sc_is_arc.nd rfl (Or.inl rfl)) (pgs_cons (pg_name (i := 4) sc_is_arc.nd rfl (Or.inl rfl)) pgs_nil)))))
        (pss_one (ps_ret (pe_and (pe_call G_is_number (hr.mono (by decide)) rfl T.m_is_number T.F_is_number.kp T.b_is_number .nil pass0 (pa_cons (pv 2) (pa_cons pe_int (pa_cons (pe_glob (v := V.int 63) rfl T.g_LAST_STATE ⟨_, rfl⟩) pa_nil)))) (pe_and (pe_call G_is_word (hr.mono (by decide)) rfl T.m_is_word T.F_is_word.kp T.b_is_word .nil pass0 (pa_cons (pv 0) (pa_cons (pv 3) pa_nil))) (pe_one (pe_call G_is_number (hr.mono (by decide)) rfl T.m_is_number T.F_is_number.kp T.b_is_number .nil pass0 (pa_cons (pv 4) (pa_cons pe_int (pa_cons (pe_glob (v := V.int 63) rfl T.g_LAST_STATE ⟨_, rfl⟩) pa_nil))))))))))), ?_⟩
    refine ⟨_, rfl, _, _, _, _, true, rfl, .ty "tuple", .base (.tup ht), kit_ty (by decide +kernel), true, rfl, ?_⟩
    refine ⟨_, rfl, t, _, rfl, .inr (SqT.of ht), rfl, false, rfl, ?_⟩
    refine ⟨_, rfl, t, _, rfl, SqT.of ht, rfl, ?_⟩
    have e1 : (0 : Int) ≤ ((s1 : Nat) : Int) ∧ ((s1 : Nat) : Int) ≤ 63 := by omega
    have e2 : (0 : Int) ≤ ((g1 : Nat) : Int) ∧ ((g1 : Nat) : Int) ≤ 63 := by have hg' : g1 ≤ 63 := hg; omega
    refine ⟨_, _, rfl, _, _, rfl, _, _, rfl, rfl, ?_⟩
    refine ⟨_, rfl, _, 0, 63, rfl, fun b hb => ⟨b, rfl, ?_⟩⟩
    rw [hb.mpr e1]
    refine ⟨_, rfl, _, rfl, sg, u, rfl, hw, fun H' sm => ⟨true, rfl, ?_⟩⟩
    refine ⟨_, rfl, _, 0, 63, rfl, fun b hb => ?_⟩
    rw [hb.mpr e2]
    exact k H' sm
end
end J

set_option Elab.async false
set_option linter.all false
set_option maxRecDepth 100000
set_option maxHeartbeats 4000000
namespace J
open PySem L2

theorem walk_zipS {x y : Str} : Walk (ItzS x y) (min x.cps.size y.cps.size) (fun _ => True) (fun i H v H' => ∃ T c d, v = .ref T ∧ H T = none ∧ H' = upd H T (.tup [.str ⟨#[c]⟩, .str ⟨#[d]⟩]) ∧ x.cps[i]? = some c ∧ y.cps[i]? = some d) :=
  ⟨fun _ _ h _ => h, fun _ _ => rfl, fun _ _ _ _ _ _ h => h⟩
theorem signs_le {sg : List Nat} (h : Signs sg) : ∀ c ∈ sg, (!decide ([c] < ([97] : List Nat))) = true ∧ (!decide (([122] : List Nat) < [c])) = true := by
  revert sg; unfold Signs; decide
theorem signs_up {sg : List Nat} (h : Signs sg) : ∀ p ∈ sg.zip (sg.drop 1), decide ([p.1] < [p.2]) = true := by
  revert sg; unfold Signs; decide
theorem signs_pair {sg : List Nat} (h : Signs sg) {i c d : Nat} (h1 : sg[i]? = some c) (h2 : (sg.drop 1)[i]? = some d) : decide ([c] < [d]) = true :=
  signs_up h (c, d) (List.mem_of_getElem? (i := i) (by rw [List.getElem?_zip_eq_some]; exact ⟨h1, h2⟩))
section
variable {P : Program} {w : World} {K : PySem.W.Frag} {mg : Str → Option Value} {base : Heap}

theorem ok_is_signs (T : Tx K mg) : FnOk P w K mg base CX0 1 T.f_is_signs T.fd_is_signs P_is_signs spSigns := by
  refine T.F_is_signs.ok sc_is_signs (fun vs H Q E h => ?_) (fun cdv A outer s H vs Q E hr h => ?_)
  · obtain ⟨sg, rfl, _⟩ := h
    rfl
  · obtain ⟨sg, rfl, hsg, k⟩ := h
    refine ⟨_, (pss_cons (ps_if (PW.pt (pw_or (pt_not (pt_val (pe_callB (call_isiK' (K := K) rfl) rfl T.n_isinstance (by decide +kernel) (pa_cons (pv 0) (pa_cons (pe_bltn (v := V.ty "str") (u := .type "str") rfl T.n_str (by decide +kernel) rfl) pa_nil))))) (pw_or1 (pt_not (pt_chain op_le op_le pe_int (pe_callB call_len_str rfl T.n_len (by decide +kernel) (pa_cons (pv 0) pa_nil)) (pe_glob (v := V.int 4) rfl T.g_MOST_SIGNS ⟨_, rfl⟩)))))) (pss_one (ps_ret pe_bl)) pss_nil)
        (pss_cons (ps_set (i := 1) sc_is_signs.nd rfl (Or.inl rfl) (pe_callB (cr_allK (K := K) rfl rfl) rfl T.n_all (by decide +kernel) (pa_cons (pe_lc (own := [("sign", 2)]) (g := (gName 2)) rfl sc_is_signs.nd (pi_str (pv 0)) (blkOk_by (N := N_is_signs) (sc := defScope s_is_signs) (by decide +kernel)) (fun _ _ _ _ _ => (pg_name (i := 2) sc_is_signs.nd rfl (Or.inl rfl))) (fun _ _ _ _ _ => pts_nil) (fun _ _ _ _ _ => (pe_chain op_le_str op_le_str pe_str (pv 2) pe_str))) pa_nil)))
        (pss_one (ps_ret (pe_and (pv 1) (pe_one (pe_callB (cr_allK (K := K) rfl rfl) rfl T.n_all (by decide +kernel) (pa_cons (pe_lc (own := [("one", 3), ("other", 4)]) (g := (gTup K 2 (gCons (gName 3) (gCons (gName 4) gNil)))) rfl sc_is_signs.nd (pi_zipS rfl T.n_zip (pa_cons (pv 0) (pa_cons (pe_slice sl_str (pv 0) (po_some pe_int) po_none) pa_nil))) (blkOk_by (N := N_is_signs) (sc := defScope s_is_signs) (by decide +kernel)) (fun _ _ _ _ _ => (pg_tup rfl (pgs_cons (pg_name (i := 3) sc_is_signs.nd rfl (Or.inl rfl)) (pgs_cons (pg_name (i := 4) sc_is_signs.nd rfl (Or.inl rfl)) pgs_nil)))) (fun _ _ _ _ _ => pts_nil) (fun _ _ _ _ _ => (pe_cmpR op_lt_str (pv 3) (pv 4) (nomark _)))) pa_nil)))))))), ?_⟩
    have hlen := hsg.len
    have hl : (SX.S sg).length ≤ sizeLine := le_size (by rw [SX.S_len]; omega)
    have e : ((SX.S sg).length : Int) = sg.length := by rw [SX.S_len]
    refine ⟨_, rfl, _, _, _, _, true, rfl, .ty "str", .base (.str _), kit_ty (by decide +kernel), true, rfl, ?_⟩
    refine ⟨_, rfl, _, rfl, hl, _, _, rfl, rfl, true, congrArg V.bl (decide_eq_true (by rw [e]; omega)), ?_⟩
    refine ⟨_, _, rfl, rfl, true, congrArg V.bl (decide_eq_true (by rw [e]; omega)), ?_⟩
    refine ⟨_, rfl, _, rfl, fun D hD => lc_it (walk_str (z := SX.S sg)) (fun i H' => H' D = some (.lst ((List.replicate i true).map V.bl)) ∧ Same H H') ⟨upd_same, Same.new _ hD⟩ (fun _ _ _ _ => trivial) ?_ ?_⟩
    · rintro i x H1 H2 hi ⟨hDl, sm⟩ ⟨rfl, c, hc, rfl⟩
      have hcu : c ∈ sg := by
        have q : sg[i]? = some c := by simpa using hc
        exact List.mem_of_getElem? q
      have hi2 : i ≤ 100000 := by
        have q : i < (SX.S sg).length := hi
        rw [SX.S_len] at q
        omega
      obtain ⟨l1, l2⟩ := signs_le hsg c hcu
      refine ⟨rfl, _, rfl, _, _, rfl, rfl, true, congrArg V.bl l1, _, _, rfl, rfl, _, hDl, lt_size (by simp; exact hi2), ?_, sm.updNew hD⟩
      rw [upd_same]
      show some (HO.lst (_ ++ [V.bl (!decide (([122] : List Nat) < [c]))])) = _
      rw [l2, rep_snoc]
    · rintro H1 ⟨hDl, sm⟩
      refine ⟨D, _, rfl, SqL.of hDl, ?_⟩
      rw [all_true]
      refine ⟨_, rfl, true, rfl, ?_⟩
      refine ⟨_, rfl, _, rfl, _, rfl, _, rfl, hl, ?_⟩
      rw [C8.cutS_slice, SX.slice_from (by decide)]
      refine ⟨_, _, rfl, fun D2 hD2 => lc_it (walk_zipS (x := SX.S sg) (y := SX.S (sg.drop 1))) (fun i H' => H' D2 = some (.lst ((List.replicate i true).map V.bl)) ∧ Same H H') ⟨upd_same, sm.trans (Same.new _ hD2)⟩ (fun _ _ _ _ => trivial) ?_ ?_⟩
      · rintro i x H2 H3 hi ⟨hDl2, sm2⟩ ⟨t, c, d, rfl, ht, rfl, hc, hd⟩
        have hcu : sg[i]? = some c := by simpa using hc
        have hdu : (sg.drop 1)[i]? = some d := by simpa using hd
        have hi2 : i ≤ 100000 := by
          have q := (List.getElem?_eq_some_iff.mp hcu).1
          omega
        have nt : D2 ≠ t := fun z => hp_ne hDl2 ht z.symm
        refine ⟨t, _, rfl, SqT.of upd_same, rfl, _, _, rfl, _, _, rfl, rfl, rfl, _, rfl, _, rfl, _, _, rfl, rfl, _, by rw [upd_ne nt]; exact hDl2, lt_size (by simp; exact hi2), ?_, (sm2.trans (Same.new _ ht)).updNew (sm.free hD2)⟩
        rw [upd_same]
        show some (HO.lst (_ ++ [V.bl (decide ([c] < [d]))])) = _
        rw [signs_pair hsg hcu hdu, rep_snoc]
      · rintro H2 ⟨hDl2, sm2⟩
        refine ⟨D2, _, rfl, SqL.of hDl2, ?_⟩
        rw [all_true]
        exact k _ sm2
end
end J

set_option Elab.async false
set_option linter.all false
set_option maxRecDepth 100000
set_option maxHeartbeats 4000000
namespace J
open PySem L2
/-- a loom's fields -/
def lf (sg : List Nat) (T : Addr) : List (Str × V) := putF "arcs" (.ref T) (putF "signs" (.str (SX.S sg)) [])
theorem ne_sa : ¬ (("signs" : Str) = "arcs") := by decide +kernel
theorem lf_signs (sg : List Nat) (T : Addr) : (lf sg T).lookup ("signs" : Str) = some (.str (SX.S sg)) := by
  unfold lf
  rw [lookup_putF, if_neg ne_sa, lookup_putF, if_pos rfl]
theorem lf_arcs (sg : List Nat) (T : Addr) : (lf sg T).lookup ("arcs" : Str) = some (.ref T) := by
  unfold lf
  rw [lookup_putF, if_pos rfl]
/-- a loom stands at p -/
def LoomAt (C : Addr) (H : Hp) (p : Addr) (sg : List Nat) (us : List V) (as : List Arc) : Prop := ∃ dx T, H p = some (.ins C dx (lf sg T)) ∧ H T = some (.tup us) ∧ Arcs H us as ∧ OkArcs sg as ∧ Signs sg
def spInit (C : Addr) : Sp := fun vs H Q _ => ∃ (p dx a : Addr) (sg : List Nat) (us : List V) (as : List Arc), vs = [.ref p, .str (SX.S sg), .ref a] ∧ H p = some (.ins C dx []) ∧ H a = some (.lst us) ∧ Arcs H us as ∧ OkArcs sg as ∧ Signs sg ∧
  ∀ (H' : Hp) (T : Addr), Ex p H H' → H T = none → H' T = some (.tup us) → H' p = some (.ins C dx (lf sg T)) → Q .non H'
theorem take_snoc {α : Type} {l : List α} {i : Nat} {x : α} (h : l[i]? = some x) : l.take i ++ [x] = l.take (i + 1) := by
  rw [List.take_add_one, h]
  rfl
def spChkSigns : Sp := fun vs H Q _ => ∃ sg : List Nat, vs = [.str (SX.S sg)] ∧ Signs sg ∧ ∀ H', Same H H' → Q .non H'
section
variable {P : Program} {w : World} {K : PySem.W.Frag} {mg : Str → Option Value} {base : Heap}
theorem ok_check_signs (T : Tx K mg) : FnOk P w K mg base CX0 2 T.f_check_signs T.fd_check_signs P_check_signs spChkSigns := by
  have G_is_signs : FnOk P w K mg base CX0 1 T.f_is_signs T.fd_is_signs P_is_signs spSigns := ok_is_signs T
  refine T.F_check_signs.ok sc_check_signs (fun vs H Q E h => ?_) (fun cdv A outer s H vs Q E hr h => ?_)
  · obtain ⟨sg, rfl, _⟩ := h
    rfl
  · obtain ⟨sg, rfl, hsg, k⟩ := h
    refine ⟨_, (pss_one (ps_if (pt_not (pt_val (pe_call G_is_signs (hr.mono (by decide)) rfl T.m_is_signs T.F_is_signs.kp T.b_is_signs .nil pass0 (pa_cons (pv 0) pa_nil)))) (pss_one ps_never) pss_nil)), ?_⟩
    refine ⟨_, rfl, sg, rfl, hsg, fun H1 s1 => ⟨true, rfl, ?_⟩⟩
    exact k _ s1
theorem ok_Loom_init (T : Tx K mg) : FnOk P w K mg base CX0 4 T.f_Loom_init T.fd_Loom_init P_Loom_init (spInit T.C_Loom) := by
  have G_check_signs : FnOk P w K mg base CX0 2 T.f_check_signs T.fd_check_signs P_check_signs spChkSigns := ok_check_signs T
  have G_is_sequence : FnOk P w K mg base CX0 1 T.f_is_sequence T.fd_is_sequence P_is_sequence (spSequence K) := ok_is_sequence T
  have G_is_arc : FnOk P w K mg base CX0 3 T.f_is_arc T.fd_is_arc P_is_arc spArc := ok_is_arc T
  refine T.F_Loom_init.ok sc_Loom_init (fun vs H Q E h => ?_) (fun cdv A outer s H vs Q E hr h => ?_)
  · obtain ⟨p, dx, a, sg, us, as, rfl, _⟩ := h
    rfl
  · obtain ⟨p, dx, a, sg, us, as, rfl, hp, ha, harc, hok, hsg, k⟩ := h
    refine ⟨_, (pss_cons (ps_expr (pe_call G_check_signs (hr.mono (by decide)) rfl T.m_check_signs T.F_check_signs.kp T.b_check_signs .nil pass0 (pa_cons (pv 1) pa_nil)))
        (pss_cons (ps_if (pt_not (pt_val (pe_call G_is_sequence (hr.mono (by decide)) rfl T.m_is_sequence T.F_is_sequence.kp T.b_is_sequence .nil pass0 (pa_cons (pv 2) (pa_cons pe_int (pa_cons (pe_glob (v := V.int 200) rfl T.g_MOST_ARCS ⟨_, rfl⟩) pa_nil)))))) (pss_one ps_never) pss_nil)
        (pss_cons (ps_for PassesOwn.never rfl (pi_enum rfl T.n_enumerate (pa_cons (pv 2) pa_nil)) (pg_tup rfl (pgs_cons (pg_name (i := 3) sc_Loom_init.nd rfl (Or.inl rfl)) (pgs_cons (pg_name (i := 4) sc_Loom_init.nd rfl (Or.inl rfl)) pgs_nil))) (pss_one (ps_if (pt_not (pt_val (pe_call G_is_arc (hr.mono (by decide)) rfl T.m_is_arc T.F_is_arc.kp T.b_is_arc .nil pass0 (pa_cons (pv 1) (pa_cons (pv 4) pa_nil))))) (pss_one ps_never) pss_nil)))
        (pss_cons (ps_fld (pv 0) (pv 1) rfl)
        (pss_one (ps_fld (pv 0) (pe_callTy (call_tuple_ofK (K := K) rfl) rfl T.n_tuple (by decide +kernel) (pa_cons (pe_lc (own := [("arc", 4)]) (g := (gName 4)) rfl sc_Loom_init.nd (pi_list (pv 2)) (blkOk_by (N := N_Loom_init) (sc := defScope s_Loom_init) (by decide +kernel)) (fun _ _ _ _ _ => (pg_name (i := 4) sc_Loom_init.nd rfl (Or.inl rfl))) (fun _ _ _ _ _ => pts_nil) (fun _ _ _ _ _ => (pe_callTy (call_tuple_ofK (K := K) rfl) rfl T.n_tuple (by decide +kernel) (pa_cons (pv 4) pa_nil)))) pa_nil)) rfl)))))), ?_⟩
    refine ⟨_, rfl, sg, rfl, hsg, fun H1 s1 => ?_⟩
    refine ⟨_, rfl, a, us, 1, 200, rfl, s1 _ _ ha, fun H2 b s2 hb => ⟨b, rfl, ?_⟩⟩
    have hl := hok.2.1
    have hl0 := hok.1
    have hl2 := harc.1
    rw [hb.mpr ⟨by omega, by omega⟩]
    have s12 := s1.trans s2
    refine ⟨_, rfl, a, us, rfl, SqL.of (s12 _ _ ha), for_it walk_enum (fun i σ H' => ∃ v3 v4, σ = [some (.ref p), some (.str (SX.S sg)), some (.ref a), v3, v4] ∧ Same H H') ⟨_, _, rfl, s12⟩ (fun i σ H' _ ⟨_, _, _, sm⟩ => SqL.of (sm _ _ ha)) ?_ ?_⟩
    · rintro i x σ H3 H4 hi ⟨v3, v4, rfl, s3⟩ ⟨tp, x1, y1, rfl, ht, rfl, hx1, hy1⟩
      cases hx1
      have hia : i < as.length := by omega
      obtain ⟨t, hut, htt⟩ := harc.2 i as[i] (List.getElem?_eq_getElem hia)
      replace hy1 : us[i]? = some y1 := hy1
      rw [hut] at hy1
      cases hy1
      have sn := Same.new (.tup [V.int (i : Int), .ref t]) ht
      refine ⟨tp, _, rfl, SqT.of upd_same, rfl, _, _, rfl, _, _, rfl, rfl, ?_⟩
      refine ⟨_, rfl, _, rfl, sg, t, as[i], rfl, sn _ _ (s3 _ _ htt), hok.2.2.1 _ (List.getElem_mem hia), fun H5 s5 => ⟨true, rfl, ?_⟩⟩
      exact ⟨_, _, rfl, s3.trans (sn.trans s5)⟩
    · rintro σ H3 ⟨v3, v4, rfl, s3⟩
      have hp3 := s3 _ _ hp
      refine ⟨_, rfl, _, rfl, p, _, dx, _, rfl, hp3, T.cl_Loom, T.na_Loom_signs, (by show 0 < 1000; decide), ?_⟩
      have x3 : Ex p H (upd H3 p (.ins T.C_Loom dx (putF "signs" (.str (SX.S sg)) []))) := (Same.ex s3).trans (Ex.upd _)
      have nap : a ≠ p := fun z => by rw [z, hp] at ha; cases ha
      refine ⟨_, rfl, a, rfl, ⟨_, SqL.of (x3 _ _ nap ha)⟩, fun D hD => lc_list (K := K) (a := a) (xs := us) (fun i H' => H' D = some (.lst (us.take i)) ∧ Ex p H H' ∧ H' p = some (.ins T.C_Loom dx (putF "signs" (.str (SX.S sg)) []))) ?_ ?_ ?_ ?_⟩
      · have nDp : D ≠ p := hp_ne upd_same hD
        exact ⟨upd_same, x3.trans (Ex.new _ hD), by rw [upd_ne nDp.symm]; exact upd_same⟩
      · rintro i H4 hi ⟨_, x4, _⟩
        exact SqL.of (x4 _ _ nap ha)
      · rintro i y H4 hy ⟨hDl, x4, hp4⟩
        have hia : i < us.length := (List.getElem?_eq_some_iff.mp hy).1
        obtain ⟨t, hut, htt⟩ := harc.2 i as[i] (List.getElem?_eq_getElem (by omega))
        rw [hut] at hy
        cases hy
        have ntp : t ≠ p := fun z => by rw [z, hp] at htt; cases htt
        have nDp : D ≠ p := hp_ne upd_same hD
        refine ⟨rfl, _, rfl, t, _, rfl, .inr ⟨SqT.of (x4 _ _ ntp htt), _, hDl, lt_size (by simp; omega), ?_, x4.updNew (x3.free hD nDp), by rw [upd_ne nDp.symm]; exact hp4⟩⟩
        rw [upd_same, take_snoc hut]
      · rintro H4 ⟨hDl, x4, hp4⟩
        rw [List.take_length] at hDl
        refine ⟨D, us, rfl, .inl ⟨SqL.of hDl, fun T1 hT1 => ?_⟩⟩
        have nT : T1 ≠ p := hp_ne hp4 hT1
        refine ⟨_, rfl, p, _, dx, _, rfl, by rw [upd_ne nT.symm]; exact hp4, T.cl_Loom, T.na_Loom_arcs, (by show 1 < 1000; decide), ?_⟩
        exact k _ T1 ((x4.trans (Ex.new _ hT1)).trans (Ex.upd _)) (x4.free hT1 nT) (by rw [upd_ne nT]; exact upd_same) upd_same
end
end J

set_option Elab.async false
set_option linter.all false
set_option maxRecDepth 100000
set_option maxHeartbeats 4000000
namespace J
open PySem L2
abbrev nats (l : List Nat) : List V := l.map fun n : Nat => V.int (n : Int)
def leavTo (as : List Arc) (g : Nat) (i : Nat) : List Nat := (List.range i).filter fun j => decide (as[j]?.map (·.1) = some g)
/-- the numbers of the arcs that leave g -/
def leav (as : List Arc) (g : Nat) : List Nat := leavTo as g as.length
theorem leavTo_snoc {as : List Arc} {g i : Nat} {a : Arc} (h : as[i]? = some a) : leavTo as g (i + 1) = leavTo as g i ++ if a.1 = g then [i] else [] := by
  unfold leavTo
  rw [List.range_succ, List.filter_append]
  congr 1
  by_cases c : a.1 = g
  · simp [h, c]
  · simp [h, c]
theorem leavTo_len (as : List Arc) (g : Nat) : ∀ i, (leavTo as g i).length ≤ i := fun i => by
  unfold leavTo
  exact Nat.le_trans (List.length_filter_le _ _) (by simp)
theorem leav_mem {as : List Arc} {g i : Nat} (h : i ∈ leav as g) : ∃ a, as[i]? = some a ∧ a.1 = g := by
  unfold leav leavTo at h
  have q := (List.mem_filter.mp h).2
  rw [decide_eq_true_eq] at q
  cases e : as[i]? with
  | none => rw [e] at q; cases q
  | some a => rw [e] at q; exact ⟨a, rfl, Option.some.inj q⟩
theorem leav_lt {as : List Arc} {g i : Nat} (h : i ∈ leav as g) : i < as.length := by
  obtain ⟨a, ha, _⟩ := leav_mem h
  exact (List.getElem?_eq_some_iff.mp ha).1
/-- a list of arcs stands at a -/
def ArcL (H : Hp) (a : Addr) (as : List Arc) : Prop := ∃ us, H a = some (.lst us) ∧ Arcs H us as
theorem ArcL.same {H H' : Hp} {a : Addr} {as : List Arc} (h : ArcL H a as) (s : Same H H') : ArcL H' a as := by
  obtain ⟨us, h1, h2⟩ := h
  exact ⟨us, s _ _ h1, h2.same s⟩
theorem ArcL.ex {ns : List Int} {l p : Addr} {H H' : Hp} {a : Addr} {as : List Arc} (h : ArcL H a as) (st : StAt ns l H p) (s : Ex p H H') (n : a ≠ p) : ArcL H' a as := by
  obtain ⟨us, h1, h2⟩ := h
  exact ⟨us, s _ _ n h1, h2.st st s⟩
def spLeaving : Sp := fun vs H Q _ => ∃ (a : Addr) (as : List Arc) (g : Nat), vs = [.ref a, .int (g : Int)] ∧ ArcL H a as ∧ as.length ≤ 100000 ∧
  ∀ (H' : Hp) (p : Addr), Same H H' → H p = none → H' p = some (.lst (nats (leav as g))) → Q (.ref p) H'
def spMade (C : Addr) : Sp := fun vs H Q _ => ∃ (q a : Addr) (sg : List Nat) (us : List V) (as : List Arc), vs = [.ref q] ∧ H q = some (.tup [.str (SX.S sg), .ref a]) ∧ H a = some (.lst us) ∧ Arcs H us as ∧ OkArcs sg as ∧ Signs sg ∧
  ∀ (H' : Hp) (p : Addr), Same H H' → H p = none → LoomAt C H' p sg us as → Q (.ref p) H'
def spInteger : Sp := fun vs H Q _ => ∃ i : Int, vs = [.int i] ∧ Q (.bl true) H
section
variable {P : Program} {w : World} {K : PySem.W.Frag} {mg : Str → Option Value} {base : Heap}
theorem ok_l_is_integer (T : Tx K mg) : FnOk P w K mg base CX0 1 T.f_l_is_integer T.fd_l_is_integer P_l_is_integer spInteger := by
  refine T.F_l_is_integer.ok sc_l_is_integer (fun vs H Q E h => ?_) (fun cdv A outer s H vs Q E hr h => ?_)
  · obtain ⟨i, rfl, _⟩ := h
    rfl
  · obtain ⟨i, rfl, k⟩ := h
    refine ⟨_, (pss_one (ps_ret (pe_and (pe_callB (call_isiK' (K := K) rfl) rfl T.n_isinstance (by decide +kernel) (pa_cons (pv 0) (pa_cons (pe_bltn (v := V.ty "int") (u := .type "int") rfl T.n_int (by decide +kernel) rfl) pa_nil))) (pe_one (pe_not (pe_callB (call_isiK' (K := K) rfl) rfl T.n_isinstance (by decide +kernel) (pa_cons (pv 0) (pa_cons (pe_bltn (v := V.ty "bool") (u := .type "bool") rfl T.n_bool (by decide +kernel) rfl) pa_nil)))))))), ?_⟩
    refine ⟨_, rfl, _, _, _, _, true, rfl, .ty "int", .base (.int i), kit_ty (by decide +kernel), true, rfl, ?_⟩
    exact ⟨_, rfl, _, _, _, _, false, rfl, .ty "bool", .base (.int i), kit_ty (by decide +kernel), false, rfl, k⟩
theorem ok_l_leaving (T : Tx K mg) : FnOk P w K mg base CX0 1 T.f_l_leaving T.fd_l_leaving P_l_leaving spLeaving := by
  refine T.F_l_leaving.ok sc_l_leaving (fun vs H Q E h => ?_) (fun cdv A outer s H vs Q E hr h => ?_)
  · obtain ⟨a, as, g, rfl, _⟩ := h
    rfl
  · obtain ⟨a, as, g, rfl, ⟨us, ha, harc⟩, hl, k⟩ := h
    refine ⟨_, (pss_one (ps_ret (pe_lc (own := [("_law_at", 2)]) (g := (gName 2)) rfl sc_l_leaving.nd (pi_range1 rfl T.n_range (pa_cons (pe_callB (call_len_seqK (K := K) rfl) rfl T.n_len (by decide +kernel) (pa_cons (pv 0) pa_nil)) pa_nil)) (blkOk_by (N := N_l_leaving) (sc := defScope s_l_leaving) (by decide +kernel)) (fun _ _ _ _ _ => (pg_name (i := 2) sc_l_leaving.nd rfl (Or.inl rfl))) (fun _ _ _ _ _ => (pts_one (pt_cmpR op_eq (pe_ix (ix_tupK (K := K) rfl) (pe_ix (ix_listK (K := K) rfl) (pv 0) (pv 2) (fun _ _ => rfl)) pe_int (fun _ _ => rfl)) (pv 1) (nomark _)))) (fun _ _ _ _ _ => (pv 2))))), ?_⟩
    have hl2 := harc.1
    refine ⟨_, rfl, a, us, rfl, .inl (SqL.of ha), _, rfl, by omega, by omega, fun D hD => lc_range (lo := 0) (n := us.length) (fun i H' => H' D = some (.lst (nats (leavTo as g i))) ∧ Same H H') ⟨upd_same, Same.new _ hD⟩ ?_ ?_⟩
    · rintro i H2 hi ⟨hDl, sm⟩
      obtain ⟨t, hut, htt⟩ := harc.2 i as[i] (List.getElem?_eq_getElem (by omega))
      have e0 : (0 : Int) + (i : Int) = (i : Int) := by omega
      refine ⟨rfl, _, rfl, _, rfl, a, us, _, _, rfl, rfl, SqL.of (sm _ _ ha), by rw [e0]; exact atI_nat hut, t, _, _, _, rfl, rfl, SqT.of (sm _ _ htt), rfl, _, rfl, rfl, _, rfl, ?_⟩
      have hs := leavTo_snoc (g := g) (List.getElem?_eq_getElem (by omega : i < as.length))
      refine ite2 (fun c => ?_) (fun c => ?_)
      · have c1 : as[i].1 = g := by
          have q := of_decide_eq_true c
          injection q with q
          omega
        rw [if_pos c1] at hs
        refine ⟨_, rfl, _, hDl, lt_size (by rw [List.length_map]; exact Nat.le_trans (leavTo_len _ _ _) (by omega)), ?_, sm.updNew hD⟩
        rw [upd_same, hs, e0]
        simp
      · have c1 : ¬ as[i].1 = g := fun z => c (decide_eq_true (by rw [z]))
        rw [if_neg c1, List.append_nil] at hs
        exact ⟨by rw [hs]; exact hDl, sm⟩
    · rintro H2 ⟨hDl, sm⟩
      rw [hl2] at hDl
      exact k _ D sm hD hDl
theorem ok_l_made (T : Tx K mg) : FnOk P w K mg base CX0 6 T.f_l_made T.fd_l_made P_l_made (spMade T.C_Loom) := by
  have G_Loom_init : FnOk P w K mg base CX0 4 T.f_Loom_init T.fd_Loom_init P_Loom_init (spInit T.C_Loom) := ok_Loom_init T
  refine T.F_l_made.ok sc_l_made (fun vs H Q E h => ?_) (fun cdv A outer s H vs Q E hr h => ?_)
  · obtain ⟨q, a, sg, us, as, rfl, _⟩ := h
    rfl
  · obtain ⟨q, a, sg, us, as, rfl, hq, ha, harc, hok, hsg, k⟩ := h
    refine ⟨_, (pss_one (ps_ret (pe_make T.M_Loom G_Loom_init (hr.mono (by decide)) rfl T.g_Loom T.b_Loom_init .nil pass0 (pa_cons (pe_ix (ix_tupK (K := K) rfl) (pv 0) pe_int (fun _ _ => rfl)) (pa_cons (pe_callTy (call_list_ofK (K := K) rfl) rfl T.n_list (by decide +kernel) (pa_cons (pe_ix (ix_tupK (K := K) rfl) (pv 0) pe_int (fun _ _ => rfl)) pa_nil)) pa_nil))))), ?_⟩
    refine ⟨_, rfl, q, _, _, _, rfl, rfl, SqT.of hq, rfl, _, rfl, q, _, _, _, rfl, rfl, SqT.of hq, rfl, a, us, rfl, .inl (SqL.of ha), fun l hl => ?_⟩
    have s1 := Same.new (.lst us) hl
    intro x dx hx hdx hne
    have s2 : Same H (upd (upd (upd H l (.lst us)) dx (.own x)) x (.ins T.C_Loom dx [])) := (s1.trans (Same.new _ hdx)).trans (Same.new _ (by rw [upd_ne hne.symm]; exact hx))
    have hx0 : H x = none := s1.free hx
    have nlx : l ≠ x := (hp_ne upd_same hx).symm
    have nld : l ≠ dx := (hp_ne upd_same hdx).symm
    refine ⟨x, dx, l, sg, us, as, rfl, upd_same, by rw [upd_ne nlx, upd_ne nld]; exact upd_same, harc.same s2, hok, hsg, fun H' Tp x3 hTp hTus hx3 => ⟨rfl, ?_⟩⟩
    have s3 : Same H H' := fun b o e => x3 _ _ (ne_of_none e hx0) (s2 _ _ e)
    exact k _ x s3 hx0 ⟨dx, Tp, hx3, hTus, harc.same s3, hok, hsg⟩
end
end J

set_option Elab.async false
set_option linter.all false
set_option maxRecDepth 100000
set_option maxHeartbeats 4000000
namespace J
open PySem L2
/-- a row of numbers of arcs, of whatever kind -/
def RowIn (as : List Arc) (row : List Nat) : Prop := ∀ i ∈ row, i < as.length
def wordAt (as : List Arc) (i : Nat) : List Nat := match as[i]? with | some a => a.2.1 | none => []
def goalAt (as : List Arc) (i : Nat) : Nat := match as[i]? with | some a => a.2.2 | none => 0
/-- a row's text -/
def rowText (as : List Arc) (row : List Nat) : List Nat := (row.map (wordAt as)).flatten
/-- where a row ends -/
def rowEnd (as : List Arc) (g : Nat) (row : List Nat) : Nat := match row.getLast? with | some i => goalAt as i | none => g
theorem wordAt_eq {as : List Arc} {i : Nat} {a : Arc} (h : as[i]? = some a) : wordAt as i = a.2.1 := by unfold wordAt; rw [h]
theorem goalAt_eq {as : List Arc} {i : Nat} {a : Arc} (h : as[i]? = some a) : goalAt as i = a.2.2 := by unfold goalAt; rw [h]
def OkAll (as : List Arc) : Prop := as.length ≤ 100000 ∧ ∀ a ∈ as, a.1 ≤ 63 ∧ 1 ≤ a.2.1.length ∧ a.2.1.length ≤ 12 ∧ a.2.2 ≤ 63
theorem OkArcs.all {sg : List Nat} {as : List Arc} (h : OkArcs sg as) : OkAll as := ⟨by have := h.2.1; omega, fun a ha => by
  obtain ⟨h1, ⟨h2, h3, _⟩, h4⟩ := h.2.2.1 a ha
  exact ⟨h1, h2, h3, h4⟩⟩
theorem goalAt_le {as : List Arc} (h : OkAll as) (i : Nat) : goalAt as i ≤ 63 := by
  unfold goalAt
  cases e : as[i]? with
  | none => simp
  | some a => exact (h.2 a (List.mem_of_getElem? e)).2.2.2
theorem wordAt_len {as : List Arc} (h : OkAll as) (i : Nat) : (wordAt as i).length ≤ 12 := by
  unfold wordAt
  cases e : as[i]? with
  | none => simp
  | some a => exact (h.2 a (List.mem_of_getElem? e)).2.2.1
theorem rowText_len {as : List Arc} (h : OkAll as) (row : List Nat) : (rowText as row).length ≤ 12 * row.length := by
  unfold rowText
  induction row with
  | nil => simp
  | cons i r ih =>
    have := wordAt_len h i
    simp only [List.map_cons, List.flatten_cons, List.length_append, List.length_cons] at *
    omega
theorem rowText_in {sg : List Nat} {as : List Arc} (h : OkArcs sg as) (row : List Nat) : ∀ c ∈ rowText as row, c ∈ sg := by
  intro c hc
  unfold rowText at hc
  obtain ⟨l, hl, hcl⟩ := List.mem_flatten.mp hc
  obtain ⟨i, hi, rfl⟩ := List.mem_map.mp hl
  unfold wordAt at hcl
  cases e : as[i]? with
  | none => rw [e] at hcl; cases hcl
  | some a =>
    rw [e] at hcl
    exact (h.2.2.1 a (List.mem_of_getElem? e)).2.1.2.2 c hcl
def spJoined : Sp := fun vs H Q _ => ∃ (a r : Addr) (as : List Arc) (row : List Nat), vs = [.ref a, .ref r] ∧ ArcL H a as ∧ OkAll as ∧ H r = some (.lst (nats row)) ∧ RowIn as row ∧ row.length ≤ 10000 ∧
  ∀ H' : Hp, Same H H' → Q (.str (SX.S (rowText as row))) H'
def spEnd : Sp := fun vs H Q _ => ∃ (a r : Addr) (as : List Arc) (g : Nat) (row : List Nat), vs = [.ref a, .int (g : Int), .ref r] ∧ ArcL H a as ∧ H r = some (.lst (nats row)) ∧ RowIn as row ∧
  Q (.int (rowEnd as g row : Nat)) H
def spWalk (ns : List Int) : Sp := fun vs H Q _ => ∃ (p l a : Addr) (as : List Arc) (g : Nat) (m : Int), vs = [.ref p, .ref a, .int (g : Int), .int m] ∧ StAt ns l H p ∧ a ≠ p ∧ ArcL H a as ∧ OkAll as ∧ 0 ≤ m ∧ m ≤ 10000 ∧
  ∀ (H' : Hp) (r : Addr) (row : List Nat), Ex p H H' → StAt ns l H' p → H r = none → r ≠ p → H' r = some (.lst (nats row)) → RowIn as row → row.length ≤ m.toNat → Q (.ref r) H'
theorem eqv_nil (ns : List Int) : (!PyData.eqv (.list (ns.map PyData.int)) (.list [])) = decide (ns ≠ []) := by
  cases ns with
  | nil => rfl
  | cons a r => rfl
theorem dp_ints {K : PySem.W.Frag} {H : Hp} : ∀ ns : List Int, DpAll K H (ns.map V.int) (ns.map PyData.int)
  | [] => .nil
  | n :: r => .cons (.int n) (dp_ints r)
theorem nats_map (l : List Nat) : nats l = (l.map fun n : Nat => (n : Int)).map V.int := by simp [nats, List.map_map, Function.comp_def]
section
variable {P : Program} {w : World} {K : PySem.W.Frag} {mg : Str → Option Value} {base : Heap}
theorem ok_l_joined (T : Tx K mg) : FnOk P w K mg base CX0 1 T.f_l_joined T.fd_l_joined P_l_joined spJoined := by
  refine T.F_l_joined.ok sc_l_joined (fun vs H Q E h => ?_) (fun cdv A outer s H vs Q E hr h => ?_)
  · obtain ⟨a, r, as, row, rfl, _⟩ := h
    rfl
  · obtain ⟨a, r, as, row, rfl, ⟨us, ha, harc⟩, hok, hrow, hin, hl, k⟩ := h
    refine ⟨_, (pss_one (ps_ret (pe_join pe_str (pe_lc (own := [("_law_at", 2)]) (g := (gName 2)) rfl sc_l_joined.nd (pi_list (pv 1)) (blkOk_by (N := N_l_joined) (sc := defScope s_l_joined) (by decide +kernel)) (fun _ _ _ _ _ => (pg_name (i := 2) sc_l_joined.nd rfl (Or.inl rfl))) (fun _ _ _ _ _ => pts_nil) (fun _ _ _ _ _ => (pe_ix (ix_tupK (K := K) rfl) (pe_ix (ix_listK (K := K) rfl) (pv 0) (pv 2) (fun _ _ => rfl)) pe_int (fun _ _ => rfl))))))), ?_⟩
    refine ⟨⟨_, rfl⟩, _, rfl, r, rfl, ⟨_, SqL.of hrow⟩, fun D hD => lc_list (K := K) (a := r) (xs := nats row) (fun i H' => H' D = some (.lst (((row.take i).map fun j => SX.S (wordAt as j)).map V.str)) ∧ Same H H') ⟨upd_same, Same.new _ hD⟩ (fun i H' _ ⟨_, sm⟩ => SqL.of (sm _ _ hrow)) ?_ ?_⟩
    · rintro i y H2 hy ⟨hDl, sm⟩
      rw [List.getElem?_map] at hy
      cases ej : row[i]? with
      | none => rw [ej] at hy; cases hy
      | some j =>
        rw [ej] at hy
        cases hy
        have hj : j < as.length := hin j (List.mem_of_getElem? ej)
        obtain ⟨t, hut, htt⟩ := harc.2 j as[j] (List.getElem?_eq_getElem hj)
        have hi : i < row.length := (List.getElem?_eq_some_iff.mp ej).1
        refine ⟨rfl, _, rfl, _, rfl, a, us, _, _, rfl, rfl, SqL.of (sm _ _ ha), atI_nat hut, t, _, _, _, rfl, rfl, SqT.of (sm _ _ htt), rfl, _, hDl, lt_size (by simp; omega), ?_, sm.updNew hD⟩
        rw [upd_same, ← take_snoc ej, ← wordAt_eq (List.getElem?_eq_getElem hj)]
        simp
    · rintro H2 ⟨hDl, sm⟩
      rw [show (nats row).length = row.length by simp [nats], List.take_length] at hDl
      refine ⟨_, _, row.map fun j => SX.S (wordAt as j), rfl, rfl, .inl (SqL.of hDl), ?_, ?_⟩
      · have := rowText_len hok row
        have e : ((row.map fun j => SX.S (wordAt as j)).map (·.length)).sum = (rowText as row).length := by
          unfold rowText
          rw [List.length_flatten, List.map_map, List.map_map]
          congr 1
        rw [e, emptyS, SX.S_len]
        simp
        omega
      · have e : (row.map fun j => SX.S (wordAt as j)) = (row.map (wordAt as)).map SX.S := by rw [List.map_map]; rfl
        rw [e, emptyS, join_flat]
        exact k _ sm
theorem ok_l_end (T : Tx K mg) : FnOk P w K mg base CX0 1 T.f_l_end T.fd_l_end P_l_end spEnd := by
  refine T.F_l_end.ok sc_l_end (fun vs H Q E h => ?_) (fun cdv A outer s H vs Q E hr h => ?_)
  · obtain ⟨a, r, as, g, row, rfl, _⟩ := h
    rfl
  · obtain ⟨a, r, as, g, row, rfl, ⟨us, ha, harc⟩, hrow, hin, k⟩ := h
    refine ⟨_, (pss_one (ps_ret (pe_ifExp (pt_cmpR op_gt (pe_callB (call_len_seqK (K := K) rfl) rfl T.n_len (by decide +kernel) (pa_cons (pv 2) pa_nil)) pe_int (nomark _)) (pe_ix (ix_tupK (K := K) rfl) (pe_ix (ix_listK (K := K) rfl) (pv 0) (pe_ix (ix_listK (K := K) rfl) (pv 2) (pe_un un_neg pe_int) (fun _ _ => rfl)) (fun _ _ => rfl)) pe_int (fun _ _ => rfl)) (pv 1)))), ?_⟩
    refine ⟨_, rfl, r, _, rfl, .inl (SqL.of hrow), _, _, rfl, rfl, _, rfl, ?_⟩
    refine ite2 (fun c => ?_) (fun c => ?_)
    · have c1 := of_decide_eq_true c
      have hne : row ≠ [] := fun z => by rw [z] at c1; simp [nats] at c1
      obtain ⟨r0, j, rfl⟩ : ∃ r0 j, row = r0 ++ [j] := ⟨row.dropLast, row.getLast hne, (List.dropLast_concat_getLast hne).symm⟩
      have hj : j < as.length := hin j (by simp)
      obtain ⟨t, hut, htt⟩ := harc.2 j as[j] (List.getElem?_eq_getElem hj)
      refine ⟨_, rfl, _, rfl, _, rfl, r, _, _, _, rfl, rfl, SqL.of hrow, by rw [show nats (r0 ++ [j]) = nats r0 ++ [V.int (j : Int)] by simp [nats]]; exact atI_last _ _, a, us, _, _, rfl, rfl, SqL.of ha, atI_nat hut, t, _, _, _, rfl, rfl, SqT.of htt, rfl, ?_⟩
      have e : rowEnd as g (r0 ++ [j]) = as[j].2.2 := by
        unfold rowEnd
        rw [List.getLast?_concat]
        exact goalAt_eq (List.getElem?_eq_getElem hj)
      rw [e] at k
      exact k
    · have e : row = [] := by
        cases row with
        | nil => rfl
        | cons i r => exact absurd (decide_eq_true (by simp [nats])) c
      subst e
      exact ⟨_, rfl, k⟩
theorem ok_l_walk (T : Tx K mg) (ns : List Int) : FnOk P w K mg base CX0 2 T.f_l_walk T.fd_l_walk P_l_walk (spWalk ns) := by
  have G_l_draw : FnOk P w K mg base CX0 1 T.f_l_draw T.fd_l_draw P_l_draw (spDraw ns) := ok_l_draw T ns
  have G_l_leaving : FnOk P w K mg base CX0 1 T.f_l_leaving T.fd_l_leaving P_l_leaving spLeaving := ok_l_leaving T
  have G_l_end : FnOk P w K mg base CX0 1 T.f_l_end T.fd_l_end P_l_end spEnd := ok_l_end T
  refine T.F_l_walk.ok sc_l_walk (fun vs H Q E h => ?_) (fun cdv A outer s H vs Q E hr h => ?_)
  · obtain ⟨p, l, a, as, g, m, rfl, _⟩ := h
    rfl
  · obtain ⟨p, l, a, as, g, m, rfl, hst, nap, harc, hok, hm0, hm1, k⟩ := h
    refine ⟨_, (pss_cons (ps_set (i := 4) sc_l_walk.nd rfl (Or.inl rfl) (pe_lst pa_nil))
        (pss_cons (ps_for PassesOwn.never rfl (pi_range1 rfl T.n_range (pa_cons (pv 3) pa_nil)) (pg_name (i := 5) sc_l_walk.nd rfl (Or.inl rfl)) (pss_cons (ps_set (i := 6) sc_l_walk.nd rfl (Or.inl rfl) (pe_call G_l_leaving (hr.mono (by decide)) rfl T.m_l_leaving T.F_l_leaving.kp T.b_l_leaving .nil pass0 (pa_cons (pv 1) (pa_cons (pe_call G_l_end (hr.mono (by decide)) rfl T.m_l_end T.F_l_end.kp T.b_l_end .nil pass0 (pa_cons (pv 1) (pa_cons (pv 2) (pa_cons (pv 4) pa_nil)))) pa_nil))))
        (pss_one (ps_if (pt_cmpR (op_neD hr.units) (pv 6) (pe_lst pa_nil) (nomark _)) (pss_one (ps_expr (pe_bm PySem.F.plainAttrs_list PySem.F.slot_list_append PySem.F.type_list_append mt_append (pv 4) (pa_cons (pe_ix (ix_listK (K := K) rfl) (pv 6) (pe_call G_l_draw (hr.mono (by decide)) rfl T.m_l_draw T.F_l_draw.kp T.b_l_draw .nil pass0 (pa_cons (pv 0) (pa_cons (pe_callB (call_len_seqK (K := K) rfl) rfl T.n_len (by decide +kernel) (pa_cons (pv 6) pa_nil)) pa_nil))) (fun _ _ => rfl)) pa_nil)))) pss_nil))))
        (pss_one (ps_ret (pv 4))))), ?_⟩
    refine ⟨Nat.zero_le _, fun r hr0 => ?_⟩
    have nr := hst.ne hr0
    have sr := Same.new (.lst []) hr0
    have hra : r ≠ a := by
      obtain ⟨us, h1, _⟩ := harc
      exact hp_ne h1 hr0
    refine ⟨_, rfl, _, rfl, by omega, by omega, for_range (lo := 0) (n := m.toNat) (fun i σ H' => ∃ (row : List Nat) (v5 v6 : Option V), σ = [some (.ref p), some (.ref a), some (.int (g : Int)), some (.int m), some (.ref r), v5, v6] ∧ row.length ≤ i ∧ RowIn as row ∧ H' r = some (.lst (nats row)) ∧ Ex p H H' ∧ StAt ns l H' p) ?_ ?_ ?_⟩
    · exact ⟨[], none, none, rfl, Nat.le_refl _, fun _ h => (nomatch h), upd_same, Same.ex sr, hst.same sr⟩
    · rintro i σ H1 hi ⟨row, v5, v6, rfl, hl, hin, hrow, x1, st1⟩
      have arc1 : ArcL H1 a as := harc.ex hst x1 nap
      refine ⟨_, rfl, _, rfl, _, rfl, _, rfl, a, r, as, g, row, rfl, arc1, hrow, hin, ?_⟩
      refine ⟨a, as, _, rfl, arc1, hok.1, fun H2 gl s2 hgl hgls => ?_⟩
      have st2 := st1.same s2
      have ngl := st1.ne hgl
      have hrow2 := s2 _ _ hrow
      refine ⟨_, rfl, Nat.zero_le _, fun e he => ?_⟩
      have s3 := Same.new (.lst []) he
      refine ⟨_, _, .lst (SqL.of (s3 _ _ hgls)) (by rw [nats_map]; exact dp_ints _), .lst (SqL.of upd_same) .nil, PySem.W.ke_shaped_ints _, PySem.W.ke_shaped_ints [], _, rfl, ?_⟩
      rw [eqv_nil]
      have st3 := st2.same s3
      have x3 : Ex p H _ := x1.trans ((Same.ex s2).trans (Same.ex s3))
      refine ite2 (fun c => ?_) (fun c => ?_)
      · have c1 := of_decide_eq_true c
        have hgl0 : 0 < (leav as (rowEnd as g row)).length := by
          cases e : leav as (rowEnd as g row) with
          | nil => rw [e] at c1; exact absurd rfl c1
          | cons x y => simp
        have hgl1 : (leav as (rowEnd as g row)).length ≤ 100000 := Nat.le_trans (leavTo_len _ _ _) hok.1
        refine ⟨_, rfl, .inl ⟨rfl, _, SqL.of (s3 _ _ hrow2)⟩, _, rfl, _, rfl, _, rfl, gl, _, rfl, .inl (SqL.of (s3 _ _ hgls)), p, l, _, rfl, st3, by rw [List.length_map]; omega, by rw [List.length_map]; omega, fun H4 r4 x4 st4 r40 r41 => ?_⟩
        rw [List.length_map] at r41
        obtain ⟨j, rfl⟩ := Int.eq_ofNat_of_zero_le r40
        have hj : j < (leav as (rowEnd as g row)).length := by exact_mod_cast r41
        refine ⟨gl, _, _, _, rfl, rfl, SqL.of (x4 _ _ ngl.1 (s3 _ _ hgls)), atI_nat (by rw [List.getElem?_map, List.getElem?_eq_getElem hj]; rfl), r, _, _, rfl, rfl, x4 _ _ nr.1 (s3 _ _ hrow2), lt_size (by rw [List.length_map]; omega), ?_⟩
        refine ⟨row ++ [(leav as (rowEnd as g row))[j]], _, _, rfl, by simp; omega, ?_, by rw [upd_same]; simp [nats], (x3.trans x4).updNew hr0, st4.upd nr⟩
        intro i hi
        rcases List.mem_append.mp hi with h | h
        · exact hin i h
        · rw [List.mem_singleton.mp h]
          exact leav_lt (List.getElem_mem hj)
      · exact ⟨row, _, _, rfl, by omega, hin, s3 _ _ hrow2, x3, st3⟩
    · rintro σ H1 ⟨row, v5, v6, rfl, hl, hin, hrow, x1, st1⟩
      exact ⟨_, rfl, k _ r row x1 st1 hr0 nr.1 hrow hin hl⟩
end
end J

set_option Elab.async false
set_option linter.all false
set_option maxRecDepth 100000
set_option maxHeartbeats 4000000
namespace J
open PySem L2
/-- the states that can be come to from 0 -/
inductive Reach (as : List Arc) : Nat → Prop
  | zero : Reach as 0
  | step {a : Arc} : a ∈ as → Reach as a.1 → Reach as a.2.2
theorem Reach.le {as : List Arc} (h : OkAll as) {x : Nat} (r : Reach as x) : x ≤ 63 := by
  cases r with
  | zero => decide
  | step ha _ => exact (h.2 _ ha).2.2.2
theorem nodup_le : ∀ (n : Nat) (l : List Nat), l.Nodup → (∀ x ∈ l, x < n) → l.length ≤ n
  | 0, l, _, h => by
    cases l with
    | nil => simp
    | cons a r => exact absurd (h a (by simp)) (Nat.not_lt_zero _)
  | n + 1, l, hn, h => by
    have h1 : (l.erase n).length ≤ n := nodup_le n (l.erase n) (hn.erase n) fun x hx => by
      have q := h x (List.mem_of_mem_erase hx)
      have : x ≠ n := fun z => by
        subst z
        exact (List.Nodup.not_mem_erase hn) hx
      omega
    have h2 : l.length ≤ (l.erase n).length + 1 := by
      by_cases c : n ∈ l
      · rw [List.length_erase_of_mem c]; omega
      · rw [List.erase_of_not_mem c]; omega
    omega
theorem flat_nats (l : List Nat) : (nats l).all flatV = true := by simp [nats, flatV]
theorem inV_nats (x : Nat) (l : List Nat) : inV (V.int (x : Int)) (nats l) = decide (x ∈ l) := by
  unfold inV nats
  rw [List.any_map]
  induction l with
  | nil => rfl
  | cons a r ih =>
    rw [List.any_cons, ih]
    by_cases c : x = a
    · subst c; simp [eqV]
    · have c2 : ¬ a = x := fun z => c z.symm
      simp [eqV, c]
      omega
/-- what stands while met goes -/
structure Going (as : List Arc) (fs : List Nat) (turn : Nat) : Prop where
  nd : fs.Nodup
  zero : 0 ∈ fs
  reach : ∀ x ∈ fs, Reach as x
  le : turn ≤ fs.length
  done : ∀ j g, j < turn → fs[j]? = some g → ∀ a ∈ as, a.1 = g → a.2.2 ∈ fs
theorem Going.all {as : List Arc} {fs : List Nat} (h : Going as fs fs.length) (x : Nat) : x ∈ fs ↔ Reach as x := by
  refine ⟨h.reach x, fun r => ?_⟩
  induction r with
  | zero => exact h.zero
  | step ha _ ih =>
    obtain ⟨j, hj, e⟩ := List.mem_iff_getElem.mp ih
    exact h.done j _ hj (by rw [List.getElem?_eq_getElem hj, e]) _ ha rfl
def spMet : Sp := fun vs H Q _ => ∃ (a : Addr) (as : List Arc), vs = [.ref a] ∧ ArcL H a as ∧ OkAll as ∧
  ∀ (H' : Hp) (p : Addr) (ms : List Nat), Same H H' → H p = none → H' p = some (.lst (nats ms)) → ms.Pairwise (· < ·) → (∀ x, x ∈ ms ↔ Reach as x) → Q (.ref p) H'
theorem sorted_nats {fs : List Nat} {ns : List Int} (h : ns.Perm (fs.map fun n : Nat => (n : Int))) (hs : ns.Pairwise (· ≤ ·)) (hn : fs.Nodup) : ∃ ms : List Nat, ns.map V.int = nats ms ∧ ms.Pairwise (· < ·) ∧ ∀ x, x ∈ ms ↔ x ∈ fs := by
  have e : ns = (ns.map Int.toNat).map fun n : Nat => (n : Int) := by
    rw [List.map_map]
    conv => lhs; rw [← List.map_id ns]
    refine List.map_congr_left fun i hi => ?_
    obtain ⟨n, _, rfl⟩ := List.mem_map.mp (h.mem_iff.mp hi)
    rfl
  have hp : (ns.map Int.toNat).Perm fs := by
    have q := h.map Int.toNat
    rw [List.map_map] at q
    have z : fs.map (Int.toNat ∘ fun n : Nat => (n : Int)) = fs := by
      conv => rhs; rw [← List.map_id fs]
      exact List.map_congr_left fun n _ => by simp
    rwa [z] at q
  refine ⟨ns.map Int.toNat, by rw [nats_map, ← e], ?_, fun x => hp.mem_iff⟩
  have nd := hp.nodup_iff.mpr hn
  have hs2 : (ns.map Int.toNat).Pairwise (· ≤ ·) := by
    rw [List.pairwise_map]
    exact hs.imp fun h => by omega
  exact (hs2.and nd).imp fun ⟨h1, h2⟩ => by omega
section
variable {P : Program} {w : World} {K : PySem.W.Frag} {mg : Str → Option Value} {base : Heap}
theorem ok_l_met (T : Tx K mg) : FnOk P w K mg base CX0 2 T.f_l_met T.fd_l_met P_l_met spMet := by
  have G_l_leaving : FnOk P w K mg base CX0 1 T.f_l_leaving T.fd_l_leaving P_l_leaving spLeaving := ok_l_leaving T
  refine T.F_l_met.ok sc_l_met (fun vs H Q E h => ?_) (fun cdv A outer s H vs Q E hr h => ?_)
  · obtain ⟨a, as, rfl, _⟩ := h
    rfl
  · obtain ⟨a, as, rfl, harc, hok, k⟩ := h
    refine ⟨_, (pss_cons (ps_set (i := 1) sc_l_met.nd rfl (Or.inl rfl) (pe_lst (pa_cons pe_int pa_nil)))
        (pss_cons (ps_set (i := 2) sc_l_met.nd rfl (Or.inl rfl) pe_int)
        (pss_cons (ps_while PassesOwn.never (pt_cmpR op_lt (pv 2) (pe_callB (call_len_seqK (K := K) rfl) rfl T.n_len (by decide +kernel) (pa_cons (pv 1) pa_nil)) (nomark _)) (pss_cons (ps_set (i := 3) sc_l_met.nd rfl (Or.inl rfl) (pe_ix (ix_listK (K := K) rfl) (pv 1) (pv 2) (fun _ _ => rfl)))
        (pss_cons (ps_set (i := 2) sc_l_met.nd rfl (Or.inl rfl) (pe_op op_add (pv 2) pe_int))
        (pss_one (ps_for PassesOwn.never rfl (pi_list (pe_call G_l_leaving (hr.mono (by decide)) rfl T.m_l_leaving T.F_l_leaving.kp T.b_l_leaving .nil pass0 (pa_cons (pv 0) (pa_cons (pv 3) pa_nil)))) (pg_name (i := 4) sc_l_met.nd rfl (Or.inl rfl)) (pss_one (ps_if (pt_cmpR op_notIn_seq (pe_ix (ix_tupK (K := K) rfl) (pe_ix (ix_listK (K := K) rfl) (pv 0) (pv 4) (fun _ _ => rfl)) pe_int (fun _ _ => rfl)) (pv 1) rfl) (pss_one (ps_expr (pe_bm PySem.F.plainAttrs_list PySem.F.slot_list_append PySem.F.type_list_append mt_append (pv 1) (pa_cons (pe_ix (ix_tupK (K := K) rfl) (pe_ix (ix_listK (K := K) rfl) (pv 0) (pv 4) (fun _ _ => rfl)) pe_int (fun _ _ => rfl)) pa_nil)))) pss_nil)))))))
        (pss_one (ps_ret (pe_callB cr_sortedI rfl T.n_sorted (by decide +kernel) (pa_cons (pv 1) pa_nil))))))), ?_⟩
    refine ⟨le_size (by decide), fun F hF => ?_⟩
    have sF := Same.new (.lst [V.int 0]) hF
    have nFa : F ≠ a := by
      obtain ⟨us, h1, _⟩ := harc
      exact hp_ne h1 hF
    refine while_by (fun σ H' => ∃ (fs : List Nat) (turn : Nat) (v3 v4 : Option V), σ = [some (.ref a), some (.ref F), some (.int (turn : Int)), v3, v4] ∧ H' F = some (.lst (nats fs)) ∧ Same H H' ∧ Going as fs turn)
      (fun σ H' => match σ with | [_, _, some (.int t), _, _] => 64 - t.toNat | _ => 0) ?_ ?_ ?_
    · exact ⟨[0], 0, none, none, rfl, upd_same, sF, by simp, by simp, fun x hx => by rw [List.mem_singleton.mp hx]; exact .zero, by simp, fun j g hj => absurd hj (Nat.not_lt_zero _)⟩
    · rintro σ H1 ⟨fs, turn, v3, v4, rfl, hfs, sm, G⟩
      have arc1 := harc.same sm
      have hlen : fs.length ≤ 64 := nodup_le 64 fs G.nd fun x hx => by have := (G.reach x hx).le hok; omega
      refine ⟨_, rfl, _, rfl, F, _, rfl, .inl (SqL.of hfs), _, _, rfl, rfl, _, rfl, ?_⟩
      refine ite2 (fun c => ?_) (fun c => ?_)
      · have c1 : turn < fs.length := by
          have q := of_decide_eq_true c
          simp [nats] at q
          exact q
        refine ⟨_, rfl, _, rfl, F, _, _, _, rfl, rfl, SqL.of hfs, atI_nat (by rw [List.getElem?_map, List.getElem?_eq_getElem c1]; rfl), ?_⟩
        refine ⟨_, rfl, _, _, rfl, rfl, ?_⟩
        refine ⟨_, rfl, _, rfl, a, as, fs[turn], rfl, arc1, hok.1, fun H2 L s2 hL hLs => ?_⟩
        have nLF : L ≠ F := hp_ne hfs hL
        have hL0 : H L = none := sm.free hL
        have ett : ((turn : Nat) : Int) + 1 = ((turn + 1 : Nat) : Int) := by omega
        refine ⟨L, rfl, ⟨_, SqL.of hLs⟩, for_list (K := K) (a := L) (xs := nats (leav as fs[turn])) (fun i σ H' => ∃ (gs : List Nat) (v4 : Option V), σ = [some (.ref a), some (.ref F), some (.int ((turn + 1 : Nat) : Int)), some (.int (fs[turn] : Int)), v4] ∧ H' F = some (.lst (nats gs)) ∧ H' L = some (.lst (nats (leav as fs[turn]))) ∧ Same H H' ∧
          gs.Nodup ∧ (∃ suf, gs = fs ++ suf) ∧ (∀ x ∈ gs, Reach as x) ∧ ∀ j n, j < i → (leav as fs[turn])[j]? = some n → goalAt as n ∈ gs) ?_ ?_ ?_ ?_⟩
        · exact ⟨fs, v4, by rw [← ett]; rfl, s2 _ _ hfs, hLs, sm.trans s2, G.nd, ⟨[], by simp⟩, G.reach, fun j n hj => absurd hj (Nat.not_lt_zero _)⟩
        · rintro i σ H3 _ ⟨gs, v4, rfl, hgs, hL3, s3, _⟩
          exact SqL.of hL3
        · rintro i y σ H3 hy ⟨gs, v4, rfl, hgs, hL3, s3, nd, ⟨suf, hsuf⟩, hreach, hdone⟩
          rw [List.getElem?_map] at hy
          cases en : (leav as fs[turn])[i]? with
          | none => rw [en] at hy; cases hy
          | some n =>
            rw [en] at hy
            cases hy
            obtain ⟨b, hb, hbg⟩ := leav_mem (List.mem_of_getElem? en)
            have hn : n < as.length := (List.getElem?_eq_some_iff.mp hb).1
            obtain ⟨us, ha, hus⟩ := harc
            obtain ⟨t, hut, htt⟩ := hus.2 n b hb
            have hg := goalAt_eq hb
            have hrb : Reach as b.2.2 := .step (List.mem_of_getElem? hb) (by rw [hbg]; exact G.reach _ (List.getElem_mem c1))
            have hlen2 : gs.length ≤ 64 := nodup_le 64 gs nd fun x hx => by have := (hreach x hx).le hok; omega
            refine ⟨_, rfl, _, rfl, a, us, _, _, rfl, rfl, SqL.of (s3 _ _ ha), atI_nat hut, t, _, _, _, rfl, rfl, SqT.of (s3 _ _ htt), rfl, _, rfl, F, _, rfl, .inl (SqL.of hgs), rfl, flat_nats _, _, rfl, ?_⟩
            rw [if_pos rfl, inV_nats]
            refine ite2 (fun c => ?_) (fun c => ?_)
            · have cn : b.2.2 ∉ gs := by simpa using c
              refine ⟨_, rfl, .inl ⟨rfl, _, SqL.of hgs⟩, _, rfl, _, rfl, a, us, _, _, rfl, rfl, SqL.of (s3 _ _ ha), atI_nat hut, t, _, _, _, rfl, rfl, SqT.of (s3 _ _ htt), rfl, F, _, _, rfl, rfl, hgs, lt_size (by rw [List.length_map]; omega), ?_⟩
              refine ⟨gs ++ [b.2.2], _, rfl, by rw [upd_same]; simp [nats], by rw [upd_ne nLF]; exact hL3, s3.updNew hF, ?_, ⟨suf ++ [b.2.2], by rw [hsuf]; simp⟩, ?_, ?_⟩
              · rw [List.nodup_append]
                exact ⟨nd, by simp, fun x hx y hy => by rw [List.mem_singleton.mp hy]; exact fun z => cn (z ▸ hx)⟩
              · intro x hx
                rcases List.mem_append.mp hx with h | h
                · exact hreach x h
                · rw [List.mem_singleton.mp h]; exact hrb
              · intro j m hj hm
                by_cases cj : j < i
                · exact List.mem_append_left _ (hdone j m cj hm)
                · have : j = i := by omega
                  subst this
                  rw [en] at hm
                  cases hm
                  rw [hg]
                  simp
            · have cn : b.2.2 ∈ gs := by simpa using c
              refine ⟨gs, _, rfl, hgs, hL3, s3, nd, ⟨suf, hsuf⟩, hreach, fun j m hj hm => ?_⟩
              by_cases cj : j < i
              · exact hdone j m cj hm
              · have : j = i := by omega
                subst this
                rw [en] at hm
                cases hm
                rw [hg]
                exact cn
        · rintro σ H3 ⟨gs, v4, rfl, hgs, hL3, s3, nd, ⟨suf, hsuf⟩, hreach, hdone⟩
          refine ⟨⟨gs, turn + 1, _, v4, rfl, hgs, s3, nd, by rw [hsuf]; exact List.mem_append_left _ G.zero, hreach, by rw [hsuf, List.length_append]; omega, fun j g hj hg b hb hbg => ?_⟩, ?_⟩
          · by_cases cj : j < turn
            · rw [hsuf] at hg
              rw [List.getElem?_append_left (by omega)] at hg
              rw [hsuf]
              exact List.mem_append_left _ (G.done j g cj hg b hb hbg)
            · have : j = turn := by omega
              subst this
              rw [hsuf, List.getElem?_append_left c1, List.getElem?_eq_getElem c1] at hg
              cases hg
              obtain ⟨n, hn, e⟩ := List.mem_iff_getElem.mp hb
              have hnb : as[n]? = some b := by rw [List.getElem?_eq_getElem hn, e]
              have hmem : n ∈ leav as fs[j] := by
                unfold leav leavTo
                exact List.mem_filter.mpr ⟨List.mem_range.mpr hn, by rw [hnb]; simp [hbg]⟩
              obtain ⟨q, hq, eq⟩ := List.mem_iff_getElem.mp hmem
              have := hdone q n (by simpa [nats] using hq) (by rw [List.getElem?_eq_getElem hq, eq])
              rwa [goalAt_eq hnb] at this
          · show 64 - (((turn + 1 : Nat) : Int)).toNat < 64 - ((turn : Nat) : Int).toNat
            omega
      · have c1 : turn = fs.length := by
          have q : ¬ ((turn : Int) < ((nats fs).length : Nat)) := fun z => c (decide_eq_true z)
          simp [nats] at q
          have := G.le
          omega
        subst c1
        refine ⟨_, rfl, F, fs.map fun n : Nat => (n : Int), rfl, by rw [← nats_map]; exact SqL.of hfs, fun ns' p hperm hpw hp => ?_⟩
        obtain ⟨ms, e, hlt, hmem⟩ := sorted_nats hperm hpw G.nd
        exact k _ p ms (sm.trans (Same.new _ hp)) (sm.free hp) (by rw [upd_same, e]) hlt fun x => (hmem x).trans (G.all x)
    · rintro σ H1 Q1 Q2 hq h
      obtain ⟨v, e1, w1, e2, p1, ys, e3, e4, i, j, e5, e6, b, e7, h⟩ := h
      exact ⟨v, e1, w1, e2, p1, ys, e3, e4, i, j, e5, e6, b, e7, hq _ _ h⟩
end
end J

set_option Elab.async false
set_option linter.all false
set_option maxRecDepth 100000
set_option maxHeartbeats 4000000
namespace J
open PySem L2
/-! ### dicts of ints by states -/
abbrev KV := List (Nat × Int)
def get (e : KV) (g : Nat) : Option Int := (e.find? fun p => decide (p.1 = g)).map (·.2)
def put (e : KV) (g : Nat) (v : Int) : KV := if (e.any fun p => decide (p.1 = g)) = true then e.map (fun p => if p.1 = g then (p.1, v) else p) else e ++ [(g, v)]
def val (e : KV) (g : Nat) : Int := (get e g).getD 0
def enc (e : KV) : List (Key × V) := e.map fun p => (Sum.inl (p.1 : Int), V.int p.2)
theorem inl_eq (a b : Nat) : ((Sum.inl (a : Int) : Key) = Sum.inl (b : Int)) ↔ a = b := by
  constructor
  · intro h; injection h with h; omega
  · intro h; rw [h]
theorem valV_enc (e : KV) (g : Nat) : valV (enc e) (Sum.inl (g : Int)) = (get e g).map V.int := by
  unfold valV get enc
  induction e with
  | nil => rfl
  | cons p r ih =>
    rw [List.map_cons, List.find?_cons, List.find?_cons]
    by_cases c : p.1 = g
    · rw [decide_eq_true ((inl_eq p.1 g).mpr c), decide_eq_true c]
      rfl
    · rw [decide_eq_false (fun h => c ((inl_eq p.1 g).mp h)), decide_eq_false c]
      exact ih
theorem putK_enc (e : KV) (g : Nat) (v : Int) : putK (enc e) (Sum.inl (g : Int)) (V.int v) = enc (put e g v) := by
  unfold putK put enc
  have e1 : ((e.map fun p : Nat × Int => ((Sum.inl (p.1 : Int) : Key), V.int p.2)).any fun kv => decide (kv.1 = Sum.inl (g : Int))) = e.any fun p => decide (p.1 = g) := by
    rw [List.any_map]
    congr 1
    funext p
    exact decide_eq_decide.mpr (inl_eq p.1 g)
  rw [e1]
  by_cases c : (e.any fun p => decide (p.1 = g)) = true
  · rw [if_pos c, if_pos c, List.map_map, List.map_map]
    refine List.map_congr_left fun p _ => ?_
    by_cases d : p.1 = g
    · simp [d]
    · have d2 : ¬ ((p.1 : Int) = (g : Int)) := by omega
      simp [d, d2]
  · rw [if_neg c, if_neg c]
    simp
theorem get_none {e : KV} {g : Nat} (h : ∀ p ∈ e, p.1 ≠ g) : get e g = none := by
  unfold get
  rw [List.find?_eq_none.mpr fun p hp => by simpa using h p hp]
  rfl
theorem val_none {e : KV} {g : Nat} (h : ∀ p ∈ e, p.1 ≠ g) : val e g = 0 := by unfold val; rw [get_none h]; rfl
theorem get_mem {e : KV} {g : Nat} (h : (e.any fun p => decide (p.1 = g)) = true) : ∃ v, get e g = some v := by
  unfold get
  obtain ⟨p, hp, hg⟩ := List.any_eq_true.mp h
  cases q : e.find? fun p => decide (p.1 = g) with
  | none => exact absurd hg (List.find?_eq_none.mp q p hp)
  | some v => exact ⟨v.2, rfl⟩
theorem get_cons (p : Nat × Int) (r : KV) (h : Nat) : get (p :: r) h = if p.1 = h then some p.2 else get r h := by
  unfold get
  rw [List.find?_cons]
  by_cases c : p.1 = h
  · rw [decide_eq_true c, if_pos c]; rfl
  · rw [decide_eq_false c, if_neg c]
theorem get_append (a b : KV) (h : Nat) : get (a ++ b) h = (get a h).or (get b h) := by
  induction a with
  | nil => simp [get]
  | cons p r ih =>
    rw [List.cons_append, get_cons, get_cons, ih]
    by_cases c : p.1 = h
    · simp [c]
    · simp [c]
theorem get_map (e : KV) (g h : Nat) (v : Int) : get (e.map fun p => if p.1 = g then (p.1, v) else p) h = if h = g then (get e h).map fun _ => v else get e h := by
  induction e with
  | nil => simp [get]
  | cons p r ih =>
    rw [List.map_cons, get_cons, ih, get_cons]
    by_cases c : p.1 = g
    · by_cases d : h = g
      · subst d; simp [c]
      · have c2 : ¬ p.1 = h := fun z => d (z ▸ c)
        have c3 : ¬ g = h := fun z => d z.symm
        simp [c, d, c3]
    · by_cases d : h = g
      · subst d; simp [c]
      · simp [c, d]
theorem get_put (e : KV) (g : Nat) (v : Int) (h : Nat) : get (put e g v) h = if h = g then some v else get e h := by
  unfold put
  by_cases c : (e.any fun p => decide (p.1 = g)) = true
  · rw [if_pos c, get_map]
    by_cases d : h = g
    · subst d
      obtain ⟨w, hw⟩ := get_mem c
      simp [hw]
    · simp [d]
  · rw [if_neg c, get_append]
    have hn : ∀ p ∈ e, p.1 ≠ g := fun p hp z => c (List.any_eq_true.mpr ⟨p, hp, decide_eq_true z⟩)
    by_cases d : h = g
    · subst d
      rw [get_none hn]
      simp [get]
    · have d2 : ¬ g = h := fun z => d z.symm
      simp [d, get_cons, d2]
      simp [get]
theorem val_put (e : KV) (g : Nat) (v : Int) (h : Nat) : val (put e g v) h = if h = g then v else val e h := by
  unfold val
  rw [get_put]
  by_cases d : h = g
  · simp [d]
  · simp [d]
structure OkKV (e : KV) : Prop where
  nd : (e.map (·.1)).Nodup
  lt : ∀ p ∈ e, p.1 < 64
theorem OkKV.put {e : KV} (h : OkKV e) {g : Nat} (hg : g < 64) (v : Int) : OkKV (put e g v) := by
  unfold J.put
  by_cases c : (e.any fun p => decide (p.1 = g)) = true
  · rw [if_pos c]
    have ek : ((e.map fun p => if p.1 = g then (p.1, v) else p).map (·.1)) = e.map (·.1) := by
      rw [List.map_map]
      exact List.map_congr_left fun p _ => by by_cases d : p.1 = g <;> simp [d]
    refine ⟨by rw [ek]; exact h.nd, fun p hp => ?_⟩
    have : p.1 ∈ e.map (·.1) := by rw [← ek]; exact List.mem_map_of_mem hp
    obtain ⟨q, hq, e2⟩ := List.mem_map.mp this
    rw [← e2]
    exact h.lt q hq
  · rw [if_neg c]
    refine ⟨?_, fun p hp => ?_⟩
    · rw [List.map_append, List.nodup_append]
      refine ⟨h.nd, by simp, fun x hx y hy => ?_⟩
      obtain ⟨p, hp, rfl⟩ := List.mem_map.mp hx
      have : y = g := by simpa using hy
      rw [this]
      exact fun z => c (List.any_eq_true.mpr ⟨p, hp, decide_eq_true z⟩)
    · rcases List.mem_append.mp hp with q | q
      · exact h.lt p q
      · rw [List.mem_singleton.mp q]; exact hg
theorem OkKV.len {e : KV} (h : OkKV e) : e.length ≤ 64 := by
  have := nodup_le 64 (e.map (·.1)) h.nd fun x hx => by
    obtain ⟨p, hp, rfl⟩ := List.mem_map.mp hx
    exact h.lt p hp
  simpa using this
theorem OkKV.nil : OkKV [] := ⟨by simp, fun p hp => nomatch hp⟩
/-! ### sums -/
theorem sum_add (l : List Nat) (f g : Nat → Int) : (l.map fun x => f x + g x).sum = (l.map f).sum + (l.map g).sum := by
  induction l with
  | nil => rfl
  | cons a r ih => simp only [List.map_cons, List.sum_cons, ih]; omega
theorem sum_add' {α : Type} (l : List α) (f g : α → Int) : (l.map fun x => f x + g x).sum = (l.map f).sum + (l.map g).sum := by
  induction l with
  | nil => rfl
  | cons a r ih => simp only [List.map_cons, List.sum_cons, ih]; omega
theorem sum_zero {α : Type} (l : List α) (f : α → Int) (h : ∀ x ∈ l, f x = 0) : (l.map f).sum = 0 := by
  induction l with
  | nil => rfl
  | cons a r ih =>
    rw [List.map_cons, List.sum_cons, h a (by simp), ih fun x hx => h x (List.mem_cons_of_mem _ hx)]
    rfl
theorem sum_single (n k : Nat) (v : Int) (hk : k < n) : ((List.range n).map fun g => if g = k then v else 0).sum = v := by
  induction n with
  | zero => omega
  | succ n ih =>
    rw [List.range_succ, List.map_append, List.sum_append]
    by_cases c : k = n
    · subst c
      rw [sum_zero _ _ fun x hx => by
        have := List.mem_range.mp hx
        rw [if_neg (by omega)]]
      simp
    · rw [ih (by omega)]
      have : ¬ n = k := fun z => c z.symm
      simp [this]
theorem total_eq {e : KV} (h : OkKV e) : (e.map (·.2)).sum = ((List.range 64).map (val e)).sum := by
  obtain ⟨nd, lt⟩ := h
  induction e with
  | nil => rw [sum_zero _ _ fun x _ => val_none (fun p hp => absurd hp (List.not_mem_nil))]; rfl
  | cons p r ih =>
    rw [List.map_cons, List.nodup_cons] at nd
    have hp : ∀ q ∈ r, q.1 ≠ p.1 := fun q hq z => nd.1 (by rw [← z]; exact List.mem_map_of_mem hq)
    have e1 : ∀ g, val (p :: r) g = (if g = p.1 then p.2 else 0) + val r g := fun g => by
      unfold val
      rw [get_cons]
      by_cases c : p.1 = g
      · subst c
        rw [get_none hp]
        simp
      · have c2 : ¬ g = p.1 := fun z => c z.symm
        simp [c, c2]
    rw [List.map_cons, List.sum_cons, ih nd.2 fun q hq => lt q (List.mem_cons_of_mem _ hq)]
    rw [show (List.range 64).map (val (p :: r)) = (List.range 64).map (fun g => (if g = p.1 then p.2 else 0) + val r g) from List.map_congr_left fun g _ => e1 g]
    rw [sum_add, sum_single 64 p.1 p.2 (lt p (by simp))]
/-! ### rows counted -/
def matchAt (x w : List Nat) (i : Nat) : Bool := (x.drop i).take w.length == w
theorem matchAt_le {x w : List Nat} {i : Nat} (h : matchAt x w i = true) (hi : i ≤ x.length) : i + w.length ≤ x.length := by
  unfold matchAt at h
  have e := congrArg List.length (eq_of_beq h)
  rw [List.length_take, List.length_drop] at e
  omega
def con (x : List Nat) (i : Nat) (F : Nat → Nat → Int) (j h : Nat) (a : Arc) : Int := if matchAt x a.2.1 i = true ∧ j = i + a.2.1.length ∧ h = a.2.2 then F i a.1 else 0
def step (as : List Arc) (x : List Nat) (i : Nat) (F : Nat → Nat → Int) (j h : Nat) : Int := F j h + (as.map (con x i F j h)).sum
def run (as : List Arc) (s : Nat) (x : List Nat) : Nat → Nat → Nat → Int
  | 0 => fun j h => if j = 0 ∧ h = s then 1 else 0
  | i + 1 => step as x i (run as s x i)
/-- the number of the rows from s that read x -/
def cnt (as : List Arc) (s : Nat) (x : List Nat) : Int := ((List.range 64).map (run as s x x.length x.length)).sum
theorem con_self {x : List Nat} {i : Nat} {F : Nat → Nat → Int} {h : Nat} {a : Arc} (ha : 1 ≤ a.2.1.length) : con x i F i h a = 0 := by
  unfold con
  rw [if_neg]
  rintro ⟨_, h2, _⟩
  omega
def tv (T : List KV) (j h : Nat) : Int := match T[j]? with | some e => val e h | none => 0
theorem tv_at {T : List KV} {j h : Nat} {e : KV} (q : T[j]? = some e) : tv T j h = val e h := by unfold tv; rw [q]
theorem tv_set {T : List KV} {k : Nat} {e : KV} (hk : T[k]? = some e) (g : Nat) (v : Int) (j h : Nat) : tv (T.set k (put e g (val e g + v))) j h = tv T j h + if j = k ∧ h = g then v else 0 := by
  have hlt : k < T.length := (List.getElem?_eq_some_iff.mp hk).1
  by_cases c : j = k
  · subst c
    rw [tv_at (e := put e g (val e g + v)) (by rw [List.getElem?_set_self hlt]), tv_at hk, val_put]
    by_cases d : h = g
    · subst d; simp
    · simp [d]
  · have : tv (T.set k (put e g (val e g + v))) j h = tv T j h := by
      unfold tv
      rw [List.getElem?_set_ne (fun z => c z.symm)]
    rw [this]
    simp [c]
/-- the contributions of the arcs that leave g, by their numbers -/
def conN (as : List Arc) (c : Arc → Int) (n : Nat) : Int := match as[n]? with | some a => c a | none => 0
theorem leavTo_sum (as : List Arc) (c : Arc → Int) (g : Nat) : ∀ i, i ≤ as.length → ((leavTo as g i).map (conN as c)).sum = ((as.take i).map fun a => if a.1 = g then c a else 0).sum
  | 0, _ => by simp [leavTo]
  | i + 1, h => by
    have hi : as[i]? = some as[i] := List.getElem?_eq_getElem (by omega)
    rw [leavTo_snoc hi, ← take_snoc hi, List.map_append, List.map_append, List.sum_append, List.sum_append, leavTo_sum as c g i (by omega)]
    congr 1
    by_cases q : as[i].1 = g
    · rw [if_pos q]
      simp [conN, hi, q]
    · rw [if_neg q]
      simp [q]
theorem leav_sum (as : List Arc) (c : Arc → Int) (g : Nat) : ((leav as g).map (conN as c)).sum = (as.map fun a => if a.1 = g then c a else 0).sum := by
  have := leavTo_sum as c g as.length (Nat.le_refl _)
  rwa [List.take_length] at this
theorem keys_sum (as : List Arc) (c : Arc → Int) : ∀ keys : List Nat, keys.Nodup → (keys.map fun g => ((leav as g).map (conN as c)).sum).sum = (as.map fun a => if a.1 ∈ keys then c a else 0).sum
  | [], _ => by rw [sum_zero as _ fun a _ => by simp]; rfl
  | g :: r, h => by
    rw [List.nodup_cons] at h
    rw [List.map_cons, List.sum_cons, keys_sum as c r h.2, leav_sum, ← sum_add']
    congr 1
    refine List.map_congr_left fun a _ => ?_
    by_cases d : a.1 = g
    · subst d
      simp [h.1]
    · simp [d]
end J

set_option Elab.async false
set_option linter.all false
set_option maxRecDepth 100000
set_option maxHeartbeats 4000000
namespace J
open PySem L2
structure TabAt (H : Hp) (ds : List Addr) (T : List KV) : Prop where
  len : ds.length = T.length
  nd : ds.Nodup
  dict : ∀ (j : Nat) (d : Addr) (e : KV), ds[j]? = some d → T[j]? = some e → H d = some (.dK (enc e))
  ok : ∀ e ∈ T, OkKV e
theorem TabAt.same {H H' : Hp} {ds : List Addr} {T : List KV} (h : TabAt H ds T) (s : Same H H') : TabAt H' ds T := ⟨h.len, h.nd, fun j d e h1 h2 => s _ _ (h.dict j d e h1 h2), h.ok⟩
theorem TabAt.get {H : Hp} {ds : List Addr} {T : List KV} (h : TabAt H ds T) {j : Nat} (hj : j < T.length) : ∃ d e, ds[j]? = some d ∧ T[j]? = some e ∧ H d = some (.dK (enc e)) ∧ OkKV e := by
  have hd : j < ds.length := by rw [h.len]; exact hj
  refine ⟨ds[j], T[j], List.getElem?_eq_getElem hd, List.getElem?_eq_getElem hj, h.dict j _ _ (List.getElem?_eq_getElem hd) (List.getElem?_eq_getElem hj), h.ok _ (List.getElem_mem hj)⟩
theorem TabAt.set {H : Hp} {ds : List Addr} {T : List KV} (h : TabAt H ds T) {j : Nat} {d : Addr} {e : KV} (hd : ds[j]? = some d) (he : OkKV e) : TabAt (upd H d (.dK (enc e))) ds (T.set j e) := by
  have hj : j < ds.length := (List.getElem?_eq_some_iff.mp hd).1
  refine ⟨by rw [List.length_set]; exact h.len, h.nd, fun k c f h1 h2 => ?_, fun f hf => ?_⟩
  · by_cases q : k = j
    · subst q
      rw [hd] at h1
      cases h1
      rw [List.getElem?_set_self (by rw [← h.len]; exact hj)] at h2
      cases h2
      exact upd_same
    · rw [List.getElem?_set_ne (fun z => q z.symm)] at h2
      have ncd : c ≠ d := fun z => by
        subst z
        have e1 := (List.getElem?_eq_some_iff.mp h1)
        have e2 := (List.getElem?_eq_some_iff.mp hd)
        exact q ((List.getElem_inj h.nd).mp (e1.2.trans e2.2.symm))
      rw [upd_ne ncd]
      exact h.dict k c f h1 h2
  · rcases List.mem_or_eq_of_mem_set hf with q | q
    · exact h.ok f q
    · rw [q]; exact he
theorem dput_enc {H : Hp} {d : Addr} {e : KV} (hd : H d = some (.dK (enc e))) (ok : OkKV e) (g : Nat) (v : Int) : DPut H d (.int (g : Int)) (.int v) (upd H d (.dK (enc (put e g v)))) := by
  have q := DPut.k (k := (Sum.inl (g : Int) : Key)) (v := V.int v) hd (lt_size (by rw [enc, List.length_map]; have := ok.len; omega))
  rw [putK_enc] at q
  exact q
theorem dget_enc {H : Hp} {d : Addr} {e : KV} (hd : Rd H d (.dK (enc e))) (g : Nat) : DGet H d (.int (g : Int)) ((get e g).map V.int) := .inl ⟨_, Sum.inl (g : Int), hd, rfl, (valV_enc e g).symm⟩
theorem enc_vals (e : KV) : (enc e).map (·.2) = (e.map (·.2)).map V.int := by unfold enc; rw [List.map_map, List.map_map]; rfl
theorem starts_S {x w : List Nat} {i : Nat} (hi : i ≤ x.length) (hw : 1 ≤ w.length) : Txt.startswith3 (SX.S x) (SX.S w) (i : Int) = matchAt x w i := by
  have ef : fromIndex (SX.S x).length (i : Int) = i := by
    unfold fromIndex
    rw [if_neg (by omega)]
    omega
  unfold Txt.startswith3
  rw [ef, PySem.StrLaws.subAt_eq, SX.S_len, SX.S_len]
  show (decide (i + w.length ≤ x.length) && ((x.drop i).take w.length == w)) = matchAt x w i
  unfold matchAt
  cases c : ((x.drop i).take w.length == w) with
  | false => simp
  | true =>
    have := matchAt_le (x := x) (w := w) (i := i) c hi
    simp [this]
theorem cutS_mid (x : List Nat) {i k : Nat} (hi : i ≤ x.length) : cutS (SX.S x) (some (i : Int)) (some ((i + k : Nat) : Int)) = SX.S ((x.drop i).take k) := by
  unfold cutS
  rw [HT.sIx_nat, HT.sIx_nat, SX.S_len]
  show SX.S ((x.drop (min i x.length)).take (min (i + k) x.length - min i x.length)) = _
  congr 1
  rw [Nat.min_eq_left hi]
  by_cases c : i + k ≤ x.length
  · rw [Nat.min_eq_left c, show i + k - i = k by omega]
  · rw [Nat.min_eq_right (by omega), List.take_of_length_le (by rw [List.length_drop]; omega), List.take_of_length_le (by rw [List.length_drop]; omega)]
def spCount (C : Addr) : Sp := fun vs H Q _ => ∃ (p : Addr) (sg : List Nat) (us : List V) (as : List Arc) (s : Nat) (x : List Nat), vs = [.ref p, .int (s : Int), .str (SX.S x)] ∧ LoomAt C H p sg us as ∧ s ≤ 63 ∧ x.length ≤ 2000 ∧ (∀ c ∈ x, c ∈ sg) ∧
  ∀ H' : Hp, Same H H' → Q (.int (cnt as s x)) H'
end J

set_option Elab.async false
set_option linter.all false
set_option maxRecDepth 100000
set_option maxHeartbeats 4000000
namespace J
open PySem L2
theorem getD_val (e : KV) (g : Nat) : ((get e g).map V.int).getD (V.int 0) = V.int (val e g) := by
  unfold val
  cases get e g <;> rfl
section
variable {P : Program} {w : World} {K : PySem.W.Frag} {mg : Str → Option Value} {base : Heap}
theorem ok_count (T : Tx K mg) : FnOk P w K mg base CX0 3 T.f_count T.fd_count P_count (spCount T.C_Loom) := by
  have G_check_state : FnOk P w K mg base CX0 2 T.f_check_state T.fd_check_state P_check_state spState1 := ok_check_state T
  have G_check_text : FnOk P w K mg base CX0 2 T.f_check_text T.fd_check_text P_check_text spText1 := ok_check_text T
  refine T.F_count.ok sc_count (fun vs H Q E h => ?_) (fun cdv A outer s0 H vs Q E hr h => ?_)
  · obtain ⟨p, sg, us, as, s, x, rfl, _⟩ := h
    rfl
  · obtain ⟨p, sg, us, as, s, x, rfl, ⟨dx, Tp, hp, hTp, harc, hok, hsg⟩, hs, hx, hin, k⟩ := h
    refine ⟨_, (pss_cons (ps_expr (pe_call G_check_state (hr.mono (by decide)) rfl T.m_check_state T.F_check_state.kp T.b_check_state .nil pass0 (pa_cons (pv 1) pa_nil)))
        (pss_cons (ps_expr (pe_call G_check_text (hr.mono (by decide)) rfl T.m_check_text T.F_check_text.kp T.b_check_text .nil pass0 (pa_cons (pe_fld (pv 0) rfl) (pa_cons (pv 2) pa_nil))))
        (pss_cons (ps_setLc (i := 3) (own := [("_", 9)]) (g := (gName 9)) rfl sc_count.nd rfl rfl (sw_true rfl rfl rfl (by decide +kernel)) (pi_range1 rfl T.n_range (pa_cons (pe_op op_add (pe_callB call_len_str rfl T.n_len (by decide +kernel) (pa_cons (pv 2) pa_nil)) pe_int) pa_nil)) (blkOk_by (N := N_count) (sc := defScope s_count) (by decide +kernel)) (fun _ _ _ _ _ => (pg_name (i := 9) sc_count.nd rfl (Or.inl rfl))) (fun _ _ _ _ _ => pts_nil) (fun _ _ _ _ _ => pe_dnewK))
        (pss_cons (ps_dput (hu_of hr) (pe_ix (ix_listK (K := K) rfl) (pv 3) pe_int (fun _ _ => rfl)) (pv 1) pe_int rfl)
        (pss_cons (ps_for PassesOwn.never rfl (pi_range1 rfl T.n_range (pa_cons (pe_callB call_len_str rfl T.n_len (by decide +kernel) (pa_cons (pv 2) pa_nil)) pa_nil)) (pg_name (i := 4) sc_count.nd rfl (Or.inl rfl)) (pss_one (ps_for PassesOwn.never rfl (pi_tup (pe_fld (pv 0) rfl)) (pg_tup rfl (pgs_cons (pg_name (i := 5) sc_count.nd rfl (Or.inl rfl)) (pgs_cons (pg_name (i := 6) sc_count.nd rfl (Or.inl rfl)) (pgs_cons (pg_name (i := 7) sc_count.nd rfl (Or.inl rfl)) pgs_nil)))) (pss_one (ps_if (PW.pt (pw_and (pt_cmp (pc_din (hu_of hr) (pv 5) (pe_ix (ix_listK (K := K) rfl) (pv 3) (pv 4) (fun _ _ => rfl)))) (pw_and1 (pt_val (pe_bm PySem.F.plainAttrs_str PySem.F.slot_str_startswith PySem.F.type_str_startswith mt_startswith3 (pv 2) (pa_cons (pv 6) (pa_cons (pv 4) pa_nil))))))) (pss_cons (ps_set (i := 8) sc_count.nd rfl (Or.inl rfl) (pe_op op_add (pv 4) (pe_callB call_len_str rfl T.n_len (by decide +kernel) (pa_cons (pv 6) pa_nil))))
        (pss_one (ps_dput (hu_of hr) (pe_ix (ix_listK (K := K) rfl) (pv 3) (pv 8) (fun _ _ => rfl)) (pv 7) (pe_op op_add (pe_dget2 (hu_of hr) (pe_ix (ix_listK (K := K) rfl) (pv 3) (pv 8) (fun _ _ => rfl)) (pv 7) pe_int ⟨rfl, rfl, rfl, rfl⟩) (pe_dget (hu_of hr) (pe_ix (ix_listK (K := K) rfl) (pv 3) (pv 4) (fun _ _ => rfl)) (pv 5) (fun _ _ => rfl))) rfl))) pss_nil)))))
        (pss_one (ps_ret (pe_callB (cr_sumK (K := K) rfl rfl) rfl T.n_sum (by decide +kernel) (pa_cons (pe_listVals rfl (pe_ix (ix_listK (K := K) rfl) (pv 3) (pe_callB call_len_str rfl T.n_len (by decide +kernel) (pa_cons (pv 2) pa_nil)) (fun _ _ => rfl)) rfl T.n_list (by decide +kernel)) pa_nil))))))))), ?_⟩
    have oka := hok.all
    have hxl : (SX.S x).length ≤ sizeLine := le_size (by rw [SX.S_len]; omega)
    have exl : ((SX.S x).length : Int) = (x.length : Int) := by rw [SX.S_len]
    refine ⟨_, rfl, (s : Int), rfl, by omega, by omega, ?_⟩
    refine ⟨_, rfl, p, _, dx, _, _, rfl, hp, T.cl_Loom, T.na_Loom_signs, lf_signs _ _, _, rfl, sg, x, rfl, hx, hin, fun H1 s1 => ?_⟩
    -- the table
    refine ⟨_, rfl, _, rfl, hxl, _, _, rfl, rfl, _, rfl, by rw [exl]; omega, by rw [exl]; omega, fun D hD => lc_range (lo := 0) (n := x.length + 1) (fun i H' => ∃ ds : List Addr, ds.length = i ∧ ds.Nodup ∧ H' D = some (.lst (ds.map V.ref)) ∧ (∀ d ∈ ds, H' d = some (.dK []) ∧ H d = none ∧ d ≠ D) ∧ Same H H') ?_ ?_ ?_⟩
    · exact ⟨[], rfl, by simp, upd_same, fun d hd => absurd hd (List.not_mem_nil), s1.trans (Same.new _ hD)⟩
    · rintro i H2 hi ⟨ds, rfl, nd, hDl, hds, s2⟩
      refine ⟨rfl, fun d hd => ?_⟩
      have nDd : D ≠ d := (hp_ne hDl hd).symm
      have hd0 : H d = none := s2.free hd
      refine ⟨_, by rw [upd_ne nDd]; exact hDl, lt_size (by simp; omega), ds ++ [d], by simp, ?_, by rw [upd_same]; simp, fun c hc => ?_, (s2.trans (Same.new _ hd)).updNew (s1.free hD)⟩
      · rw [List.nodup_append]
        exact ⟨nd, by simp, fun a ha b hb => by
          rw [List.mem_singleton.mp hb]
          exact fun z => hp_ne (hds a ha).1 hd z.symm⟩
      · rcases List.mem_append.mp hc with q | q
        · obtain ⟨q1, q2, q3⟩ := hds c q
          exact ⟨by rw [upd_ne q3, upd_ne (hp_ne q1 hd).symm]; exact q1, q2, q3⟩
        · rw [List.mem_singleton.mp q]
          exact ⟨by rw [upd_ne nDd.symm]; exact upd_same, hd0, nDd.symm⟩
    · rintro H2 ⟨ds, hl, nd, hDl, hds, s2⟩
      have hD0 : H D = none := s1.free hD
      have tab0 : TabAt H2 ds (List.replicate (x.length + 1) []) := ⟨by simp [hl], nd, fun j d e h1 h2 => by
        have e0 : e = [] := (List.mem_replicate.mp (List.mem_of_getElem? h2)).2
        rw [e0]
        exact (hds d (List.mem_of_getElem? h1)).1, fun e he => by rw [(List.mem_replicate.mp he).2]; exact .nil⟩
      have hfr : ∀ d ∈ ds, H d = none ∧ d ≠ D := fun d hd => (hds d hd).2
      obtain ⟨d0, e0, hd0, he0, hdd0, _⟩ := tab0.get (j := 0) (by simp)
      have e00 : e0 = [] := (List.mem_replicate.mp (List.mem_of_getElem? he0)).2
      subst e00
      have nD0 := hfr d0 (List.mem_of_getElem? hd0)
      -- ways[0][state] = 1
      refine ⟨_, rfl, D, _, _, _, rfl, rfl, SqL.of hDl, atI_nat (j := 0) (by rw [List.getElem?_map, hd0]; rfl), _, rfl, d0, _, rfl, dput_enc hdd0 .nil s 1, ?_⟩
      have okp : OkKV (put [] s 1) := OkKV.nil.put (by omega) 1
      have tab1 := tab0.set hd0 okp
      have sm1 := s2.updNew (o := .dK (enc (put [] s 1))) nD0.1
      have hD1 : upd H2 d0 (.dK (enc (put [] s 1))) D = some (.lst (ds.map V.ref)) := by rw [upd_ne nD0.2.symm]; exact hDl
      have tv1 : ∀ j h, tv ((List.replicate (x.length + 1) ([] : KV)).set 0 (put [] s 1)) j h = run as s x 0 j h := fun j h => by
        have q := tv_set (T := List.replicate (x.length + 1) ([] : KV)) (k := 0) (e := []) he0 s 1 j h
        rw [show val [] s + 1 = 1 from rfl] at q
        rw [q]
        have z : tv (List.replicate (x.length + 1) ([] : KV)) j h = 0 := by
          unfold tv
          cases c : (List.replicate (x.length + 1) ([] : KV))[j]? with
          | none => rfl
          | some e => rw [(List.mem_replicate.mp (List.mem_of_getElem? c)).2]; rfl
        rw [z]
        show 0 + _ = if j = 0 ∧ h = s then (1 : Int) else 0
        omega
      clear tab0 hd0 he0
      refine ⟨_, rfl, _, rfl, hxl, _, rfl, by rw [exl]; omega, by rw [exl]; omega, for_range (lo := 0) (n := x.length) (fun i σ H' => ∃ (T' : List KV) (v4 v5 v6 v7 v8 : Option V), σ = [some (.ref p), some (.int (s : Int)), some (.str (SX.S x)), some (.ref D), v4, v5, v6, v7, v8, none] ∧
        H' D = some (.lst (ds.map V.ref)) ∧ TabAt H' ds T' ∧ (∀ j h, tv T' j h = run as s x i j h) ∧ Same H H') ?_ ?_ ?_⟩
      · exact ⟨_, none, none, none, none, none, rfl, hD1, tab1, tv1, sm1⟩
      · rintro i σ H3 hi ⟨T3, v4, v5, v6, v7, v8, rfl, hD3, tab3, tv3, sm3⟩
        have hTl : T3.length = x.length + 1 := by rw [← tab3.len, hl]
        obtain ⟨di, ei, hdi, hei, hddi, oki⟩ := tab3.get (j := i) (by omega)
        have ezi : (0 : Int) + (i : Int) = (i : Int) := by omega
        refine ⟨_, rfl, p, _, dx, _, _, rfl, sm3 _ _ hp, T.cl_Loom, T.na_Loom_arcs, lf_arcs _ _, Tp, rfl, ⟨_, SqT.of (sm3 _ _ hTp)⟩, for_tup (K := K) (a := Tp) (xs := us) (fun m σ H' => ∃ (T' : List KV) (v5 v6 v7 v8 : Option V), σ = [some (.ref p), some (.int (s : Int)), some (.str (SX.S x)), some (.ref D), some (.int (0 + (i : Int))), v5, v6, v7, v8, none] ∧
          H' D = some (.lst (ds.map V.ref)) ∧ TabAt H' ds T' ∧ (∀ j h, tv T' j h = run as s x i j h + ((as.take m).map (con x i (run as s x i) j h)).sum) ∧ Same H H') ?_ ?_ ?_ ?_⟩
        · exact ⟨T3, v5, v6, v7, v8, rfl, hD3, tab3, fun j h => by rw [tv3]; simp, sm3⟩
        · rintro m σ H4 _ ⟨_, _, _, _, _, _, _, _, _, sm4⟩
          exact SqT.of (sm4 _ _ hTp)
        · rintro m y σ H4 hy ⟨T4, v5, v6, v7, v8, rfl, hD4, tab4, tv4, sm4⟩
          have hm : m < as.length := by
            have q := (List.getElem?_eq_some_iff.mp hy).1
            have := harc.1
            omega
          have ham : as[m]? = some as[m] := List.getElem?_eq_getElem hm
          obtain ⟨t, hut, htt⟩ := harc.2 m as[m] ham
          rw [hut] at hy
          cases hy
          obtain ⟨o1, o2, o3, o4⟩ := oka.2 as[m] (List.getElem_mem hm)
          have hT4 : T4.length = x.length + 1 := by rw [← tab4.len, hl]
          obtain ⟨ci, fi, hci, hfi, hcci, okf⟩ := tab4.get (j := i) (by omega)
          -- what stands at the place itself is not changed
          have row : ∀ g, val fi g = run as s x i i g := fun g => by
            rw [← tv_at hfi, tv4, sum_zero _ _ fun a ha => con_self (oka.2 a (List.mem_of_mem_take ha)).2.1]
            omega
          have snoc : ∀ j h, ((as.take (m + 1)).map (con x i (run as s x i) j h)).sum = ((as.take m).map (con x i (run as s x i) j h)).sum + con x i (run as s x i) j h as[m] := fun j h => by
            rw [← take_snoc ham, List.map_append, List.sum_append]
            simp
          have atw : ∀ {j : Nat} {d : Addr}, ds[j]? = some d → atI (ds.map V.ref) (j : Int) = some (V.ref d) := fun {j d} q => atI_nat (by rw [List.getElem?_map, q]; rfl)
          refine ⟨t, _, rfl, SqT.of (sm4 _ _ htt), rfl, _, _, rfl, _, _, rfl, _, _, rfl, rfl, ?_⟩
          refine ⟨_, rfl, _, rfl, _, rfl, D, _, _, _, rfl, rfl, SqL.of hD4, by rw [ezi]; exact atw hci, ci, _, rfl, dget_enc (.inl hcci) _, _, rfl, ?_⟩
          refine ite2 (fun c => ?_) (fun c => ?_)
          · obtain ⟨w, hw⟩ : ∃ w, get fi as[m].1 = some w := by
              cases q : get fi as[m].1 with
              | none => rw [q] at c; cases c
              | some w => exact ⟨w, rfl⟩
            have hwv : w = run as s x i i as[m].1 := by
              rw [← row]
              unfold val
              rw [hw]
              rfl
            refine ⟨_, rfl, rfl, _, rfl, _, rfl, _, _, _, rfl, rfl, _, rfl, ?_⟩
            rw [ezi, starts_S (by omega) o2]
            refine ite2 (fun c2 => ?_) (fun c2 => ?_)
            · have hle := matchAt_le c2 (by omega)
              have hw12 : (SX.S as[m].2.1).length ≤ sizeLine := le_size (by rw [SX.S_len]; omega)
              have hend : ((i : Int) + ((SX.S as[m].2.1).length : Nat)) = ((i + as[m].2.1.length : Nat) : Int) := by rw [SX.S_len]; omega
              obtain ⟨ce, fe, hce, hfe, hcce, okfe⟩ := tab4.get (j := i + as[m].2.1.length) (by omega)
              have atE : atI (ds.map V.ref) ((i : Int) + ((SX.S as[m].2.1).length : Nat)) = some (V.ref ce) := by rw [hend]; exact atw hce
              refine ⟨_, rfl, _, rfl, _, rfl, hw12, _, _, rfl, rfl, ?_⟩
              refine ⟨_, rfl, _, rfl, D, _, _, _, rfl, rfl, SqL.of hD4, atE, ce, rfl, .inl ⟨_, .inl hcce⟩, _, rfl, _, dget_enc (.inl hcce) _, ?_⟩
              refine ⟨_, rfl, _, rfl, D, _, _, _, rfl, rfl, SqL.of hD4, atw hci, _, rfl, ci, V.int w, rfl, by have q := dget_enc (.inl hcci) as[m].1; rw [hw] at q; exact q, val fe as[m].2.2, w, getD_val _ _, rfl, ?_⟩
              refine ⟨_, rfl, _, rfl, D, _, _, _, rfl, rfl, SqL.of hD4, atE, _, rfl, ce, _, rfl, dput_enc hcce okfe as[m].2.2 (val fe as[m].2.2 + w), ?_⟩
              have fr := hfr ce (List.mem_of_getElem? hce)
              refine ⟨T4.set (i + as[m].2.1.length) (put fe as[m].2.2 (val fe as[m].2.2 + w)), _, _, _, _, rfl, by rw [upd_ne fr.2.symm]; exact hD4, tab4.set hce (okfe.put (by omega) _), fun j h => ?_, sm4.updNew fr.1⟩
              rw [tv_set hfe, tv4, snoc, hwv]
              unfold con
              by_cases q : j = i + as[m].2.1.length ∧ h = as[m].2.2
              · rw [if_pos q, if_pos ⟨c2, q⟩]
                omega
              · rw [if_neg q, if_neg (fun z => q z.2)]
                omega
            · refine ⟨T4, _, _, _, _, rfl, hD4, tab4, fun j h => ?_, sm4⟩
              rw [tv4, snoc]
              unfold con
              rw [if_neg (fun z : matchAt x as[m].2.1 i = true ∧ j = i + as[m].2.1.length ∧ h = as[m].2.2 => c2 z.1)]
              omega
          · refine ⟨T4, _, _, _, _, rfl, hD4, tab4, fun j h => ?_, sm4⟩
            have z : get fi as[m].1 = none := by
              cases q : get fi as[m].1 with
              | none => rfl
              | some w => rw [q] at c; exact absurd rfl c
            have z0 : run as s x i i as[m].1 = 0 := by
              rw [← row]
              unfold val
              rw [z]
              rfl
            rw [tv4, snoc]
            unfold con
            rw [z0]
            simp
        · rintro σ H4 ⟨T4, v5, v6, v7, v8, rfl, hD4, tab4, tv4, sm4⟩
          refine ⟨T4, _, v5, v6, v7, v8, rfl, hD4, tab4, fun j h => ?_, sm4⟩
          rw [tv4, harc.1, List.take_length]
          rfl
      · rintro σ H3 ⟨T3, v4, v5, v6, v7, v8, rfl, hD3, tab3, tv3, sm3⟩
        have hTl : T3.length = x.length + 1 := by rw [← tab3.len, hl]
        obtain ⟨dn, en, hdn, hen, hddn, okn⟩ := tab3.get (j := x.length) (by omega)
        refine ⟨_, rfl, _, rfl, _, rfl, hxl, D, _, _, _, rfl, rfl, SqL.of hD3, by rw [exl]; exact atI_nat (by rw [List.getElem?_map, hdn]; rfl), dn, _, rfl, hddn, fun q hq => ?_⟩
        rw [enc_vals]
        refine ⟨q, en.map (·.2), rfl, SqL.of upd_same, ?_⟩
        rw [total_eq okn, show (List.range 64).map (val en) = (List.range 64).map (run as s x x.length x.length) from List.map_congr_left fun g _ => by rw [← tv_at hen, tv3]]
        exact k _ (sm3.trans (Same.new _ hq))
end
end J

set_option Elab.async false
set_option linter.all false
set_option maxRecDepth 100000
set_option maxHeartbeats 4000000
namespace J
open PySem L2
theorem upd_comm {H : Hp} {a b : Addr} {x y : HO} (h : a ≠ b) : upd (upd H a x) b y = upd (upd H b y) a x := by
  funext c
  by_cases c1 : c = a
  · subst c1
    rw [upd_ne h, upd_same, upd_same]
  · by_cases c2 : c = b
    · subst c2
      rw [upd_same, upd_ne c1, upd_same]
    · rw [upd_ne c2, upd_ne c1, upd_ne c1, upd_ne c2]
theorem upd_upd {H : Hp} {a : Addr} {x y : HO} : upd (upd H a x) a y = upd H a y := by
  funext c
  by_cases c1 : c = a
  · subst c1; rw [upd_same, upd_same]
  · rw [upd_ne c1, upd_ne c1, upd_ne c1]
theorem upd_self {H : Hp} {a : Addr} {x : HO} (h : H a = some x) : upd H a x = H := by
  funext c
  by_cases c1 : c = a
  · subst c1; rw [upd_same, h]
  · rw [upd_ne c1]
theorem same_lift {H H' : Hp} {a : Addr} {x : HO} (s : Same H H') : Same (upd H a x) (upd H' a x) := fun c o h => by
  by_cases c1 : c = a
  · subst c1; rw [upd_same] at h ⊢; exact h
  · rw [upd_ne c1] at h ⊢; exact s _ _ h
theorem get_at {e : KV} (h : OkKV e) {i : Nat} {p : Nat × Int} (hi : e[i]? = some p) : get e p.1 = some p.2 := by
  have nd := h.nd
  clear h
  induction e generalizing i with
  | nil => simp at hi
  | cons q r ih =>
    rw [List.map_cons, List.nodup_cons] at nd
    rw [get_cons]
    cases i with
    | zero =>
      simp at hi
      rw [hi, if_pos rfl]
    | succ i =>
      simp at hi
      have : q.1 ≠ p.1 := fun z => nd.1 (by rw [z]; exact List.mem_map_of_mem (List.mem_of_getElem? hi))
      rw [if_neg this]
      exact ih hi nd.2
theorem enc_at {e : KV} {i : Nat} {ky : Key} {vy : V} (h : (enc e)[i]? = some (ky, vy)) : ∃ p, e[i]? = some p ∧ ky = Sum.inl (p.1 : Int) ∧ vy = V.int p.2 := by
  unfold enc at h
  rw [List.getElem?_map] at h
  cases q : e[i]? with
  | none => rw [q] at h; cases h
  | some p =>
    rw [q] at h
    injection h with h
    injection h with h1 h2
    exact ⟨p, rfl, h1.symm, h2.symm⟩
def spCounted : Sp := fun vs H Q _ => ∃ (a : Addr) (as : List Arc) (s : Nat) (x : List Nat), vs = [.ref a, .int (s : Int), .str (SX.S x)] ∧ ArcL H a as ∧ OkAll as ∧ s ≤ 63 ∧ x.length ≤ 2000 ∧
  ∀ H' : Hp, Same H H' → Q (.int (cnt as s x)) H'
section
variable {P : Program} {w : World} {K : PySem.W.Frag} {mg : Str → Option Value} {base : Heap}
theorem ok_l_counted (T : Tx K mg) : FnOk P w K mg base CX0 2 T.f_l_counted T.fd_l_counted P_l_counted spCounted := by
  have G_l_leaving : FnOk P w K mg base CX0 1 T.f_l_leaving T.fd_l_leaving P_l_leaving spLeaving := ok_l_leaving T
  refine T.F_l_counted.ok sc_l_counted (fun vs H Q E h => ?_) (fun cdv A outer s0 H vs Q E hr h => ?_)
  · obtain ⟨a, as, s, x, rfl, _⟩ := h
    rfl
  · obtain ⟨a, as, s, x, rfl, harc, oka, hs, hx, k⟩ := h
    refine ⟨_, (pss_cons (ps_set (i := 3) sc_l_counted.nd rfl (Or.inr rfl) (pe_lc (own := [("_law_k", 10)]) (g := (gName 10)) rfl sc_l_counted.nd (pi_range1 rfl T.n_range (pa_cons (pe_op op_add (pe_callB call_len_str rfl T.n_len (by decide +kernel) (pa_cons (pv 2) pa_nil)) pe_int) pa_nil)) (blkOk_by (N := N_l_counted) (sc := defScope s_l_counted) (by decide +kernel)) (fun _ _ _ _ _ => (pg_name (i := 10) sc_l_counted.nd rfl (Or.inl rfl))) (fun _ _ _ _ _ => pts_nil) (fun _ _ _ _ _ => pe_dnewK)))
        (pss_cons (ps_dput (hu_of hr) (pe_ix (ix_listK (K := K) rfl) (pv 3) pe_int (fun _ _ => rfl)) (pv 1) pe_int rfl)
        (pss_cons (ps_for PassesOwn.never rfl (pi_range1 rfl T.n_range (pa_cons (pe_callB call_len_str rfl T.n_len (by decide +kernel) (pa_cons (pv 2) pa_nil)) pa_nil)) (pg_name (i := 4) sc_l_counted.nd rfl (Or.inl rfl)) (pss_one (ps_lock (ps_for PassesOwn.never rfl (pi_keys (pe_ix (ix_listK (K := K) rfl) (pv 3) (pv 4) (fun _ _ => rfl))) (pg_name (i := 5) sc_l_counted.nd rfl (Or.inl rfl)) (pss_one (ps_for PassesOwn.never rfl (pi_list (pe_call G_l_leaving (hr.mono (by decide)) rfl T.m_l_leaving T.F_l_leaving.kp T.b_l_leaving .nil pass0 (pa_cons (pv 0) (pa_cons (pv 5) pa_nil)))) (pg_name (i := 6) sc_l_counted.nd rfl (Or.inl rfl)) (pss_cons (ps_asg (pe_slice sl_tup (pe_ix (ix_listK (K := K) rfl) (pv 0) (pv 6) (fun _ _ => rfl)) (po_some pe_int) po_none) (pg_tup rfl (pgs_cons (pg_name (i := 7) sc_l_counted.nd rfl (Or.inl rfl)) (pgs_cons (pg_name (i := 8) sc_l_counted.nd rfl (Or.inl rfl)) pgs_nil))))
        (pss_one (ps_if (pt_cmpR op_eq (pe_slice sl_str (pv 2) (po_some (pv 4)) (po_some (pe_op op_add (pv 4) (pe_callB call_len_str rfl T.n_len (by decide +kernel) (pa_cons (pv 7) pa_nil))))) (pv 7) (nomark _)) (pss_cons (ps_set (i := 9) sc_l_counted.nd rfl (Or.inl rfl) (pe_ix (ix_listK (K := K) rfl) (pv 3) (pe_op op_add (pv 4) (pe_callB call_len_str rfl T.n_len (by decide +kernel) (pa_cons (pv 7) pa_nil))) (fun _ _ => rfl)))
        (pss_one (ps_dput (hu_of hr) (pv 9) (pv 8) (pe_op op_add (pe_dget2 (hu_of hr) (pv 9) (pv 8) pe_int ⟨rfl, rfl, rfl, rfl⟩) (pe_dget (hu_of hr) (pe_ix (ix_listK (K := K) rfl) (pv 3) (pv 4) (fun _ _ => rfl)) (pv 5) (fun _ _ => rfl))) rfl))) pss_nil)))))))))
        (pss_one (ps_ret (pe_callB (cr_sumK (K := K) rfl rfl) rfl T.n_sum (by decide +kernel) (pa_cons (pe_lock (pe_lc (own := [("_law_one", 11)]) (g := (gName 11)) rfl sc_l_counted.nd (pi_keys (pe_ix (ix_listK (K := K) rfl) (pv 3) (pe_callB call_len_str rfl T.n_len (by decide +kernel) (pa_cons (pv 2) pa_nil)) (fun _ _ => rfl))) (blkOk_by (N := N_l_counted) (sc := defScope s_l_counted) (by decide +kernel)) (fun _ _ _ _ _ => (pg_name (i := 11) sc_l_counted.nd rfl (Or.inl rfl))) (fun _ _ _ _ _ => pts_nil) (fun _ _ _ _ _ => (pe_dget (hu_of hr) (pe_ix (ix_listK (K := K) rfl) (pv 3) (pe_callB call_len_str rfl T.n_len (by decide +kernel) (pa_cons (pv 2) pa_nil)) (fun _ _ => rfl)) (pv 11) (fun _ _ => rfl))))) pa_nil))))))), ?_⟩
    have hxl : (SX.S x).length ≤ sizeLine := le_size (by rw [SX.S_len]; omega)
    have exl : ((SX.S x).length : Int) = (x.length : Int) := by rw [SX.S_len]
    refine ⟨_, rfl, _, rfl, hxl, _, _, rfl, rfl, _, rfl, by rw [exl]; omega, by rw [exl]; omega, fun D hD => lc_range (lo := 0) (n := x.length + 1) (fun i H' => ∃ ds : List Addr, ds.length = i ∧ ds.Nodup ∧ H' D = some (.lst (ds.map V.ref)) ∧ (∀ d ∈ ds, H' d = some (.dK []) ∧ H d = none ∧ d ≠ D) ∧ Same H H') ?_ ?_ ?_⟩
    · exact ⟨[], rfl, by simp, upd_same, fun d hd => absurd hd (List.not_mem_nil), Same.new _ hD⟩
    · rintro i H2 hi ⟨ds, rfl, nd, hDl, hds, s2⟩
      refine ⟨rfl, fun d hd => ?_⟩
      have nDd : D ≠ d := (hp_ne hDl hd).symm
      have hd0 : H d = none := s2.free hd
      refine ⟨_, by rw [upd_ne nDd]; exact hDl, lt_size (by simp; omega), ds ++ [d], by simp, ?_, by rw [upd_same]; simp, fun c hc => ?_, (s2.trans (Same.new _ hd)).updNew hD⟩
      · rw [List.nodup_append]
        exact ⟨nd, by simp, fun a ha b hb => by
          rw [List.mem_singleton.mp hb]
          exact fun z => hp_ne (hds a ha).1 hd z.symm⟩
      · rcases List.mem_append.mp hc with q | q
        · obtain ⟨q1, q2, q3⟩ := hds c q
          exact ⟨by rw [upd_ne q3, upd_ne (hp_ne q1 hd).symm]; exact q1, q2, q3⟩
        · rw [List.mem_singleton.mp q]
          exact ⟨by rw [upd_ne nDd.symm]; exact upd_same, hd0, nDd.symm⟩
    · rintro H2 ⟨ds, hl, nd, hDl, hds, s2⟩
      have tab0 : TabAt H2 ds (List.replicate (x.length + 1) []) := ⟨by simp [hl], nd, fun j d e h1 h2 => by
        have e0 : e = [] := (List.mem_replicate.mp (List.mem_of_getElem? h2)).2
        rw [e0]
        exact (hds d (List.mem_of_getElem? h1)).1, fun e he => by rw [(List.mem_replicate.mp he).2]; exact .nil⟩
      have hfr : ∀ d ∈ ds, H d = none ∧ d ≠ D := fun d hd => (hds d hd).2
      obtain ⟨d0, e0, hd0, he0, hdd0, _⟩ := tab0.get (j := 0) (by simp)
      have e00 : e0 = [] := (List.mem_replicate.mp (List.mem_of_getElem? he0)).2
      subst e00
      have nD0 := hfr d0 (List.mem_of_getElem? hd0)
      refine ⟨_, rfl, D, _, _, _, rfl, rfl, SqL.of hDl, atI_nat (j := 0) (by rw [List.getElem?_map, hd0]; rfl), _, rfl, d0, _, rfl, dput_enc hdd0 .nil s 1, ?_⟩
      have okp : OkKV (put [] s 1) := OkKV.nil.put (by omega) 1
      have tab1 := tab0.set hd0 okp
      have sm1 := s2.updNew (o := .dK (enc (put [] s 1))) nD0.1
      have hD1 : upd H2 d0 (.dK (enc (put [] s 1))) D = some (.lst (ds.map V.ref)) := by rw [upd_ne nD0.2.symm]; exact hDl
      have tv1 : ∀ j h, tv ((List.replicate (x.length + 1) ([] : KV)).set 0 (put [] s 1)) j h = run as s x 0 j h := fun j h => by
        have q := tv_set (T := List.replicate (x.length + 1) ([] : KV)) (k := 0) (e := []) he0 s 1 j h
        rw [show val [] s + 1 = 1 from rfl] at q
        rw [q]
        have z : tv (List.replicate (x.length + 1) ([] : KV)) j h = 0 := by
          unfold tv
          cases c : (List.replicate (x.length + 1) ([] : KV))[j]? with
          | none => rfl
          | some e => rw [(List.mem_replicate.mp (List.mem_of_getElem? c)).2]; rfl
        rw [z]
        show 0 + _ = if j = 0 ∧ h = s then (1 : Int) else 0
        omega
      clear tab0 hd0 he0
      refine ⟨_, rfl, _, rfl, hxl, _, rfl, by rw [exl]; omega, by rw [exl]; omega, for_range (lo := 0) (n := x.length) (fun i σ H' => ∃ (T' : List KV) (v4 v5 v6 v7 v8 v9 : Option V), σ = [some (.ref a), some (.int (s : Int)), some (.str (SX.S x)), some (.ref D), v4, v5, v6, v7, v8, v9, none, none] ∧
        H' D = some (.lst (ds.map V.ref)) ∧ TabAt H' ds T' ∧ (∀ j h, tv T' j h = run as s x i j h) ∧ Same H H') ?_ ?_ ?_⟩
      · exact ⟨_, none, none, none, none, none, none, rfl, hD1, tab1, tv1, sm1⟩
      · rintro i σ H3 hi ⟨T3, v4, v5, v6, v7, v8, v9, rfl, hD3, tab3, tv3, sm3⟩
        have hTl : T3.length = x.length + 1 := by rw [← tab3.len, hl]
        obtain ⟨ci, fi, hci, hfi, hcci, okf⟩ := tab3.get (j := i) (by omega)
        have nci := hfr ci (List.mem_of_getElem? hci)
        have ezi : (0 : Int) + (i : Int) = (i : Int) := by omega
        have row : ∀ g, val fi g = run as s x i i g := fun g => by rw [← tv_at hfi, tv3]
        refine ⟨ci, _, hcci, by trivial, fun od => ?_⟩
        have hDf : upd H3 ci (.frz od (.dK (enc fi))) D = some (.lst (ds.map V.ref)) := by rw [upd_ne nci.2.symm]; exact hD3
        refine ⟨_, rfl, _, rfl, D, _, _, _, rfl, rfl, SqL.of hDf, by rw [ezi]; exact atI_nat (by rw [List.getElem?_map, hci]; rfl), ci, od, rfl, .inl ⟨_, upd_same, for_it (walk_keys (kvs := enc fi)) (fun q σ H' => ∃ (T' : List KV) (v5 v6 v7 v8 v9 : Option V), σ = [some (.ref a), some (.int (s : Int)), some (.str (SX.S x)), some (.ref D), some (.int (0 + (i : Int))), v5, v6, v7, v8, v9, none, none] ∧
          H' ci = some (.frz od (.dK (enc fi))) ∧ H' D = some (.lst (ds.map V.ref)) ∧ TabAt (upd H' ci (.dK (enc fi))) ds T' ∧ T'[i]? = some fi ∧ Same H H' ∧
          (∀ j h, tv T' j h = run as s x i j h + (((fi.map (·.1)).take q).map fun g => ((leav as g).map (conN as (con x i (run as s x i) j h))).sum).sum)) ?_ ?_ ?_ ?_⟩⟩
        · refine ⟨T3, v5, v6, v7, v8, v9, rfl, upd_same, hDf, ?_, hfi, sm3.updNew nci.1, fun j h => by rw [tv3]; simp⟩
          rw [upd_upd, upd_self hcci]
          exact tab3
        · rintro q σ H4 _ ⟨_, _, _, _, _, _, _, hf4, _⟩
          exact hf4
        · rintro q y σ H4 H5 hq ⟨T4, v5, v6, v7, v8, v9, rfl, hf4, hD4, tab4, hfi4, sm4, tv4⟩ ⟨rfl, ky, vy, hky, rfl⟩
          obtain ⟨pr, hpr, rfl, rfl⟩ := enc_at hky
          have hkeys : (fi.map (·.1))[q]? = some pr.1 := by rw [List.getElem?_map, hpr]; rfl
          have gpr := get_at okf hpr
          have hprv : pr.2 = run as s x i i pr.1 := by
            rw [← row]
            unfold val
            rw [gpr]
            rfl
          refine ⟨_, rfl, _, rfl, a, as, pr.1, rfl, harc.same sm4, oka.1, fun H5 L s5 hL hLs => ?_⟩
          have nLci : L ≠ ci := hp_ne hf4 hL
          have nLD : L ≠ D := hp_ne hD4 hL
          have sm5 := sm4.trans s5
          refine ⟨L, rfl, ⟨_, SqL.of hLs⟩, for_list (K := K) (a := L) (xs := nats (leav as pr.1)) (fun m σ H' => ∃ (T' : List KV) (v6 v7 v8 v9 : Option V), σ = [some (.ref a), some (.int (s : Int)), some (.str (SX.S x)), some (.ref D), some (.int (0 + (i : Int))), some (.int (pr.1 : Int)), v6, v7, v8, v9, none, none] ∧
            H' L = some (.lst (nats (leav as pr.1))) ∧ H' ci = some (.frz od (.dK (enc fi))) ∧ H' D = some (.lst (ds.map V.ref)) ∧ TabAt (upd H' ci (.dK (enc fi))) ds T' ∧ T'[i]? = some fi ∧ Same H H' ∧
            (∀ j h, tv T' j h = run as s x i j h + (((fi.map (·.1)).take q).map fun g => ((leav as g).map (conN as (con x i (run as s x i) j h))).sum).sum + (((leav as pr.1).take m).map (conN as (con x i (run as s x i) j h))).sum)) ?_ ?_ ?_ ?_⟩
          · exact ⟨T4, v6, v7, v8, v9, rfl, hLs, s5 _ _ hf4, s5 _ _ hD4, tab4.same (same_lift s5), hfi4, sm5, fun j h => by rw [tv4]; simp⟩
          · rintro m σ H6 _ ⟨_, _, _, _, _, _, hL6, _⟩
            exact SqL.of hL6
          · rintro m y σ H6 hy ⟨T6, v6, v7, v8, v9, rfl, hL6, hf6, hD6, tab6, hfi6, sm6, tv6⟩
            rw [List.getElem?_map] at hy
            cases en : (leav as pr.1)[m]? with
            | none => rw [en] at hy; cases hy
            | some n =>
              rw [en] at hy
              cases hy
              obtain ⟨b, hb, hbg⟩ := leav_mem (List.mem_of_getElem? en)
              have hT6 : T6.length = x.length + 1 := by rw [← tab6.len, hl]
              obtain ⟨us, ha, hus⟩ := harc
              obtain ⟨t, hut, htt⟩ := hus.2 n b hb
              obtain ⟨o1, o2, o3, o4⟩ := oka.2 b (List.mem_of_getElem? hb)
              have hw12 : (SX.S b.2.1).length ≤ sizeLine := le_size (by rw [SX.S_len]; omega)
              have hend : ((i : Int) + ((SX.S b.2.1).length : Nat)) = ((i + b.2.1.length : Nat) : Int) := by rw [SX.S_len]; omega
              have snoc : ∀ j h, (((leav as pr.1).take (m + 1)).map (conN as (con x i (run as s x i) j h))).sum = (((leav as pr.1).take m).map (conN as (con x i (run as s x i) j h))).sum + con x i (run as s x i) j h b := fun j h => by
                rw [← take_snoc en, List.map_append, List.sum_append]
                simp [conN, hb]
              rw [ezi]
              refine ⟨_, rfl, _, rfl, a, us, _, _, rfl, rfl, SqL.of (sm6 _ _ ha), atI_nat hut, _, rfl, t, _, rfl, SqT.of (sm6 _ _ htt), fun z => absurd z.1 (by show ¬ HT.sIx 3 0 (some 1) = 0; decide), fun tp htp => ?_⟩
              have st := Same.new (.tup [V.str (SX.S b.2.1), V.int (b.2.2 : Int)]) htp
              have ntL : tp ≠ L := hp_ne hL6 htp
              have ntci : tp ≠ ci := hp_ne hf6 htp
              refine ⟨tp, [V.str (SX.S b.2.1), V.int (b.2.2 : Int)], rfl, SqT.of upd_same, rfl, _, _, rfl, _, _, rfl, rfl, ?_⟩
              refine ⟨_, rfl, _, rfl, _, rfl, _, rfl, _, rfl, _, rfl, hw12, _, _, rfl, rfl, _, rfl, _, rfl, hxl, ?_⟩
              refine ⟨_, rfl, rfl, _, rfl, ?_⟩
              have ecut : cutS (SX.S x) (some (i : Int)) (some ((i : Int) + ((SX.S b.2.1).length : Nat))) = SX.S ((x.drop i).take b.2.1.length) := by rw [hend]; exact cutS_mid x (by omega)
              rw [ecut]
              have emt : (decide (V.str (SX.S ((x.drop i).take b.2.1.length)) = V.str (SX.S b.2.1)) = true) ↔ matchAt x b.2.1 i = true := by
                rw [decide_eq_true_eq]
                unfold matchAt
                rw [beq_iff_eq]
                constructor
                · intro z; injection z with z; exact SX.S_inj z
                · intro z; rw [z]
              refine ite2 (fun c => ?_) (fun c => ?_)
              · have c2 := emt.mp c
                have hle := matchAt_le c2 (by omega)
                obtain ⟨ce, fe, hce, hfe, hcce, okfe⟩ := tab6.get (j := i + b.2.1.length) (by omega)
                have fr := hfr ce (List.mem_of_getElem? hce)
                have nce : ce ≠ ci := fun z => by
                  subst z
                  have e1 := List.getElem?_eq_some_iff.mp hce
                  have e2 := List.getElem?_eq_some_iff.mp hci
                  have := (List.getElem_inj nd).mp (e1.2.trans e2.2.symm)
                  omega
                have hcce6 : H6 ce = some (.dK (enc fe)) := by rw [upd_ne nce] at hcce; exact hcce
                have nceL : ce ≠ L := fun z => by rw [z, hL6] at hcce6; cases hcce6
                have hD7 := st _ _ hD6
                have hf7 := st _ _ hf6
                have hc7 := st _ _ hcce6
                have atE : atI (ds.map V.ref) ((i : Int) + ((SX.S b.2.1).length : Nat)) = some (V.ref ce) := by
                  rw [hend]
                  exact atI_nat (by rw [List.getElem?_map, hce]; rfl)
                refine ⟨_, rfl, _, rfl, _, rfl, _, rfl, hw12, _, _, rfl, rfl, D, _, _, _, rfl, rfl, SqL.of hD7, atE, ?_⟩
                refine ⟨_, rfl, ce, rfl, .inl ⟨_, .inl hc7⟩, _, rfl, _, dget_enc (.inl hc7) _, ?_⟩
                refine ⟨_, rfl, _, rfl, D, _, _, _, rfl, rfl, SqL.of hD7, atI_nat (by rw [List.getElem?_map, hci]; rfl), _, rfl, ci, V.int pr.2, rfl, by have z := dget_enc (.inr ⟨_, hf7⟩) pr.1; rw [gpr] at z; exact z, val fe b.2.2, pr.2, getD_val _ _, rfl, ?_⟩
                refine ⟨_, rfl, _, rfl, ce, _, rfl, dput_enc hc7 okfe b.2.2 (val fe b.2.2 + pr.2), ?_⟩
                have nfe : ¬ i + b.2.1.length = i := by omega
                refine ⟨T6.set (i + b.2.1.length) (put fe b.2.2 (val fe b.2.2 + pr.2)), _, _, _, _, rfl, by rw [upd_ne nceL.symm]; exact st _ _ hL6, by rw [upd_ne nce.symm]; exact hf7, by rw [upd_ne fr.2.symm]; exact hD7, ?_, by rw [List.getElem?_set_ne nfe]; exact hfi6, (sm6.trans st).updNew fr.1, fun j h => ?_⟩
                · rw [upd_comm nce]
                  exact (tab6.same (same_lift st)).set hce (okfe.put (by omega) _)
                · rw [tv_set hfe, tv6, snoc, hprv]
                  have : con x i (run as s x i) j h b = if j = i + b.2.1.length ∧ h = b.2.2 then run as s x i i pr.1 else 0 := by
                    unfold con
                    rw [hbg]
                    by_cases q : j = i + b.2.1.length ∧ h = b.2.2
                    · rw [if_pos ⟨c2, q⟩, if_pos q]
                    · rw [if_neg q, if_neg fun z => q z.2]
                  rw [this]
                  omega
              · refine ⟨T6, _, _, _, _, rfl, st _ _ hL6, st _ _ hf6, st _ _ hD6, tab6.same (same_lift st), hfi6, sm6.trans st, fun j h => ?_⟩
                have : con x i (run as s x i) j h b = 0 := by
                  unfold con
                  rw [if_neg fun z => c (emt.mpr z.1)]
                rw [tv6, snoc, this]
                omega
          · rintro σ H6 ⟨T6, v6, v7, v8, v9, rfl, hL6, hf6, hD6, tab6, hfi6, sm6, tv6⟩
            refine ⟨T6, _, v6, v7, v8, v9, rfl, hf6, hD6, tab6, hfi6, sm6, fun j h => ?_⟩
            rw [tv6, ← take_snoc hkeys, List.map_append, List.sum_append, show (nats (leav as pr.1)).length = (leav as pr.1).length by simp, List.take_length]
            simp
            omega
        · rintro σ H4 ⟨T4, v5, v6, v7, v8, v9, rfl, hf4, hD4, tab4, hfi4, sm4, tv4⟩
          refine ⟨hf4, T4, _, v5, v6, v7, v8, v9, rfl, by rw [upd_ne nci.2.symm]; exact hD4, tab4, fun j h => ?_, sm4.updNew nci.1⟩
          rw [tv4]
          have e1 : (fi.map (·.1)).take (enc fi).length = fi.map (·.1) := List.take_of_length_le (by simp [enc])
          rw [e1, keys_sum _ _ _ okf.nd]
          show _ = run as s x i j h + _
          congr 2
          refine List.map_congr_left fun b hb => ?_
          by_cases c : b.1 ∈ fi.map (·.1)
          · rw [if_pos c]
          · rw [if_neg c]
            have z : run as s x i i b.1 = 0 := by
              rw [← row]
              exact val_none fun p hp e => c (by rw [← e]; exact List.mem_map_of_mem hp)
            unfold con
            rw [z]
            simp
      · rintro σ H3 ⟨T3, v4, v5, v6, v7, v8, v9, rfl, hD3, tab3, tv3, sm3⟩
        have hTl : T3.length = x.length + 1 := by rw [← tab3.len, hl]
        obtain ⟨dn, en, hdn, hen, hddn, okn⟩ := tab3.get (j := x.length) (by omega)
        have ndn := hfr dn (List.mem_of_getElem? hdn)
        refine ⟨dn, _, hddn, by trivial, fun od => ?_⟩
        have hDf : upd H3 dn (.frz od (.dK (enc en))) D = some (.lst (ds.map V.ref)) := by rw [upd_ne ndn.2.symm]; exact hD3
        refine ⟨_, rfl, _, rfl, _, rfl, hxl, D, _, _, _, rfl, rfl, SqL.of hDf, by rw [exl]; exact atI_nat (by rw [List.getElem?_map, hdn]; rfl), dn, od, rfl, .inl ⟨_, upd_same, fun R hR => lc_it (walk_keys (kvs := enc en)) (fun q H' => H' R = some (.lst (((en.map (·.2)).take q).map V.int)) ∧ H' dn = some (.frz od (.dK (enc en))) ∧ H' D = some (.lst (ds.map V.ref)) ∧ Same H H') ?_ ?_ ?_ ?_⟩⟩
        · have nR : R ≠ dn := hp_ne upd_same hR
          have nR2 : R ≠ D := hp_ne hDf hR
          exact ⟨upd_same, by rw [upd_ne nR.symm]; exact upd_same, by rw [upd_ne nR2.symm]; exact hDf, (sm3.updNew ndn.1).trans (Same.new _ hR)⟩
        · rintro q H4 _ ⟨_, hf4, _⟩
          exact hf4
        · rintro q y H4 H5 hq ⟨hR4, hf4, hD4, sm4⟩ ⟨rfl, ky, vy, hky, rfl⟩
          obtain ⟨pr, hpr, rfl, rfl⟩ := enc_at hky
          have nR : R ≠ dn := hp_ne upd_same hR
          have nR2 : R ≠ D := hp_ne hDf hR
          have hq2 : q < en.length := (List.getElem?_eq_some_iff.mp hpr).1
          have hq3 := okn.len
          refine ⟨rfl, _, rfl, _, rfl, _, rfl, hxl, D, _, _, _, rfl, rfl, SqL.of hD4, by rw [exl]; exact atI_nat (by rw [List.getElem?_map, hdn]; rfl), _, rfl, dn, V.int pr.2, rfl, by have z := dget_enc (.inr ⟨_, hf4⟩) pr.1; rw [get_at okn hpr] at z; exact z, _, hR4, lt_size (by rw [List.length_map]; exact Nat.le_trans (List.length_take_le _ _) (by omega)), ?_, by rw [upd_ne nR.symm]; exact hf4, by rw [upd_ne nR2.symm]; exact hD4, sm4.updNew ((sm3.updNew ndn.1).free hR)⟩
          rw [upd_same, ← take_snoc (l := en.map (·.2)) (i := q) (x := pr.2) (by rw [List.getElem?_map, hpr]; rfl)]
          simp
        · rintro H4 ⟨hR4, hf4, hD4, sm4⟩
          rw [List.take_of_length_le (by simp [enc])] at hR4
          refine ⟨hf4, R, en.map (·.2), rfl, SqL.of (by rw [upd_ne (hp_ne upd_same hR)]; exact hR4), ?_⟩
          rw [total_eq okn, show (List.range 64).map (val en) = (List.range 64).map (run as s x x.length x.length) from List.map_congr_left fun g _ => by rw [← tv_at hen, tv3]]
          exact k _ (sm4.updNew ndn.1)
end
end J

set_option Elab.async false
set_option linter.all false
set_option maxRecDepth 100000
set_option maxHeartbeats 4000000
namespace J
open PySem L2
theorem cutS_S (x : List Nat) (lo hi : Option Int) : ∃ u : List Nat, cutS (SX.S x) lo hi = SX.S u ∧ u.length ≤ x.length ∧ ∀ c ∈ u, c ∈ x := by
  refine ⟨(x.drop (HT.sIx (SX.S x).length 0 lo)).take (HT.sIx (SX.S x).length (SX.S x).length hi - HT.sIx (SX.S x).length 0 lo), rfl, ?_, fun c hc => List.mem_of_mem_drop (List.mem_of_mem_take hc)⟩
  rw [List.length_take, List.length_drop]
  omega
theorem mul_S (c n : Nat) (h : 2 ≤ n) : Txt.mul (SX.S [c]) (n : Int) = SX.S (List.replicate n c) := by
  unfold Txt.mul
  rw [if_neg (by omega), if_neg (by simp [SX.S_len]; omega)]
  have e : ∀ (k : Nat) (acc : Array Nat), ((List.replicate k (#[c] : Array Nat)).foldl (· ++ ·) acc) = acc ++ (List.replicate k c).toArray := by
    intro k
    induction k with
    | zero => intro acc; simp
    | succ k ih =>
      intro acc
      rw [List.replicate_succ, List.foldl_cons, ih, List.replicate_succ]
      apply Array.ext'
      simp only [Array.toList_append, List.append_assoc]
      rfl
  show (⟨(List.replicate ((n : Int).toNat) (#[c] : Array Nat)).foldl (· ++ ·) #[]⟩ : Str) = _
  rw [e]
  simp [SX.S]
theorem cnt_nil (as : List Arc) {s : Nat} (h : s ≤ 63) : cnt as s [] = 1 := by
  unfold cnt
  show ((List.range 64).map (fun g => if (0 : Nat) = 0 ∧ g = s then (1 : Int) else 0)).sum = 1
  rw [show (fun g => if (0 : Nat) = 0 ∧ g = s then (1 : Int) else 0) = (fun g => if g = s then (1 : Int) else 0) from by funext g; simp]
  exact sum_single 64 s 1 (by omega)
def perm3 {α : Type} : List α → List α
  | [a, b, c] => [b, c, a]
  | x => x
theorem perm3_vals {zs : List V} {ws : List Value} (h : Vals zs ws) : Vals (perm3 zs) (perm3 ws) := by
  cases h with
  | nil => exact .nil
  | cons h1 t1 => cases t1 with
    | nil => exact .cons h1 .nil
    | cons h2 t2 => cases t2 with
      | nil => exact .cons h1 (.cons h2 .nil)
      | cons h3 t3 => cases t3 with
        | nil => exact .cons h2 (.cons h3 (.cons h1 .nil))
        | cons h4 t4 => exact .cons h1 (.cons h2 (.cons h3 (.cons h4 t4)))
theorem same_len {as : List Arc} {a b : List Nat} (ha : a.Pairwise (· < ·)) (hb : b.Pairwise (· < ·)) (h1 : ∀ x, x ∈ a ↔ Reach as x) (h2 : ∀ x, x ∈ b ↔ Reach as x) : a.length = b.length := by
  have na : a.Nodup := ha.imp fun h => by omega
  have nb : b.Nodup := hb.imp fun h => by omega
  exact ((List.perm_ext_iff_of_nodup na nb).mpr fun x => (h1 x).trans (h2 x).symm).length_eq
def spLaw (K : PySem.W.Frag) : Sp := fun vs H Q _ => ∃ (a : Addr) (ns : List Int), vs = [.ref a] ∧ SqL K H a (ns.map V.int) ∧ ns.length ≤ 63 ∧ ∀ H', Q (.bl true) H'
end J

set_option Elab.async false
set_option linter.all false
set_option maxRecDepth 100000
set_option maxHeartbeats 4000000
namespace J
open PySem L2
theorem LoomAt.same {C : Addr} {H H' : Hp} {p : Addr} {sg : List Nat} {us : List V} {as : List Arc} (h : LoomAt C H p sg us as) (s : Same H H') : LoomAt C H' p sg us as := by
  obtain ⟨dx, Tp, h1, h2, h3, h4⟩ := h
  exact ⟨dx, Tp, s _ _ h1, s _ _ h2, h3.same s, h4⟩
theorem LoomAt.st {ns : List Int} {l q : Addr} {C : Addr} {H H' : Hp} {p : Addr} {sg : List Nat} {us : List V} {as : List Arc} (h : LoomAt C H p sg us as) (st : StAt ns l H q) (x : Ex q H H') : LoomAt C H' p sg us as := by
  obtain ⟨dx, Tp, h1, h2, h3, h4⟩ := h
  have arc := h3.st st x
  obtain ⟨a, b, c, d, e, _, hq, _⟩ := st
  exact ⟨dx, Tp, x _ _ (fun z => by rw [z, hq] at h1; cases h1) h1, x _ _ (fun z => by rw [z, hq] at h2; cases h2) h2, arc, h4⟩
def twins : List Arc := [(0, [97], 0), (0, [97, 97], 0), (0, [97], 1), (1, [97], 0)]
theorem twins_ok : OkArcs [97] twins := by
  refine ⟨by decide, by decide, fun a ha => ?_, (0, [97], 0), rfl, rfl⟩
  unfold twins at ha
  simp only [List.mem_cons, List.not_mem_nil, or_false] at ha
  rcases ha with rfl | rfl | rfl | rfl <;> exact ⟨by decide, ⟨by decide, by decide, by decide⟩, by decide⟩
section
variable {P : Program} {w : World} {K : PySem.W.Frag} {mg : Str → Option Value} {base : Heap}
theorem ok_law (T : Tx K mg) : FnOk P w K mg base CX0 8 T.f_law T.fd_law P_law (spLaw K) := by
  refine T.F_law.ok sc_law (fun vs H Q E h => ?_) (fun cdv A outer s0 H vs Q E hr h => ?_)
  · obtain ⟨a, ns, rfl, _⟩ := h
    rfl
  · obtain ⟨a, ns, rfl, hS, hlen, k⟩ := h
    have G_l_state : FnOk P w K mg base CX0 1 T.f_l_state T.fd_l_state P_l_state (spState K ns) := ok_l_state T ns
    have G_l_draw : FnOk P w K mg base CX0 1 T.f_l_draw T.fd_l_draw P_l_draw (spDraw ns) := ok_l_draw T ns
    have G_l_loom : FnOk P w K mg base CX0 3 T.f_l_loom T.fd_l_loom P_l_loom (spLoom ns) := ok_l_loom T ns
    have G_l_made : FnOk P w K mg base CX0 6 T.f_l_made T.fd_l_made P_l_made (spMade T.C_Loom) := ok_l_made T
    have G_l_met : FnOk P w K mg base CX0 2 T.f_l_met T.fd_l_met P_l_met spMet := ok_l_met T
    have G_l_walk : FnOk P w K mg base CX0 2 T.f_l_walk T.fd_l_walk P_l_walk (spWalk ns) := ok_l_walk T ns
    have G_l_joined : FnOk P w K mg base CX0 1 T.f_l_joined T.fd_l_joined P_l_joined spJoined := ok_l_joined T
    have G_l_is_integer : FnOk P w K mg base CX0 1 T.f_l_is_integer T.fd_l_is_integer P_l_is_integer spInteger := ok_l_is_integer T
    have G_l_counted : FnOk P w K mg base CX0 2 T.f_l_counted T.fd_l_counted P_l_counted spCounted := ok_l_counted T
    have G_count : FnOk P w K mg base CX0 3 T.f_count T.fd_count P_count (spCount T.C_Loom) := ok_count T
    have G_Loom_init : FnOk P w K mg base CX0 4 T.f_Loom_init T.fd_Loom_init P_Loom_init (spInit T.C_Loom) := ok_Loom_init T
    have KB_count_text_loom_state : KBn K T.fd_count P_count 0 ["text", "loom", "state"] (fun _ ws => perm3 ws) (fun _ zs => perm3 zs) :=
      T.F_count.kbinds perm3 (fun _ _ _ _ _ _ ws hl => match ws, hl with | [_, _, _], _ => rfl) perm3_vals
    refine ⟨_, (pss_cons (ps_set (i := 1) sc_law.nd rfl (Or.inr rfl) (pe_call G_l_state (hr.mono (by decide)) rfl T.m_l_state T.F_l_state.kp T.b_l_state .nil pass0 (pa_cons (pv 0) pa_nil)))
        (pss_cons (ps_for PassesOwn.never rfl (pi_range1 rfl T.n_range (pa_cons pe_int pa_nil)) (pg_name (i := 2) sc_law.nd rfl (Or.inl rfl)) (pss_cons (ps_set (i := 3) sc_law.nd rfl (Or.inl rfl) (pe_call G_l_loom (hr.mono (by decide)) rfl T.m_l_loom T.F_l_loom.kp T.b_l_loom .nil pass0 (pa_cons (pv 1) pa_nil)))
        (pss_cons (ps_asg (pv 3) (pg_tup rfl (pgs_cons (pg_name (i := 4) sc_law.nd rfl (Or.inr rfl)) (pgs_cons (pg_name (i := 5) sc_law.nd rfl (Or.inl rfl)) pgs_nil))))
        (pss_cons (ps_set (i := 6) sc_law.nd rfl (Or.inl rfl) (pe_call G_l_made (hr.mono (by decide)) rfl T.m_l_made T.F_l_made.kp T.b_l_made .nil pass0 (pa_cons (pv 3) pa_nil)))
        (pss_cons (ps_set (i := 7) sc_law.nd rfl (Or.inl rfl) (pe_ix (ix_listK (K := K) rfl) (pe_call G_l_met (hr.mono (by decide)) rfl T.m_l_met T.F_l_met.kp T.b_l_met .nil pass0 (pa_cons (pv 5) pa_nil)) (pe_call G_l_draw (hr.mono (by decide)) rfl T.m_l_draw T.F_l_draw.kp T.b_l_draw .nil pass0 (pa_cons (pv 1) (pa_cons (pe_callB (call_len_seqK (K := K) rfl) rfl T.n_len (by decide +kernel) (pa_cons (pe_call G_l_met (hr.mono (by decide)) rfl T.m_l_met T.F_l_met.kp T.b_l_met .nil pass0 (pa_cons (pv 5) pa_nil)) pa_nil)) pa_nil))) (fun _ _ => rfl)))
        (pss_cons (ps_set (i := 8) sc_law.nd rfl (Or.inl rfl) (pe_ix (ix_listK (K := K) rfl) (pe_lst (pa_cons pe_int (pa_cons pe_int (pa_cons pe_int (pa_cons pe_int (pa_cons pe_int pa_nil)))))) (pe_call G_l_draw (hr.mono (by decide)) rfl T.m_l_draw T.F_l_draw.kp T.b_l_draw .nil pass0 (pa_cons (pv 1) (pa_cons pe_int pa_nil))) (fun _ _ => rfl)))
        (pss_cons (ps_set (i := 9) sc_law.nd rfl (Or.inl rfl) (pe_slice sl_str (pe_call G_l_joined (hr.mono (by decide)) rfl T.m_l_joined T.F_l_joined.kp T.b_l_joined .nil pass0 (pa_cons (pv 5) (pa_cons (pe_call G_l_walk (hr.mono (by decide)) rfl T.m_l_walk T.F_l_walk.kp T.b_l_walk .nil pass0 (pa_cons (pv 1) (pa_cons (pv 5) (pa_cons (pv 7) (pa_cons (pv 8) pa_nil))))) pa_nil))) po_none (po_some pe_int)))
        (pss_cons (ps_set (i := 10) sc_law.nd rfl (Or.inl rfl) (pe_lst (pa_cons (pv 9) (pa_cons (pe_slice sl_str (pv 9) po_none (po_some (pe_un un_neg pe_int))) (pa_cons (pe_op op_add_str (pv 9) (pe_ix ix_str (pv 4) pe_int (fun _ _ => rfl))) (pa_cons (pe_join pe_str (pe_lc (own := [("_law_k", 15)]) (g := (gName 15)) rfl sc_law.nd (pi_range1 rfl T.n_range (pa_cons (pv 8) pa_nil)) (blkOk_by (N := N_law) (sc := defScope s_law) (by decide +kernel)) (fun _ _ _ _ _ => (pg_name (i := 15) sc_law.nd rfl (Or.inl rfl))) (fun _ _ _ _ _ => pts_nil) (fun _ _ _ _ _ => (pe_ix ix_str (pv 4) (pe_call G_l_draw (hr.mono (by decide)) rfl T.m_l_draw T.F_l_draw.kp T.b_l_draw .nil pass0 (pa_cons (pv 1) (pa_cons (pe_callB call_len_str rfl T.n_len (by decide +kernel) (pa_cons (pv 4) pa_nil)) pa_nil))) (fun _ _ => rfl))))) (pa_cons pe_str pa_nil)))))))
        (pss_cons (ps_for PassesOwn.never rfl (pi_list (pv 10)) (pg_name (i := 11) sc_law.nd rfl (Or.inl rfl)) (pss_cons (ps_set (i := 12) sc_law.nd rfl (Or.inl rfl) (pe_call G_count (hr.mono (by decide)) rfl T.m_count T.F_count.kp T.b_count .nil pass0 (pa_cons (pv 6) (pa_cons (pv 7) (pa_cons (pv 11) pa_nil)))))
        (pss_one (ps_if (PW.pt (pw_or (pt_not (pt_val (pe_call G_l_is_integer (hr.mono (by decide)) rfl T.m_l_is_integer T.F_l_is_integer.kp T.b_l_is_integer .nil pass0 (pa_cons (pv 12) pa_nil)))) (pw_or1 (pt_cmpR op_ne (pv 12) (pe_call G_l_counted (hr.mono (by decide)) rfl T.m_l_counted T.F_l_counted.kp T.b_l_counted .nil pass0 (pa_cons (pv 5) (pa_cons (pv 7) (pa_cons (pv 11) pa_nil)))) (nomark _))))) (pss_one (ps_ret pe_bl)) pss_nil))))
        (pss_one (ps_if (PW.pt (pw_or (pt_cmpR op_ne (pe_callN0 G_count (hr.mono (by decide)) rfl T.m_count T.F_count.kp KB_count_text_loom_state pass0 (pk_cons (pv 9) (pk_cons (pv 6) (pk_cons (pv 7) pk_nil)))) (pe_call G_count (hr.mono (by decide)) rfl T.m_count T.F_count.kp T.b_count .nil pass0 (pa_cons (pv 6) (pa_cons (pv 7) (pa_cons (pv 9) pa_nil)))) (nomark _)) (pw_or1 (pt_cmpR op_ne (pe_call G_count (hr.mono (by decide)) rfl T.m_count T.F_count.kp T.b_count .nil pass0 (pa_cons (pv 6) (pa_cons (pv 7) (pa_cons pe_str pa_nil)))) pe_int (nomark _))))) (pss_one (ps_ret pe_bl)) pss_nil)))))))))))
        (pss_cons (ps_if (pt_cmpR op_gt (pe_call G_l_draw (hr.mono (by decide)) rfl T.m_l_draw T.F_l_draw.kp T.b_l_draw .nil pass0 (pa_cons (pv 1) (pa_cons pe_int pa_nil))) pe_int (nomark _)) (pss_one (ps_ret pe_bl)) pss_nil)
        (pss_cons (ps_set (i := 13) sc_law.nd rfl (Or.inl rfl) (pe_lst (pa_cons (pe_tup (pa_cons pe_int (pa_cons pe_str (pa_cons pe_int pa_nil)))) (pa_cons (pe_tup (pa_cons pe_int (pa_cons pe_str (pa_cons pe_int pa_nil)))) (pa_cons (pe_tup (pa_cons pe_int (pa_cons pe_str (pa_cons pe_int pa_nil)))) (pa_cons (pe_tup (pa_cons pe_int (pa_cons pe_str (pa_cons pe_int pa_nil)))) pa_nil))))))
        (pss_cons (ps_set (i := 14) sc_law.nd rfl (Or.inl rfl) (pe_op op_mul_str pe_str (pe_op op_add pe_int (pe_call G_l_draw (hr.mono (by decide)) rfl T.m_l_draw T.F_l_draw.kp T.b_l_draw .nil pass0 (pa_cons (pv 1) (pa_cons pe_int pa_nil))))))
        (pss_one (ps_ret (pe_cmpR op_eq (pe_call G_count (hr.mono (by decide)) rfl T.m_count T.F_count.kp T.b_count .nil pass0 (pa_cons (pe_make T.M_Loom G_Loom_init (hr.mono (by decide)) rfl T.g_Loom T.b_Loom_init .nil pass0 (pa_cons pe_str (pa_cons (pv 13) pa_nil))) (pa_cons pe_int (pa_cons (pv 14) pa_nil)))) (pe_call G_l_counted (hr.mono (by decide)) rfl T.m_l_counted T.F_l_counted.kp T.b_l_counted .nil pass0 (pa_cons (pv 13) (pa_cons pe_int (pa_cons (pv 14) pa_nil)))) (nomark _))))))))), ?_⟩
    refine ⟨_, rfl, a, rfl, hS, fun H1 p l s1 hp hl st1 => ?_⟩
    refine ⟨2, rfl, by decide, by decide, for_range (lo := 0) (n := 2) (fun i σ H' => ∃ v2 v3 v4 v5 v6 v7 v8 v9 v10 v11 v12 : Option V, σ = [some (.ref a), some (.ref p), v2, v3, v4, v5, v6, v7, v8, v9, v10, v11, v12, none, none, none] ∧ StAt ns l H' p) ?_ ?_ ?_⟩
    · exact ⟨none, none, none, none, none, none, none, none, none, none, none, rfl, st1⟩
    · rintro i σ H2 hi ⟨v2, v3, v4, v5, v6, v7, v8, v9, v10, v11, v12, rfl, st2⟩
      refine ⟨_, rfl, p, l, rfl, st2, fun H3 q r sg us as x3 st3 hq hr htup hlst harc hok hsg => ?_⟩
      refine ⟨_, rfl, q, _, rfl, SqT.of htup, rfl, _, _, rfl, _, _, rfl, rfl, ?_⟩
      refine ⟨_, rfl, q, r, sg, us, as, rfl, htup, hlst, harc, hok, hsg, fun H4 lm s4 hlm hloom => ?_⟩
      have oka := hok.all
      have arc4 : ArcL H4 r as := ⟨us, s4 _ _ hlst, harc.same s4⟩
      have hrp : r ≠ p := by
        have := (st2.ne hr).1
        exact this
      -- a state that is met
      have st4 := st3.same s4
      refine ⟨_, rfl, r, as, rfl, arc4, oka, fun H5 m1 ms s5 hm1 hms hpw hmem => ?_⟩
      have arc5 := arc4.same s5
      have st5 := st4.same s5
      refine ⟨_, rfl, _, rfl, r, as, rfl, arc5, oka, fun H6 m2 ms2 s6 hm2 hms2 hpw2 hmem2 => ⟨m2, _, rfl, .inl (SqL.of hms2), ?_⟩⟩
      have st6 := st5.same s6
      have hlen12 := same_len hpw hpw2 hmem hmem2
      have hms0 : 0 < ms.length := List.length_pos_of_mem ((hmem 0).mpr .zero)
      have hms64 : ms.length ≤ 64 := nodup_le 64 ms (hpw.imp fun h => by omega) fun x hx => by have := ((hmem x).mp hx).le oka; omega
      have nm1 := st4.ne hm1
      refine ⟨p, l, _, rfl, st6, by rw [List.length_map]; omega, by rw [List.length_map]; omega, fun H7 r7 x7 st7 r70 r71 => ?_⟩
      rw [List.length_map] at r71
      obtain ⟨j, rfl⟩ := Int.eq_ofNat_of_zero_le r70
      have hj : j < ms.length := by have : j < ms2.length := by exact_mod_cast r71
                                    omega
      refine ⟨m1, _, _, _, rfl, rfl, SqL.of (x7 _ _ nm1.1 (s6 _ _ hms)), atI_nat (by rw [List.getElem?_map, List.getElem?_eq_getElem hj]; rfl), ?_⟩
      have hg : ms[j] ≤ 63 := ((hmem _).mp (List.getElem_mem hj)).le oka
      generalize ms[j] = g at hg
      have arc7 : ArcL H7 r as := (arc5.same s6).ex st6 x7 hrp
      -- how long
      refine ⟨le_size (by decide), fun D8 hD8 => ?_⟩
      have sn8 := Same.new (.lst [V.int 4, V.int 12, V.int 40, V.int 40, V.int 120]) hD8
      have nD8 := st7.ne hD8
      refine ⟨_, rfl, p, l, 5, rfl, st7.same sn8, by decide, by decide, fun H8 r8 x8 st8 r80 r81 => ?_⟩
      obtain ⟨vz, hvz, hat8⟩ := atI_mem (xs := ([V.int 4, V.int 12, V.int 40, V.int 40, V.int 120] : List V)) r80 (by simpa using r81)
      refine ⟨D8, _, _, vz, rfl, rfl, SqL.of (x8 _ _ nD8.1 upd_same), hat8, ?_⟩
      obtain ⟨z, rfl, hz0, hz1⟩ : ∃ z : Int, vz = .int z ∧ 0 ≤ z ∧ z ≤ 120 := by
        simp only [List.mem_cons, List.not_mem_nil, or_false] at hvz
        rcases hvz with rfl | rfl | rfl | rfl | rfl <;> exact ⟨_, rfl, by decide, by decide⟩
      have arc8 : ArcL H8 r as := (arc7.same sn8).ex (st7.same sn8) x8 hrp
      -- the text
      refine ⟨_, rfl, _, rfl, _, rfl, _, rfl, _, rfl, p, l, r, as, g, z, rfl, st8, hrp, arc8, oka, hz0, by omega, fun H9 rw9 row x9 st9 hrw0 hrwp hrow hin hrl => ?_⟩
      have arc9 := arc8.ex st8 x9 hrp
      refine ⟨r, rw9, as, row, rfl, arc9, oka, hrow, hin, by omega, fun H10 s10 => ?_⟩
      have hrt := rowText_len oka row
      refine ⟨_, rfl, _, rfl, le_size (by rw [SX.S_len]; omega), ?_⟩
      obtain ⟨tx, etx, ltx, htx⟩ := cutS_S (rowText as row) none (some 150)
      rw [etx]
      have htxs : ∀ c ∈ tx, c ∈ sg := fun c hc => rowText_in hok row c (htx c hc)
      have hsgl := hsg.len
      have ltx2 : tx.length ≤ 1440 := by omega
      have hsz : (SX.S tx).length ≤ sizeLine := le_size (by rw [SX.S_len]; omega)
      -- the texts to be counted
      refine ⟨_, rfl, _, rfl, _, rfl, _, rfl, _, rfl, hsz, ?_⟩
      obtain ⟨t2, et2, lt2, ht2⟩ := cutS_S tx none (some (-1))
      show tCons _ _ _ _ _
      rw [et2]
      obtain ⟨c0, hc0, hat0⟩ := atI_mem (xs := sg) (i := 0) (by decide) (by omega)
      refine ⟨_, rfl, _, rfl, _, _, c0, rfl, rfl, le_size (by rw [SX.S_len]; omega), hat0, _, _, rfl, rfl, le_size (by rw [SX.S_len]; show tx.length + 1 ≤ 100000; omega), ?_⟩
      have st10 := st9.same s10
      refine ⟨⟨_, rfl⟩, _, rfl, _, rfl, by omega, by omega, fun D hD => lc_range (lo := 0) (n := z.toNat) (fun i H' => ∃ js : List Nat, js.length = i ∧ (∀ c ∈ js, c ∈ sg) ∧ H' D = some (.lst ((js.map fun c => SX.S [c]).map V.str)) ∧ Ex p H10 H' ∧ StAt ns l H' p) ?_ ?_ ?_⟩
      · exact ⟨[], rfl, fun _ h => (nomatch h), upd_same, Ex.new _ hD, st10.same (Same.new _ hD)⟩
      · rintro i H11 hi ⟨js, rfl, hu, hDs, x11, st11⟩
        refine ⟨rfl, ?_⟩
        refine ⟨_, rfl, _, rfl, _, rfl, _, rfl, le_size (by rw [SX.S_len]; omega), p, l, _, rfl, st11, by rw [SX.S_len]; omega, by rw [SX.S_len]; omega, fun H12 r12 x12 st12 r120 r121 => ?_⟩
        rw [SX.S_len] at r121
        obtain ⟨c, hc, hat⟩ := atI_mem (xs := sg) r120 r121
        have nD := st10.ne hD
        refine ⟨_, _, c, rfl, rfl, le_size (by rw [SX.S_len]; omega), hat, _, x12 _ _ nD.1 hDs, lt_size (by simp; omega), js ++ [c], by simp, ?_, ?_, (x11.trans x12).updNew hD, st12.upd nD⟩
        · intro d hd
          rcases List.mem_append.mp hd with h | h
          · exact hu d h
          · rw [List.mem_singleton.mp h]; exact hc
        · rw [upd_same]; simp
      · rintro H11 ⟨js, hul, hu, hDs, x11, st11⟩
        have hf : ∀ l : List Nat, (l.map fun c => [c]).flatten = l := fun l => by induction l with
          | nil => rfl
          | cons a l ih => simpa using ih
        refine ⟨_, _, js.map fun c => SX.S [c], rfl, rfl, .inl (SqL.of hDs), by rw [sum_ones, emptyS, SX.S_len]; simp; omega, ?_⟩
        have e4 : js.map (fun c => SX.S [c]) = (js.map fun c => [c]).map SX.S := by rw [List.map_map]; rfl
        rw [e4, emptyS, join_flat, hf]
        refine ⟨le_size (show 5 ≤ 100000 by decide), fun M hM => ?_⟩
        have nM := st11.ne hM
        have sM := Same.new (.lst [V.str (SX.S tx), V.str (SX.S t2), V.str (SX.S tx ++ ⟨#[c0]⟩), V.str (SX.S js), V.str (SX.S [])]) hM
        have arc11 : ArcL (upd H11 M (.lst [V.str (SX.S tx), V.str (SX.S t2), V.str (SX.S tx ++ ⟨#[c0]⟩), V.str (SX.S js), V.str (SX.S [])])) r as := ((arc9.same s10).ex st10 x11 hrp).same sM
        have loom11 : LoomAt T.C_Loom (upd H11 M (.lst [V.str (SX.S tx), V.str (SX.S t2), V.str (SX.S tx ++ ⟨#[c0]⟩), V.str (SX.S js), V.str (SX.S [])])) lm sg us as :=
          (((((((hloom.same (s5.trans s6)).st st6 x7).same sn8).st (st7.same sn8) x8).st st8 x9).same s10).st st10 x11).same sM
        have stM := st11.same sM
        have cat3 : SX.S tx ++ (⟨#[c0]⟩ : Str) = SX.S (tx ++ [c0]) := SX.S_cat tx [c0]
        have hfive : ∀ v ∈ [V.str (SX.S tx), V.str (SX.S t2), V.str (SX.S tx ++ ⟨#[c0]⟩), V.str (SX.S js), V.str (SX.S [])], ∃ u : List Nat, v = .str (SX.S u) ∧ u.length ≤ 2000 ∧ ∀ c ∈ u, c ∈ sg := fun v hv => by
          simp only [List.mem_cons, List.not_mem_nil, or_false] at hv
          rcases hv with rfl | rfl | rfl | rfl | rfl
          · exact ⟨tx, rfl, by omega, htxs⟩
          · exact ⟨t2, rfl, by omega, fun c hc => htxs c (ht2 c hc)⟩
          · rw [cat3]
            refine ⟨tx ++ [c0], rfl, by simp; omega, fun c hc => ?_⟩
            rcases List.mem_append.mp hc with h | h
            · exact htxs c h
            · rw [List.mem_singleton.mp h]; exact hc0
          · exact ⟨js, rfl, by omega, hu⟩
          · exact ⟨[], rfl, by simp, fun c hc => absurd hc (List.not_mem_nil)⟩
        generalize hHM : upd H11 M (.lst [V.str (SX.S tx), V.str (SX.S t2), V.str (SX.S tx ++ ⟨#[c0]⟩), V.str (SX.S js), V.str (SX.S [])]) = HM at arc11 loom11 stM
        have hMl : HM M = some (.lst [V.str (SX.S tx), V.str (SX.S t2), V.str (SX.S tx ++ ⟨#[c0]⟩), V.str (SX.S js), V.str (SX.S [])]) := by rw [← hHM]; exact upd_same
        refine ⟨_, rfl, M, rfl, ⟨_, SqL.of hMl⟩, for_list (K := K) (a := M) (xs := [V.str (SX.S tx), V.str (SX.S t2), V.str (SX.S tx ++ ⟨#[c0]⟩), V.str (SX.S js), V.str (SX.S [])]) (fun m σ H' => ∃ v11 v12 : Option V, σ = [some (.ref a), some (.ref p), some (.int (0 + (i : Int))), some (.ref q), some (.str (SX.S sg)), some (.ref r), some (.ref lm), some (.int (g : Int)), some (.int z), some (.str (SX.S tx)), some (.ref M), v11, v12, none, none, none] ∧ Same HM H') ?_ ?_ ?_ ?_⟩
        · exact ⟨v11, v12, rfl, .refl _⟩
        · rintro m σ H12 _ ⟨_, _, _, sm⟩
          exact SqL.of (sm _ _ hMl)
        · rintro m y σ H12 hy ⟨w11, w12, rfl, sm⟩
          obtain ⟨u, rfl, hul2, hus⟩ := hfive y (List.mem_of_getElem? hy)
          refine ⟨_, rfl, _, rfl, _, rfl, lm, sg, us, as, g, u, rfl, loom11.same sm, hg, hul2, hus, fun H13 s13 => ?_⟩
          refine ⟨_, rfl, _, rfl, true, rfl, ?_⟩
          refine ⟨_, rfl, _, rfl, _, rfl, _, rfl, r, as, g, u, rfl, arc11.same (sm.trans s13), oka, hg, hul2, fun H14 s14 => ⟨rfl, _, rfl, ?_⟩⟩
          refine iteNS rfl ?_
          exact ⟨_, _, rfl, sm.trans (s13.trans s14)⟩
        · rintro σ H12 ⟨w11, w12, rfl, sm⟩
          refine ⟨_, rfl, _, rfl, _, rfl, rfl, rfl, lm, sg, us, as, g, tx, rfl, loom11.same sm, hg, by omega, htxs, fun H13 s13 => ?_⟩
          refine ⟨_, rfl, _, rfl, _, rfl, lm, sg, us, as, g, tx, rfl, loom11.same (sm.trans s13), hg, by omega, htxs, fun H14 s14 => ⟨rfl, _, rfl, ?_⟩⟩
          refine iteNS rfl ?_
          refine ⟨_, rfl, _, rfl, lm, sg, us, as, g, [], rfl, loom11.same (sm.trans (s13.trans s14)), hg, by simp, fun c hc => absurd hc (List.not_mem_nil), fun H15 s15 => ⟨rfl, _, rfl, ?_⟩⟩
          rw [cnt_nil as hg]
          refine iteNS rfl ?_
          exact ⟨_, _, _, _, _, _, _, _, _, _, _, rfl, stM.same (sm.trans (s13.trans (s14.trans s15)))⟩
    · rintro σ H2 ⟨v2, v3, v4, v5, v6, v7, v8, v9, v10, v11, v12, rfl, st2⟩
      refine ⟨_, rfl, p, l, 12, rfl, st2, by decide, by decide, fun H3 r3 x3 st3 r30 r31 => ⟨_, _, rfl, rfl, _, rfl, ?_⟩⟩
      refine ite2 (fun c => ?_) (fun c => ?_)
      · exact k _
      · refine ⟨le_size (show 3 ≤ 100000 by decide), fun t1 ht1 => ⟨le_size (show 3 ≤ 100000 by decide), fun t2 ht2 => ⟨le_size (show 3 ≤ 100000 by decide), fun t3 ht3 => ⟨le_size (show 3 ≤ 100000 by decide), fun t4 ht4 => ⟨le_size (show 4 ≤ 100000 by decide), fun tw htw => ?_⟩⟩⟩⟩⟩
        have e1 := Same.new (.tup [V.int 0, V.str "a", V.int 0]) ht1
        have e2 := Same.new (.tup [V.int 0, V.str "aa", V.int 0]) ht2
        have e3 := Same.new (.tup [V.int 0, V.str "a", V.int 1]) ht3
        have e4 := Same.new (.tup [V.int 1, V.str "a", V.int 0]) ht4
        have e5 := Same.new (.lst [V.ref t1, V.ref t2, V.ref t3, V.ref t4]) htw
        have st8 := ((((st3.same e1).same e2).same e3).same e4).same e5
        have ntw : tw ≠ p := ((((st3.same e1).same e2).same e3).same e4 |>.ne htw).1
        have A4 : Arcs _ ([] ++ [V.ref t1] ++ [V.ref t2] ++ [V.ref t3] ++ [V.ref t4]) ([] ++ [(0, [97], 0)] ++ [(0, [97, 97], 0)] ++ [(0, [97], 1)] ++ [(1, [97], 0)]) :=
          ((((Arcs.nil _).snoc (t := t1) (a := (0, [97], 0)) (e5 _ _ (e4 _ _ (e3 _ _ (e2 _ _ upd_same))))).snoc (t := t2) (a := (0, [97, 97], 0)) (e5 _ _ (e4 _ _ (e3 _ _ upd_same)))).snoc (t := t3) (a := (0, [97], 1)) (e5 _ _ (e4 _ _ upd_same))).snoc (t := t4) (a := (1, [97], 0)) (e5 _ _ upd_same)
        have A4' : Arcs _ [V.ref t1, V.ref t2, V.ref t3, V.ref t4] twins := A4
        have htwl : upd (upd (upd (upd (upd H3 t1 (.tup [V.int 0, V.str "a", V.int 0])) t2 (.tup [V.int 0, V.str "aa", V.int 0])) t3 (.tup [V.int 0, V.str "a", V.int 1])) t4 (.tup [V.int 1, V.str "a", V.int 0])) tw (.lst [V.ref t1, V.ref t2, V.ref t3, V.ref t4]) tw = some (.lst [V.ref t1, V.ref t2, V.ref t3, V.ref t4]) := upd_same
        generalize upd (upd (upd (upd (upd H3 t1 (.tup [V.int 0, V.str "a", V.int 0])) t2 (.tup [V.int 0, V.str "aa", V.int 0])) t3 (.tup [V.int 0, V.str "a", V.int 1])) t4 (.tup [V.int 1, V.str "a", V.int 0])) tw (.lst [V.ref t1, V.ref t2, V.ref t3, V.ref t4]) = H8 at st8 A4' htwl
        refine ⟨_, rfl, p, l, 11, rfl, st8, by decide, by decide, fun H9 r9 x9 st9 r90 r91 => ⟨_, _, rfl, rfl, _, _, rfl, rfl, by decide, by omega, by omega, ?_⟩⟩
        obtain ⟨j, rfl⟩ := Int.eq_ofNat_of_zero_le r90
        have ej : (1990 : Int) + (j : Int) = ((1990 + j : Nat) : Int) := by omega
        have emul : Txt.mul (Str.ofString "a") ((1990 : Int) + (j : Int)) = SX.S (List.replicate (1990 + j) 97) := by rw [ej]; exact mul_S 97 (1990 + j) (by omega)
        rw [emul]
        have hj : j ≤ 10 := by omega
        have htw9 := x9 _ _ ntw htwl
        have A9 := A4'.st st8 x9
        refine ⟨_, rfl, ?_⟩
        intro x dx hx hdx hne
        have s10 : Same H9 (upd (upd H9 dx (.own x)) x (.ins T.C_Loom dx [])) := (Same.new _ hdx).trans (Same.new _ (by rw [upd_ne hne.symm]; exact hx))
        refine ⟨x, dx, tw, [97], [V.ref t1, V.ref t2, V.ref t3, V.ref t4], twins, rfl, upd_same, s10 _ _ htw9, A9.same s10, twins_ok, by unfold Signs; decide, fun H11 Tp x11 hTp hTus hx11 => ⟨rfl, ?_⟩⟩
        have s11 : Same H9 H11 := fun b o e => x11 _ _ (ne_of_none e hx) (s10 _ _ e)
        have hin : ∀ c ∈ List.replicate (1990 + j) 97, c ∈ ([97] : List Nat) := fun c hc => by rw [(List.mem_replicate.mp hc).2]; simp
        refine ⟨_, rfl, x, [97], [V.ref t1, V.ref t2, V.ref t3, V.ref t4], twins, 0, List.replicate (1990 + j) 97, rfl, ⟨dx, Tp, hx11, hTus, A9.same s11, twins_ok, by unfold Signs; decide⟩, by decide, by simp; omega, hin, fun H12 s12 => ?_⟩
        refine ⟨_, rfl, _, rfl, tw, twins, 0, List.replicate (1990 + j) 97, rfl, ⟨_, s12 _ _ (s11 _ _ htw9), A9.same (s11.trans s12)⟩, twins_ok.all, by decide, by simp; omega, fun H13 s13 => ⟨rfl, ?_⟩⟩
        rw [decide_eq_true rfl]
        exact k _
end
end J

set_option Elab.async false
set_option linter.all false
set_option maxRecDepth 100000
set_option maxHeartbeats 4000000
namespace J
open PySem L2
theorem all_mk {l : PySem.W.OpenLaw} {w : World} {K : PySem.W.Frag} {h : Heap} {mg : Str → Option Value} {fa f_InvalidLoom_init f_is_number f_is_sequence f_is_signs f_is_string_over f_is_word f_check_signs f_check_state f_check_text f_count f_is_arc f_Loom_init f_Loom_eq f_l_state f_l_draw f_l_is_integer f_l_word f_l_loom f_l_made f_l_leaving f_l_met f_l_joined f_l_end f_l_walk f_l_counted f_law C_InvalidLoom C_Loom : Addr} (X : K.In h) (G : h.Ns mainGlobals mg) (hfa : mg "law" = some (.ref fa))
    {od_InvalidLoom_init an_InvalidLoom_init : Option Addr} {sl_InvalidLoom_init : Array (Option Value)} {oc_InvalidLoom_init kV_InvalidLoom_init dc_InvalidLoom_init pm_InvalidLoom_init cd_InvalidLoom_init ct_InvalidLoom_init : Value}
    {od_is_number an_is_number : Option Addr} {sl_is_number : Array (Option Value)} {oc_is_number kV_is_number dc_is_number pm_is_number cd_is_number ct_is_number : Value}
    {od_is_sequence an_is_sequence : Option Addr} {sl_is_sequence : Array (Option Value)} {oc_is_sequence kV_is_sequence dc_is_sequence pm_is_sequence cd_is_sequence ct_is_sequence : Value}
    {od_is_signs an_is_signs : Option Addr} {sl_is_signs : Array (Option Value)} {oc_is_signs kV_is_signs dc_is_signs pm_is_signs cd_is_signs ct_is_signs : Value}
    {od_is_string_over an_is_string_over : Option Addr} {sl_is_string_over : Array (Option Value)} {oc_is_string_over kV_is_string_over dc_is_string_over pm_is_string_over cd_is_string_over ct_is_string_over : Value}
    {od_is_word an_is_word : Option Addr} {sl_is_word : Array (Option Value)} {oc_is_word kV_is_word dc_is_word pm_is_word cd_is_word ct_is_word : Value}
    {od_check_signs an_check_signs : Option Addr} {sl_check_signs : Array (Option Value)} {oc_check_signs kV_check_signs dc_check_signs pm_check_signs cd_check_signs ct_check_signs : Value}
    {od_check_state an_check_state : Option Addr} {sl_check_state : Array (Option Value)} {oc_check_state kV_check_state dc_check_state pm_check_state cd_check_state ct_check_state : Value}
    {od_check_text an_check_text : Option Addr} {sl_check_text : Array (Option Value)} {oc_check_text kV_check_text dc_check_text pm_check_text cd_check_text ct_check_text : Value}
    {od_count an_count : Option Addr} {sl_count : Array (Option Value)} {oc_count kV_count dc_count pm_count cd_count ct_count : Value}
    {od_is_arc an_is_arc : Option Addr} {sl_is_arc : Array (Option Value)} {oc_is_arc kV_is_arc dc_is_arc pm_is_arc cd_is_arc ct_is_arc : Value}
    {od_Loom_init an_Loom_init : Option Addr} {sl_Loom_init : Array (Option Value)} {oc_Loom_init kV_Loom_init dc_Loom_init pm_Loom_init cd_Loom_init ct_Loom_init : Value}
    {od_Loom_eq an_Loom_eq : Option Addr} {sl_Loom_eq : Array (Option Value)} {oc_Loom_eq kV_Loom_eq dc_Loom_eq pm_Loom_eq cd_Loom_eq ct_Loom_eq : Value}
    {od_l_state an_l_state : Option Addr} {sl_l_state : Array (Option Value)} {oc_l_state kV_l_state dc_l_state pm_l_state cd_l_state ct_l_state : Value}
    {od_l_draw an_l_draw : Option Addr} {sl_l_draw : Array (Option Value)} {oc_l_draw kV_l_draw dc_l_draw pm_l_draw cd_l_draw ct_l_draw : Value}
    {od_l_is_integer an_l_is_integer : Option Addr} {sl_l_is_integer : Array (Option Value)} {oc_l_is_integer kV_l_is_integer dc_l_is_integer pm_l_is_integer cd_l_is_integer ct_l_is_integer : Value}
    {od_l_word an_l_word : Option Addr} {sl_l_word : Array (Option Value)} {oc_l_word kV_l_word dc_l_word pm_l_word cd_l_word ct_l_word : Value}
    {od_l_loom an_l_loom : Option Addr} {sl_l_loom : Array (Option Value)} {oc_l_loom kV_l_loom dc_l_loom pm_l_loom cd_l_loom ct_l_loom : Value}
    {od_l_made an_l_made : Option Addr} {sl_l_made : Array (Option Value)} {oc_l_made kV_l_made dc_l_made pm_l_made cd_l_made ct_l_made : Value}
    {od_l_leaving an_l_leaving : Option Addr} {sl_l_leaving : Array (Option Value)} {oc_l_leaving kV_l_leaving dc_l_leaving pm_l_leaving cd_l_leaving ct_l_leaving : Value}
    {od_l_met an_l_met : Option Addr} {sl_l_met : Array (Option Value)} {oc_l_met kV_l_met dc_l_met pm_l_met cd_l_met ct_l_met : Value}
    {od_l_joined an_l_joined : Option Addr} {sl_l_joined : Array (Option Value)} {oc_l_joined kV_l_joined dc_l_joined pm_l_joined cd_l_joined ct_l_joined : Value}
    {od_l_end an_l_end : Option Addr} {sl_l_end : Array (Option Value)} {oc_l_end kV_l_end dc_l_end pm_l_end cd_l_end ct_l_end : Value}
    {od_l_walk an_l_walk : Option Addr} {sl_l_walk : Array (Option Value)} {oc_l_walk kV_l_walk dc_l_walk pm_l_walk cd_l_walk ct_l_walk : Value}
    {od_l_counted an_l_counted : Option Addr} {sl_l_counted : Array (Option Value)} {oc_l_counted kV_l_counted dc_l_counted pm_l_counted cd_l_counted ct_l_counted : Value}
    {od_law an_law : Option Addr} {sl_law : Array (Option Value)} {oc_law kV_law dc_law pm_law cd_law ct_law : Value}
    {t_MOST_SIGNS : Tok}
    {t_LONGEST_WORD : Tok}
    {t_LONGEST_TEXT : Tok}
    {t_LAST_STATE : Tok}
    {t_MOST_ARCS : Tok}
    (a_CLoom : PySem.W.nsIn K mainGlobals "Loom" = some (some (.ref C_Loom)))
    (a_CInvalidLoom : PySem.W.nsIn K mainGlobals "InvalidLoom" = some (some (.ref C_InvalidLoom)))
    (a_InvalidLoom_init : PySem.W.findIn K (.ref C_InvalidLoom) "__init__" = some (some (.ref f_InvalidLoom_init)))
    (i_InvalidLoom_init : PySem.W.isFn K (.ref f_InvalidLoom_init) = true)
    (l_InvalidLoom_init : K.lookup f_InvalidLoom_init = some ⟨oc_InvalidLoom_init, od_InvalidLoom_init, .func (PySem.W.fnOf "__init__" "InvalidLoom.__init__" (defArgs s_InvalidLoom_init) (defBody s_InvalidLoom_init) (defScope s_InvalidLoom_init) .none kV_InvalidLoom_init dc_InvalidLoom_init pm_InvalidLoom_init an_InvalidLoom_init cd_InvalidLoom_init ct_InvalidLoom_init), sl_InvalidLoom_init⟩)
    (c_InvalidLoom_init : PySem.W.codeIn K cd_InvalidLoom_init "InvalidLoom.__init__" = true)
    (k_InvalidLoom_init : PySem.W.keepIn K (.ref f_InvalidLoom_init) = true)
    (a_is_number : PySem.W.nsIn K mainGlobals "is_number" = some (some (.ref f_is_number)))
    (l_is_number : K.lookup f_is_number = some ⟨oc_is_number, od_is_number, .func (PySem.W.fnOf "is_number" "is_number" (defArgs s_is_number) (defBody s_is_number) (defScope s_is_number) .none kV_is_number dc_is_number pm_is_number an_is_number cd_is_number ct_is_number), sl_is_number⟩)
    (c_is_number : PySem.W.codeIn K cd_is_number "is_number" = true)
    (k_is_number : PySem.W.keepIn K (.ref f_is_number) = true)
    (a_is_sequence : PySem.W.nsIn K mainGlobals "is_sequence" = some (some (.ref f_is_sequence)))
    (l_is_sequence : K.lookup f_is_sequence = some ⟨oc_is_sequence, od_is_sequence, .func (PySem.W.fnOf "is_sequence" "is_sequence" (defArgs s_is_sequence) (defBody s_is_sequence) (defScope s_is_sequence) .none kV_is_sequence dc_is_sequence pm_is_sequence an_is_sequence cd_is_sequence ct_is_sequence), sl_is_sequence⟩)
    (c_is_sequence : PySem.W.codeIn K cd_is_sequence "is_sequence" = true)
    (k_is_sequence : PySem.W.keepIn K (.ref f_is_sequence) = true)
    (a_is_signs : PySem.W.nsIn K mainGlobals "is_signs" = some (some (.ref f_is_signs)))
    (l_is_signs : K.lookup f_is_signs = some ⟨oc_is_signs, od_is_signs, .func (PySem.W.fnOf "is_signs" "is_signs" (defArgs s_is_signs) (defBody s_is_signs) (defScope s_is_signs) .none kV_is_signs dc_is_signs pm_is_signs an_is_signs cd_is_signs ct_is_signs), sl_is_signs⟩)
    (c_is_signs : PySem.W.codeIn K cd_is_signs "is_signs" = true)
    (k_is_signs : PySem.W.keepIn K (.ref f_is_signs) = true)
    (a_is_string_over : PySem.W.nsIn K mainGlobals "is_string_over" = some (some (.ref f_is_string_over)))
    (l_is_string_over : K.lookup f_is_string_over = some ⟨oc_is_string_over, od_is_string_over, .func (PySem.W.fnOf "is_string_over" "is_string_over" (defArgs s_is_string_over) (defBody s_is_string_over) (defScope s_is_string_over) .none kV_is_string_over dc_is_string_over pm_is_string_over an_is_string_over cd_is_string_over ct_is_string_over), sl_is_string_over⟩)
    (c_is_string_over : PySem.W.codeIn K cd_is_string_over "is_string_over" = true)
    (k_is_string_over : PySem.W.keepIn K (.ref f_is_string_over) = true)
    (a_is_word : PySem.W.nsIn K mainGlobals "is_word" = some (some (.ref f_is_word)))
    (l_is_word : K.lookup f_is_word = some ⟨oc_is_word, od_is_word, .func (PySem.W.fnOf "is_word" "is_word" (defArgs s_is_word) (defBody s_is_word) (defScope s_is_word) .none kV_is_word dc_is_word pm_is_word an_is_word cd_is_word ct_is_word), sl_is_word⟩)
    (c_is_word : PySem.W.codeIn K cd_is_word "is_word" = true)
    (k_is_word : PySem.W.keepIn K (.ref f_is_word) = true)
    (a_check_signs : PySem.W.nsIn K mainGlobals "check_signs" = some (some (.ref f_check_signs)))
    (l_check_signs : K.lookup f_check_signs = some ⟨oc_check_signs, od_check_signs, .func (PySem.W.fnOf "check_signs" "check_signs" (defArgs s_check_signs) (defBody s_check_signs) (defScope s_check_signs) .none kV_check_signs dc_check_signs pm_check_signs an_check_signs cd_check_signs ct_check_signs), sl_check_signs⟩)
    (c_check_signs : PySem.W.codeIn K cd_check_signs "check_signs" = true)
    (k_check_signs : PySem.W.keepIn K (.ref f_check_signs) = true)
    (a_check_state : PySem.W.nsIn K mainGlobals "check_state" = some (some (.ref f_check_state)))
    (l_check_state : K.lookup f_check_state = some ⟨oc_check_state, od_check_state, .func (PySem.W.fnOf "check_state" "check_state" (defArgs s_check_state) (defBody s_check_state) (defScope s_check_state) .none kV_check_state dc_check_state pm_check_state an_check_state cd_check_state ct_check_state), sl_check_state⟩)
    (c_check_state : PySem.W.codeIn K cd_check_state "check_state" = true)
    (k_check_state : PySem.W.keepIn K (.ref f_check_state) = true)
    (a_check_text : PySem.W.nsIn K mainGlobals "check_text" = some (some (.ref f_check_text)))
    (l_check_text : K.lookup f_check_text = some ⟨oc_check_text, od_check_text, .func (PySem.W.fnOf "check_text" "check_text" (defArgs s_check_text) (defBody s_check_text) (defScope s_check_text) .none kV_check_text dc_check_text pm_check_text an_check_text cd_check_text ct_check_text), sl_check_text⟩)
    (c_check_text : PySem.W.codeIn K cd_check_text "check_text" = true)
    (k_check_text : PySem.W.keepIn K (.ref f_check_text) = true)
    (a_count : PySem.W.nsIn K mainGlobals "count" = some (some (.ref f_count)))
    (l_count : K.lookup f_count = some ⟨oc_count, od_count, .func (PySem.W.fnOf "count" "count" (defArgs s_count) (defBody s_count) (defScope s_count) .none kV_count dc_count pm_count an_count cd_count ct_count), sl_count⟩)
    (c_count : PySem.W.codeIn K cd_count "count" = true)
    (k_count : PySem.W.keepIn K (.ref f_count) = true)
    (a_is_arc : PySem.W.nsIn K mainGlobals "is_arc" = some (some (.ref f_is_arc)))
    (l_is_arc : K.lookup f_is_arc = some ⟨oc_is_arc, od_is_arc, .func (PySem.W.fnOf "is_arc" "is_arc" (defArgs s_is_arc) (defBody s_is_arc) (defScope s_is_arc) .none kV_is_arc dc_is_arc pm_is_arc an_is_arc cd_is_arc ct_is_arc), sl_is_arc⟩)
    (c_is_arc : PySem.W.codeIn K cd_is_arc "is_arc" = true)
    (k_is_arc : PySem.W.keepIn K (.ref f_is_arc) = true)
    (a_Loom_init : PySem.W.findIn K (.ref C_Loom) "__init__" = some (some (.ref f_Loom_init)))
    (i_Loom_init : PySem.W.isFn K (.ref f_Loom_init) = true)
    (l_Loom_init : K.lookup f_Loom_init = some ⟨oc_Loom_init, od_Loom_init, .func (PySem.W.fnOf "__init__" "Loom.__init__" (defArgs s_Loom_init) (defBody s_Loom_init) (defScope s_Loom_init) .none kV_Loom_init dc_Loom_init pm_Loom_init an_Loom_init cd_Loom_init ct_Loom_init), sl_Loom_init⟩)
    (c_Loom_init : PySem.W.codeIn K cd_Loom_init "Loom.__init__" = true)
    (k_Loom_init : PySem.W.keepIn K (.ref f_Loom_init) = true)
    (a_Loom_eq : PySem.W.findIn K (.ref C_Loom) "__eq__" = some (some (.ref f_Loom_eq)))
    (l_Loom_eq : K.lookup f_Loom_eq = some ⟨oc_Loom_eq, od_Loom_eq, .func (PySem.W.fnOf "__eq__" "Loom.__eq__" (defArgs s_Loom_eq) (defBody s_Loom_eq) (defScope s_Loom_eq) .none kV_Loom_eq dc_Loom_eq pm_Loom_eq an_Loom_eq cd_Loom_eq ct_Loom_eq), sl_Loom_eq⟩)
    (c_Loom_eq : PySem.W.codeIn K cd_Loom_eq "Loom.__eq__" = true)
    (k_Loom_eq : PySem.W.keepIn K (.ref f_Loom_eq) = true)
    (a_l_state : PySem.W.nsIn K mainGlobals "_law_state" = some (some (.ref f_l_state)))
    (l_l_state : K.lookup f_l_state = some ⟨oc_l_state, od_l_state, .func (PySem.W.fnOf "_law_state" "_law_state" (defArgs s_l_state) (defBody s_l_state) (defScope s_l_state) .none kV_l_state dc_l_state pm_l_state an_l_state cd_l_state ct_l_state), sl_l_state⟩)
    (c_l_state : PySem.W.codeIn K cd_l_state "_law_state" = true)
    (k_l_state : PySem.W.keepIn K (.ref f_l_state) = true)
    (a_l_draw : PySem.W.nsIn K mainGlobals "_law_draw" = some (some (.ref f_l_draw)))
    (l_l_draw : K.lookup f_l_draw = some ⟨oc_l_draw, od_l_draw, .func (PySem.W.fnOf "_law_draw" "_law_draw" (defArgs s_l_draw) (defBody s_l_draw) (defScope s_l_draw) .none kV_l_draw dc_l_draw pm_l_draw an_l_draw cd_l_draw ct_l_draw), sl_l_draw⟩)
    (c_l_draw : PySem.W.codeIn K cd_l_draw "_law_draw" = true)
    (k_l_draw : PySem.W.keepIn K (.ref f_l_draw) = true)
    (a_l_is_integer : PySem.W.nsIn K mainGlobals "_law_is_integer" = some (some (.ref f_l_is_integer)))
    (l_l_is_integer : K.lookup f_l_is_integer = some ⟨oc_l_is_integer, od_l_is_integer, .func (PySem.W.fnOf "_law_is_integer" "_law_is_integer" (defArgs s_l_is_integer) (defBody s_l_is_integer) (defScope s_l_is_integer) .none kV_l_is_integer dc_l_is_integer pm_l_is_integer an_l_is_integer cd_l_is_integer ct_l_is_integer), sl_l_is_integer⟩)
    (c_l_is_integer : PySem.W.codeIn K cd_l_is_integer "_law_is_integer" = true)
    (k_l_is_integer : PySem.W.keepIn K (.ref f_l_is_integer) = true)
    (a_l_word : PySem.W.nsIn K mainGlobals "_law_word" = some (some (.ref f_l_word)))
    (l_l_word : K.lookup f_l_word = some ⟨oc_l_word, od_l_word, .func (PySem.W.fnOf "_law_word" "_law_word" (defArgs s_l_word) (defBody s_l_word) (defScope s_l_word) .none kV_l_word dc_l_word pm_l_word an_l_word cd_l_word ct_l_word), sl_l_word⟩)
    (c_l_word : PySem.W.codeIn K cd_l_word "_law_word" = true)
    (k_l_word : PySem.W.keepIn K (.ref f_l_word) = true)
    (a_l_loom : PySem.W.nsIn K mainGlobals "_law_loom" = some (some (.ref f_l_loom)))
    (l_l_loom : K.lookup f_l_loom = some ⟨oc_l_loom, od_l_loom, .func (PySem.W.fnOf "_law_loom" "_law_loom" (defArgs s_l_loom) (defBody s_l_loom) (defScope s_l_loom) .none kV_l_loom dc_l_loom pm_l_loom an_l_loom cd_l_loom ct_l_loom), sl_l_loom⟩)
    (c_l_loom : PySem.W.codeIn K cd_l_loom "_law_loom" = true)
    (k_l_loom : PySem.W.keepIn K (.ref f_l_loom) = true)
    (a_l_made : PySem.W.nsIn K mainGlobals "_law_made" = some (some (.ref f_l_made)))
    (l_l_made : K.lookup f_l_made = some ⟨oc_l_made, od_l_made, .func (PySem.W.fnOf "_law_made" "_law_made" (defArgs s_l_made) (defBody s_l_made) (defScope s_l_made) .none kV_l_made dc_l_made pm_l_made an_l_made cd_l_made ct_l_made), sl_l_made⟩)
    (c_l_made : PySem.W.codeIn K cd_l_made "_law_made" = true)
    (k_l_made : PySem.W.keepIn K (.ref f_l_made) = true)
    (a_l_leaving : PySem.W.nsIn K mainGlobals "_law_leaving" = some (some (.ref f_l_leaving)))
    (l_l_leaving : K.lookup f_l_leaving = some ⟨oc_l_leaving, od_l_leaving, .func (PySem.W.fnOf "_law_leaving" "_law_leaving" (defArgs s_l_leaving) (defBody s_l_leaving) (defScope s_l_leaving) .none kV_l_leaving dc_l_leaving pm_l_leaving an_l_leaving cd_l_leaving ct_l_leaving), sl_l_leaving⟩)
    (c_l_leaving : PySem.W.codeIn K cd_l_leaving "_law_leaving" = true)
    (k_l_leaving : PySem.W.keepIn K (.ref f_l_leaving) = true)
    (a_l_met : PySem.W.nsIn K mainGlobals "_law_met" = some (some (.ref f_l_met)))
    (l_l_met : K.lookup f_l_met = some ⟨oc_l_met, od_l_met, .func (PySem.W.fnOf "_law_met" "_law_met" (defArgs s_l_met) (defBody s_l_met) (defScope s_l_met) .none kV_l_met dc_l_met pm_l_met an_l_met cd_l_met ct_l_met), sl_l_met⟩)
    (c_l_met : PySem.W.codeIn K cd_l_met "_law_met" = true)
    (k_l_met : PySem.W.keepIn K (.ref f_l_met) = true)
    (a_l_joined : PySem.W.nsIn K mainGlobals "_law_joined" = some (some (.ref f_l_joined)))
    (l_l_joined : K.lookup f_l_joined = some ⟨oc_l_joined, od_l_joined, .func (PySem.W.fnOf "_law_joined" "_law_joined" (defArgs s_l_joined) (defBody s_l_joined) (defScope s_l_joined) .none kV_l_joined dc_l_joined pm_l_joined an_l_joined cd_l_joined ct_l_joined), sl_l_joined⟩)
    (c_l_joined : PySem.W.codeIn K cd_l_joined "_law_joined" = true)
    (k_l_joined : PySem.W.keepIn K (.ref f_l_joined) = true)
    (a_l_end : PySem.W.nsIn K mainGlobals "_law_end" = some (some (.ref f_l_end)))
    (l_l_end : K.lookup f_l_end = some ⟨oc_l_end, od_l_end, .func (PySem.W.fnOf "_law_end" "_law_end" (defArgs s_l_end) (defBody s_l_end) (defScope s_l_end) .none kV_l_end dc_l_end pm_l_end an_l_end cd_l_end ct_l_end), sl_l_end⟩)
    (c_l_end : PySem.W.codeIn K cd_l_end "_law_end" = true)
    (k_l_end : PySem.W.keepIn K (.ref f_l_end) = true)
    (a_l_walk : PySem.W.nsIn K mainGlobals "_law_walk" = some (some (.ref f_l_walk)))
    (l_l_walk : K.lookup f_l_walk = some ⟨oc_l_walk, od_l_walk, .func (PySem.W.fnOf "_law_walk" "_law_walk" (defArgs s_l_walk) (defBody s_l_walk) (defScope s_l_walk) .none kV_l_walk dc_l_walk pm_l_walk an_l_walk cd_l_walk ct_l_walk), sl_l_walk⟩)
    (c_l_walk : PySem.W.codeIn K cd_l_walk "_law_walk" = true)
    (k_l_walk : PySem.W.keepIn K (.ref f_l_walk) = true)
    (a_l_counted : PySem.W.nsIn K mainGlobals "_law_counted" = some (some (.ref f_l_counted)))
    (l_l_counted : K.lookup f_l_counted = some ⟨oc_l_counted, od_l_counted, .func (PySem.W.fnOf "_law_counted" "_law_counted" (defArgs s_l_counted) (defBody s_l_counted) (defScope s_l_counted) .none kV_l_counted dc_l_counted pm_l_counted an_l_counted cd_l_counted ct_l_counted), sl_l_counted⟩)
    (c_l_counted : PySem.W.codeIn K cd_l_counted "_law_counted" = true)
    (k_l_counted : PySem.W.keepIn K (.ref f_l_counted) = true)
    (a_law : PySem.W.nsIn K mainGlobals "law" = some (some (.ref f_law)))
    (l_law : K.lookup f_law = some ⟨oc_law, od_law, .func (PySem.W.fnOf "law" "law" (defArgs s_law) (defBody s_law) (defScope s_law) .none kV_law dc_law pm_law an_law cd_law ct_law), sl_law⟩)
    (c_law : PySem.W.codeIn K cd_law "law" = true)
    (k_law : PySem.W.keepIn K (.ref f_law) = true)
    (pg_Loom : PySem.W.plainGet K C_Loom Str.empty = true)
    (hd_Loom : PySem.W.hasDictIn K C_Loom = true)
    (po_Loom : PySem.W.plainOver K C_Loom = true)
    (sa_Loom : PySem.W.findIn K (.ref C_Loom) "__setattr__" = some (some (.builtin "object.__setattr__")))
    (mk_Loom : PySem.W.makesIn K C_Loom = true)
    (kc_Loom : PySem.W.keepIn K (.ref C_Loom) = true)
    (na_Loom_signs : PySem.W.findIn K (.ref C_Loom) "signs" = some none)
    (na_Loom_arcs : PySem.W.findIn K (.ref C_Loom) "arcs" = some none)
    (z_all : PySem.W.nsIn K mainGlobals "all" = some none)
    (z_bool : PySem.W.nsIn K mainGlobals "bool" = some none)
    (z_enumerate : PySem.W.nsIn K mainGlobals "enumerate" = some none)
    (z_int : PySem.W.nsIn K mainGlobals "int" = some none)
    (z_isinstance : PySem.W.nsIn K mainGlobals "isinstance" = some none)
    (z_len : PySem.W.nsIn K mainGlobals "len" = some none)
    (z_list : PySem.W.nsIn K mainGlobals "list" = some none)
    (z_range : PySem.W.nsIn K mainGlobals "range" = some none)
    (z_sorted : PySem.W.nsIn K mainGlobals "sorted" = some none)
    (z_str : PySem.W.nsIn K mainGlobals "str" = some none)
    (z_sum : PySem.W.nsIn K mainGlobals "sum" = some none)
    (z_tuple : PySem.W.nsIn K mainGlobals "tuple" = some none)
    (z_zip : PySem.W.nsIn K mainGlobals "zip" = some none)
    (g_MOST_SIGNS : PySem.W.nsIn K mainGlobals "MOST_SIGNS" = some (some (.int 4 t_MOST_SIGNS)))
    (g_LONGEST_WORD : PySem.W.nsIn K mainGlobals "LONGEST_WORD" = some (some (.int 12 t_LONGEST_WORD)))
    (g_LONGEST_TEXT : PySem.W.nsIn K mainGlobals "LONGEST_TEXT" = some (some (.int 2000 t_LONGEST_TEXT)))
    (g_LAST_STATE : PySem.W.nsIn K mainGlobals "LAST_STATE" = some (some (.int 63 t_LAST_STATE)))
    (g_MOST_ARCS : PySem.W.nsIn K mainGlobals "MOST_ARCS" = some (some (.int 200 t_MOST_ARCS)))
    : ∃ fd : FuncData, (∀ (s : Shared) (v : Value), BindsTo s fd ⟨[v], []⟩ [("_law_script", v)]) ∧ ∀ base : Heap, K.In base → base.Ns mainGlobals mg → FnOk l.prog w K mg base CX0 8 fa fd P_law (spLaw K) := by
  have e := hfa.symm.trans (PySem.W.mg_of X G a_law)
  cases e
  have F_InvalidLoom_init := fun_mk (st := s_InvalidLoom_init) l_InvalidLoom_init c_InvalidLoom_init k_InvalidLoom_init
  have b_InvalidLoom_init := F_InvalidLoom_init.binds (ps := P_InvalidLoom_init) fun _ _ _ _ _ _ us hl => match us, hl with | [_, _, _], _ => rfl
  have F_is_number := fun_mk (st := s_is_number) l_is_number c_is_number k_is_number
  have b_is_number := F_is_number.binds (ps := P_is_number) fun _ _ _ _ _ _ us hl => match us, hl with | [_, _, _], _ => rfl
  have F_is_sequence := fun_mk (st := s_is_sequence) l_is_sequence c_is_sequence k_is_sequence
  have b_is_sequence := F_is_sequence.binds (ps := P_is_sequence) fun _ _ _ _ _ _ us hl => match us, hl with | [_, _, _], _ => rfl
  have F_is_signs := fun_mk (st := s_is_signs) l_is_signs c_is_signs k_is_signs
  have b_is_signs := F_is_signs.binds (ps := P_is_signs) fun _ _ _ _ _ _ us hl => match us, hl with | [_], _ => rfl
  have F_is_string_over := fun_mk (st := s_is_string_over) l_is_string_over c_is_string_over k_is_string_over
  have b_is_string_over := F_is_string_over.binds (ps := P_is_string_over) fun _ _ _ _ _ _ us hl => match us, hl with | [_, _, _, _], _ => rfl
  have F_is_word := fun_mk (st := s_is_word) l_is_word c_is_word k_is_word
  have b_is_word := F_is_word.binds (ps := P_is_word) fun _ _ _ _ _ _ us hl => match us, hl with | [_, _], _ => rfl
  have F_check_signs := fun_mk (st := s_check_signs) l_check_signs c_check_signs k_check_signs
  have b_check_signs := F_check_signs.binds (ps := P_check_signs) fun _ _ _ _ _ _ us hl => match us, hl with | [_], _ => rfl
  have F_check_state := fun_mk (st := s_check_state) l_check_state c_check_state k_check_state
  have b_check_state := F_check_state.binds (ps := P_check_state) fun _ _ _ _ _ _ us hl => match us, hl with | [_], _ => rfl
  have F_check_text := fun_mk (st := s_check_text) l_check_text c_check_text k_check_text
  have b_check_text := F_check_text.binds (ps := P_check_text) fun _ _ _ _ _ _ us hl => match us, hl with | [_, _], _ => rfl
  have F_count := fun_mk (st := s_count) l_count c_count k_count
  have b_count := F_count.binds (ps := P_count) fun _ _ _ _ _ _ us hl => match us, hl with | [_, _, _], _ => rfl
  have F_is_arc := fun_mk (st := s_is_arc) l_is_arc c_is_arc k_is_arc
  have b_is_arc := F_is_arc.binds (ps := P_is_arc) fun _ _ _ _ _ _ us hl => match us, hl with | [_, _], _ => rfl
  have F_Loom_init := fun_mk (st := s_Loom_init) l_Loom_init c_Loom_init k_Loom_init
  have b_Loom_init := F_Loom_init.binds (ps := P_Loom_init) fun _ _ _ _ _ _ us hl => match us, hl with | [_, _, _], _ => rfl
  have F_Loom_eq := fun_mk (st := s_Loom_eq) l_Loom_eq c_Loom_eq k_Loom_eq
  have b_Loom_eq := F_Loom_eq.binds (ps := P_Loom_eq) fun _ _ _ _ _ _ us hl => match us, hl with | [_, _], _ => rfl
  have F_l_state := fun_mk (st := s_l_state) l_l_state c_l_state k_l_state
  have b_l_state := F_l_state.binds (ps := P_l_state) fun _ _ _ _ _ _ us hl => match us, hl with | [_], _ => rfl
  have F_l_draw := fun_mk (st := s_l_draw) l_l_draw c_l_draw k_l_draw
  have b_l_draw := F_l_draw.binds (ps := P_l_draw) fun _ _ _ _ _ _ us hl => match us, hl with | [_, _], _ => rfl
  have F_l_is_integer := fun_mk (st := s_l_is_integer) l_l_is_integer c_l_is_integer k_l_is_integer
  have b_l_is_integer := F_l_is_integer.binds (ps := P_l_is_integer) fun _ _ _ _ _ _ us hl => match us, hl with | [_], _ => rfl
  have F_l_word := fun_mk (st := s_l_word) l_l_word c_l_word k_l_word
  have b_l_word := F_l_word.binds (ps := P_l_word) fun _ _ _ _ _ _ us hl => match us, hl with | [_, _, _], _ => rfl
  have F_l_loom := fun_mk (st := s_l_loom) l_l_loom c_l_loom k_l_loom
  have b_l_loom := F_l_loom.binds (ps := P_l_loom) fun _ _ _ _ _ _ us hl => match us, hl with | [_], _ => rfl
  have F_l_made := fun_mk (st := s_l_made) l_l_made c_l_made k_l_made
  have b_l_made := F_l_made.binds (ps := P_l_made) fun _ _ _ _ _ _ us hl => match us, hl with | [_], _ => rfl
  have F_l_leaving := fun_mk (st := s_l_leaving) l_l_leaving c_l_leaving k_l_leaving
  have b_l_leaving := F_l_leaving.binds (ps := P_l_leaving) fun _ _ _ _ _ _ us hl => match us, hl with | [_, _], _ => rfl
  have F_l_met := fun_mk (st := s_l_met) l_l_met c_l_met k_l_met
  have b_l_met := F_l_met.binds (ps := P_l_met) fun _ _ _ _ _ _ us hl => match us, hl with | [_], _ => rfl
  have F_l_joined := fun_mk (st := s_l_joined) l_l_joined c_l_joined k_l_joined
  have b_l_joined := F_l_joined.binds (ps := P_l_joined) fun _ _ _ _ _ _ us hl => match us, hl with | [_, _], _ => rfl
  have F_l_end := fun_mk (st := s_l_end) l_l_end c_l_end k_l_end
  have b_l_end := F_l_end.binds (ps := P_l_end) fun _ _ _ _ _ _ us hl => match us, hl with | [_, _, _], _ => rfl
  have F_l_walk := fun_mk (st := s_l_walk) l_l_walk c_l_walk k_l_walk
  have b_l_walk := F_l_walk.binds (ps := P_l_walk) fun _ _ _ _ _ _ us hl => match us, hl with | [_, _, _, _], _ => rfl
  have F_l_counted := fun_mk (st := s_l_counted) l_l_counted c_l_counted k_l_counted
  have b_l_counted := F_l_counted.binds (ps := P_l_counted) fun _ _ _ _ _ _ us hl => match us, hl with | [_, _, _], _ => rfl
  have F_law := fun_mk (st := s_law) l_law c_law k_law
  have b_law := F_law.binds (ps := P_law) fun _ _ _ _ _ _ us hl => match us, hl with | [_], _ => rfl
  exact ⟨_, fun s v => .of_eq rfl, fun base _ _ => ok_law {
    f_InvalidLoom_init := _
    fd_InvalidLoom_init := _
    F_InvalidLoom_init := F_InvalidLoom_init
    b_InvalidLoom_init := b_InvalidLoom_init
    f_is_number := _
    fd_is_number := _
    F_is_number := F_is_number
    b_is_number := b_is_number
    m_is_number := PySem.W.mg_of X G a_is_number
    f_is_sequence := _
    fd_is_sequence := _
    F_is_sequence := F_is_sequence
    b_is_sequence := b_is_sequence
    m_is_sequence := PySem.W.mg_of X G a_is_sequence
    f_is_signs := _
    fd_is_signs := _
    F_is_signs := F_is_signs
    b_is_signs := b_is_signs
    m_is_signs := PySem.W.mg_of X G a_is_signs
    f_is_string_over := _
    fd_is_string_over := _
    F_is_string_over := F_is_string_over
    b_is_string_over := b_is_string_over
    m_is_string_over := PySem.W.mg_of X G a_is_string_over
    f_is_word := _
    fd_is_word := _
    F_is_word := F_is_word
    b_is_word := b_is_word
    m_is_word := PySem.W.mg_of X G a_is_word
    f_check_signs := _
    fd_check_signs := _
    F_check_signs := F_check_signs
    b_check_signs := b_check_signs
    m_check_signs := PySem.W.mg_of X G a_check_signs
    f_check_state := _
    fd_check_state := _
    F_check_state := F_check_state
    b_check_state := b_check_state
    m_check_state := PySem.W.mg_of X G a_check_state
    f_check_text := _
    fd_check_text := _
    F_check_text := F_check_text
    b_check_text := b_check_text
    m_check_text := PySem.W.mg_of X G a_check_text
    f_count := _
    fd_count := _
    F_count := F_count
    b_count := b_count
    m_count := PySem.W.mg_of X G a_count
    f_is_arc := _
    fd_is_arc := _
    F_is_arc := F_is_arc
    b_is_arc := b_is_arc
    m_is_arc := PySem.W.mg_of X G a_is_arc
    f_Loom_init := _
    fd_Loom_init := _
    F_Loom_init := F_Loom_init
    b_Loom_init := b_Loom_init
    f_Loom_eq := _
    fd_Loom_eq := _
    F_Loom_eq := F_Loom_eq
    b_Loom_eq := b_Loom_eq
    f_l_state := _
    fd_l_state := _
    F_l_state := F_l_state
    b_l_state := b_l_state
    m_l_state := PySem.W.mg_of X G a_l_state
    f_l_draw := _
    fd_l_draw := _
    F_l_draw := F_l_draw
    b_l_draw := b_l_draw
    m_l_draw := PySem.W.mg_of X G a_l_draw
    f_l_is_integer := _
    fd_l_is_integer := _
    F_l_is_integer := F_l_is_integer
    b_l_is_integer := b_l_is_integer
    m_l_is_integer := PySem.W.mg_of X G a_l_is_integer
    f_l_word := _
    fd_l_word := _
    F_l_word := F_l_word
    b_l_word := b_l_word
    m_l_word := PySem.W.mg_of X G a_l_word
    f_l_loom := _
    fd_l_loom := _
    F_l_loom := F_l_loom
    b_l_loom := b_l_loom
    m_l_loom := PySem.W.mg_of X G a_l_loom
    f_l_made := _
    fd_l_made := _
    F_l_made := F_l_made
    b_l_made := b_l_made
    m_l_made := PySem.W.mg_of X G a_l_made
    f_l_leaving := _
    fd_l_leaving := _
    F_l_leaving := F_l_leaving
    b_l_leaving := b_l_leaving
    m_l_leaving := PySem.W.mg_of X G a_l_leaving
    f_l_met := _
    fd_l_met := _
    F_l_met := F_l_met
    b_l_met := b_l_met
    m_l_met := PySem.W.mg_of X G a_l_met
    f_l_joined := _
    fd_l_joined := _
    F_l_joined := F_l_joined
    b_l_joined := b_l_joined
    m_l_joined := PySem.W.mg_of X G a_l_joined
    f_l_end := _
    fd_l_end := _
    F_l_end := F_l_end
    b_l_end := b_l_end
    m_l_end := PySem.W.mg_of X G a_l_end
    f_l_walk := _
    fd_l_walk := _
    F_l_walk := F_l_walk
    b_l_walk := b_l_walk
    m_l_walk := PySem.W.mg_of X G a_l_walk
    f_l_counted := _
    fd_l_counted := _
    F_l_counted := F_l_counted
    b_l_counted := b_l_counted
    m_l_counted := PySem.W.mg_of X G a_l_counted
    f_law := _
    fd_law := _
    F_law := F_law
    b_law := b_law
    m_law := PySem.W.mg_of X G a_law
    n_all := PySem.W.mg_none_of X G z_all
    n_bool := PySem.W.mg_none_of X G z_bool
    n_enumerate := PySem.W.mg_none_of X G z_enumerate
    n_int := PySem.W.mg_none_of X G z_int
    n_isinstance := PySem.W.mg_none_of X G z_isinstance
    n_len := PySem.W.mg_none_of X G z_len
    n_list := PySem.W.mg_none_of X G z_list
    n_range := PySem.W.mg_none_of X G z_range
    n_sorted := PySem.W.mg_none_of X G z_sorted
    n_str := PySem.W.mg_none_of X G z_str
    n_sum := PySem.W.mg_none_of X G z_sum
    n_tuple := PySem.W.mg_none_of X G z_tuple
    n_zip := PySem.W.mg_none_of X G z_zip
    t_MOST_SIGNS := t_MOST_SIGNS
    g_MOST_SIGNS := PySem.W.mg_of X G g_MOST_SIGNS
    t_LONGEST_WORD := t_LONGEST_WORD
    g_LONGEST_WORD := PySem.W.mg_of X G g_LONGEST_WORD
    t_LONGEST_TEXT := t_LONGEST_TEXT
    g_LONGEST_TEXT := PySem.W.mg_of X G g_LONGEST_TEXT
    t_LAST_STATE := t_LAST_STATE
    g_LAST_STATE := PySem.W.mg_of X G g_LAST_STATE
    t_MOST_ARCS := t_MOST_ARCS
    g_MOST_ARCS := PySem.W.mg_of X G g_MOST_ARCS
    C_Loom := C_Loom
    M_Loom := ⟨mk_Loom, a_Loom_init, i_Loom_init, kc_Loom⟩
    cl_Loom := ⟨pg_Loom, hd_Loom, po_Loom, sa_Loom⟩
    g_Loom := PySem.W.mg_of X G a_CLoom
    na_Loom_signs := na_Loom_signs
    na_Loom_arcs := na_Loom_arcs }⟩
theorem walk {l : PySem.W.OpenLaw} {q : Program} {loose : List Str} {XP : (Str → Option Value) → Heap → Prop} {YP : World → Heap → Prop} {d : DefRec} {K : Params → PySem.W.Frag} (hn : l.most = some 63) (hdf : d.params.defaults = [])
    (hY : ∀ (w : World) (h : Heap), YP w h → (K w.params).In h)
    (F : ∀ (w : World) (mg : Str → Option Value) (fa : Addr) (h : Heap), (K w.params).In h → h.Ns mainGlobals mg → mg d.name = some (.ref fa) →
      ∃ fd : FuncData, (∀ (s : Shared) (u : Value), BindsTo s fd ⟨[u], []⟩ [("_law_script", u)]) ∧ ∀ base : Heap, (K w.params).In base → base.Ns mainGlobals mg → FnOk l.prog w (K w.params) mg base CX0 8 fa fd P_law (spLaw (K w.params))) :
    PySem.W.WalkO q loose XP YP l.row.toRowW d [] (fun f vs => PySem.call f vs) :=
  L2.walk_of (n := 63) (k := 8) (x := "_law_script") (CX := fun _ => CX0) (sp := fun w => spLaw (K w.params)) hn (by decide) hdf ⟨rfl, by decide, by decide⟩ hY F (fun _ _ a ns hl _ hS => ⟨a, ns, rfl, hS, hl, fun _ => rfl⟩) fun _ _ _ _ _ z => z
end J

open PySem PySem.W PyProof.Rows in
set_option maxRecDepth 100000 in
set_option maxHeartbeats 0 in
theorem PySem.Challenge.cw_onewayread_k04_rows_counted_in_long_text_holds : PySem.Challenge.rw_onewayread_k04_rows_counted_in_long_text.Holds := by
  w_on; o_law; k_head; (case hw => w_witness2)
  k_fill
  refine J.walk (l := PySem.Challenge.rw_onewayread_k04_rows_counted_in_long_text) rfl rfl (fun w h Y => PySem.W.kIn_of Y) ?F
  case F =>
    intro w mg fa h KX G hmg
    refine' J.all_mk KX G hmg ?a_CLoom ?a_CInvalidLoom ?a_InvalidLoom_init ?i_InvalidLoom_init ?l_InvalidLoom_init ?c_InvalidLoom_init ?k_InvalidLoom_init ?a_is_number ?l_is_number ?c_is_number ?k_is_number ?a_is_sequence ?l_is_sequence ?c_is_sequence ?k_is_sequence ?a_is_signs ?l_is_signs ?c_is_signs ?k_is_signs ?a_is_string_over ?l_is_string_over ?c_is_string_over ?k_is_string_over ?a_is_word ?l_is_word ?c_is_word ?k_is_word ?a_check_signs ?l_check_signs ?c_check_signs ?k_check_signs ?a_check_state ?l_check_state ?c_check_state ?k_check_state ?a_check_text ?l_check_text ?c_check_text ?k_check_text ?a_count ?l_count ?c_count ?k_count ?a_is_arc ?l_is_arc ?c_is_arc ?k_is_arc ?a_Loom_init ?i_Loom_init ?l_Loom_init ?c_Loom_init ?k_Loom_init ?a_Loom_eq ?l_Loom_eq ?c_Loom_eq ?k_Loom_eq ?a_l_state ?l_l_state ?c_l_state ?k_l_state ?a_l_draw ?l_l_draw ?c_l_draw ?k_l_draw ?a_l_is_integer ?l_l_is_integer ?c_l_is_integer ?k_l_is_integer ?a_l_word ?l_l_word ?c_l_word ?k_l_word ?a_l_loom ?l_l_loom ?c_l_loom ?k_l_loom ?a_l_made ?l_l_made ?c_l_made ?k_l_made ?a_l_leaving ?l_l_leaving ?c_l_leaving ?k_l_leaving ?a_l_met ?l_l_met ?c_l_met ?k_l_met ?a_l_joined ?l_l_joined ?c_l_joined ?k_l_joined ?a_l_end ?l_l_end ?c_l_end ?k_l_end ?a_l_walk ?l_l_walk ?c_l_walk ?k_l_walk ?a_l_counted ?l_l_counted ?c_l_counted ?k_l_counted ?a_law ?l_law ?c_law ?k_law ?pg_Loom ?hd_Loom ?po_Loom ?sa_Loom ?mk_Loom ?kc_Loom ?na_Loom_signs ?na_Loom_arcs ?z_all ?z_bool ?z_enumerate ?z_int ?z_isinstance ?z_len ?z_list ?z_range ?z_sorted ?z_str ?z_sum ?z_tuple ?z_zip ?g_MOST_SIGNS ?g_LONGEST_WORD ?g_LONGEST_TEXT ?g_LAST_STATE ?g_MOST_ARCS
    (case a_CLoom => k_is)
    (case a_CInvalidLoom => k_is)
    (case a_InvalidLoom_init => k_is)
    (case i_InvalidLoom_init => k_is)
    (case l_InvalidLoom_init => k_is)
    (case c_InvalidLoom_init => k_is)
    (case k_InvalidLoom_init => k_is)
    (case a_is_number => k_is)
    (case l_is_number => k_is)
    (case c_is_number => k_is)
    (case k_is_number => k_is)
    (case a_is_sequence => k_is)
    (case l_is_sequence => k_is)
    (case c_is_sequence => k_is)
    (case k_is_sequence => k_is)
    (case a_is_signs => k_is)
    (case l_is_signs => k_is)
    (case c_is_signs => k_is)
    (case k_is_signs => k_is)
    (case a_is_string_over => k_is)
    (case l_is_string_over => k_is)
    (case c_is_string_over => k_is)
    (case k_is_string_over => k_is)
    (case a_is_word => k_is)
    (case l_is_word => k_is)
    (case c_is_word => k_is)
    (case k_is_word => k_is)
    (case a_check_signs => k_is)
    (case l_check_signs => k_is)
    (case c_check_signs => k_is)
    (case k_check_signs => k_is)
    (case a_check_state => k_is)
    (case l_check_state => k_is)
    (case c_check_state => k_is)
    (case k_check_state => k_is)
    (case a_check_text => k_is)
    (case l_check_text => k_is)
    (case c_check_text => k_is)
    (case k_check_text => k_is)
    (case a_count => k_is)
    (case l_count => k_is)
    (case c_count => k_is)
    (case k_count => k_is)
    (case a_is_arc => k_is)
    (case l_is_arc => k_is)
    (case c_is_arc => k_is)
    (case k_is_arc => k_is)
    (case a_Loom_init => k_is)
    (case i_Loom_init => k_is)
    (case l_Loom_init => k_is)
    (case c_Loom_init => k_is)
    (case k_Loom_init => k_is)
    (case a_Loom_eq => k_is)
    (case l_Loom_eq => k_is)
    (case c_Loom_eq => k_is)
    (case k_Loom_eq => k_is)
    (case a_l_state => k_is)
    (case l_l_state => k_is)
    (case c_l_state => k_is)
    (case k_l_state => k_is)
    (case a_l_draw => k_is)
    (case l_l_draw => k_is)
    (case c_l_draw => k_is)
    (case k_l_draw => k_is)
    (case a_l_is_integer => k_is)
    (case l_l_is_integer => k_is)
    (case c_l_is_integer => k_is)
    (case k_l_is_integer => k_is)
    (case a_l_word => k_is)
    (case l_l_word => k_is)
    (case c_l_word => k_is)
    (case k_l_word => k_is)
    (case a_l_loom => k_is)
    (case l_l_loom => k_is)
    (case c_l_loom => k_is)
    (case k_l_loom => k_is)
    (case a_l_made => k_is)
    (case l_l_made => k_is)
    (case c_l_made => k_is)
    (case k_l_made => k_is)
    (case a_l_leaving => k_is)
    (case l_l_leaving => k_is)
    (case c_l_leaving => k_is)
    (case k_l_leaving => k_is)
    (case a_l_met => k_is)
    (case l_l_met => k_is)
    (case c_l_met => k_is)
    (case k_l_met => k_is)
    (case a_l_joined => k_is)
    (case l_l_joined => k_is)
    (case c_l_joined => k_is)
    (case k_l_joined => k_is)
    (case a_l_end => k_is)
    (case l_l_end => k_is)
    (case c_l_end => k_is)
    (case k_l_end => k_is)
    (case a_l_walk => k_is)
    (case l_l_walk => k_is)
    (case c_l_walk => k_is)
    (case k_l_walk => k_is)
    (case a_l_counted => k_is)
    (case l_l_counted => k_is)
    (case c_l_counted => k_is)
    (case k_l_counted => k_is)
    (case a_law => k_is)
    (case l_law => k_is)
    (case c_law => k_is)
    (case k_law => k_is)
    (case pg_Loom => k_is)
    (case hd_Loom => k_is)
    (case po_Loom => k_is)
    (case sa_Loom => k_is)
    (case mk_Loom => k_is)
    (case kc_Loom => k_is)
    (case na_Loom_signs => k_is)
    (case na_Loom_arcs => k_is)
    (case z_all => k_is)
    (case z_bool => k_is)
    (case z_enumerate => k_is)
    (case z_int => k_is)
    (case z_isinstance => k_is)
    (case z_len => k_is)
    (case z_list => k_is)
    (case z_range => k_is)
    (case z_sorted => k_is)
    (case z_str => k_is)
    (case z_sum => k_is)
    (case z_tuple => k_is)
    (case z_zip => k_is)
    (case g_MOST_SIGNS => k_is)
    (case g_LONGEST_WORD => k_is)
    (case g_LONGEST_TEXT => k_is)
    (case g_LAST_STATE => k_is)
    (case g_MOST_ARCS => k_is)

import PyProof.Rows.All
import Wide.All
import OpenK.AllK
import Wide.FinOn
import HandS.ForMost
import HandS.ForExc
import HandS.ExcInit
import HandS.ExcValue
import KE.KExcSuper
import HandS.ExcIs
import HandS.ExcField
import HandS.IsInst
import HandS.Evl
import HandS.Walk
import HandS.Wide
import PyProof.ReprRoads
import PyProof.WalksMore
import HandS.NoneIn
import HandS.Deep
import HandS.More
import HandS.RaiseMore
import HandS.Call
import HandS.ExcOwn
import HandS.Ends
import PySem.Challenge.RW_cameposts_k75_refusals_made
import KE.RegKSuper
set_option Elab.async false
set_option linter.all false
set_option maxRecDepth 100000
set_option maxHeartbeats 4000000
/-! Cameposts, refusals: an own error whose __init__ says super().__init__(text) and self.wrong = wrong -/
namespace Cp
open PySem PySem.W PySem.Calls PyProof.Rows L2
/-- the places of such an __init__ in its text -/
structure SupP where
  j : Nat
  a1 : Pos
  a2 : Pos
  p0 : Pos
  p1 : Pos
  p2 : Pos
  p3 : Pos
  p4 : Pos
  p5 : Pos
  q1 : Pos
  q2 : Pos
  q3 : Pos
  q4 : Pos
/-- its two statements -/
abbrev supCall (txt : Str) (z : SupP) : PySem.Expr := .Call (.Attribute (.Call (.Name "super" z.p0) [] [] z.p1) "__init__" z.p2) [.Constant (.str txt) z.j z.p3] [] z.p4
abbrev supBody (txt : Str) (z : SupP) : List Stmt :=
  [.Expr (supCall txt z) z.p5, .Assign [.Attribute (.Name "self" z.q1) "wrong" z.q2] (.Name "wrong" z.q3) z.q4]
abbrev supArgs (z : SupP) : Arguments :=
  { posonlyargs := [], args := [{ arg := "self", annotation := none, pos := z.a1 }, { arg := "wrong", annotation := none, pos := z.a2 }],
    vararg := none, kwonlyargs := [], kw_defaults := [], kwarg := none, defaults := [] }
abbrev supScope : Scope :=
  { kind := .function, names := [(PySem.Str.ofString "self", .local), (PySem.Str.ofString "wrong", .local),
      (PySem.Str.ofString "__class__", .free), (PySem.Str.ofString "super", .globalImplicit)],
    isGenerator := false, isCoroutine := false, more := [] }

/-- what stands in the written part of such a class at C, of its __init__ at fI (cc: the cell of the class, cda: the code) -/
structure SupC (P : Program) (K : Frag) (C fI cc cda : Addr) (qual txt : Str) (z : SupP) (fd : FuncData) : Prop where
  oex : OexC K C
  iC : findIn K (.ref C) "__init__" = some (some (.ref fI))
  tI : typeIn K (.ref fI) = some (.type "function")
  kI : keepIn K (.ref fI) = true
  noW : findIn K (.ref C) "wrong" = some none
  fn : ∃ (oc : Value) (od : Option Addr) (kV doc pm : Value) (an : Option Addr) (ct : Value) (osl : Array (Option Value)),
    fd = ksFn "__init__" qual (supArgs z) (supBody txt z) supScope .none kV doc pm an (.ref cda) ct cc ∧ K.lookup fI = some ⟨oc, od, .func fd, osl⟩
  ev : ∀ (L : Addr), ∃ pl : Sem Bool, eval (supCall txt z) (ksEnv qual supScope L fI (.ref cda) cc) = (do
      let ov ← attributeBase (.Call (.Name "super" z.p0) [] [] z.p1) "__init__" (ksEnv qual supScope L fI (.ref cda) cc) (eval (.Call (.Name "super" z.p0) [] [] z.p1) (ksEnv qual supScope L fI (.ref cda) cc))
      standAt z.p2.atName
      let (f, first) ← holding [ov] (getMethod ov "__init__" pl)
      callWith z.p4 f first (backTo z.p4 (starEach [.Constant (.str txt) z.j z.p3] (ksEnv qual supScope L fI (.ref cda) cc))) [])
  sw : ∀ (L : Addr), swapsWith (supCall txt z) none z.p5.line (ksEnv qual supScope L fI (.ref cda) cc) = pure false
  sw2 : ∀ (L : Addr), swapsWith (.Name "wrong" z.q3) (some (.Attribute (.Name "self" z.q1) "wrong" z.q2)) z.q4.line (ksEnv qual supScope L fI (.ref cda) cc) = pure false
  code : codeIn K (.ref cda) qual = true
  codeO : ∃ (ccl : Value) (cdd : Option Addr) (vs : Array Value) (ccs : Array (Option Value)) (file : Str) (tf : Tok),
    K.lookup cda = some ⟨ccl, cdd, .fields vs, ccs⟩ ∧ vs[2]? = some (.str file tf) ∧ ((P.main.file : Str) == file) = true
  cell : ∃ (cl : Value) (cld : Option Addr) (csl : Array (Option Value)), K.lookup cc = some ⟨cl, cld, .cell (some (.ref C)), csl⟩
  sub1 : mroIn K C (.ref C) = some true
  sup0 : nsIn K mainGlobals "super" = some none
  opq : nsIn K cStatics "thirdparty.any" = some none
  up : ks_superIn K C C "__init__" = some (some (.builtin "ValueError.__init__"))
  subV : subIn K (.ref C) (.type "ValueError") = some true
  top0 : (P.main.scope.names.lookup ("super" : Str)).isSome = false

section
variable {prog : Program} {w : World} {A : Around} {E : Value → Shared → Prop} {h : Heap} {g : Array GenState} {d : Drawn} {t : Nat} {os : OsState}
/-- the bound ValueError.__init__ is called -/
theorem mw_call {K : Frag} {u x C t0 : Addr} {rest : List Value} {Q : Value → Shared → Prop} (T : OexC K C) (X : K.In h)
    (hx : h.get? x = some (HandSPX.excO C t0)) (hu : h.get? u = some (kxs_mw "ValueError.__init__" x)) (hz : rest.length ≤ sizeLine)
    (hq : ∀ h' t1, (∀ b o, b ≠ x → h.get? b = some o → h'.get? b = some o) → h'.get? x = some (HandSPX.excO C t1) → Q .none ⟨h', g, d, t, os⟩) :
    wpAny (model prog w) A (call (.ref u) rest) Q E ⟨h, g, d, t, os⟩ := by
  obtain ⟨nm, q, N, bs, bm, sn, sub, ab, col, dd, k0, k1, k2, k3, k5, hC, hbm⟩ := T.cls
  have hCh := X _ _ hC
  refine wpAny_call (codeAny_of_tree ?_)
  show wpAny _ A.in1 (callAny (.ref u) ⟨rest, []⟩) _ _ _
  simp only [callAny]
  refine wpAny_bind (wpAny_load hu ?_)
  simp only [kxs_mw, show (Value.type "method-wrapper" == Value.type "method" ||
    Value.type "method-wrapper" == Value.type "builtin_function_or_method" || Value.type "method-wrapper" == Value.type "method-wrapper") = true
      by decide, if_true]
  refine KFB.if_so (by decide) ?_
  refine wpAny_bind (check_bound_init F.excBase_ValueError.toExcCallFacts hCh hx rfl ?_)
  refine wpAny_bind (wpAny_pure (wpAny_pure ?_))
  refine ⟨plainId_quiet F.excBase_ValueError.init.plain _, codeAny_builtin F.excBase_ValueError.initEntry ?_⟩
  refine exc_init_tree (cls := .ref C) (t0 := t0) (dv := none) (c2 := .none) (c3 := .none) (b4 := .bool false) hx hz fun h' k e' _ => ?_
  exact hq h' _ k e'
end

section
variable {P : Program} {w : World} {K : Frag} {mg : Str → Option Value} {base : Heap} {C fI cc cda : Addr} {qual txt : Str}
/-- what such an __init__ keeps: the new error gets its dict, with wrong in it -/
def spSup (C : Addr) : Sp := fun vs H Q _ => ∃ (a : Addr) (v : V), vs = [.ref a, v] ∧ H a = some (exo a C none) ∧
  ∀ dx, H dx = none → dx ≠ a → Q .non (upd (upd H a (exo a C (some dx))) dx (exd dx [("wrong", v)]))

theorem sup_ok {fd : FuncData} {z : SupP} (T : SupC P K C fI cc cda qual txt z fd) (mgS : mg "super" = none) (CX : CXT) (k : Nat) :
    FnOk P w K mg base CX (k + 1) fI fd ["self", "wrong"] (spSup C) := by
  obtain ⟨oc, od, kV, doc, pm, an, ct, osl, rfl, lk⟩ := id T.fn
  refine ⟨fun vs H Q E h => ?_, fun A outer s H args us vs Q E hr e0 hb r hsp => ?_⟩
  rotate_left
  · obtain ⟨a, v, rfl, hA, hk⟩ := hsp
    cases r with
    | @cons _ u0 _ ur ra rw' =>
    obtain rfl : u0 = Value.ref a := ra
    cases rw' with
    | @cons _ u _ ur2 rv rn =>
    cases rn
    have bk : ∀ b o, base.get? b = some o → s.heap.get? b = some o := fun b o e => (e0.bs b o e).1
    have KX : K.In s.heap := e0.mod.kin.keeps bk
    have lim : s.heap.NoLimit := e0.mod.nolimit.keeps bk
    obtain ⟨mb, hnb, hbb⟩ := e0.mod.blt
    have GL := e0.mod.glob.keeps bk
    have BL := hnb.keeps bk
    obtain ⟨nm, q, N, bs, bm, sn, sub, ab, col, dd, k0, k1, k2, k3, k5, hC, hbm⟩ := id T.oex.cls
    have hcl : clsIn K C = some { name := nm, bases := bs, mro := .ref C :: bm, ns := N, qualname := q, hasDict := true, slotNames := sn, subclasses := sub, abstract := ab, collection := col, hasDel := false } := by
      unfold clsIn; rw [hC] <;> rfl
    obtain ⟨ccl, cdd, cvs, ccs, file, tf, hco, hcvs, hfile⟩ := T.codeO
    obtain ⟨cl, cld, csl, hcell⟩ := T.cell
    obtain ⟨t0, hxa⟩ := exo_at e0.hok hA
    have hxa : s.heap.get? a = some (HandSPX.excO C t0) := hxa
    refine ks_codeAny_call_defAt (fd := ksFn "__init__" qual (supArgs z) (supBody txt z) supScope .none kV doc pm an (.ref cda) ct cc)
      (body := supBody txt z) hr.depth (KX _ _ lk) rfl lim (codeRec_of KX T.code) rfl hb (show ∀ x ∈ supScope.names, x.2 ≠ .cell by decide) (fun x hx => by
        simp only [List.zip_cons_cons, List.zip_nil_right, List.zip_nil_left, List.mem_cons, List.not_mem_nil, or_false] at hx
        rcases hx with rfl | rfl <;> rfl) (fun h₁ hns hk₁ => ?_) rfl rfl rfl
    have X₁ : K.In h₁ := KX.keeps hk₁
    have hx₁ := hk₁ _ _ hxa
    have I₁ : W.InstAt h₁ a (HandSPX.excO C t0) C none := ⟨hx₁, rfl, rfl, trivial⟩
    have hCh := X₁ _ _ hC
    obtain ⟨pl, hev⟩ := T.ev s.heap.objs.size
    refine ks_wpAt_execs_cons (ks_wpAt_Expr_any (ks_wpAt_MethodCall ?_ hev) (by rfl) (T.sw _))
    refine ks_wpAt_super_base (f := fI) (cc := cda) (ar := { arg := "self", annotation := none, pos := z.a1 }) (by rfl) (by rfl) (by decide) (by rfl) (X₁ _ _ lk) (by rfl) (by rfl) (by rfl) (X₁ _ _ hco) (by rfl) hcvs hfile T.top0 ?_
    refine ks_loadName_global (by rfl) (by rfl) (loadGlobal_builtin (GL.keeps hk₁) mgS (BL.keeps hk₁) ((hbb _ (by decide +kernel)).trans (by first | boot_by_name | rfl | kernel_rfl)) ⟨rfl, ?_⟩)
    refine wpAny_loadName_free (c := cc) (by rfl) (by rfl) (by rfl) ⟨_, X₁ _ _ hcell, rfl⟩ ?_
    refine wpAny_loadName_local (v := .ref a) (by rfl) (by rfl) hns (by rfl) ?_
    refine ks_wpAny_isType_cls hCh (by rfl) ⟨rfl, ?_⟩
    refine ks_wpAny_call_super hCh (by rfl) hx₁ rfl (fun c e => by cases e) (looks_mroIn X₁ T.sub1) (fun h₂ hso hk₂ => ?_)
    have X₂ : K.In h₂ := X₁.keeps hk₂
    have hx₂ := hk₂ _ _ hx₁
    have I₂ : W.InstAt h₂ a (HandSPX.excO C t0) C none := ⟨hx₂, rfl, rfl, trivial⟩
    have hup := T.up
    unfold ks_superIn at hup
    rw [hcl] at hup
    refine kxs_getMethod kxs_ValueError hso (looks_opaque X₂ T.opq) (l₀ := .ref C :: bm) ?_ rfl X₂ hup (I₂.type.andThen (looks_subIn X₂ T.subV)) (ks_ne X₂ I₂ hcl) (by decide) ?_
    · exact fun A Q E s k q => wpAny_bind ((looks_clsIn X₂ hcl) A _ E s k (wpAny_pure q))
    have hk₃ : ∀ b o, h₂.get? b = some o → (h₂.push (kxs_mw "ValueError.__init__" a)).get? b = some o := fun b o e => Heap.get?_push_of_some _ e
    refine kxs_callWith (i := "ValueError.__init__") (x := a) (by rfl) ?_
    show wpAny _ _ (evalArgs _ true [(false, eval (.Constant (.str txt) z.j z.p3) _)] []) _ _ _
    refine evalArgs_plain (spliced_cons (wpAny_Constant_str (spliced_nil ⟨Heap.get?_push_at rfl rfl, ?_⟩)))
    refine mw_call (K := K) T.oex (X₂.keeps hk₃) (hk₃ _ _ hx₂) (Heap.get?_push_at rfl rfl) (by show 1 ≤ sizeLine; rw [sizeLine_eq]; decide) (fun h₄ t4 hk₄ hx₄ => ?_)
    have hk14 : ∀ b o, b ≠ a → h₁.get? b = some o → h₄.get? b = some o := fun b o hb e => hk₄ b o hb (hk₃ b o (hk₂ b o e))
    have hns4 : h₄.Ns s.heap.objs.size _ := hns.at fun o e => hk14 _ o (fun z => by
      have := Heap.lt_size hxa
      rw [← z] at this
      exact absurd this (Nat.lt_irrefl _)) e
    have X₄ : K.In h₄ := fun b o e => hk14 b o (fun z => by
      have := ks_ne X₁ I₁ hcl
      have e2 := X₁ _ _ e
      rw [z, hx₁] at e2
      cases e2
      rw [z] at e
      have q1 := KX _ _ e
      exact absurd (e0.mod.kin _ _ e) (fun q2 => by
        have q3 := (e0.bs _ _ q2).2
        rw [hA] at q3
        cases q3)) (X₁ _ _ e)
    refine wpAt_of_wpAny (wpAny_execs_cons (plainObj_wpAny_Assign_Attribute ?_ (T.sw2 _)))
    refine wpAny_Name (wpAny_loadName_local (v := u) (by rfl) (by rfl) hns4 (by rfl) ?_) (by decide)
    refine wpAny_Name (wpAny_loadName_local (v := .ref a) (by rfl) (by rfl) hns4 (by rfl) ?_) (by decide)
    refine set_plain X₄ (ox := HandSPX.excO C t4) (od := none) ⟨hx₄, rfl, rfl, trivial⟩ T.oex.sa ?_
    refine HandSPX.exc_osa X₄ hx₄ hcl (show HandSPX.refsVE (.ref C :: bm) = true from hbm) rfl T.noW (fun h₅ tk₅ dx hk₅ dn dne hx₅ hn₅ => ?_)
    refine wpAny_execs_nil ?_
    have old : ∀ b o, b ≠ a → s.heap.get? b = some o → h₅.get? b = some o := fun b o hb e => hk₅ b o hb (hk14 b o hb (hk₁ b o e))
    have hlt : s.heap.objs.size ≤ dx := by
      exact Nat.le_of_lt (Nat.lt_of_lt_of_le hns4.lt dn)
    have hdx : H dx = none := e0.hok.fresh hlt
    have w1 : HOk P w (upd H a (exo a C (some dx))) h₅ := e0.hok.write (e := a) (by rw [hA]; exact True.intro) (.inl rfl) old ⟨_, hx₅⟩ (exo_ok hx₅)
    have n1 : upd H a (exo a C (some dx)) dx = none := by rw [upd_ne dne]; exact hdx
    refine ⟨.non, upd (upd H a (exo a C (some dx))) dx (exd dx [("wrong", v)]), rfl, e0.bare, ?_, ?_, rfl, hk dx hdx dne⟩
    · have U1 : Un (frs outer) [] H (upd H a (exo a C (some dx))) s.heap h₅ := Un.write (e := a) (by rw [hA]; exact True.intro) (.inl rfl) old ⟨_, hx₅⟩
      refine ⟨U1.keep, U1.slot, fun b o e n hx => ?_, U1.there, fun b xs e => ?_, fun b o u e => ?_, fun b ps e => ?_⟩
      · rw [upd_ne (Nat.ne_of_lt (Nat.lt_of_lt_of_le (Heap.lt_size e) hlt))]
        exact U1.free b o e n hx
      · rw [upd_ne (ne_of_none e hdx)]
        exact U1.tups b xs e
      · rw [upd_ne (ne_of_none e hdx)]
        exact U1.frzs b o u e
      · rw [upd_ne (ne_of_none e hdx)]
        exact U1.tbls b ps e
    · exact w1.laidN (fun _ _ e => e) n1 (exd_ok hn₅ (relO_put rv (fun f => by simp [List.lookup, RelO])))
  · obtain ⟨a, v, rfl, _⟩ := h
    rfl
end
end Cp
/-! Cameposts: a caught error that is kept behind its suite -/
namespace Cp
open PySem PySem.W PySem.Calls PyProof.Rows L2
/-- an error of the class cls, its own dict at d, stands at a -/
def ExcAt (a : Addr) (cls : Value) (d : Option Addr) : HO :=
  .ext fun h => ∃ (oe : Obj) (vs : Array Value), h.get? a = some oe ∧ Zc cls d oe ∧ oe.data = .fields vs
theorem excAt_ok {P : Program} {w : World} {H : Hp} {h : Heap} {a : Addr} {cls : Value} {d : Option Addr} {oe : Obj} {vs : Array Value}
    (e : h.get? a = some oe) (q : Zc cls d oe) (f : oe.data = .fields vs) : ObjOk P w H h a (ExcAt a cls d) :=
  ⟨⟨oe, vs, e, q, f⟩, ⟨oe, e⟩, fun _ _ ⟨o, v, r1, r2⟩ k => ⟨o, v, k o r1, r2⟩⟩
theorem excAt_of {P : Program} {w : World} {H : Hp} {h : Heap} {a : Addr} {cls : Value} {d : Option Addr} (x : HOk P w H h) (e : H a = some (ExcAt a cls d)) :
    ∃ (oe : Obj) (vs : Array Value), h.get? a = some oe ∧ Zc cls d oe ∧ oe.data = .fields vs := (x a _ e).1
/-- an untracked object that came behind the entry is tracked from now on -/
theorem inv_track {X : Cx} {pins : List (Addr × Obj)} {σ : L2.St} {H : Hp} {s : Shared} {a : Addr} {oe : Obj} {vs : Array Value} {o : HO} (I : Inv X pins σ H s)
    (e : s.heap.get? a = some oe) (f : oe.data = .fields vs) (n : H a = none) (nl : a ≠ X.env.locals) (np : ∀ p ∈ X.pn ++ pins, p.1 ≠ a) (n0 : X.s_0.heap.get? a = none)
    (new : ObjOk X.prog X.w (upd H a o) s.heap a o) : Inv X pins σ (upd H a o) s where
  ok := I.ok
  os := I.os
  bare := I.bare
  base := {
    keep := I.base.keep
    slot := I.base.slot
    free := fun b u q m hx => by
      rw [upd_ne (fun z => by rw [z, n0] at q; cases q)]
      exact I.base.free b u q m hx
    there := I.base.there
    tups := fun b xs q => by
      have y := I.base.tups b xs q
      rw [upd_ne (ne_of_none y n)]
      exact y
    frzs := fun b u xs q => by
      have y := I.base.frzs b u xs q
      rw [upd_ne (ne_of_none y n)]
      exact y
    tbls := fun b ps q => by
      obtain ⟨more, y⟩ := I.base.tbls b ps q
      exact ⟨more, by rw [upd_ne (ne_of_none y n)]; exact y⟩ }
  loc := I.loc
  cell := I.cell
  free := by
    rw [upd_ne (Ne.symm nl)]
    exact I.free
  freeC := fun x c q => by
    obtain ⟨v, u, hu, hd⟩ := I.cell x c q
    rw [upd_ne (fun z => by rw [z, e] at hu; cases hu; rw [f] at hd; cases hd)]
    exact I.freeC x c q
  pin := fun p hp => by
    obtain ⟨r1, r2, r3, r4, r5⟩ := I.pin p hp
    exact ⟨r1, by rw [upd_ne (np p hp)]; exact r2, r3, r4, r5⟩
  hok := I.hok.laidN (fun _ _ q => q) n new
  len := I.len

/-- what the clause 'except x as n' wishes, the error kept: the suite's end sees it tracked -/
def wKeep (K : Frag) (c : Value) (i : Nat) (ts : Addr → Value → Option Addr → TS) (Wout : WX) (D : Ends) : WX := fun cls d σ H =>
  ∃ b, exmOne K cls c = some b ∧
    (b = true → ∀ a, H a = none → ts a cls d
      { nx := fun σ' H' => H' a = none → D.nx (σ'.set i none) (upd H' a (ExcAt a cls d))
        rt := fun v H' => H' a = none → D.rt v (upd H' a (ExcAt a cls d))
        bk := fun σ' H' => H' a = none → D.bk (σ'.set i none) (upd H' a (ExcAt a cls d))
        ct := fun σ' H' => H' a = none → D.ct (σ'.set i none) (upd H' a (ExcAt a cls d)) } (σ.set i (some (.ref a))) H) ∧
    (b = false → Wout cls d σ H)

section
variable {X : Cx} {x n : Str} {c : Value} {i : Nat} {body suite : List Stmt} {b₀ : Stmt} {np pos pos' : Pos} {tb : WX → TS} {ts : Addr → Value → Option Addr → TS} {Wout : WX}
theorem ps_try_keep (hst : X.stack = X.env :: X.outer) (hfm : X.env.frame = some X.env.locals) (hnd : X.N.Nodup) (hin : X.N[i]? = some n) (hlo : X.env.kindOf n = some .local)
    (hnm : Names X x c) (tko : Takes X Wout) (hex : X.ex = [])
    (hbo : ∀ (W : WX) (pn : List (Addr × Obj)) (xe : Value → Shared → Prop), Takes (X.tr pn xe) W → PassesOwn (model X.prog X.w) X.A X.env xe → PSs (X.tr pn xe) body (tb W))
    (hsu : ∀ (a : Addr) (oe : Obj) (cls : Value) (d : Option Addr) (pn : List (Addr × Obj)), Zc cls d oe → (∃ vs, oe.data = .fields vs) → PSs (X.suite a ((a, oe) :: pn)) (b₀ :: suite) (ts a cls d)) :
    PS X (.Try body [.ExceptHandler (some (.Name x np)) (some n) (b₀ :: suite) pos'] [] [] pos) (fun D σ H => tb (wKeep X.K c i ts Wout D) D σ H) := by
  refine ⟨fun pins s σ H D I hh => ?_⟩
  have okX := I.ok
  have hfrm : X.A.frames = some (X.env :: X.outer) := by
    rw [okX.frames, hst]
  refine wpAny_Try_except ?_
  refine wpAny_mono ((hbo (wKeep X.K c i ts Wout D) (X.pn ++ pins)
    (fun er s₁ => wpAny (model X.prog X.w) X.A (noteFrame er X.env)
      (fun _ s₂ => wpAny (model X.prog X.w) X.A (setFlight er none)
        (fun _ s₃ => wpAny (model X.prog X.w) X.A (handleBy er X.env [.ExceptHandler (some (.Name x np)) (some n) (b₀ :: suite) pos']) (SP X pins D) X.xe s₃) X.xe s₂) X.xe s₁)
    (fun u s' xx => ?_) PassesOwn.looking).run [] s σ H D (I.toTry _) hh) (fun f s1 hsp => ?_) (fun er s1 hx => hx)
  · obtain ⟨a, B, sI, pinz, σ', H', cls, d, rfl, Jt, nob, upp, skyy, nas, oss, agg, b, hb1, hyes, hno⟩ := xx
    have Jv : Inv X pins σ' H' sI := Jt.ofTry okX
    have sky2 : Sky B (X.env :: X.outer) a (Zc cls d) X.env.locals s'.heap := by
      rw [← hst]
      exact skyy
    show wpAny (model X.prog X.w) X.A (noteFrame (.ref a) X.env) _ _ _
    refine Sky.land Zc.steady hfrm hfm sky2 fun h3 fly3 upp3 => ?_
    have Jv3 : Inv X pins σ' H' { s' with heap := h3 } := Jv.landed nob fly3.1 (upp.trans upp3) oss agg
    obtain ⟨oe3, vs3, het3, hz3, hdt3⟩ := fly3.there
    have offF : a ∉ frs (X.env :: X.outer) := fun hm => by
      obtain ⟨_, oo, eo, hnf⟩ := fly3.2.2.1.mem hm
      rw [het3] at eo
      cases eo
      exact hnf _ hdt3
    have offL : a ≠ X.env.locals := fun z => offF (List.mem_filterMap.mpr ⟨X.env, List.mem_cons_self, by
      rw [hfm, z]⟩)
    have offO : a ∉ X.fs := fun hm => by
      obtain ⟨ev, hev, q⟩ := List.mem_filterMap.mp hm
      exact offF (List.mem_filterMap.mpr ⟨ev, List.mem_cons_of_mem _ hev, q⟩)
    have offI : sI.heap.get? a = none := by
      cases hq : sI.heap.get? a with
      | none => rfl
      | some oo =>
        have hB := nob a oo hq (by rw [hst]; exact offF)
        rw [fly3.2.1] at hB
        cases hB
    have off0 : X.s_0.heap.get? a = none := by
      cases hq : X.s_0.heap.get? a with
      | none => rfl
      | some oo =>
        obtain ⟨o2, hB⟩ := Jv.base.there a oo hq (by rw [hex]; simp)
        rw [offI] at hB
        cases hB
    have offP : ∀ p ∈ X.pn ++ pins, p.1 ≠ a := fun p hp z => by
      have y := (Jv.pin p hp).1
      rw [z, offI] at y
      cases y
    have Sv3 := Jv3.suite het3 hdt3 nas offL offO
    refine wpAny_handleBy_cons (codeAny_handlers_test ?_) (by intro q; cases q)
    have lkT : PySem.W.Looks (model X.prog X.w) h3 (typeOf (.ref a)) cls := fun A Q E s k q => wpAny_typeOf_ref (k _ _ het3) (by
      rw [hz3.1]
      exact q)
    have lkM := PySem.W.exm_one (M := model X.prog X.w) (Jv3.kIn) lkT hb1
    have tst : ∀ {Q : Value → Shared → Prop} {E : Value → Shared → Prop}, Q c { s' with heap := h3 } →
        wpAny (model X.prog X.w) (X.A.mark (some (.ref a))) (eval (.Name x np) X.env) Q E { s' with heap := h3 } := fun {Q E} q => by
      obtain ⟨hgl, hdb, hmm | ⟨hmm, hbv, hnn⟩⟩ := hnm
      · exact ld_glob (X := X.suite a ((a, oe3) :: (X.pn ++ pins))) Sv3 hgl hmm q hdb
      · exact ld_blt (X := X.suite a ((a, oe3) :: (X.pn ++ pins))) Sv3 hgl hmm hbv q hnn hdb
    refine tst (lkM.here ?_)
    cases b with
    | true =>
      refine codeAny_handlers_suite_as ?_
      refine HandSPX.lands_againZ fly3 fun h4 fly4 upp4 => ?_
      have Jv4 : Inv X pins σ' H' { s' with heap := h4 } := Jv.landed nob fly4.1 ((upp.trans upp3).trans upp4) oss agg
      obtain ⟨oe4, vs4, het4, hz4, hdt4⟩ := fly4.there
      have Sv4 := Jv4.suite het4 hdt4 nas offL offO
      refine store_ok (X := X.suite a ((a, oe4) :: (X.pn ++ pins))) (v := .ref a) Sv4 hnd hin (.inl hlo) rfl (fun s5 S5 => ?_) (.inr hlo)
      refine wpAny_mono ((hsu a oe4 cls d (X.pn ++ pins) hz4 ⟨_, hdt4⟩).run [] s5 _ H' _ S5 (hyes rfl a nas)) (fun f s6 hsp => ?_) (fun _ _ z => False.elim z)
      have fin6 : ∀ {σ6 : L2.St} {H6 : Hp} {Q : Shared → Prop}, Inv (X.suite a ((a, oe4) :: (X.pn ++ pins))) [] σ6 H6 s6 →
          (H6 a = none → ∀ s7, Inv X pins (σ6.set i none) (upd H6 a (ExcAt a cls d)) s7 → Q s7) →
          wpAny (model X.prog X.w) X.A (do bindName X.env n .none; unbindBehindTheSuite X.env n pos') (fun _ s7 => Q s7) X.xe s6 := fun {σ6 H6 Q} S6 hq => by
        obtain ⟨e6, n6, _⟩ := S6.pin (a, oe4) (List.mem_append_left _ List.mem_cons_self)
        exact gone_ok (inv_track (S6.unsuite okX) e6 hdt4 n6 offL offP off0 (excAt_ok e6 hz4 hdt4)) hnd hin hlo (hq n6)
      cases f with
      | next =>
        obtain ⟨σ6, H6, S6, q6⟩ := hsp
        exact fin6 S6 fun n6 s7 J7 => ⟨_, _, J7, q6 n6⟩
      | brk =>
        obtain ⟨σ6, H6, S6, q6⟩ := hsp
        exact fin6 S6 fun n6 s7 J7 => ⟨_, _, J7, q6 n6⟩
      | cont =>
        obtain ⟨σ6, H6, S6, q6⟩ := hsp
        exact fin6 S6 fun n6 s7 J7 => ⟨_, _, J7, q6 n6⟩
      | ret u =>
        obtain ⟨v6, σ6, H6, S6, r6, q6⟩ := hsp
        exact fin6 S6 fun n6 s7 J7 => ⟨_, _, _, J7, r6, q6 n6⟩
    | false =>
      show wpAny _ X.A (handleBy (.ref a) X.env []) _ _ _
      refine wpAny_handleBy_nil ?_
      obtain ⟨k1, k2, k3, oeF, vsF, Tb, oTb, tbs, heF, hzF, hdF, hF1, hrF⟩ := id fly3
      unfold PySem.passOn
      refine wpAny_bind (wpAny_field heF hdF hF1 ?_)
      rw [if_neg (show ¬ ((Value.ref Tb == Value.none) = true) from by simp)]
      have fin : wpAny (model X.prog X.w) X.A (setFlight (.ref a) X.env.frame) (fun _ s4 => wpAny (model X.prog X.w) X.A (throw (.ref a) : Sem Flow) (SP X pins D) X.xe s4) X.xe
          { s' with heap := h3 } := by
        rw [hfm]
        refine HandSPX.setFlight_upZ fly3 fun h4 hh4 upp4 => wpAny_throw (tko _ _ ?_)
        exact ⟨a, B, sI, pins, σ', H', cls, d, rfl, Jv, nob, (upp.trans upp3).trans upp4, .inr (.inr (by rw [hst]; exact hh4)), nas, oss, agg, hno rfl⟩
      first
        | exact wpAny_bind (wpAny_pure (wpAny_bind fin))
        | exact wpAny_bind fin
  · cases f with
    | next =>
      obtain ⟨σ2, H2, J2, q⟩ := hsp
      exact wpAny_execs_nil ⟨σ2, H2, J2.ofTry okX, q⟩
    | brk =>
      obtain ⟨σ2, H2, J2, q⟩ := hsp
      exact ⟨σ2, H2, J2.ofTry okX, q⟩
    | cont =>
      obtain ⟨σ2, H2, J2, q⟩ := hsp
      exact ⟨σ2, H2, J2.ofTry okX, q⟩
    | ret u =>
      obtain ⟨v, σ2, H2, J2, r2, q⟩ := hsp
      exact ⟨v, σ2, H2, J2.ofTry okX, r2, q⟩
end
end Cp
/-! Cameposts: a kept error is asked for its class and its field -/
namespace Cp
open PySem PySem.W PySem.Calls PyProof.Rows L2
section
variable {prog : Program} {w : World} {A : Around} {E : Value → Shared → Prop} {s : Shared} {K : Frag} {x D : Addr} {ox : Obj} {od : Option Obj}
theorem findObj_cls {C : Addr} {name : Str} {a g : Value} (hc : (clsIn K C).isSome = true) (ha : findIn K (.ref C) name = some (some a)) (hg : specialIn K a "__get__" = some (some g))
    (ht : takesIn K a = some true) : findObj K C od name = some (.bind g a) := by
  obtain ⟨cd, hcd⟩ := Option.isSome_iff_exists.mp hc
  unfold findObj
  rw [hcd, Option.bind_some, ha, Option.bind_some]
  simp [hg, ht]
theorem class_of_exc {Q : Option Value → Shared → Prop} (T : ExcC K D) (X : K.In s.heap) (I : W.InstAt s.heap x ox D od) (h : Q (some (.ref D)) { s with toks := s.toks + 1 }) :
    wpAny (model prog w) A (getAttr? (.ref x) "__class__") Q E s := by
  have hf : findObj K D od "__class__" = some (.bind (.builtin "getset_descriptor.__get__") (.builtin "object.__class__")) := findObj_cls (by
    obtain ⟨cd, hc, _⟩ := any_some T.hd
    rw [hc]
    rfl) T.ha T.hn T.ht
  obtain ⟨hp, g, d, t, os⟩ := s
  have k0 := I.type (M := model prog w)
  have k1 := looks_findIn (M := model prog w) X T.hg
  have k2 := looks_findIn (M := model prog w) X T.hk
  have k3 := looks_find (M := model prog w) X I hf
  have ksub : Looks (model prog w) hp (isInstance (.ref x) (.type "BaseException")) true := k0.andThen (looks_subIn X T.hs)
  have n0 : (false && onTheHeap (Value.builtin "BaseException.__getattribute__")) = false := rfl
  have n2 : (Value.builtin "BaseException.__getattribute__" == Value.builtin "object.__getattribute__") = false := by decide +kernel
  have n1 : (onTheHeap (Value.ref D) && Value.builtin "BaseException.__getattribute__" == Value.builtin "object.__getattribute__") = false := by
    rw [n2]
    rfl
  unfold getAttr? getAttrBy? getAttrBy
  refine wpAny_bind (wpAny_mkText (wpAny_bind (wpAny_attempt (wpAny_holding (wpAny_bind (k0.at (wpAny_bind (k1.at ?_))))))))
  show wpAny _ _ (if (onTheHeap (Value.ref D) && Value.builtin "BaseException.__getattribute__" == Value.builtin "object.__getattribute__") = true then _ else _)
    _ _ _
  rw [n1, if_neg Bool.false_ne_true]
  unfold getAttrByItsOwn hookBefore
  refine wpAny_bind ?_
  rw [if_pos (show onTheHeap (Value.ref D) = true from rfl)]
  refine k2.at ?_
  refine wpAny_bind (wpAny_attempt (wpAny_holding ?_))
  unfold callGetattribute
  rw [n0, if_neg Bool.false_ne_true]
  unfold boundAndCalled
  rw [PySem.F.excAttr_ValueError.ga.bind (.ref x)]
  refine wpAny_bind (wpAny_pure ?_)
  show wpAny _ _ (call (.builtin "BaseException.__getattribute__") [.ref x, .str "__class__" t]) _ _ _
  refine wpAny_call (codeAny_call_builtin PySem.F.excAttr_ValueError.ga.plain PySem.F.entry_bexc_ga ?_)
  refine @check_slot (model prog w) _ _ ⟨hp, g, d, t + 1, os⟩ "BaseException.__getattribute__" "BaseException" "__getattribute__" (.ref x) [.str "__class__" t] []
    _ (by decide +kernel) (by decide +kernel) ksub (PySem.F.args_bexc_ga (.ref x) (.str "__class__" t)) ?_
  unfold Builtin.«object.__getattribute__»
  refine wpAny_bind (wpAny_of_eq (a := ((Value.ref x : Value), [Value.str "__class__" t])) (by first | rfl | (simp only [slotArgs]; rfl)) ?_)
  refine wpAny_bind (wpAny_pure (wpAny_bind (k0.at (wpAny_bind (k3.at ?_)))))
  show wpAny _ _ (holding [Value.builtin "object.__class__"] (call (.builtin "getset_descriptor.__get__") [.builtin "object.__class__", .ref x, .ref D]) >>= ret)
    _ _ _
  refine wpAny_bind (wpAny_holding (wpAny_call (class_get (s := ⟨hp, g, d, t + 1, os⟩) (ox := ox) (od := od) X I T.hm ?_)))
  refine wpAny_pure ?_
  show wpAny _ _ (handedOut (.ref D)) _ _ _
  rw [handedOut_of (v := .ref D) rfl]
  first
    | exact wpAny_pure (wpAny_pure h)
    | exact wpAny_pure h
    | exact wpAny_pure (wpAny_bind (wpAny_pure (wpAny_pure h)))
theorem kit_of_exc (T : ExcC K D) : KitX K (.ref x) (.ref D) (fun h => W.InstAt h x ox D od) where
  ty := fun _ _ _ I => I.type
  it := fun _ _ X _ => by
    obtain ⟨cdD, hcD, _⟩ := any_some T.hd
    unfold clsIn at hcD
    split at hcD
    · rename_i c' d' cd' sl' ho
      intro A' Q' E' s' k q
      unfold isType loadHead
      exact wpAny_bind (wpAny_loadPart (k _ _ (X _ _ ho)) (wpAny_pure q))
    · cases hcD
  ne := fun h tp dd its n sl X htp => by
    obtain ⟨cdD, hcD, _⟩ := any_some T.hd
    refine Bool.eq_false_iff.mpr fun q => ?_
    have e : D = tp := Value.ref.inj (beq_iff_eq.mp q)
    subst e
    unfold clsIn at hcD
    split at hcD
    · rename_i c' d' cd' sl' ho
      have z := (X _ _ ho).symm.trans htp
      cases z
    · cases hcD
  ca := fun X I k => class_of_exc T X I k
end

/-- an error of the class at D, kept at a -/
def Kept (K : Frag) (H : Hp) (a D : Addr) : Prop := ∃ d, H a = some (ExcAt a (.ref D) d) ∧ (∀ dd, d = some dd → ∃ fs, H dd = some (.xd fs)) ∧ ExcC K D
theorem kept_inst {X : Cx} {pins : List (Addr × Obj)} {σ : L2.St} {H : Hp} {s : Shared} {a D : Addr} (I : Inv X pins σ H s) (k : Kept X.K H a D) :
    ∃ ox od, W.InstAt s.heap a ox D od := by
  obtain ⟨d, hA, hD, T⟩ := k
  obtain ⟨oe, vs, e, hz, hf⟩ := excAt_of I.hok hA
  cases d with
  | none => exact ⟨oe, none, e, hz.1, by unfold PySem.W.notCls; rw [hf] <;> rfl, by rw [hz.2]; trivial⟩
  | some dd =>
    obtain ⟨fs, hx⟩ := hD dd rfl
    have hx : ObjOk X.prog X.w H s.heap dd (.xd fs) := I.hok dd _ hx
    obtain ⟨mA, hns, hr⟩ := hx
    obtain ⟨od, ho, hl⟩ := lookIn_ns hns
    exact ⟨oe, some od, e, hz.1, by unfold PySem.W.notCls; rw [hf] <;> rfl, by rw [hz.2]; exact ho⟩
/-- isinstance(x, c), x a kept error or a value of a known type -/
def rIsU (K : Frag) : List V → Hp → VK → Prop := fun xs H Q => rIsi K xs H Q ∨
  ∃ (a D : Addr) (c : V) (cv : Value) (b : Bool), xs = [.ref a, c] ∧ Kept K H a D ∧ ClsV c cv ∧ kitOne K (.ref D) cv = some b ∧ Q (.bl b) H
theorem call_isU {X : Cx} : CallR X (.builtin "isinstance") (rIsU X.K) := by
  intro pins s σ H xs us Q I r h
  rcases h with h | ⟨a, D, c, cv, b, rfl, hk, hc, e, q⟩
  · exact call_isi pins s σ H xs us Q I r h
  · cases r with
    | cons rx rr =>
      cases rr with
      | cons rt rr =>
        cases rr
        cases rx
        have ec := ClsV.eq hc rt
        subst ec
        obtain ⟨ox, od, J⟩ := kept_inst I hk
        obtain ⟨d, _, _, T⟩ := hk
        exact kia_one (kit_of_exc T) I.kIn J e (fun z => nomatch z) fun tk => ⟨.bl b, H, I.kept (t' := tk) fun _ _ z => z, rfl, q⟩
/-- e.n, e a kept error -/
def tKf (K : Frag) (n : Str) (te : TE) : TE := fun σ H Q => te σ H fun x H1 => ∃ (a C dd : Addr) (fs : List (Str × V)) (v : V), x = .ref a ∧ H1 a = some (ExcAt a (.ref C) (some dd)) ∧
  XfC K C ∧ findIn K (.ref C) n = some none ∧ H1 dd = some (.xd fs) ∧ fs.lookup n = some v ∧ Q v H1
theorem pe_kf {X : Cx} {e : PySem.Expr} {te : TE} {pos : Pos} {n : Str} (he : PE X e te) (hb : attributeBase e n X.env (eval e X.env) = eval e X.env := by rfl) :
    PE X (.Attribute e n pos) (tKf X.K n te) := by
  refine ⟨fun pins s σ H Q I h => ?_⟩
  refine attr_of hb (thn (he.run pins s σ H _ I h) fun u s1 hh => ?_)
  obtain ⟨x, H1, I1, rx, a, C, dd, fs, v, ex, eA, T, hno, eD, l, q⟩ := hh
  subst ex
  obtain rfl : u = Value.ref a := rx
  obtain ⟨oe, vs, ha, hz, hf⟩ := excAt_of I1.hok eA
  have hx : ObjOk X.prog X.w H1 s1.heap dd (.xd fs) := I1.hok dd _ eD
  obtain ⟨mA, hns, hr⟩ := hx
  obtain ⟨od, ho, hl⟩ := lookIn_ns hns
  obtain ⟨u, hu, ru⟩ := RelO.some_of (v := v) (o := mA n) (by rw [← l]; exact hr n)
  have J : W.InstAt s1.heap a oe C (some od) := ⟨ha, hz.1, by unfold PySem.W.notCls; rw [hf] <;> rfl, by
    rw [hz.2]
    exact ho⟩
  exact HandSPX.exc_get I1.kIn J T.ga T.gg T.exC (PySem.W.findObj_own T.hdC hno rfl (by
    rw [hl, hu])) (handed_of ru) ⟨v, H1, I1.tok _, ru, q⟩
end Cp
/-! Cameposts: readings upon data. A value is told by its data (PyData); the heap within is plain, and what is owned (O) may change -/
namespace Cp
open PySem L2
open Evl (Ex)

/-! ### data in the abstract heap -/
mutual
def Dt (H : Hp) : PyData → V → Prop
  | .none, v => v = .non
  | .bool b, v => v = .bl b
  | .int i, v => v = .int i
  | .str s, v => v = .str s
  | .list ds, v => ∃ a xs, v = .ref a ∧ H a = some (.lst xs) ∧ DtAll H ds xs
  | .tuple ds, v => ∃ a xs, v = .ref a ∧ H a = some (.tup xs) ∧ DtAll H ds xs
  | .dict _, _ => False
def DtAll (H : Hp) : List PyData → List V → Prop
  | [], vs => vs = []
  | d :: ds, vs => ∃ v r, vs = v :: r ∧ Dt H d v ∧ DtAll H ds r
end
mutual
theorem Dt.mono {H H' : Hp} (e : Ex H H') : ∀ (d : PyData) (v : V), Dt H d v → Dt H' d v
  | .none, v, h => h
  | .bool b, v, h => h
  | .int i, v, h => h
  | .str s, v, h => h
  | .list ds, v, ⟨a, xs, h1, h2, h3⟩ => ⟨a, xs, h1, e _ _ h2, DtAll.mono e ds xs h3⟩
  | .tuple ds, v, ⟨a, xs, h1, h2, h3⟩ => ⟨a, xs, h1, e _ _ h2, DtAll.mono e ds xs h3⟩
  | .dict _, _, h => h
theorem DtAll.mono {H H' : Hp} (e : Ex H H') : ∀ (ds : List PyData) (vs : List V), DtAll H ds vs → DtAll H' ds vs
  | [], vs, h => h
  | d :: ds, vs, ⟨v, r, h1, h2, h3⟩ => ⟨v, r, h1, Dt.mono e d v h2, DtAll.mono e ds r h3⟩
end
mutual
theorem Dt.dp {K : PySem.W.Frag} {H : Hp} : ∀ (d : PyData) (v : V), Dt H d v → Dp K H v d
  | .none, v, h => by cases h; exact .non
  | .bool b, v, h => by cases h; exact .bl b
  | .int i, v, h => by cases h; exact .int i
  | .str s, v, h => by cases h; exact .str s
  | .list ds, v, ⟨a, xs, h1, h2, h3⟩ => by cases h1; exact .lst (SqL.of h2) (DtAll.dp ds xs h3)
  | .tuple ds, v, ⟨a, xs, h1, h2, h3⟩ => by cases h1; exact .tup (SqT.of h2) (DtAll.dp ds xs h3)
  | .dict _, _, h => h.elim
theorem DtAll.dp {K : PySem.W.Frag} {H : Hp} : ∀ (ds : List PyData) (vs : List V), DtAll H ds vs → DpAll K H vs ds
  | [], vs, h => by cases h; exact .nil
  | d :: ds, vs, ⟨v, r, h1, h2, h3⟩ => by cases h1; exact .cons (Dt.dp d v h2) (DtAll.dp ds r h3)
end
theorem DtAll.length {H : Hp} : ∀ {ds : List PyData} {vs : List V}, DtAll H ds vs → vs.length = ds.length
  | [], vs, h => by cases h; rfl
  | d :: ds, vs, ⟨v, r, h1, h2, h3⟩ => by cases h1; simp [DtAll.length h3]
theorem DtAll.get {H : Hp} : ∀ {ds : List PyData} {vs : List V} {i : Nat} {d : PyData}, DtAll H ds vs → ds[i]? = some d → ∃ v, vs[i]? = some v ∧ Dt H d v
  | [], vs, i, d, h, e => by simp at e
  | x :: ds, vs, 0, d, ⟨v, r, h1, h2, h3⟩, e => by cases h1; simp at e; subst e; exact ⟨v, rfl, h2⟩
  | x :: ds, vs, i + 1, d, ⟨v, r, h1, h2, h3⟩, e => by
    cases h1
    obtain ⟨u, q1, q2⟩ := DtAll.get (i := i) (d := d) h3 (by simpa using e)
    exact ⟨u, by simpa using q1, q2⟩
theorem DtAll.got {H : Hp} {ds : List PyData} {vs : List V} {i : Nat} {v : V} (h : DtAll H ds vs) (e : vs[i]? = some v) : ∃ d, ds[i]? = some d ∧ Dt H d v := by
  have hl := h.length
  obtain ⟨hi, _⟩ := List.getElem?_eq_some_iff.mp e
  have hi2 : i < ds.length := by omega
  obtain ⟨u, q1, q2⟩ := h.get (List.getElem?_eq_getElem hi2)
  rw [e] at q1
  cases q1
  exact ⟨_, List.getElem?_eq_getElem hi2, q2⟩
theorem DtAll.append {H : Hp} : ∀ {ds es : List PyData} {vs ws : List V}, DtAll H ds vs → DtAll H es ws → DtAll H (ds ++ es) (vs ++ ws)
  | [], es, vs, ws, h, k => by cases h; exact k
  | d :: ds, es, vs, ws, ⟨v, r, h1, h2, h3⟩, k => by cases h1; exact ⟨v, r ++ ws, rfl, h2, h3.append k⟩
theorem DtAll.take {H : Hp} : ∀ (n : Nat) {ds : List PyData} {vs : List V}, DtAll H ds vs → DtAll H (ds.take n) (vs.take n)
  | 0, _, _, _ => by simp [DtAll]
  | n + 1, [], vs, h => by cases h; simp [DtAll]
  | n + 1, d :: ds, vs, ⟨v, r, h1, h2, h3⟩ => by cases h1; exact ⟨v, r.take n, rfl, h2, DtAll.take n h3⟩
theorem DtAll.drop {H : Hp} : ∀ (n : Nat) {ds : List PyData} {vs : List V}, DtAll H ds vs → DtAll H (ds.drop n) (vs.drop n)
  | 0, _, _, h => h
  | n + 1, [], vs, h => by cases h; simp [DtAll]
  | n + 1, d :: ds, vs, ⟨v, r, h1, h2, h3⟩ => by cases h1; exact DtAll.drop n h3
theorem DtAll.set {H : Hp} {d : PyData} {v : V} (hd : Dt H d v) : ∀ (n : Nat) {ds : List PyData} {vs : List V}, DtAll H ds vs → DtAll H (ds.set n d) (vs.set n v)
  | n, [], vs, h => by cases h; simp [DtAll]
  | 0, x :: ds, vs, ⟨w, r, h1, h2, h3⟩ => by cases h1; exact ⟨v, r, rfl, hd, h3⟩
  | n + 1, x :: ds, vs, ⟨w, r, h1, h2, h3⟩ => by cases h1; exact ⟨w, r.set n v, rfl, h2, DtAll.set hd n h3⟩
theorem DtAll.one {H : Hp} {d : PyData} {v : V} (h : Dt H d v) : DtAll H [d] [v] := ⟨v, [], rfl, h, rfl⟩
theorem DtAll.ints {H : Hp} : ∀ (ns : List Int), DtAll H (ns.map PyData.int) (ns.map V.int)
  | [] => rfl
  | n :: ns => ⟨.int n, ns.map V.int, rfl, rfl, DtAll.ints ns⟩

/-! ### what is owned -/
def hid (O : List Addr) (H : Hp) : Hp := fun a => if a ∈ O then none else H a
theorem hid_out {O : List Addr} {H : Hp} {a : Addr} (h : a ∉ O) : hid O H a = H a := if_neg h
theorem hid_in {O : List Addr} {H : Hp} {a : Addr} (h : a ∈ O) : hid O H a = none := if_pos h
theorem hid_some {O : List Addr} {H : Hp} {a : Addr} {o : HO} (h : hid O H a = some o) : a ∉ O ∧ H a = some o := by
  unfold hid at h
  split at h
  · cases h
  · exact ⟨by assumption, h⟩
theorem hid_ex {O : List Addr} {H H' : Hp} (e : Ex H H') : Ex (hid O H) (hid O H') := fun a o h => by
  obtain ⟨h1, h2⟩ := hid_some h
  rw [hid_out h1]
  exact e a o h2
theorem hid_le {O : List Addr} {H : Hp} : Ex (hid O H) H := fun a o h => (hid_some h).2
def Dom (O : List Addr) (H : Hp) : Prop := ∀ a ∈ O, H a ≠ none
theorem Dom.ex {O : List Addr} {H H' : Hp} (d : Dom O H) (e : Ex H H') : Dom O H' := fun a ha => by
  cases q : H a with
  | none => exact absurd q (d a ha)
  | some o =>
    rw [e a o q]
    simp
theorem Dom.fresh {O : List Addr} {H : Hp} {a : Addr} (d : Dom O H) (h : H a = none) : a ∉ O := fun z => d a z h
theorem Dom.same {O : List Addr} {H H' : Hp} (d : Dom O H) (e : Ex H H') : ∀ a ∈ O, H' a = H a := fun a ha => by
  cases q : H a with
  | none => exact absurd q (d a ha)
  | some o => exact e a o q

/-! ### slots upon data -/
inductive Sl where
  | no
  | d (x : PyData)
  | at (a : Addr)
def SlOk (H : Hp) : Sl → Option V → Prop
  | .no, _ => True
  | .d x, o => ∃ v, o = some v ∧ Dt H x v
  | .at a, o => o = some (.ref a)
theorem SlOk.mono {H H' : Hp} (e : Ex H H') : ∀ {s : Sl} {o : Option V}, SlOk H s o → SlOk H' s o
  | .no, _, _ => trivial
  | .d x, o, ⟨v, h1, h2⟩ => ⟨v, h1, Dt.mono e x v h2⟩
  | .at a, o, h => h
/-- the slots σ hold what δ tells -/
def SD (H : Hp) (δ : List Sl) (σ : L2.St) : Prop := σ.length = δ.length ∧ ∀ i, SlOk H (δ.getD i .no) (σ.getD i none)
theorem SD.mono {H H' : Hp} {δ : List Sl} {σ : L2.St} (e : Ex H H') (h : SD H δ σ) : SD H' δ σ := ⟨h.1, fun i => (h.2 i).mono e⟩
theorem SD.set {H : Hp} {δ : List Sl} {σ : L2.St} {s : Sl} {o : Option V} (i : Nat) (h : SD H δ σ) (k : SlOk H s o) : SD H (δ.set i s) (σ.set i o) := by
  refine ⟨by simp [h.1], fun j => ?_⟩
  have hj := h.2 j
  simp only [List.getD_eq_getElem?_getD, List.getElem?_set] at *
  by_cases e : i = j
  · subst e
    rw [if_pos rfl, if_pos rfl, h.1]
    by_cases hl : i < δ.length
    · rw [if_pos hl, if_pos hl]
      exact k
    · rw [if_neg hl, if_neg hl]
      trivial
  · rw [if_neg e, if_neg e]
    exact hj
theorem SD.var {H : Hp} {δ : List Sl} {σ : L2.St} {i : Nat} {x : PyData} (h : SD H δ σ) (e : δ.getD i .no = .d x) : ∃ v, σ[i]? = some (some v) ∧ Dt H x v := by
  have q := h.2 i
  rw [e] at q
  obtain ⟨v, h1, h2⟩ := q
  rw [List.getD_eq_getElem?_getD] at h1
  cases z : σ[i]? with
  | none => rw [z] at h1; cases h1
  | some o => rw [z] at h1; simp at h1; subst h1; exact ⟨v, rfl, h2⟩
theorem SD.loc {H : Hp} {δ : List Sl} {σ : L2.St} {i : Nat} {a : Addr} (h : SD H δ σ) (e : δ.getD i .no = .at a) : σ[i]? = some (some (.ref a)) := by
  have q := h.2 i
  rw [e] at q
  have h1 : σ.getD i none = some (.ref a) := q
  rw [List.getD_eq_getElem?_getD] at h1
  cases z : σ[i]? with
  | none => rw [z] at h1; cases h1
  | some o => rw [z] at h1; simp at h1; subst h1; rfl
/-- a slot's word may be forgotten -/
theorem SD.forget {H : Hp} {δ : List Sl} {σ : L2.St} (i : Nat) (h : SD H δ σ) : SD H (δ.set i .no) σ := by
  refine ⟨by simp [h.1], fun j => ?_⟩
  have hj := h.2 j
  simp only [List.getD_eq_getElem?_getD, List.getElem?_set] at *
  by_cases e : i = j
  · subst e
    rw [if_pos rfl]
    by_cases hl : i < δ.length
    · rw [if_pos hl]
      trivial
    · rw [if_neg hl]
      trivial
  · rw [if_neg e]
    exact hj

/-! ### judgements: expressions, tests, arguments -/
/-- from J, te gives some data of which P tells, with the heap behind -/
def EM (O : List Addr) (J : Hp → Prop) (te : TE) (δ : List Sl) (P : PyData → Hp → Prop) : Prop :=
  ∀ σ H, J H → Dom O H → SD (hid O H) δ σ → ∀ Q : VK, (∀ d v H', P d H' → Dom O H' → Ex (hid O H) (hid O H') → Dt (hid O H') d v → Q v H') → te σ H Q
/-- te gives the data d, and changes nothing -/
def EP (O : List Addr) (te : TE) (δ : List Sl) (d : PyData) : Prop :=
  ∀ σ H, Dom O H → SD (hid O H) δ σ → ∀ Q : VK, (∀ v H', Ex H H' → Dt (hid O H') d v → Q v H') → te σ H Q
def TM (O : List Addr) (J : Hp → Prop) (tt : TT) (δ : List Sl) (P : Bool → Hp → Prop) : Prop :=
  ∀ σ H, J H → Dom O H → SD (hid O H) δ σ → ∀ Q : Bool → Hp → Prop, (∀ b H', P b H' → Dom O H' → Ex (hid O H) (hid O H') → Q b H') → tt σ H Q
def TP (O : List Addr) (tt : TT) (δ : List Sl) (b : Bool) : Prop :=
  ∀ σ H, Dom O H → SD (hid O H) δ σ → ∀ Q : Bool → Hp → Prop, (∀ H', Ex H H' → Q b H') → tt σ H Q
def AM (O : List Addr) (J : Hp → Prop) (ta : TA) (δ : List Sl) (P : List PyData → Hp → Prop) : Prop :=
  ∀ σ H, J H → Dom O H → SD (hid O H) δ σ → ∀ Q : List V → Hp → Prop, (∀ ds vs H', P ds H' → Dom O H' → Ex (hid O H) (hid O H') → DtAll (hid O H') ds vs → Q vs H') → ta σ H Q
def AP (O : List Addr) (ta : TA) (δ : List Sl) (ds : List PyData) : Prop :=
  ∀ σ H, Dom O H → SD (hid O H) δ σ → ∀ Q : List V → Hp → Prop, (∀ vs H', Ex H H' → DtAll (hid O H') ds vs → Q vs H') → ta σ H Q
/-- a wish about what is owned: kept while the owned objects are -/
def Jok (O : List Addr) (J : Hp → Prop) : Prop := ∀ H H', (∀ a ∈ O, H' a = H a) → Ex (hid O H) (hid O H') → J H → J H'
theorem Jok.ex {O : List Addr} {J : Hp → Prop} (j : Jok O J) {H H' : Hp} (d : Dom O H) (e : Ex H H') (h : J H) : J H' := j H H' (d.same e) (hid_ex e) h
theorem jok_true {O : List Addr} : Jok O (fun _ => True) := fun _ _ _ _ _ => trivial
theorem EP.em {O : List Addr} {J : Hp → Prop} {te : TE} {δ : List Sl} {d : PyData} (j : Jok O J) (h : EP O te δ d) : EM O J te δ (fun x H => x = d ∧ J H) := fun σ H hJ hD hS Q k =>
  h σ H hD hS Q fun v H' e hv => k d v H' ⟨rfl, j.ex hD e hJ⟩ (hD.ex e) (hid_ex e) hv
theorem EP.emP {O : List Addr} {J : Hp → Prop} {te : TE} {δ : List Sl} {d : PyData} {P : PyData → Hp → Prop} (j : Jok O J) (h : EP O te δ d) (k : ∀ H, J H → P d H) : EM O J te δ P :=
  fun σ H hJ hD hS Q q => h σ H hD hS Q fun v H' e hv => q d v H' (k H' (j.ex hD e hJ)) (hD.ex e) (hid_ex e) hv
theorem EM.imp {O : List Addr} {J : Hp → Prop} {te : TE} {δ : List Sl} {P P' : PyData → Hp → Prop} (h : EM O J te δ P) (k : ∀ d H, P d H → P' d H) : EM O J te δ P' :=
  fun σ H hJ hD hS Q q => h σ H hJ hD hS Q fun d v H' p => q d v H' (k d H' p)
theorem EM.pre {O : List Addr} {J J' : Hp → Prop} {te : TE} {δ : List Sl} {P : PyData → Hp → Prop} (h : EM O J te δ P) (k : ∀ H, J' H → J H) : EM O J' te δ P :=
  fun σ H hJ hD hS Q q => h σ H (k H hJ) hD hS Q q
theorem TP.tm {O : List Addr} {J : Hp → Prop} {tt : TT} {δ : List Sl} {b : Bool} (j : Jok O J) (h : TP O tt δ b) : TM O J tt δ (fun x H => x = b ∧ J H) := fun σ H hJ hD hS Q k =>
  h σ H hD hS Q fun H' e => k b H' ⟨rfl, j.ex hD e hJ⟩ (hD.ex e) (hid_ex e)
theorem AP.am {O : List Addr} {J : Hp → Prop} {ta : TA} {δ : List Sl} {ds : List PyData} (j : Jok O J) (h : AP O ta δ ds) : AM O J ta δ (fun x H => x = ds ∧ J H) := fun σ H hJ hD hS Q k =>
  h σ H hD hS Q fun vs H' e hv => k ds vs H' ⟨rfl, j.ex hD e hJ⟩ (hD.ex e) (hid_ex e) hv
theorem EP.is {O : List Addr} {te : TE} {δ : List Sl} {d e : PyData} (h : EP O te δ d) (q : d = e) : EP O te δ e := q ▸ h
theorem TP.is {O : List Addr} {tt : TT} {δ : List Sl} {d e : Bool} (h : TP O tt δ d) (q : d = e) : TP O tt δ e := q ▸ h

section
variable {O : List Addr} {K : PySem.W.Frag} {δ : List Sl} {ta tb te tc : TE} {x y z d : PyData}
theorem ep_var {i : Nat} (h : δ.getD i .no = .d x) : EP O (tVar i) δ x := fun σ H hD hS Q k => by
  obtain ⟨v, h1, h2⟩ := hS.var h
  exact ⟨v, h1, k v H (Ex.refl H) h2⟩
theorem ep_non : EP O (tC .non) δ .none := fun σ H hD hS Q k => k _ H (Ex.refl H) rfl
theorem ep_bl {b : Bool} : EP O (tC (.bl b)) δ (.bool b) := fun σ H hD hS Q k => k _ H (Ex.refl H) rfl
theorem ep_int {i : Int} : EP O (tC (.int i)) δ (.int i) := fun σ H hD hS Q k => k _ H (Ex.refl H) rfl
theorem ep_str {s : Str} : EP O (tC (.str s)) δ (.str s) := fun σ H hD hS Q k => k _ H (Ex.refl H) rfl
theorem ap_nil : AP O tNil δ [] := fun σ H hD hS Q k => k [] H (Ex.refl H) rfl
theorem ap_cons {tr : TA} {ds : List PyData} (h : EP O te δ d) (hr : AP O tr δ ds) : AP O (tCons te tr) δ (d :: ds) := fun σ H hD hS Q k =>
  h σ H hD hS _ fun v H1 e1 hv => hr σ H1 (hD.ex e1) (hS.mono (hid_ex e1)) _ fun vs H2 e2 hvs => k (v :: vs) H2 (e1.trans e2) ⟨v, vs, rfl, Dt.mono (hid_ex e2) d v hv, hvs⟩
theorem ep_tup {t : TA} {ds : List PyData} (h : AP O t δ ds) (hl : ds.length ≤ 100000) : EP O (tTup t) δ (.tuple ds) := fun σ H hD hS Q k =>
  h σ H hD hS _ fun vs H1 e1 hv => ⟨by rw [hv.length]; exact Evl.sz_of hl, fun p hp => k (.ref p) _ (e1.trans (Ex.new hp))
    ⟨p, vs, rfl, by rw [hid_out ((hD.ex e1).fresh hp)]; exact upd_same, DtAll.mono (hid_ex (Ex.new hp)) ds vs hv⟩⟩
theorem ep_lst {t : TA} {ds : List PyData} (h : AP O t δ ds) (hl : ds.length ≤ 100000) : EP O (tLst t) δ (.list ds) := fun σ H hD hS Q k =>
  h σ H hD hS _ fun vs H1 e1 hv => ⟨by rw [hv.length]; exact Evl.sz_of hl, fun p hp => k (.ref p) _ (e1.trans (Ex.new hp))
    ⟨p, vs, rfl, by rw [hid_out ((hD.ex e1).fresh hp)]; exact upd_same, DtAll.mono (hid_ex (Ex.new hp)) ds vs hv⟩⟩
/-- an operation on data that changes nothing -/
def RP (O : List Addr) (r : R2) (x y z : PyData) : Prop := ∀ (v w : V) (H : Hp), Dom O H → Dt (hid O H) x v → Dt (hid O H) y w → ∀ Q : VK, (∀ u H', Ex H H' → Dt (hid O H') z u → Q u H') → r v w H Q
theorem ep_op {r : R2} (ha : EP O ta δ x) (hb : EP O tb δ y) (hr : RP O r x y z) : EP O (tOp r ta tb) δ z := fun σ H hD hS Q k =>
  ha σ H hD hS _ fun v H1 e1 hv => hb σ H1 (hD.ex e1) (hS.mono (hid_ex e1)) _ fun w H2 e2 hw =>
    hr v w H2 ((hD.ex e1).ex e2) (Dt.mono (hid_ex e2) x v hv) hw Q fun u H3 e3 hu => k u H3 ((e1.trans e2).trans e3) hu
theorem em_op {r : R2} {J : Hp → Prop} {Pa : PyData → Hp → Prop} {Pb : PyData → PyData → Hp → Prop} {Pz : PyData → Hp → Prop} (ha : EM O J ta δ Pa) (hb : ∀ x, EM O (Pa x) tb δ (Pb x))
    (hr : ∀ x y H, Pb x y H → ∃ z, RP O r x y z ∧ ∀ H', Dom O H → Ex H H' → Pz z H') : EM O J (tOp r ta tb) δ Pz := fun σ H hJ hD hS Q k =>
  ha σ H hJ hD hS _ fun x v H1 p1 d1 e1 hv => hb x σ H1 p1 d1 (hS.mono e1) _ fun y w H2 p2 d2 e2 hw => by
    obtain ⟨z, hz, hq⟩ := hr x y H2 p2
    exact hz v w H2 d2 (Dt.mono e2 x v hv) hw Q fun u H3 e3 hu => k z u H3 (hq H3 d2 e3) (d2.ex e3) ((e1.trans e2).trans (hid_ex e3)) hu
/-- ints -/
theorem rp_rI {C : Int → Int → Prop} {g : Int → Int → V} {i j : Int} (hc : C i j) (hz : ∀ H, Dt H z (g i j)) : RP O (rI C g) (.int i) (.int j) z := fun v w H hD hv hw Q k => by
  cases hv; cases hw
  exact ⟨i, j, rfl, rfl, hc, k _ H (Ex.refl H) (hz _)⟩
theorem rp_rI0 {g : Int → Int → V} {i j : Int} (hz : ∀ H, Dt H z (g i j)) : RP O (rI0 g) (.int i) (.int j) z := fun v w H hD hv hw Q k => by
  cases hv; cases hw
  exact ⟨i, j, rfl, rfl, k _ H (Ex.refl H) (hz _)⟩
theorem rp_eqD (h1 : SeqAt.shaped x = true) (h2 : SeqAt.shaped y = true) : RP O (rEqD K) x y (.bool (PyData.eqv x y)) := fun v w H hD hv hw Q k =>
  ⟨x, y, Dt.dp x v (Dt.mono hid_le x v hv), Dt.dp y w (Dt.mono hid_le y w hw), h1, h2, k _ H (Ex.refl H) rfl⟩
theorem rp_neD (h1 : SeqAt.shaped x = true) (h2 : SeqAt.shaped y = true) : RP O (rNeD K) x y (.bool (!PyData.eqv x y)) := fun v w H hD hv hw Q k =>
  ⟨x, y, Dt.dp x v (Dt.mono hid_le x v hv), Dt.dp y w (Dt.mono hid_le y w hw), h1, h2, k _ H (Ex.refl H) rfl⟩
theorem rp_ixL {ds : List PyData} {i : Int} {j : Nat} (hj : ixN ds.length i = some j) (hz : ds[j]? = some z) : RP O (rIxL K) (.list ds) (.int i) z := fun v w H hD hv hw Q k => by
  obtain ⟨a, xs, rfl, h1, h2⟩ := hv
  cases hw
  obtain ⟨u, q1, q2⟩ := h2.get hz
  refine ⟨a, xs, i, u, rfl, rfl, SqL.of (hid_some h1).2, ?_, k u H (Ex.refl H) q2⟩
  unfold atI
  rw [h2.length, hj]
  exact q1
theorem rp_ixT {ds : List PyData} {i : Int} {j : Nat} (hj : ixN ds.length i = some j) (hz : ds[j]? = some z) : RP O (rIxT K) (.tuple ds) (.int i) z := fun v w H hD hv hw Q k => by
  obtain ⟨a, xs, rfl, h1, h2⟩ := hv
  cases hw
  obtain ⟨u, q1, q2⟩ := h2.get hz
  refine ⟨a, xs, i, u, rfl, rfl, SqT.of (hid_some h1).2, ?_, k u H (Ex.refl H) q2⟩
  unfold atI
  rw [h2.length, hj]
  exact q1
theorem rp_ix1 {i : PyData} (h : RP O (rIxL K) x i z) : RP O (rIx K) x i z := fun v w H hD hv hw Q k => Or.inl (h v w H hD hv hw Q k)
theorem rp_ix2 {i : PyData} (h : RP O (rIxT K) x i z) : RP O (rIx K) x i z := fun v w H hD hv hw Q k => Or.inr (Or.inl (h v w H hD hv hw Q k))
theorem rp_cat {ds es : List PyData} (hl : ds.length + es.length ≤ 100000) : RP O rCat (.list ds) (.list es) (.list (ds ++ es)) := fun v w H hD hv hw Q k => by
  obtain ⟨a, xs, rfl, h1, h2⟩ := hv
  obtain ⟨b, ys, rfl, h3, h4⟩ := hw
  refine ⟨a, b, xs, ys, rfl, rfl, (hid_some h1).2, (hid_some h3).2, by rw [h2.length, h4.length]; exact Evl.sz_of hl, fun p hp => k _ _ (Ex.new hp) ⟨p, xs ++ ys, rfl, ?_, ?_⟩⟩
  · rw [hid_out (hD.fresh hp)]
    exact upd_same
  · exact (h2.append h4).mono (hid_ex (Ex.new hp))
/-- isinstance upon data -/
def tyN : PyData → String
  | .none => "NoneType"
  | .bool _ => "bool"
  | .int _ => "int"
  | .str _ => "str"
  | .list _ => "list"
  | .tuple _ => "tuple"
  | .dict _ => "dict"
theorem dt_ty {H : Hp} : ∀ {x : PyData} {v : V}, Dt H x v → TyX K H v (.type (tyN x))
  | .none, v, h => by cases h; exact .base .non
  | .bool b, v, h => by cases h; exact .base (.bl b)
  | .int i, v, h => by cases h; exact .base (.int i)
  | .str s, v, h => by cases h; exact .base (.str s)
  | .list ds, v, ⟨a, xs, h1, h2, h3⟩ => by cases h1; exact .base (.lst h2)
  | .tuple ds, v, ⟨a, xs, h1, h2, h3⟩ => by cases h1; exact .base (.tup h2)
  | .dict _, v, h => h.elim
theorem ep_isi {T : String} {b : Bool} (h : EP O te δ x) (hb : kitB (tyN x) T = some b) : EP O (tCB (rIsi K) (tCons te (tCons (tC (.ty T)) tNil))) δ (.bool b) := fun σ H hD hS Q k =>
  h σ H hD hS _ fun v H1 e1 hv => ⟨v, .ty T, _, _, b, rfl, .ty T, dt_ty (Dt.mono hid_le x v hv), kit_ty hb, k _ H1 e1 rfl⟩
theorem ep_len {n : Nat} (h : EP O te δ x) (hn : (∃ ds, x = .list ds ∧ n = ds.length) ∨ (∃ ds, x = .tuple ds ∧ n = ds.length)) :
    EP O (tCB (fun xs H Q => ∃ x n, xs = [x] ∧ LenV K x H n ∧ Q (V.int ↑n) H) (tCons te tNil)) δ (.int n) := fun σ H hD hS Q k =>
  h σ H hD hS _ fun v H1 e1 hv => by
    rcases hn with ⟨ds, rfl, rfl⟩ | ⟨ds, rfl, rfl⟩
    · obtain ⟨a, xs, rfl, h1, h2⟩ := hv
      exact ⟨_, _, rfl, Or.inl ⟨xs, SqL.of (hid_some h1).2, h2.length.symm⟩, k _ H1 e1 rfl⟩
    · obtain ⟨a, xs, rfl, h1, h2⟩ := hv
      exact ⟨_, _, rfl, Or.inr ⟨xs, SqT.of (hid_some h1).2, h2.length.symm⟩, k _ H1 e1 rfl⟩
/-! tests -/
theorem tp_test {b : Bool} (h : EP O te δ (.bool b)) : TP O (tTest te) δ b := fun σ H hD hS Q k => h σ H hD hS _ fun v H1 e1 hv => ⟨b, hv, k H1 e1⟩
theorem tp_B {b : Bool} (h : EP O te δ (.bool b)) : TP O (tB te) δ b := fun σ H hD hS Q k => h σ H hD hS _ fun v H1 e1 hv => ⟨b, hv, k H1 e1⟩
theorem tp_not {t : TT} {a : Bool} (h : TP O t δ a) : TP O (tNot t) δ (!a) := fun σ H hD hS Q k => h σ H hD hS _ fun H1 e1 => k H1 e1
theorem tp_and {t u : TT} {a b : Bool} (h1 : TP O t δ a) (h2 : a = true → TP O u δ b) : TP O (tAnd t u) δ (a && b) := fun σ H hD hS Q k => h1 σ H hD hS _ fun H1 e1 => by
  cases a with
  | true => exact h2 rfl σ H1 (hD.ex e1) (hS.mono (hid_ex e1)) Q fun H2 e2 => k H2 (e1.trans e2)
  | false => exact k H1 e1
theorem tp_or {t u : TT} {a b : Bool} (h1 : TP O t δ a) (h2 : a = false → TP O u δ b) : TP O (tOr t u) δ (a || b) := fun σ H hD hS Q k => h1 σ H hD hS _ fun H1 e1 => by
  cases a with
  | false => exact h2 rfl σ H1 (hD.ex e1) (hS.mono (hid_ex e1)) Q fun H2 e2 => k H2 (e1.trans e2)
  | true => exact k H1 e1
theorem ep_and {a b : Bool} (h1 : EP O ta δ (.bool a)) (h2 : a = true → EP O tb δ (.bool b)) : EP O (tAndV ta tb) δ (.bool (a && b)) := fun σ H hD hS Q k => h1 σ H hD hS _ fun v H1 e1 hv => ⟨a, hv, by
  cases a with
  | true => exact h2 rfl σ H1 (hD.ex e1) (hS.mono (hid_ex e1)) Q fun u H2 e2 hu => k u H2 (e1.trans e2) hu
  | false => exact k _ H1 e1 rfl⟩
theorem ep_or {a b : Bool} (h1 : EP O ta δ (.bool a)) (h2 : a = false → EP O tb δ (.bool b)) : EP O (tOrV ta tb) δ (.bool (a || b)) := fun σ H hD hS Q k => h1 σ H hD hS _ fun v H1 e1 hv => ⟨a, hv, by
  cases a with
  | false => exact h2 rfl σ H1 (hD.ex e1) (hS.mono (hid_ex e1)) Q fun u H2 e2 hu => k u H2 (e1.trans e2) hu
  | true => exact k _ H1 e1 rfl⟩
theorem ep_not {a : Bool} (h : EP O te δ (.bool a)) : EP O (tNotV te) δ (.bool (!a)) := fun σ H hD hS Q k => h σ H hD hS _ fun v H1 e1 hv => ⟨a, hv, k _ H1 e1 rfl⟩
theorem ep_chain {r r' : R2} {a b : Bool} (ha : EP O ta δ x) (hb : EP O tb δ y) (hc : EP O tc δ z) (h1 : RP O r x y (.bool a)) (h2 : a = true → RP O r' y z (.bool b)) :
    EP O (tChain r r' ta tb tc) δ (.bool (a && b)) := fun σ H hD hS Q k =>
  ha σ H hD hS _ fun v H1 e1 hv => hb σ H1 (hD.ex e1) (hS.mono (hid_ex e1)) _ fun w H2 e2 hw =>
    h1 v w H2 ((hD.ex e1).ex e2) (Dt.mono (hid_ex e2) x v hv) hw _ fun u H3 e3 hu => ⟨a, hu, by
      have d3 := (((hD.ex e1).ex e2).ex e3)
      have e13 := (e1.trans e2).trans e3
      cases a with
      | true => exact hc σ H3 d3 (hS.mono (hid_ex e13)) _ fun t H4 e4 ht => h2 rfl w t H4 (d3.ex e4) (Dt.mono (hid_ex (e3.trans e4)) y w hw) ht _ fun s H5 e5 hs => k s H5 ((e13.trans e4).trans e5) hs
      | false => exact k _ H3 e13 rfl⟩
end
end Cp
/-! Cameposts: readings upon data, the statements, loops, comprehensions, calls -/
namespace Cp
open PySem L2
open Evl (Ex)

/-- a statement: from J it goes on with slots and heap of which N tells, or hands back what R tells -/
def DM (O : List Addr) (J : Hp → Prop) (t : TS) (δ : List Sl) (N : List Sl → Hp → Prop) (R : V → Hp → Prop) : Prop :=
  ∀ σ H (D : Ends), J H → Dom O H → SD (hid O H) δ σ → (∀ δ' σ' H', N δ' H' → Dom O H' → Ex (hid O H) (hid O H') → SD (hid O H') δ' σ' → D.nx σ' H') →
    (∀ v H', R v H' → Dom O H' → Ex (hid O H) (hid O H') → D.rt v H') → t D σ H
/-- data handed back -/
def RD (O : List Addr) (P : PyData → Hp → Prop) : V → Hp → Prop := fun v H => ∃ d, Dt (hid O H) d v ∧ P d H
/-- a statement that changes nothing -/
def DS (O : List Addr) (t : TS) (δ : List Sl) (N : List Sl → Prop) (R : PyData → Prop) : Prop :=
  ∀ J, Jok O J → DM O J t δ (fun δ' H => N δ' ∧ J H) (RD O fun d H => R d ∧ J H)

section
variable {O : List Addr} {K : PySem.W.Frag} {δ : List Sl} {te ta : TE} {tt : TT} {t u tb : TS} {J : Hp → Prop} {N N1 : List Sl → Hp → Prop} {R : V → Hp → Prop} {x y d : PyData}
theorem slok_d {H : Hp} {v : V} (h : Dt H x v) : SlOk H (.d x) (some v) := ⟨v, rfl, h⟩
theorem dm_imp {N' : List Sl → Hp → Prop} {R' : V → Hp → Prop} (h : DM O J t δ N R) (hN : ∀ δ H, N δ H → N' δ H) (hR : ∀ v H, R v H → R' v H) : DM O J t δ N' R' :=
  fun σ H D hJ hD hS kn kr => h σ H D hJ hD hS (fun δ' σ' H' n => kn δ' σ' H' (hN _ _ n)) fun v H' r => kr v H' (hR _ _ r)
theorem dm_pre {J' : Hp → Prop} (h : DM O J t δ N R) (k : ∀ H, J' H → J H) : DM O J' t δ N R := fun σ H D hJ => h σ H D (k H hJ)
theorem dm_seq (h : DM O J t δ N1 R) (k : ∀ δ1, DM O (N1 δ1) u δ1 N R) : DM O J (tSeq t u) δ N R := fun σ H D hJ hD hS kn kr =>
  h σ H _ hJ hD hS (fun δ1 σ1 H1 n1 d1 e1 s1 => k δ1 σ1 H1 D n1 d1 s1 (fun δ2 σ2 H2 n2 d2 e2 s2 => kn δ2 σ2 H2 n2 d2 (e1.trans e2) s2) fun v H2 r2 d2 e2 => kr v H2 r2 d2 (e1.trans e2)) kr
theorem dm_next (h : ∀ H, J H → N δ H) : DM O J tNext δ N R := fun σ H D hJ hD hS kn kr => kn δ σ H (h H hJ) hD (Ex.refl _) hS
theorem dm_asg {P : PyData → Hp → Prop} {i : Nat} (h : EM O J te δ P) (k : ∀ d H, P d H → N (δ.set i (.d d)) H) : DM O J (tAsg te (gName i)) δ N R := fun σ H D hJ hD hS kn kr =>
  h σ H hJ hD hS _ fun d v H' p d' e' hv => kn _ _ H' (k d H' p) d' e' ((hS.mono e').set i (slok_d hv))
theorem dm_drop {P : PyData → Hp → Prop} (h : EM O J te δ P) (k : ∀ d H, P d H → N δ H) : DM O J (tDrop te) δ N R := fun σ H D hJ hD hS kn kr =>
  h σ H hJ hD hS _ fun d v H' p d' e' hv => kn _ _ H' (k d H' p) d' e' (hS.mono e')
theorem dm_ret {P : PyData → Hp → Prop} (h : EM O J te δ P) : DM O J (tRet te) δ N (RD O P) := fun σ H D hJ hD hS kn kr =>
  h σ H hJ hD hS _ fun d v H' p d' e' hv => kr v H' ⟨d, hv, p⟩ d' e'
theorem dm_if {P : Bool → Hp → Prop} (h : TM O J tt δ P) (h1 : DM O (P true) t δ N R) (h2 : DM O (P false) u δ N R) : DM O J (tIfS tt t u) δ N R := fun σ H D hJ hD hS kn kr =>
  h σ H hJ hD hS _ fun b H1 p d1 e1 => by
    cases b with
    | true => exact h1 σ H1 D p d1 (hS.mono e1) (fun δ2 σ2 H2 n2 d2 e2 s2 => kn δ2 σ2 H2 n2 d2 (e1.trans e2) s2) fun v H2 r2 d2 e2 => kr v H2 r2 d2 (e1.trans e2)
    | false => exact h2 σ H1 D p d1 (hS.mono e1) (fun δ2 σ2 H2 n2 d2 e2 s2 => kn δ2 σ2 H2 n2 d2 (e1.trans e2) s2) fun v H2 r2 d2 e2 => kr v H2 r2 d2 (e1.trans e2)
/-! ### targets -/
def GB (O : List Addr) (g : TG) (d : PyData) (δ δ' : List Sl) (ix : List Nat) : Prop := ∀ σ H v, Dom O H → SD (hid O H) δ σ → Dt (hid O H) d v → ∀ Q : L2.St → Hp → Prop,
  (∀ σ', SD (hid O H) δ' σ' → σ'.length = σ.length → (∀ j, j ∉ ix → σ'[j]? = σ[j]?) → Q σ' H) → g v σ H Q
theorem gb_name {i : Nat} : GB O (gName i) d δ (δ.set i (.d d)) [i] := fun σ H v hD hS hv Q k =>
  k _ (hS.set i (slok_d hv)) (by simp) fun j hj => by
    rw [List.getElem?_set_ne]
    intro e
    exact hj (by simp [e])
theorem gb_tup2 {i j : Nat} : GB O (gTup K 2 (gCons (gName i) (gCons (gName j) gNil))) (.tuple [x, y]) δ ((δ.set i (.d x)).set j (.d y)) [i, j] := fun σ H v hD hS hv Q k => by
  obtain ⟨a, xs, rfl, h1, v1, r1, rfl, q1, v2, r2, rfl, q2, q3⟩ := hv
  cases q3
  refine ⟨a, _, rfl, SqT.of (hid_some h1).2, rfl, v1, [v2], rfl, v2, [], rfl, rfl, ?_⟩
  refine k _ ((hS.set i (slok_d q1)).set j (slok_d q2)) (by simp) fun m hm => ?_
  simp only [List.mem_cons, List.not_mem_nil, or_false, not_or] at hm
  rw [List.getElem?_set_ne (fun e => hm.2 e.symm), List.getElem?_set_ne (fun e => hm.1 e.symm)]
theorem dm_unpack {P : PyData → Hp → Prop} {g : TG} {ix : List Nat} (h : EM O J te δ P) (k : ∀ d H, P d H → ∃ δ', GB O g d δ δ' ix ∧ N δ' H) : DM O J (tAsg te g) δ N R := fun σ H D hJ hD hS kn kr =>
  h σ H hJ hD hS _ fun d v H' p d' e' hv => by
    obtain ⟨δ', hg, n⟩ := k d H' p
    exact hg σ H' v d' (hS.mono e') hv _ fun σ' s' _ _ => kn δ' σ' H' n d' e' s'

/-! ### walks -/
def WP (O : List Addr) (wi : TI) (δ : List Sl) (n : Nat) (item : Nat → PyData) : Prop := ∀ σ H, Dom O H → SD (hid O H) δ σ → ∀ R : It → Hp → Prop,
  (∀ Ji H1, Ex H H1 → Walk Ji n (fun H' => Ex (hid O H1) H') (fun i H' v H'' => Ex H' H'' ∧ ∀ O', Ex (hid O H1) (hid O' H') → Dom O' H' → Dt (hid O' H'') (item i) v) → R Ji H1) → wi σ H R
theorem wp_list {ds : List PyData} (h : EP O te δ (.list ds)) : WP O (iList K te) δ ds.length (fun i => ds.getD i .none) := fun σ H hD hS R k =>
  h σ H hD hS _ fun v H1 e1 hv => by
    obtain ⟨a, xs, rfl, h1, h2⟩ := hv
    refine ⟨a, rfl, ⟨xs, SqL.of (hid_some h1).2⟩, k _ H1 e1 ?_⟩
    rw [← h2.length]
    refine walk_list.mono (fun H' g => SqL.of (g _ _ h1)) (fun i H' v H'' hi g y => ?_)
    obtain ⟨rfl, hy⟩ := y
    obtain ⟨d, q1, q2⟩ := h2.got hy
    exact ⟨Ex.refl _, fun O' eo _ => by
      show Dt _ (ds.getD i .none) v
      rw [List.getD_eq_getElem?_getD, q1]
      exact Dt.mono eo d v q2⟩
theorem wp_tup {ds : List PyData} (h : EP O te δ (.tuple ds)) : WP O (iTup K te) δ ds.length (fun i => ds.getD i .none) := fun σ H hD hS R k =>
  h σ H hD hS _ fun v H1 e1 hv => by
    obtain ⟨a, xs, rfl, h1, h2⟩ := hv
    refine ⟨a, rfl, ⟨xs, SqT.of (hid_some h1).2⟩, k _ H1 e1 ?_⟩
    rw [← h2.length]
    refine walk_tup.mono (fun H' g => SqT.of (g _ _ h1)) (fun i H' v H'' hi g y => ?_)
    obtain ⟨rfl, hy⟩ := y
    obtain ⟨d, q1, q2⟩ := h2.got hy
    exact ⟨Ex.refl _, fun O' eo _ => by
      show Dt _ (ds.getD i .none) v
      rw [List.getD_eq_getElem?_getD, q1]
      exact Dt.mono eo d v q2⟩
theorem walk_rng {lo : Int} {n : Nat} : Walk (Itr lo n) n (fun _ => True) (YFn fun i => .int (lo + i)) :=
  ⟨fun i _ hi _ => hi, fun _ _ => Nat.le_refl _, fun _ _ _ _ _ _ y => y⟩
theorem wp_rng1 {ta : TA} {n : Int} (h : AP O ta δ [.int n]) (hb : 0 ≤ n ∧ n ≤ 100000) : WP O (iRng1 ta) δ n.toNat (fun i => .int i) := fun σ H hD hS R k =>
  h σ H hD hS _ fun vs H1 e1 hv => by
    obtain ⟨v, r, rfl, q1, q2⟩ := hv
    cases q1; cases q2
    refine ⟨n, rfl, by omega, by omega, k _ H1 e1 (walk_rng.mono (fun _ _ => trivial) fun i H' v H'' hi g y => ?_)⟩
    obtain ⟨rfl, rfl⟩ := y
    exact ⟨Ex.refl _, fun _ _ _ => by show V.int ((0 : Int) + i) = V.int i; rw [Int.zero_add]⟩
theorem wp_rng2 {ta : TA} {lo n : Int} (h : AP O ta δ [.int lo, .int n]) (hb : -100000 ≤ lo ∧ lo ≤ 100000 ∧ -100000 ≤ n ∧ n ≤ 100000) : WP O (iRng2 ta) δ (n - lo).toNat (fun i => .int (lo + i)) := fun σ H hD hS R k =>
  h σ H hD hS _ fun vs H1 e1 hv => by
    obtain ⟨v, r, rfl, q1, v2, r2, rfl, q2, q3⟩ := hv
    cases q1; cases q2; cases q3
    refine ⟨lo, n, rfl, ⟨by omega, by omega, by omega, by omega⟩, k _ H1 e1 (walk_rng.mono (fun _ _ => trivial) fun i H' v H'' hi g y => ?_)⟩
    obtain ⟨rfl, rfl⟩ := y
    exact ⟨Ex.refl _, fun _ _ _ => rfl⟩
theorem walk_enm {a : Addr} {xs : List V} : Walk (Ite K a) xs.length (fun H => SqL K H a xs) (fun i H v H' => ∃ T x, v = .ref T ∧ H T = none ∧ H' = upd H T (.tup [.int (i : Nat), x]) ∧ xs[i]? = some x) :=
  ⟨fun i _ hi q => ⟨xs, xs[i], q, by simp [hi]⟩, fun _ q => ⟨xs, q, Nat.le_refl _⟩, fun i H v H' _ q y => by
    obtain ⟨T, x, h1, h2, h3, h4⟩ := y
    exact ⟨T, x, h1, h2, h3, h4 xs q⟩⟩
theorem wp_enum {ta : TA} {ds : List PyData} (h : AP O ta δ [.list ds]) : WP O (iEnum K ta) δ ds.length (fun i => .tuple [.int i, ds.getD i .none]) := fun σ H hD hS R k =>
  h σ H hD hS _ fun vs H1 e1 hv => by
    obtain ⟨v, r, rfl, q1, q2⟩ := hv
    cases q2
    obtain ⟨a, xs, rfl, h1, h2⟩ := q1
    refine ⟨a, xs, rfl, SqL.of (hid_some h1).2, k _ H1 e1 ?_⟩
    rw [← h2.length]
    refine walk_enm.mono (fun H' g => SqL.of (g _ _ h1)) (fun i H' v H'' hi g y => ?_)
    obtain ⟨T, x, rfl, hT, rfl, hy⟩ := y
    obtain ⟨d, p1, p2⟩ := h2.got hy
    refine ⟨Ex.new hT, fun O' eo dd => ⟨T, _, rfl, by rw [hid_out (dd.fresh hT)]; exact upd_same, _, _, rfl, rfl, _, _, rfl, ?_, rfl⟩⟩
    show Dt _ (ds.getD i .none) x
    rw [List.getD_eq_getElem?_getD, p1]
    exact Dt.mono (eo.trans (hid_ex (Ex.new hT))) d x p2
theorem dm_for {wi : TI} {g : TG} {n : Nat} {item : Nat → PyData} {ix : List Nat} (hw : WP O wi δ n item) (hJ : Jok O J) (Iv : Nat → List Sl → Hp → Prop) (h0 : ∀ H, J H → Iv 0 δ H)
    (hs : ∀ i δ1 H1, i < n → Iv i δ1 H1 → ∃ δ2 J1, GB O g (item i) δ1 δ2 ix ∧ J1 H1 ∧ Jok O J1 ∧ DM O J1 tb δ2 (Iv (i + 1)) R) (hd : ∀ δ1 H1, Iv n δ1 H1 → N δ1 H1) : DM O J (tFor wi g tb) δ N R := fun σ H D hJ0 hD hS kn kr =>
  hw σ H hD hS _ fun Ji H1 e1 w => by
    refine for_it w (fun i σ' H' => ∃ δ1, Iv i δ1 H' ∧ SD (hid O H') δ1 σ' ∧ Ex (hid O H1) (hid O H') ∧ Dom O H') ⟨δ, h0 H1 (hJ.ex hD e1 hJ0), hS.mono (hid_ex e1), Ex.refl _, hD.ex e1⟩
      (fun i σ' H' _ p => by obtain ⟨δ1, _, _, e, dd⟩ := p; exact e.trans hid_le) (fun i v σ' H' H2 hi p y => ?_) fun σ' H' p => ?_
    · obtain ⟨δ1, hI, hs1, e2, d2⟩ := p
      obtain ⟨e3, hv⟩ := y
      obtain ⟨δ2, J1, hg, j1, jk, hb⟩ := hs i δ1 H' hi hI
      refine hg σ' H2 v (d2.ex e3) (hs1.mono (hid_ex e3)) (hv O e2 d2) _ fun σ2 s2 _ _ => ?_
      refine hb σ2 H2 _ (jk.ex d2 e3 j1) (d2.ex e3) s2 (fun δ3 σ3 H3 n3 d3 e4 s3 => ⟨δ3, n3, s3, (e2.trans (hid_ex e3)).trans e4, d3⟩) fun v' H3 r3 d3 e4 => kr v' H3 r3 d3 ((((hid_ex e1).trans e2).trans (hid_ex e3)).trans e4)
    · obtain ⟨δ1, hI, hs1, e2, d2⟩ := p
      exact kn δ1 σ' H' (hd δ1 H' hI) d2 ((hid_ex e1).trans e2) hs1

/-! ### the same where nothing changes -/
theorem ds_imp {N0 N0' : List Sl → Prop} {R0 R0' : PyData → Prop} (h : DS O t δ N0 R0) (hN : ∀ δ, N0 δ → N0' δ) (hR : ∀ d, R0 d → R0' d) : DS O t δ N0' R0' := fun J j =>
  dm_imp (h J j) (fun δ H n => ⟨hN δ n.1, n.2⟩) fun v H ⟨d, h1, h2⟩ => ⟨d, h1, hR d h2.1, h2.2⟩
theorem dm_fact {p : Prop} (h : p → DM O J t δ N R) : DM O (fun H => p ∧ J H) t δ N R := fun σ H D hJ => h hJ.1 σ H D hJ.2
theorem ds_seq {N0 N1 : List Sl → Prop} {R0 : PyData → Prop} (h : DS O t δ N1 R0) (k : ∀ δ1, N1 δ1 → DS O u δ1 N0 R0) : DS O (tSeq t u) δ N0 R0 := fun J j =>
  dm_seq (h J j) fun δ1 => dm_fact fun n => k δ1 n J j
theorem ds_next {N0 : List Sl → Prop} {R0 : PyData → Prop} (h : N0 δ) : DS O tNext δ N0 R0 := fun J j => dm_next fun H hJ => ⟨h, hJ⟩
theorem ds_asg {N0 : List Sl → Prop} {R0 : PyData → Prop} {i : Nat} (h : EP O te δ d) (k : N0 (δ.set i (.d d))) : DS O (tAsg te (gName i)) δ N0 R0 := fun J j =>
  dm_asg (h.em j) fun x H p => ⟨by rw [p.1]; exact k, p.2⟩
theorem ds_unpack {N0 : List Sl → Prop} {R0 : PyData → Prop} {g : TG} {ix : List Nat} {δ' : List Sl} (h : EP O te δ d) (hg : GB O g d δ δ' ix) (k : N0 δ') : DS O (tAsg te g) δ N0 R0 := fun J j =>
  dm_unpack (h.em j) fun x H p => ⟨δ', by rw [p.1]; exact hg, k, p.2⟩
theorem ds_ret {N0 : List Sl → Prop} {R0 : PyData → Prop} (h : EP O te δ d) (k : R0 d) : DS O (tRet te) δ N0 R0 := fun J j =>
  dm_imp (dm_ret (h.em j)) (fun _ _ n => n) fun v H ⟨x, h1, h2⟩ => ⟨x, h1, by rw [h2.1]; exact k, h2.2⟩
theorem ds_drop {N0 : List Sl → Prop} {R0 : PyData → Prop} (h : EP O te δ d) (k : N0 δ) : DS O (tDrop te) δ N0 R0 := fun J j =>
  dm_drop (h.em j) fun x H p => ⟨k, p.2⟩
theorem ds_if {N0 : List Sl → Prop} {R0 : PyData → Prop} {b : Bool} (h : TP O tt δ b) (h1 : b = true → DS O t δ N0 R0) (h2 : b = false → DS O u δ N0 R0) : DS O (tIfS tt t u) δ N0 R0 := fun J j =>
  dm_if (h.tm j) (fun σ H D hJ => h1 hJ.1.symm J j σ H D hJ.2) (fun σ H D hJ => h2 hJ.1.symm J j σ H D hJ.2)
theorem ds_for {N0 : List Sl → Prop} {R0 : PyData → Prop} {wi : TI} {g : TG} {n : Nat} {item : Nat → PyData} {ix : List Nat} (hw : WP O wi δ n item) (Iv : Nat → List Sl → Prop) (h0 : Iv 0 δ)
    (hs : ∀ i δ1, i < n → Iv i δ1 → ∃ δ2, GB O g (item i) δ1 δ2 ix ∧ DS O tb δ2 (Iv (i + 1)) R0) (hd : ∀ δ1, Iv n δ1 → N0 δ1) : DS O (tFor wi g tb) δ N0 R0 := fun J j =>
  dm_for hw j (fun i δ1 H => Iv i δ1 ∧ J H) (fun H hJ => ⟨h0, hJ⟩) (fun i δ1 H1 hi hI => by
    obtain ⟨δ2, hg, hb⟩ := hs i δ1 hi hI.1
    exact ⟨δ2, J, hg, hI.2, j, hb J j⟩) fun δ1 H1 hI => ⟨hd δ1 hI.1, hI.2⟩

/-! ### comprehensions -/
theorem wipe_same {σ σ' : L2.St} {vs ix : List Nat} (hl : σ'.length = σ.length) (h : ∀ j, j ∉ ix → σ'[j]? = σ[j]?) (hi : ∀ j ∈ ix, j ∈ vs) : wipe σ' vs = wipe σ vs := by
  refine List.ext_getElem? fun j => ?_
  by_cases hj : j ∈ vs
  · have q : ∀ (ρ : L2.St) (ws : List Nat), j ∈ ws → (wipe ρ ws)[j]? = if j < ρ.length then some none else none := by
      intro ρ ws
      induction ws with
      | nil => intro h; simp at h
      | cons w ws ih =>
        intro hm
        unfold wipe
        by_cases e : w = j
        · subst e
          rw [List.getElem?_set_self']
          by_cases hl2 : w < ρ.length
          · rw [if_pos hl2, List.getElem?_eq_getElem (by rw [wipe_length]; exact hl2)]
            rfl
          · rw [if_neg hl2, List.getElem?_eq_none (by rw [wipe_length]; omega)]
            rfl
        · rw [List.getElem?_set_ne e]
          exact ih (by
            rcases List.mem_cons.mp hm with z | z
            · exact absurd z.symm e
            · exact z)
    rw [q σ' vs hj, q σ vs hj, hl]
  · rw [wipe_out hj, wipe_out hj]
    exact h j fun z => hj (hi j z)
theorem SD.wipe {H : Hp} {δ : List Sl} {σ : L2.St} (h : SD H δ σ) : ∀ (vs : List Nat), SD H (vs.foldr (fun v ρ => ρ.set v .no) δ) (L2.wipe σ vs)
  | [] => h
  | v :: vs => by
    unfold L2.wipe
    exact SD.set (s := .no) (o := none) v (SD.wipe h vs) trivial
def wipeS (δ : List Sl) (vs : List Nat) : List Sl := vs.foldr (fun v ρ => ρ.set v .no) δ
theorem sd_more {O : List Addr} {H : Hp} {δ : List Sl} {σ : L2.St} {a : Addr} (h : H a = none) (s : SD (hid O H) δ σ) : ∀ {H' : Hp}, (∀ b, b ≠ a → H' b = H b) → SD (hid (a :: O) H') δ σ := fun {H'} k =>
  s.mono fun b o q => by
    obtain ⟨h1, h2⟩ := hid_some q
    have hb : b ≠ a := fun z => by rw [z, h] at h2; cases h2
    rw [hid_out (by simp [hb, h1]), k b hb]
    exact h2
theorem filterMap_range_succ {f : Nat → Option PyData} {i : Nat} : (List.range (i + 1)).filterMap f = (List.range i).filterMap f ++ (f i).toList := by
  rw [List.range_succ, List.filterMap_append]
  cases h : f i <;> simp [h]
theorem filterMap_le {f : Nat → Option PyData} {i : Nat} : ((List.range i).filterMap f).length ≤ i := by
  have := List.length_filterMap_le f (List.range i)
  simpa using this
/-- what is built at D within: the accumulated data, all else kept -/
def Acc (O : List Addr) (H1 : Hp) (D : Addr) (ds : List PyData) (H : Hp) : Prop :=
  (∃ acc, H D = some (.lst acc) ∧ DtAll (hid (D :: O) H) ds acc) ∧ ∀ a o, a ≠ D → H1 a = some o → H a = some o
theorem Acc.ex {O : List Addr} {H1 H H' : Hp} {D : Addr} {ds : List PyData} (h : Acc O H1 D ds H) (e : Ex H H') : Acc O H1 D ds H' := by
  obtain ⟨⟨acc, h1, h2⟩, h3⟩ := h
  exact ⟨⟨acc, e _ _ h1, h2.mono (hid_ex e)⟩, fun a o ha q => e _ _ (h3 a o ha q)⟩
theorem Acc.dom {O : List Addr} {H1 H : Hp} {D : Addr} {ds : List PyData} (h : Acc O H1 D ds H) (d : Dom O H1) (hn : H1 D = none) : Dom (D :: O) H := by
  obtain ⟨⟨acc, h1, h2⟩, h3⟩ := h
  intro a ha
  rcases List.mem_cons.mp ha with rfl | ha
  · rw [h1]; simp
  · cases q : H1 a with
    | none => exact absurd q (d a ha)
    | some o => rw [h3 a o (fun z => by rw [z, hn] at q; cases q) q]; simp
theorem Acc.hid {O : List Addr} {H1 H : Hp} {D : Addr} {ds : List PyData} (h : Acc O H1 D ds H) (hn : H1 D = none) : Ex (hid O H1) (Cp.hid (D :: O) H) := fun a o q => by
  obtain ⟨h1, h2⟩ := hid_some q
  have ha : a ≠ D := fun z => by rw [z, hn] at h2; cases h2
  rw [hid_out (by simp [ha, h1])]
  exact h.2 a o ha h2
theorem Acc.push {O : List Addr} {H1 H : Hp} {D : Addr} {ds : List PyData} {y : PyData} {v : V} {acc : List V} (h : Acc O H1 D ds H) (hD : H D = some (.lst acc)) (hv : Dt (Cp.hid (D :: O) H) y v) :
    Acc O H1 D (ds ++ [y]) (upd H D (.lst (acc ++ [v]))) := by
  obtain ⟨⟨acc', h1, h2⟩, h3⟩ := h
  rw [hD] at h1
  cases h1
  have e : Ex (Cp.hid (D :: O) H) (Cp.hid (D :: O) (upd H D (.lst (acc ++ [v])))) := fun a o q => by
    obtain ⟨q1, q2⟩ := hid_some q
    rw [hid_out q1, upd_ne (fun z => q1 (by simp [z]))]
    exact q2
  exact ⟨⟨_, upd_same, (h2.mono e).append (DtAll.one (Dt.mono e y v hv))⟩, fun a o ha q => by rw [upd_ne ha]; exact h3 a o ha q⟩
theorem ep_lc {wi : TI} {g : TG} {n : Nat} {item : Nat → PyData} {ix vs : List Nat} {f : Nat → Option PyData} (hw : ∀ O, WP O wi δ n item) (hn : n ≤ 100000) (hi : ∀ j ∈ ix, j ∈ vs)
    (hs : ∀ O i, i < n → ∃ δ2, GB O g (item i) (wipeS δ vs) δ2 ix ∧ TP O tt δ2 (f i).isSome ∧ ∀ y, f i = some y → EP O te δ2 y) : EP O (tLc wi g tt te vs) δ (.list ((List.range n).filterMap f)) := fun σ H hD hS Q k => by
  refine hw O σ H hD hS _ fun Ji H1 e1 w => ?_
  intro D hDn
  have d1 := hD.ex e1
  have s1 := hS.mono (hid_ex e1)
  have dfr : D ∉ O := d1.fresh hDn
  refine lc_it w (fun i H' => Acc O H1 D ((List.range i).filterMap f) H') ⟨⟨[], upd_same, rfl⟩, fun a o ha q => by rw [upd_ne ha]; exact q⟩ (fun i H' _ p => ?_) (fun i v H' H2 hi' p y => ?_) fun H' p => ?_
  · exact (p.hid hDn).trans hid_le
  · obtain ⟨e2, hv⟩ := y
    have p2 := p.ex e2
    have d2 := p2.dom d1 hDn
    obtain ⟨δ2, hg, ht, he⟩ := hs (D :: O) i hi'
    have s2 : SD (Cp.hid (D :: O) H2) (wipeS δ vs) (L2.wipe σ vs) := (s1.wipe vs).mono (p2.hid hDn)
    refine hg _ H2 v d2 s2 (hv (D :: O) (p.hid hDn) (p.dom d1 hDn)) _ fun σ2 s3 hl hj => ⟨?_, ?_⟩
    · have z := wipe_same (vs := vs) hl hj hi
      have zz : ∀ (ρ : L2.St) (ws : List Nat), (∀ j ∈ ws, j ∈ vs) → L2.wipe (L2.wipe ρ vs) ws = L2.wipe ρ vs := by
        intro ρ ws
        induction ws with
        | nil => intro _; rfl
        | cons w ws ih =>
          intro hm
          show (L2.wipe (L2.wipe ρ vs) ws).set w none = L2.wipe ρ vs
          rw [ih fun j hj => hm j (by simp [hj])]
          refine List.ext_getElem? fun j => ?_
          by_cases e : w = j
          · subst e
            have hwv : w ∈ vs := hm w (by simp)
            cases q : (L2.wipe ρ vs)[w]? with
            | none => rw [List.getElem?_set_self', q]; rfl
            | some o =>
              rw [List.getElem?_set_self', q]
              cases o with
              | none => rfl
              | some x => exact absurd hwv (wipe_some q).2
          · rw [List.getElem?_set_ne e]
      rw [z]
      exact zz σ vs fun _ h => h
    · refine ht σ2 H2 d2 s3 _ fun H3 e3 => ?_
      have p3 := p2.ex e3
      cases hf : f i with
      | none =>
        rw [if_neg (by simp)]
        show Acc O H1 D _ H3
        rw [filterMap_range_succ, hf]
        simpa using p3
      | some y =>
        rw [if_pos (by rfl)]
        refine he y hf σ2 H3 (d2.ex e3) (s3.mono (hid_ex e3)) _ fun u H4 e4 hu => ?_
        have p4 := p3.ex e4
        obtain ⟨⟨acc, q1, q2⟩, q3⟩ := id p4
        refine ⟨acc, q1, ?_, ?_⟩
        · rw [q2.length]
          exact Evl.sz_lt (Nat.lt_of_le_of_lt filterMap_le (by omega))
        · show Acc O H1 D _ _
          rw [filterMap_range_succ, hf]
          exact p4.push q1 hu
  · obtain ⟨⟨acc, q1, q2⟩, q3⟩ := id p
    refine k (.ref D) H' (e1.trans fun a o q => q3 a o (fun z => by rw [z, hDn] at q; cases q) q) ⟨D, acc, rfl, by rw [hid_out dfr]; exact q1, q2.mono fun a o q => ?_⟩
    obtain ⟨h1, h2⟩ := hid_some q
    rw [hid_out (fun z => h1 (by simp [z]))]
    exact h2
end
end Cp
/-! Cameposts: rules that the hand layer lacks: repr and str of data, min and max of tuples, calls where the guards are known -/
namespace Cp
open PySem L2 PySem.Spec PyProof.Rows
open Evl (Ex)

/-! ### repr and str of data -/
/-- what repr says of data, and that it can be said -/
def Shows (d : PyData) : Prop := d.showable = true ∧ d.hasDict = false ∧ d.depth ≤ 60 ∧ d.shown.length ≤ sizeLine
theorem dt_reads {X : Cx} {pins : List (Addr × Obj)} {σ : L2.St} {H : Hp} {s : Shared} {d : PyData} {v : V} {u : Value} (I : Inv X pins σ H s) (h : Dp X.K H v d) (r : RelV v u) :
    ∃ as, Reads s.heap u d as := Dp.reads I d v u h r
def rRepr (K : PySem.W.Frag) : List V → Hp → VK → Prop := fun xs H Q => ∃ v d, xs = [v] ∧ Dp K H v d ∧ Shows d ∧ Q (.str d.shown) H
theorem call_reprD {X : Cx} (hg : X.A.guards = some []) (hu : X.A.units + 200 < cLine) : CallR X (.builtin "repr") (rRepr X.K) := by
  intro pins s σ H xs us Q I r h
  obtain ⟨v, d, rfl, hd, ⟨h1, h2, h3, h4⟩, q⟩ := h
  obtain ⟨u, rfl, rv⟩ := vals1 r
  have fin : ∀ (h' : Heap) (uu : Tok) (tk : Nat), (∀ b o, s.heap.get? b = some o → h'.get? b = some o) → L2.EP X pins σ Q (.str d.shown uu) { s with heap := h', toks := tk } := fun h' uu tk k =>
    ⟨.str d.shown, H, I.kept k, ⟨uu, rfl⟩, q⟩
  obtain ⟨as, rd⟩ := Dp.reads I d v u hd rv
  cases d with
  | none =>
    cases hd
    cases rv
    exact PySem.P.repr_of_none (fin _ _ _ fun _ _ e => e)
  | bool b =>
    cases hd
    cases rv
    refine PySem.P.repr_of_bool ?_
    cases b
    · exact fin _ _ _ fun _ _ e => e
    · exact fin _ _ _ fun _ _ e => e
  | int i =>
    cases hd
    obtain ⟨t, rfl⟩ := rv
    have hz : i.natAbs.log2 < 1920 := by
      have z := h1
      simp only [PyData.showable] at z
      exact of_decide_eq_true z
    exact PySem.P.repr_of_int hz (fin _ _ _ fun _ _ e => e)
  | str y =>
    cases hd
    obtain ⟨t, rfl⟩ := rv
    exact PySem.P.repr_of_str (fin _ _ _ fun _ _ e => e) h4
  | list ds =>
    cases hd with
    | lst hs ha =>
      rename_i a xs
      obtain rfl : u = Value.ref a := rv
      exact PySem.repr_of_reads' rd h1 (fun z => by rw [h2] at z; cases z) hg (by omega) (fun _ _ e => e) (fun h' uu tk k => fin h' uu tk k) h4
  | tuple ds =>
    cases hd with
    | tup hs ha =>
      rename_i a xs
      obtain rfl : u = Value.ref a := rv
      exact PySem.repr_of_reads' rd h1 (fun z => by rw [h2] at z; cases z) hg (by omega) (fun _ _ e => e) (fun h' uu tk k => fin h' uu tk k) h4
  | dict kvs => cases hd

/-! ### powers of large numbers -/
def CPowW : Int → Int → Prop := fun i j => 0 ≤ j ∧ (Builtin.Int.intBits i : Int) * j ≤ 2 ^ 27
theorem op_powW {X : Cx} : OpR X (binaryOp .Pow) (rI CPowW fun i j => .int (i ^ j.toNat)) := opI fun _ _ _ _ _ _ _ hc q => PyProof.Rows.pow_int hc.1 hc.2 q

/-! ### min and max of a tuple of ints -/
section
open PyProof PyProof.Rows
variable {prog : Program} {w : World} {A : Around} {E : Value → Shared → Prop} {s : Shared} {t : Addr} {xs : Array (Int × Tok)}
theorem iter_intTuple {Q : Value → Shared → Prop} (ht : s.heap.IsTuple t (intItems xs))
    (h : ∀ s₂ : Shared, s₂ = { s with heap := s.heap.push { cls := .type "tuple_iterator", data := .fields #[.ref t, .int 0 0] } } →
      (s₂.heap.IsTupleIter s.heap.objs.size t 0 ∧ s₂.heap.IsTuple t (intItems xs)) → (∀ b ∈ [s.heap.objs.size, t], b < s₂.heap.objs.size) → t ≠ s.heap.objs.size → Q (.ref s.heap.objs.size) s₂) :
    wpAny (model prog w) A (pyIter (.ref t)) Q E s := by
  have hlt : t < s.heap.objs.size := by
    obtain ⟨_, e, _⟩ := id ht
    exact Heap.lt_size e
  refine wpAny_pyIter_tuple ht (h _ rfl ⟨⟨_, Heap.get?_push_size _ rfl, rfl, rfl⟩, (by
    obtain ⟨o, e, q⟩ := id ht
    exact ⟨o, Heap.get?_push_of_some _ e, q⟩)⟩ (fun b hb => ?_) (Nat.ne_of_lt hlt))
  simp only [List.mem_cons, List.not_mem_nil, or_false] at hb
  rw [Heap.size_push]
  rcases hb with rfl | rfl
  · exact Nat.lt_succ_self _
  · exact Nat.lt_succ_of_lt hlt
theorem min_intTuple {Q : Value → Shared → Prop} (hh : A.handled = none) (ht : s.heap.IsTuple t (intItems xs)) (hne : 0 < xs.size)
    (h : ∀ v h' tk, (intItems xs)[argBest (fun i j => decide (numAt xs i < numAt xs j)) (xs.size - 1)]? = some v → (∀ b o, s.heap.get? b = some o → h'.get? b = some o) → Q v { s with heap := h', toks := tk }) :
    wpAny (model prog w) A (call (.builtin "min") [.ref t]) Q E s := by
  refine call_min_walk (iter_intTuple ht fun s₂ e st hfp hlI => ?_)
  subst e
  refine ⟨_, _, _, _, _, _, _, rfl, Walks.tuple (A := A.in1) hh _ t hlI (intItems xs), st, hfp, by simpa [intItems] using hne, CmpOf.ints_lt (numAt xs) (fun _ _ => intItems_at), fun v h' tk hP hk => ?_⟩
  exact h v h' tk (by simpa [intItems] using hP) fun b o e => hk b o (by
    simp only [List.mem_cons, List.not_mem_nil, or_false]
    exact Nat.ne_of_lt (Heap.lt_size e)) (Heap.get?_push_of_some _ e)
theorem max_intTuple {Q : Value → Shared → Prop} (hh : A.handled = none) (ht : s.heap.IsTuple t (intItems xs)) (hne : 0 < xs.size)
    (h : ∀ v h' tk, (intItems xs)[argBest (fun i j => decide (numAt xs i > numAt xs j)) (xs.size - 1)]? = some v → (∀ b o, s.heap.get? b = some o → h'.get? b = some o) → Q v { s with heap := h', toks := tk }) :
    wpAny (model prog w) A (call (.builtin "max") [.ref t]) Q E s := by
  refine call_max_walk (iter_intTuple ht fun s₂ e st hfp hlI => ?_)
  subst e
  refine ⟨_, _, _, _, _, _, _, rfl, Walks.tuple (A := A.in1) hh _ t hlI (intItems xs), st, hfp, by simpa [intItems] using hne, CmpOf.ints_gt (numAt xs) (fun _ _ => intItems_at), fun v h' tk hP hk => ?_⟩
  exact h v h' tk (by simpa [intItems] using hP) fun b o e => hk b o (by
    simp only [List.mem_cons, List.not_mem_nil, or_false]
    exact Nat.ne_of_lt (Heap.lt_size e)) (Heap.get?_push_of_some _ e)
end
/-- min(t), max(t) of a pair of ints -/
def rMin2 (K : PySem.W.Frag) : List V → Hp → VK → Prop := fun vs H Q => ∃ (a : Addr) (i j : Int), vs = [V.ref a] ∧ SqT K H a [.int i, .int j] ∧ Q (.int (if j < i then j else i)) H
def rMax2 (K : PySem.W.Frag) : List V → Hp → VK → Prop := fun vs H Q => ∃ (a : Addr) (i j : Int), vs = [V.ref a] ∧ SqT K H a [.int i, .int j] ∧ Q (.int (if j > i then j else i)) H
theorem call_min2T {X : Cx} (hc : X.calm = true) : CallR X (.builtin "min") (rMin2 X.K) := by
  intro pins s σ H vs us Q I r h
  obtain ⟨a, i, j, rfl, hs, q⟩ := h
  obtain ⟨its, rv, hl, _⟩ := I.tuple hs
  rw [Vals.ref1 r]
  cases rv with
  | cons r1 rv =>
    cases rv with
    | cons r2 rv =>
      cases rv
      obtain ⟨t1, rfl⟩ := r1
      obtain ⟨t2, rfl⟩ := r2
      have ei : intItems #[(i, t1), (j, t2)] = #[Value.int i t1, Value.int j t2] := by simp [intItems]
      refine min_intTuple (xs := #[(i, t1), (j, t2)]) (I.ok.hd hc) (by rw [ei]; exact hl) (by show 0 < 2; decide) fun v h' tk hv hk => ?_
      rw [ei] at hv
      refine ⟨.int (if j < i then j else i), H, I.kept hk, ?_, q⟩
      have e : argBest (fun i_1 j_1 => decide (numAt #[(i, t1), (j, t2)] i_1 < numAt #[(i, t1), (j, t2)] j_1)) ((#[(i, t1), (j, t2)] : Array (Int × Tok)).size - 1) = if j < i then 1 else 0 := by
        show (if decide (j < i) = true then 1 else 0) = _
        by_cases c : j < i <;> simp [c]
      rw [e] at hv
      by_cases c : j < i
      · rw [if_pos c] at hv
        rw [if_pos c]
        exact ⟨t2, (Option.some.inj hv).symm⟩
      · rw [if_neg c] at hv
        rw [if_neg c]
        exact ⟨t1, (Option.some.inj hv).symm⟩
theorem call_max2T {X : Cx} (hc : X.calm = true) : CallR X (.builtin "max") (rMax2 X.K) := by
  intro pins s σ H vs us Q I r h
  obtain ⟨a, i, j, rfl, hs, q⟩ := h
  obtain ⟨its, rv, hl, _⟩ := I.tuple hs
  rw [Vals.ref1 r]
  cases rv with
  | cons r1 rv =>
    cases rv with
    | cons r2 rv =>
      cases rv
      obtain ⟨t1, rfl⟩ := r1
      obtain ⟨t2, rfl⟩ := r2
      have ei : intItems #[(i, t1), (j, t2)] = #[Value.int i t1, Value.int j t2] := by simp [intItems]
      refine max_intTuple (xs := #[(i, t1), (j, t2)]) (I.ok.hd hc) (by rw [ei]; exact hl) (by show 0 < 2; decide) fun v h' tk hv hk => ?_
      rw [ei] at hv
      refine ⟨.int (if j > i then j else i), H, I.kept hk, ?_, q⟩
      have e : argBest (fun i_1 j_1 => decide (numAt #[(i, t1), (j, t2)] i_1 > numAt #[(i, t1), (j, t2)] j_1)) ((#[(i, t1), (j, t2)] : Array (Int × Tok)).size - 1) = if j > i then 1 else 0 := by
        show (if decide (j > i) = true then 1 else 0) = _
        by_cases c : j > i <;> simp [c]
      rw [e] at hv
      by_cases c : j > i
      · rw [if_pos c] at hv
        rw [if_pos c]
        exact ⟨t2, (Option.some.inj hv).symm⟩
      · rw [if_neg c] at hv
        rw [if_neg c]
        exact ⟨t1, (Option.some.inj hv).symm⟩

/-! ### defs that want to know the guards (repr) -/
def GOk (P : Program) (w : World) (K : PySem.W.Frag) (mg : Str → Option Value) (base : Heap) (CX : CXT) (k : Nat) (f : Addr) (fd : FuncData) (ps : List Str) (sp : Sp) : Prop :=
  (∀ vs H Q E, sp vs H Q E → vs.length = ps.length) ∧
  ∀ (A : Around) (outer : List Env) (s : Shared) (H : Hp) (args : Args) (us : List Value) (vs : List V) (Q : VK) (E : XK), A.guards = some [] → Room k A → Env0 P w K mg base A outer s H → BindsTo s fd args (ps.zip us) → Vals vs us → sp vs H Q E →
    codeAny (model P w) A (.call (.ref f) args) (CR CX outer P w H s Q E) s
section
variable {P : Program} {w : World} {K : PySem.W.Frag} {mg : Str → Option Value} {base : Heap}
theorem Fun.okG {x qual : Str} {st : Stmt} {f : Addr} {fd : FuncData} {N ps : List Str} {k : Nat} {sp : Sp} (F : Fun K x qual st f fd) (S : FnScope N ps (defScope st)) (len : ∀ vs H Q E, sp vs H Q E → vs.length = ps.length)
    (hbody : ∀ (cdv : Value) (A : Around) (outer : List Env) (s : Shared) (H : Hp) (vs : List V) (Q : VK) (E : XK), A.guards = some [] → Room k (A.deeper (envOfC qual (defScope st) s.heap.objs.size f cdv)) → sp vs H Q E →
      ∃ t, PSs (cxOf CX0 P w K mg base N qual (defScope st) f cdv A outer s H E).nox (defBody st) t ∧ t { nx := fun _ H' => Q .non H', rt := Q } (start N vs) H) : GOk P w K mg base CX0 (k + 1) f fd ps sp := by
  obtain ⟨oc, od, kV, doc, pm, an, cdv, ct, osl, rfl, lk, hcd⟩ := F.ex
  refine ⟨len, fun A outer s H args us vs Q E hg hr ev hb rv hsp => ?_⟩
  have hlen := len _ _ _ _ hsp
  have inK : K.In s.heap := ev.mod.kin.keeps fun b o q => (ev.bs b o q).1
  have noLim : s.heap.NoLimit := ev.mod.nolimit.keeps fun b o q => (ev.bs b o q).1
  refine PySem.codeAny_call_function hr.depth (inK _ _ lk) rfl S.co S.gen rfl (PySem.W.codeRec_of inK hcd) (hb _ _ _ _ ?_)
  refine PySem.wpAny_newFunctionEnv_cells S.kind (fun ⟨n, v⟩ hy => by
    rcases S.par n (List.of_mem_zip hy).1 with q | q
    · exact .inl q
    · exact .inr ⟨q, PySem.W.cellsFrom_some _ _ _ (.inl q)⟩) fun env hev s1 x => ?_
  subst hev
  refine ⟨noLim.keeps x.toInCall.keep, PySem.codeAny_func ?_⟩
  obtain ⟨t, ht, hq⟩ := hbody cdv A outer s H vs Q E hg (hr.deeper _) hsp
  have I := inv_start (CX := CX0) (E := E) S hr.hd ev hlen rv x
  refine PySem.wpAny_mono (ht.nox.run [] s1 (start N vs) H _ I hq) (fun fl s' hs => ?_) fun e s' hs => hs
  cases fl with
  | ret u =>
    obtain ⟨v, σ', H', Jv, r2, q⟩ := hs
    exact ⟨v, H', Jv.os, Jv.bare, Jv.base, Jv.hok, r2, q⟩
  | next =>
    obtain ⟨σ', H', Jv, q⟩ := hs
    exact ⟨V.non, H', Jv.os, Jv.bare, Jv.base, Jv.hok, rfl, q⟩
  | brk =>
    obtain ⟨_, _, _, q⟩ := hs
    exact False.elim q
  | cont =>
    obtain ⟨_, _, _, q⟩ := hs
    exact False.elim q
end
/-- a call of such a def -/
theorem pe_callG {X : Cx} {CX : CXT} {k : Nat} {f : Addr} {fd : FuncData} {ps : List Str} {sp : Sp} {E : XK} {x : Str} {p pos : Pos} {e : Expr} {es : List Expr} {t : TA}
    (F : GOk X.prog X.w X.K X.mg X.base CX k f fd ps sp) (hgd : X.A.guards = some []) (hr : Room k X.A) (hg : Gl X x) (hm : X.mg x = some (.ref f)) (hk : PySem.W.keepIn X.K (.ref f) = true) (hb : L2.Binds X.K fd ps []) (hx : Passes CX X E)
    (ha : PA X (e :: es) t) (hdb : (x == ("__debug__" : Str)) = false := by decide) (he : starEach (e :: es) X.env = (false, eval e X.env) :: starEach es X.env := by rfl) (hpl : (backTo pos (starEach es X.env)).any (·.1) = false := by rfl) :
    PE X (.Call (.Name x p) (e :: es) [] pos) (tCall sp [] E t) := by
  refine ⟨fun pins s σ H Q I h => ?_⟩
  refine wpAny_Call_Name_kw (ld_glob I hg hm ?_ hdb)
  refine PySem.W.callWith_K (h₀ := X.base) I.ok.mod.kin hk (thn (ha.run pos pins s σ H _ I h) fun us s1 ⟨vs, H1, I1, r, q⟩ => ⟨I1.kIn, ?_⟩) he hpl
  have q : sp vs H1 Q E := by
    have z : sp (vs ++ []) H1 Q E := q
    rw [List.append_nil] at z
    exact z
  have hl : (us ++ []).length = ps.length := by
    rw [List.append_nil, ← r.length]
    exact F.1 _ _ _ _ q
  refine wpAny_call (codeAny_mono (F.2 X.A X.stack s1 H1 ⟨us, []⟩ us vs Q E hgd hr I1.env0 (by have z := hb s1 us I1.kIn hl; rw [List.append_nil] at z; exact z) r q) fun r s' hq => ?_)
  cases r with
  | error er => exact hx pins σ H1 s1 er s' I1 hq
  | ok fl =>
    cases fl with
    | ret u => exact I1.after hq
    | next => exact False.elim hq
    | brk => exact False.elim hq
    | cont => exact False.elim hq
end Cp
/-! Cameposts: more readings upon data; pure defs -/
namespace Cp
open PySem L2 PySem.Spec PyProof.Rows
open Evl (Ex)

def isNoneB : PyData → Bool
  | .none => true
  | _ => false
theorem isNoneB_iff {v : PyData} : isNoneB v = true ↔ v = .none := by cases v <;> simp [isNoneB]
theorem isNoneB_not {v : PyData} : isNoneB v = false ↔ v ≠ .none := by cases v <;> simp [isNoneB]
/-! ### one rule for several kinds -/
def rOr (r1 r2 : R2) : R2 := fun x y H Q => r1 x y H Q ∨ r2 x y H Q
theorem op_or2 {X : Cx} {f : Value → Value → Sem Value} {r1 r2 : R2} (h1 : OpR X f r1) (h2 : OpR X f r2) : OpR X f (rOr r1 r2) := fun pins s σ H x y v u Q I rx ry h =>
  h.elim (h1 pins s σ H x y v u Q I rx ry) (h2 pins s σ H x y v u Q I rx ry)
def cOr (r1 r2 : List V → Hp → VK → Prop) : List V → Hp → VK → Prop := fun xs H Q => r1 xs H Q ∨ r2 xs H Q
theorem call_or {X : Cx} {f : Value} {r1 r2 : List V → Hp → VK → Prop} (h1 : CallR X f r1) (h2 : CallR X f r2) : CallR X f (cOr r1 r2) := fun pins s σ H xs us Q I r h =>
  h.elim (h1 pins s σ H xs us Q I r) (h2 pins s σ H xs us Q I r)
abbrev rAddU : R2 := rOr (rI0 fun i j => .int (i + j)) rCat
abbrev rMulU : R2 := rOr (rI CMulW fun i j => .int (i * j)) rRep
theorem op_addU {X : Cx} : OpR X (binaryOp .Add) rAddU := op_or2 op_add op_cat
theorem op_mulU {X : Cx} : OpR X (binaryOp .Mult) rMulU := op_or2 op_mulW op_rep
abbrev rSubI : R2 := rI0 fun i j => .int (i - j)
abbrev rModI : R2 := rI (fun _ j => j ≠ 0) fun i j => .int (i.fmod j)
abbrev rDivI : R2 := rI CDivW fun i j => .int (i / j)
abbrev rPowI : R2 := rI CPowW fun i j => .int (i ^ j.toNat)

section
variable {O : List Addr} {K : PySem.W.Frag} {δ : List Sl} {ta tb te tc : TE} {x y z d : PyData} {r1 r2 : R2}
theorem rp_l (h : RP O r1 x y z) : RP O (rOr r1 r2) x y z := fun v w H hD hv hw Q k => Or.inl (h v w H hD hv hw Q k)
theorem rp_r (h : RP O r2 x y z) : RP O (rOr r1 r2) x y z := fun v w H hD hv hw Q k => Or.inr (h v w H hD hv hw Q k)
theorem rp_int {g : Int → Int → Int} {i j : Int} : RP O (rI0 fun i j => .int (g i j)) (.int i) (.int j) (.int (g i j)) := rp_rI0 fun _ => rfl
theorem rp_bl {g : Int → Int → Bool} {i j : Int} : RP O (rI0 fun i j => .bl (g i j)) (.int i) (.int j) (.bool (g i j)) := rp_rI0 fun _ => rfl
theorem rp_intC {C : Int → Int → Prop} {g : Int → Int → Int} {i j : Int} (hc : C i j) : RP O (rI C fun i j => .int (g i j)) (.int i) (.int j) (.int (g i j)) := rp_rI hc fun _ => rfl
theorem rp_rep {ds : List PyData} {k : Int} (h0 : 0 ≤ k) (hk : ds.length * k.toNat ≤ 100000) (h2 : k < 100000) : RP O rRep (.list ds) (.int k) (.list (List.replicate k.toNat ds).flatten) := fun v w H hD hv hw Q q => by
  obtain ⟨a, xs, rfl, h1, hx⟩ := hv
  cases hw
  refine ⟨a, k, xs, rfl, rfl, (hid_some h1).2, by omega, by omega, by rw [hx.length]; exact Evl.sz_of hk, fun p hp => q _ _ (Ex.new hp) ⟨p, (List.replicate k.toNat xs).flatten, rfl, ?_, ?_⟩⟩
  · rw [hid_out (hD.fresh hp)]
    exact upd_same
  · have e := hx.mono (hid_ex (O := O) (Ex.new hp (o := .lst (List.replicate k.toNat xs).flatten)))
    generalize hQ : hid O (upd H p (.lst (List.replicate k.toNat xs).flatten)) = G at e ⊢
    clear hQ
    induction k.toNat with
    | zero => exact rfl
    | succ n ih =>
      rw [List.replicate_succ, List.replicate_succ, List.flatten_cons, List.flatten_cons]
      exact e.append ih
theorem rp_isN0 {v : PyData} : RP O (fun x y H Q => y = .non ∧ Q (.bl (decide (x = .non))) H) v .none (.bool (match v with | .none => true | _ => false)) := fun a b H hD hv hw Q k => by
  cases hw
  refine ⟨rfl, k _ H (Ex.refl H) ?_⟩
  cases v with
  | none => cases hv; rfl
  | bool _ => cases hv; rfl
  | int _ => cases hv; rfl
  | str _ => cases hv; rfl
  | list _ => obtain ⟨a, xs, rfl, _⟩ := hv; rfl
  | tuple _ => obtain ⟨a, xs, rfl, _⟩ := hv; rfl
  | dict _ => exact hv.elim
theorem rp_notN0 {v : PyData} : RP O (fun x y H Q => y = .non ∧ Q (.bl (!decide (x = .non))) H) v .none (.bool (match v with | .none => false | _ => true)) := fun a b H hD hv hw Q k => by
  cases hw
  refine ⟨rfl, k _ H (Ex.refl H) ?_⟩
  cases v with
  | none => cases hv; rfl
  | bool _ => cases hv; rfl
  | int _ => cases hv; rfl
  | str _ => cases hv; rfl
  | list _ => obtain ⟨a, xs, rfl, _⟩ := hv; rfl
  | tuple _ => obtain ⟨a, xs, rfl, _⟩ := hv; rfl
  | dict _ => exact hv.elim
theorem isNone_eq : ∀ (v : PyData), (match v with | .none => true | _ => false) = isNoneB v
  | .none => rfl
  | .bool _ => rfl
  | .int _ => rfl
  | .str _ => rfl
  | .list _ => rfl
  | .tuple _ => rfl
  | .dict _ => rfl
theorem notNone_eq : ∀ (v : PyData), (match v with | .none => false | _ => true) = !isNoneB v
  | .none => rfl
  | .bool _ => rfl
  | .int _ => rfl
  | .str _ => rfl
  | .list _ => rfl
  | .tuple _ => rfl
  | .dict _ => rfl
theorem rp_isN {v : PyData} : RP O (fun x y H Q => y = .non ∧ Q (.bl (decide (x = .non))) H) v .none (.bool (isNoneB v)) := by
  have h := rp_isN0 (O := O) (v := v)
  rw [isNone_eq] at h
  exact h
theorem rp_notN {v : PyData} : RP O (fun x y H Q => y = .non ∧ Q (.bl (!decide (x = .non))) H) v .none (.bool (!isNoneB v)) := by
  have h := rp_notN0 (O := O) (v := v)
  rw [notNone_eq] at h
  exact h
/-- isinstance by the wider rule -/
theorem ep_isU {T : String} {b : Bool} (h : EP O te δ x) (hb : kitB (tyN x) T = some b) : EP O (tCB (rIsU K) (tCons te (tCons (tC (.ty T)) tNil))) δ (.bool b) := fun σ H hD hS Q k =>
  h σ H hD hS _ fun v H1 e1 hv => Or.inl ⟨v, .ty T, _, _, b, rfl, .ty T, dt_ty (Dt.mono hid_le x v hv), kit_ty hb, k _ H1 e1 rfl⟩
theorem tp_truthL {ds : List PyData} (h : EP O te δ (.list ds)) : TP O (fun σ H Q => te σ H fun x H' => ∃ k, TruV K x H' k ∧ Q k H') δ (!ds.isEmpty) := fun σ H hD hS Q k =>
  h σ H hD hS _ fun v H1 e1 hv => by
    obtain ⟨a, xs, rfl, h1, h2⟩ := hv
    refine ⟨_, Or.inl ⟨xs, SqL.of (hid_some h1).2, rfl⟩, ?_⟩
    have e : (!xs.isEmpty) = !ds.isEmpty := by
      have hl := h2.length
      cases xs <;> cases ds <;> simp_all
    rw [e]
    exact k H1 e1
/-! slices -/
def OD (O : List Addr) (t : TO) (δ : List Sl) (o : Option Int) : Prop := ∀ σ H, Dom O H → SD (hid O H) δ σ → ∀ Q : Option Int → Hp → Prop, (∀ H', Ex H H' → Q o H') → t σ H Q
theorem od_none : OD O tNoPart δ none := fun σ H hD hS Q k => k H (Ex.refl H)
theorem od_some {i : Int} (h : EP O te δ (.int i)) : OD O (tPart te) δ (some i) := fun σ H hD hS Q k => h σ H hD hS _ fun v H1 e1 hv => ⟨i, hv, k H1 e1⟩
def cutD (ds : List PyData) (lo hi : Option Int) : List PyData := (ds.drop (HT.sIx ds.length 0 lo)).take (HT.sIx ds.length ds.length hi - HT.sIx ds.length 0 lo)
theorem ep_sl {tl th : TO} {ds : List PyData} {lo hi : Option Int} (h : EP O te δ (.list ds)) (h1 : OD O tl δ lo) (h2 : OD O th δ hi) : EP O (tSl (rSlL K) te tl th) δ (.list (cutD ds lo hi)) := fun σ H hD hS Q k =>
  h σ H hD hS _ fun v H1 e1 hv => h1 σ H1 (hD.ex e1) (hS.mono (hid_ex e1)) _ fun H2 e2 => h2 σ H2 ((hD.ex e1).ex e2) (hS.mono (hid_ex (e1.trans e2))) _ fun H3 e3 => by
    obtain ⟨a, xs, rfl, q1, q2⟩ := hv
    have e23 := e2.trans e3
    have d3 := ((hD.ex e1).ex e2).ex e3
    refine ⟨a, xs, rfl, SqL.of (e23 _ _ (hid_some q1).2), fun p hp => k _ _ ((e1.trans e23).trans (Ex.new hp)) ⟨p, _, rfl, by rw [hid_out (d3.fresh hp)]; exact upd_same, ?_⟩⟩
    unfold cutV cutD
    rw [q2.length]
    exact ((q2.mono (hid_ex (e23.trans (Ex.new hp)))).drop _).take _
/-! list(), tuple(), int(), min(), max(), repr() -/
theorem ep_listOf {ds : List PyData} (h : EP O te δ (.list ds)) : EP O (tCB (fun xs H Q => ∃ p ys, xs = [.ref p] ∧ (SqL K H p ys ∨ SqT K H p ys) ∧ ∀ l, H l = none → Q (.ref l) (upd H l (.lst ys))) (tCons te tNil)) δ (.list ds) := fun σ H hD hS Q k =>
  h σ H hD hS _ fun v H1 e1 hv => by
    obtain ⟨a, xs, rfl, q1, q2⟩ := hv
    exact ⟨a, xs, rfl, Or.inl (SqL.of (hid_some q1).2), fun l hl => k _ _ (e1.trans (Ex.new hl)) ⟨l, xs, rfl, by rw [hid_out ((hD.ex e1).fresh hl)]; exact upd_same, q2.mono (hid_ex (Ex.new hl))⟩⟩
theorem ep_tupOf {ds : List PyData} (h : EP O te δ (.list ds)) : EP O (tCB (fun xs H Q => ∃ p ys, xs = [.ref p] ∧ ((SqL K H p ys ∧ ∀ l, H l = none → Q (.ref l) (upd H l (.tup ys))) ∨ (SqT K H p ys ∧ Q (.ref p) H))) (tCons te tNil)) δ (.tuple ds) := fun σ H hD hS Q k =>
  h σ H hD hS _ fun v H1 e1 hv => by
    obtain ⟨a, xs, rfl, q1, q2⟩ := hv
    exact ⟨a, xs, rfl, Or.inl ⟨SqL.of (hid_some q1).2, fun l hl => k _ _ (e1.trans (Ex.new hl)) ⟨l, xs, rfl, by rw [hid_out ((hD.ex e1).fresh hl)]; exact upd_same, q2.mono (hid_ex (Ex.new hl))⟩⟩⟩
theorem ep_intB {b : Bool} (h : EP O te δ (.bool b)) : EP O (tCB (fun xs H Q => (∃ i, xs = [.int i] ∧ Q (.int i) H) ∨ ∃ k, xs = [.bl k] ∧ Q (.int (if k then 1 else 0)) H) (tCons te tNil)) δ (.int (if b then 1 else 0)) := fun σ H hD hS Q k =>
  h σ H hD hS _ fun v H1 e1 hv => Or.inr ⟨b, by rw [show v = .bl b from hv], k _ H1 e1 rfl⟩
theorem ep_min2 {i j : Int} (h : EP O te δ (.tuple [.int i, .int j])) : EP O (tCB (rMin2 K) (tCons te tNil)) δ (.int (if j < i then j else i)) := fun σ H hD hS Q k =>
  h σ H hD hS _ fun v H1 e1 hv => by
    obtain ⟨a, xs, rfl, q1, v1, r1, rfl, p1, v2, r2, rfl, p2, p3⟩ := hv
    cases p1; cases p2; cases p3
    exact ⟨a, i, j, rfl, SqT.of (hid_some q1).2, k _ H1 e1 rfl⟩
theorem ep_max2 {i j : Int} (h : EP O te δ (.tuple [.int i, .int j])) : EP O (tCB (rMax2 K) (tCons te tNil)) δ (.int (if j > i then j else i)) := fun σ H hD hS Q k =>
  h σ H hD hS _ fun v H1 e1 hv => by
    obtain ⟨a, xs, rfl, q1, v1, r1, rfl, p1, v2, r2, rfl, p2, p3⟩ := hv
    cases p1; cases p2; cases p3
    exact ⟨a, i, j, rfl, SqT.of (hid_some q1).2, k _ H1 e1 rfl⟩
theorem ep_repr (h : EP O te δ x) (hs : Shows x) : EP O (tCB (rRepr K) (tCons te tNil)) δ (.str x.shown) := fun σ H hD hS Q k =>
  h σ H hD hS _ fun v H1 e1 hv => ⟨v, x, rfl, Dt.dp x v (Dt.mono hid_le x v hv), hs, k _ H1 e1 rfl⟩
theorem ep_neg {i : Int} (h : EP O te δ (.int i)) : EP O (tUn (rU fun i => .int (-i)) te) δ (.int (-i)) := fun σ H hD hS Q k =>
  h σ H hD hS _ fun v H1 e1 hv => ⟨i, hv, k _ H1 e1 rfl⟩
theorem ep_abs {i : Int} (h : EP O te δ (.int i)) : EP O (tCB (fun xs H Q => ∃ i, xs = [.int i] ∧ Q (.int (if i < 0 then -i else i)) H) (tCons te tNil)) δ (.int (if i < 0 then -i else i)) := fun σ H hD hS Q k =>
  h σ H hD hS _ fun v H1 e1 hv => ⟨i, by rw [show v = .int i from hv], k _ H1 e1 rfl⟩

/-! ### pure defs -/
def spP (n : Nat) (pre : List PyData → Prop) (f : List PyData → PyData) : Sp := fun vs H Q _ => ∃ (O : List Addr) (ds : List PyData), Dom O H ∧ ds.length = n ∧ pre ds ∧ DtAll (hid O H) ds vs ∧
  ∀ v H', Ex H H' → Dt (hid O H') (f ds) v → Q v H'
theorem ep_call {n : Nat} {pre : List PyData → Prop} {f : List PyData → PyData} {E : XK} {t : TA} {ds : List PyData} (h : AP O t δ ds) (hn : ds.length = n) (hp : pre ds) : EP O (tCall (spP n pre f) [] E t) δ (f ds) := fun σ H hD hS Q k =>
  h σ H hD hS _ fun vs H1 e1 hv => ⟨O, ds, hD.ex e1, hn, hp, by rw [List.append_nil]; exact hv, fun v H2 e2 hd => k v H2 (e1.trans e2) hd⟩
theorem sd_start {H : Hp} {ds : List PyData} {vs : List V} (h : DtAll H ds vs) (N : List Str) (hn : ds.length ≤ N.length) : SD H (ds.map Sl.d ++ List.replicate (N.length - ds.length) .no) (L2.start N vs) := by
  have hl := h.length
  refine ⟨by unfold L2.start; simp [hl], fun i => ?_⟩
  unfold L2.start
  rw [List.getD_eq_getElem?_getD, List.getD_eq_getElem?_getD]
  by_cases hi : i < ds.length
  · rw [List.getElem?_append_left (by simpa using hi), List.getElem?_append_left (by simpa [hl] using hi), List.getElem?_map, List.getElem?_map]
    obtain ⟨v, q1, q2⟩ := h.get (List.getElem?_eq_getElem hi)
    rw [q1, List.getElem?_eq_getElem hi]
    exact ⟨v, rfl, q2⟩
  · rw [List.getElem?_append_right (by simpa using hi)]
    have : ((List.replicate (N.length - ds.length) Sl.no)[i - (ds.map Sl.d).length]?.getD .no) = .no := by
      rw [List.getElem?_replicate]
      split <;> rfl
    rw [this]
    trivial
theorem pure_body {t : TS} {N : List Str} {n : Nat} {pre : List PyData → Prop} {f : List PyData → PyData} (hn : n ≤ N.length)
    (h : ∀ O ds, ds.length = n → pre ds → DS O t (ds.map Sl.d ++ List.replicate (N.length - n) .no) (fun _ => f ds = .none) (fun d => d = f ds)) {vs : List V} {H : Hp} {Q : VK} {E : XK} (hs : spP n pre f vs H Q E) :
    t { nx := fun _ H' => Q .non H', rt := Q } (L2.start N vs) H := by
  obtain ⟨O, ds, hD, hl, hp, hv, k⟩ := hs
  have key := h O ds hl hp (fun H' => ∀ a ∈ O, H' a = H a) (fun H1 H2 e1 _ j a ha => (e1 a ha).trans (j a ha)) (L2.start N vs) H { nx := fun _ H' => Q .non H', rt := Q } (fun _ _ => rfl) hD (by
    have z := sd_start hv N (by omega)
    rw [hl] at z
    exact z)
  have ex : ∀ {H' : Hp}, (∀ a ∈ O, H' a = H a) → Ex (hid O H) (hid O H') → Ex H H' := fun {H'} j e a o q => by
    by_cases ha : a ∈ O
    · rw [j a ha]
      exact q
    · have z := e a o (by rw [hid_out ha]; exact q)
      rw [hid_out ha] at z
      exact z
  refine key (fun δ' σ' H' n' d' e' _ => ?_) fun v H' r d' e' => ?_
  · obtain ⟨e0, j⟩ := n'
    exact k .non H' (ex j e') (by rw [e0]; rfl)
  · obtain ⟨d, hd, rfl, j⟩ := r
    exact k v H' (ex j e') hd
theorem pure_len {n : Nat} {pre : List PyData → Prop} {f : List PyData → PyData} {vs : List V} {H : Hp} {Q : VK} {E : XK} (h : spP n pre f vs H Q E) : vs.length = n := by
  obtain ⟨O, ds, _, hl, _, hv, _⟩ := h
  rw [hv.length, hl]
end
end Cp
/-! Cameposts: a comprehension of two fors; the room for repr -/
namespace Cp
open PySem L2 PySem.Spec PyProof.Rows
open Evl (Ex)
theorem _root_.L2.Room.units200 {k : Nat} {A : Around} (r : Room k A) : A.units + 200 < cLine := by
  have := r.un
  omega
section
variable {O : List Addr} {K : PySem.W.Frag} {δ : List Sl} {ta tb te tc : TE} {x y z d : PyData}
theorem ep_is {e : PyData} (h : EP O te δ d) (q : d = e) : EP O te δ e := q ▸ h
theorem tp_is {tt : TT} {b c : Bool} (h : TP O tt δ b) (q : b = c) : TP O tt δ c := q ▸ h
def isIntB : PyData → Bool
  | .int _ => true
  | .bool _ => true
  | _ => false
def isBoolB : PyData → Bool
  | .bool _ => true
  | _ => false
def isTupB : PyData → Bool
  | .tuple _ => true
  | _ => false
def isListB : PyData → Bool
  | .list _ => true
  | _ => false
def isStrB : PyData → Bool
  | .str _ => true
  | _ => false
theorem ep_isInt (h : EP O te δ x) : EP O (tCB (rIsU K) (tCons te (tCons (tC (.ty "int")) tNil))) δ (.bool (isIntB x)) := by
  cases x <;> exact ep_isU h (by simp only [tyN, isIntB, isBoolB, isTupB, isListB, isStrB]; decide +kernel)
theorem ep_isBool (h : EP O te δ x) : EP O (tCB (rIsU K) (tCons te (tCons (tC (.ty "bool")) tNil))) δ (.bool (isBoolB x)) := by
  cases x <;> exact ep_isU h (by simp only [tyN, isIntB, isBoolB, isTupB, isListB, isStrB]; decide +kernel)
theorem ep_isTup (h : EP O te δ x) : EP O (tCB (rIsU K) (tCons te (tCons (tC (.ty "tuple")) tNil))) δ (.bool (isTupB x)) := by
  cases x <;> exact ep_isU h (by simp only [tyN, isIntB, isBoolB, isTupB, isListB, isStrB]; decide +kernel)
theorem ep_isList (h : EP O te δ x) : EP O (tCB (rIsU K) (tCons te (tCons (tC (.ty "list")) tNil))) δ (.bool (isListB x)) := by
  cases x <;> exact ep_isU h (by simp only [tyN, isIntB, isBoolB, isTupB, isListB, isStrB]; decide +kernel)
theorem ep_isStr (h : EP O te δ x) : EP O (tCB (rIsU K) (tCons te (tCons (tC (.ty "str")) tNil))) δ (.bool (isStrB x)) := by
  cases x <;> exact ep_isU h (by simp only [tyN, isIntB, isBoolB, isTupB, isListB, isStrB]; decide +kernel)
theorem wipeS_length : ∀ (vs : List Nat) (δ : List Sl), (wipeS δ vs).length = δ.length
  | [], _ => rfl
  | v :: vs, δ => by
    show ((wipeS δ vs).set v .no).length = δ.length
    rw [List.length_set]
    exact wipeS_length vs δ
theorem wipe_wipe (ρ : L2.St) (vs ws : List Nat) (h : ∀ j ∈ ws, j ∈ vs) : L2.wipe (L2.wipe ρ vs) ws = L2.wipe ρ vs := by
  induction ws with
  | nil => rfl
  | cons w ws ih =>
    show (L2.wipe (L2.wipe ρ vs) ws).set w none = L2.wipe ρ vs
    rw [ih fun j hj => h j (by simp [hj])]
    refine List.ext_getElem? fun j => ?_
    by_cases e : w = j
    · subst e
      have hwv : w ∈ vs := h w (by simp)
      cases q : (L2.wipe ρ vs)[w]? with
      | none => rw [List.getElem?_set_self', q]; rfl
      | some o =>
        rw [List.getElem?_set_self', q]
        cases o with
        | none => rfl
        | some x => exact absurd hwv (wipe_some q).2
    · rw [List.getElem?_set_ne e]
/-- the rows of a comprehension of two fors -/
def rows2 (n : Nat) (m : Nat → Nat) (f : Nat → Nat → Option PyData) : List PyData := (List.range n).flatMap fun i => (List.range (m i)).filterMap (f i)
theorem rows2_succ {n : Nat} {m : Nat → Nat} {f : Nat → Nat → Option PyData} : rows2 (n + 1) m f = rows2 n m f ++ (List.range (m n)).filterMap (f n) := by
  unfold rows2
  rw [List.range_succ, List.flatMap_append]
  simp
theorem rows2_le {m : Nat → Nat} {f : Nat → Nat → Option PyData} {b : Nat} : ∀ (n : Nat), (∀ i, i < n → m i ≤ b) → (rows2 n m f).length ≤ n * b
  | 0, _ => by simp [rows2]
  | n + 1, h => by
    rw [rows2_succ, List.length_append]
    have h1 := rows2_le (m := m) (f := f) (b := b) n fun i hi => h i (by omega)
    have h2 : ((List.range (m n)).filterMap (f n)).length ≤ m n := filterMap_le
    have h3 := h n (by omega)
    rw [Nat.add_mul, Nat.one_mul]
    omega
theorem ep_lc2 {wi wi1 : TI} {g g1 : TG} {tt1 : TT} {n b : Nat} {m : Nat → Nat} {item : Nat → PyData} {item1 : Nat → Nat → PyData} {ix ix1 vs vs1 : List Nat} {f : Nat → Nat → Option PyData}
    (hw : ∀ O, WP O wi δ n item) (hb : ∀ i, i < n → m i ≤ b) (hn : n * b ≤ 100000) (hn2 : b ≤ 100000) (hi : ∀ j ∈ ix, j ∈ vs) (hi1 : ∀ j ∈ ix1, j ∈ vs1) (hv : ∀ j ∈ vs1, j ∈ vs)
    (hs : ∀ O i, i < n → ∃ δ2, GB O g (item i) (wipeS δ vs) δ2 ix ∧ WP O wi1 δ2 (m i) (item1 i) ∧
      ∀ j, j < m i → ∃ δ3, GB O g1 (item1 i j) (wipeS δ2 vs1) δ3 ix1 ∧ TP O tt1 δ3 (f i j).isSome ∧ ∀ y, f i j = some y → EP O te δ3 y) :
    EP O (tLc2 wi g tYes wi1 g1 tt1 te vs vs1) δ (.list (rows2 n m f)) := fun σ H hD hS Q k => by
  refine hw O σ H hD hS _ fun Ji H1 e1 w => ?_
  intro D hDn
  have d1 := hD.ex e1
  have s1 := hS.mono (hid_ex e1)
  have dfr : D ∉ O := d1.fresh hDn
  have mono : ∀ {H' H'' : Hp}, Ex H' H'' → Ex (Cp.hid (D :: O) H') (Cp.hid (D :: O) H'') := fun e => hid_ex e
  refine ⟨fun i mm H' => mm = n - i ∧ i ≤ n ∧ Acc O H1 D (rows2 i m f) H', ⟨n, by simp, Nat.zero_le _, ⟨[], upd_same, rfl⟩, fun a o ha q => by rw [upd_ne ha]; exact q⟩, ?_⟩
  rintro i mm H' ⟨rfl, hin, p⟩
  have pG : Ex (Cp.hid O H1) H' := (p.hid hDn).trans hid_le
  by_cases hlt : i < n
  · refine .inr ⟨w.goes i H' hlt pG, fun H'' => Acc O H1 D (rows2 (i + 1) m f) H'', fun H'' p' => ⟨n - (i + 1), by omega, rfl, hlt, p'⟩, fun v H2 yy => ?_⟩
    obtain ⟨e2, hvv⟩ := w.yields i H' v H2 hlt pG yy
    have p2 := p.ex e2
    have d2 := p2.dom d1 hDn
    obtain ⟨δ2, hg, hw1, hin2⟩ := hs (D :: O) i hlt
    have s2 : SD (Cp.hid (D :: O) H2) (wipeS δ vs) (L2.wipe σ vs) := (s1.wipe vs).mono (p2.hid hDn)
    refine hg _ H2 v d2 s2 (hvv (D :: O) (p.hid hDn) (p.dom d1 hDn)) _ fun σ2 s3 hl hj => ⟨?_, ?_⟩
    · rw [wipe_same (vs := vs) hl hj hi]
      exact wipe_wipe σ vs vs fun _ h => h
    · unfold tYes
      dsimp only
      rw [if_pos rfl]
      refine hw1 σ2 H2 d2 s3 _ fun J1 H3 e3 w1 => ?_
      have p3 := p2.ex e3
      have d3 := p3.dom d1 hDn
      have s3' := s3.mono (mono e3)
      refine ⟨fun j kk H'' => kk = m i - j ∧ j ≤ m i ∧ (Acc O H1 D (rows2 i m f ++ (List.range j).filterMap (f i)) H'' ∧ Ex (Cp.hid (D :: O) H3) (Cp.hid (D :: O) H'')), ⟨m i, by simp, Nat.zero_le _, by simpa using p3, Ex.refl _⟩, ?_⟩
      rintro j kk H4 ⟨rfl, hjm, p4, e4⟩
      have q4 : Ex (Cp.hid (D :: O) H3) H4 := e4.trans hid_le
      by_cases hlt1 : j < m i
      · refine .inr ⟨w1.goes j H4 hlt1 q4, fun H'' => Acc O H1 D (rows2 i m f ++ (List.range (j + 1)).filterMap (f i)) H'' ∧ Ex (Cp.hid (D :: O) H3) (Cp.hid (D :: O) H''), fun H'' p' => ⟨m i - (j + 1), by omega, rfl, hlt1, p'.1, p'.2⟩, fun u H5 y1 => ?_⟩
        obtain ⟨e5, hu⟩ := w1.yields j H4 u H5 hlt1 q4 y1
        have p5 := p4.ex e5
        have d4 := p4.dom d1 hDn
        have d5 := p5.dom d1 hDn
        obtain ⟨δ3, hg1, ht1, he⟩ := hin2 j hlt1
        have e35 : Ex (Cp.hid (D :: O) H3) (Cp.hid (D :: O) H5) := e4.trans (mono e5)
        have s5 : SD (Cp.hid (D :: O) H5) (wipeS δ2 vs1) (L2.wipe σ2 vs1) := (s3'.mono e35).wipe vs1
        refine hg1 _ H5 u d5 s5 (hu (D :: O) e4 d4) _ fun σ3 s6 hl1 hj1 => ⟨?_, ?_⟩
        · rw [wipe_same (vs := vs1) hl1 hj1 hi1]
          exact wipe_wipe σ2 vs1 vs1 fun _ h => h
        · refine ht1 σ3 H5 d5 s6 _ fun H6 e6 => ?_
          have p6 := p5.ex e6
          cases hf : f i j with
          | none =>
            rw [if_neg (by simp)]
            refine ⟨?_, e35.trans (mono e6)⟩
            rw [filterMap_range_succ, hf]
            simpa using p6
          | some y =>
            rw [if_pos (by rfl)]
            refine he y hf σ3 H6 (d5.ex e6) (s6.mono (mono e6)) _ fun t H7 e7 ht => ?_
            have p7 := p6.ex e7
            obtain ⟨⟨acc, q1, q2⟩, q3⟩ := id p7
            refine ⟨acc, q1, ?_, ?_, ?_⟩
            · rw [q2.length, List.length_append]
              have z1 : (rows2 i m f).length ≤ i * b := rows2_le i fun i' hi' => hb i' (by omega)
              have z2 : ((List.range j).filterMap (f i)).length ≤ j := filterMap_le
              have z3 := hb i hlt
              have z4 : (i + 1) * b ≤ n * b := Nat.mul_le_mul_right b hlt
              rw [Nat.add_mul, Nat.one_mul] at z4
              exact Evl.sz_lt (by omega)
            · rw [filterMap_range_succ, hf]
              have z := p7.push q1 ht
              rw [List.append_assoc] at z
              exact z
            · refine (e35.trans ((mono e6).trans (mono e7))).trans fun a o q => ?_
              obtain ⟨h1, h2⟩ := hid_some q
              rw [hid_out h1, upd_ne (fun z => h1 (by simp [z]))]
              exact h2
      · have ej : j = m i := by omega
        subst ej
        refine .inl ⟨w1.stops H4 q4, ?_⟩
        show Acc O H1 D (rows2 (i + 1) m f) H4
        rw [rows2_succ]
        exact p4
  · have ei : i = n := by omega
    subst ei
    refine .inl ⟨w.stops H' pG, ?_⟩
    obtain ⟨⟨acc, q1, q2⟩, q3⟩ := id p
    refine k (.ref D) H' (e1.trans fun a o q => q3 a o (fun z => by rw [z, hDn] at q; cases q) q) ⟨D, acc, rfl, by rw [hid_out dfr]; exact q1, q2.mono fun a o q => ?_⟩
    obtain ⟨h1, h2⟩ := hid_some q
    rw [hid_out (fun z => h1 (by simp [z]))]
    exact h2
end
/-! ### rules whose reading names the written part: by a name of its own -/
section
variable {X : Cx} {K : PySem.W.Frag}
theorem kx_ix (h : X.K = K) : IxR X (rIx K) := h ▸ ix_seq
theorem kx_isi (h : X.K = K) : CallR X (.builtin "isinstance") (rIsU K) := h ▸ call_isU
theorem kx_len (h : X.K = K) : CallR X (.builtin "len") (fun xs H Q => ∃ x n, xs = [x] ∧ LenV K x H n ∧ Q (V.int ↑n) H) := h ▸ call_len
theorem kx_eq (h : X.K = K) (hu : X.A.units + 64 < cLine) : OpR X (compareOp .Eq) (rEqD K) := h ▸ op_eqD hu
theorem kx_ne (h : X.K = K) (hu : X.A.units + 64 < cLine) : OpR X (compareOp .NotEq) (rNeD K) := h ▸ op_neD hu
theorem kx_sl (h : X.K = K) : SlR X (rSlL K) := h ▸ sl_list
theorem kx_listOf (h : X.K = K) : CallR X (.type "list") (fun xs H Q => ∃ p ys, xs = [.ref p] ∧ (SqL K H p ys ∨ SqT K H p ys) ∧ ∀ l, H l = none → Q (.ref l) (upd H l (.lst ys))) := h ▸ call_list_of
theorem kx_tupOf (h : X.K = K) : CallR X (.type "tuple") (fun xs H Q => ∃ p ys, xs = [.ref p] ∧ ((SqL K H p ys ∧ ∀ l, H l = none → Q (.ref l) (upd H l (.tup ys))) ∨ (SqT K H p ys ∧ Q (.ref p) H))) := h ▸ call_tuple_of
theorem kx_min (h : X.K = K) (hc : X.calm = true) : CallR X (.builtin "min") (rMin2 K) := h ▸ call_min2T hc
theorem kx_max (h : X.K = K) (hc : X.calm = true) : CallR X (.builtin "max") (rMax2 K) := h ▸ call_max2T hc
theorem kx_repr (h : X.K = K) (hg : X.A.guards = some []) (hu : X.A.units + 200 < cLine) : CallR X (.builtin "repr") (rRepr K) := h ▸ call_reprD hg hu
theorem kx_list {tg l : Expr} {tl : TE} (h : X.K = K) (hl : PE X l tl) : PI X tg l (iList K tl) := h ▸ pi_list hl
theorem kx_tup {tg l : Expr} {tl : TE} (h : X.K = K) (hl : PE X l tl) : PI X tg l (iTup K tl) := h ▸ pi_tup hl
theorem kx_enum {e : Expr} {ta : TA} {p pos tpos : Pos} {elts : List Expr} {kk : Nat} (h : X.K = K) (hg : Gl X "enumerate") (hm : X.mg "enumerate" = none) (ha : PA X [e] ta) (hs : starEach [e] X.env = [(false, eval e X.env)] := by rfl) :
    PI X (.Tuple elts kk tpos) (.Call (.Name "enumerate" p) [e] [] pos) (iEnum K ta) := h ▸ pi_enum hg hm ha hs
theorem kx_gtup {es : List Expr} {k n : Nat} {t : TGs} {pos : Pos} (hK : X.K = K) (hc : X.calm = true) (h : PGs X es t) (hn : (assignEach es X.env).length = n := by rfl) (hst : (assignEach es X.env).findIdx? (·.1) = none := by rfl) :
    PG X (.Tuple es k pos) (gTup K n t) := hK ▸ pg_tup hc h hn hst
theorem kx_gunl {es : List Expr} {k n : Nat} {t : TGs} {pos : Pos} (hK : X.K = K) (hc : X.calm = true) (h : PGs X es t) (hn : (assignEach es X.env).length = n := by rfl) (hst : (assignEach es X.env).findIdx? (·.1) = none := by rfl) :
    PG X (.Tuple es k pos) (gUnl K n t) := hK ▸ pg_unl hc h hn hst
theorem kx_kf {e : PySem.Expr} {te : TE} {pos : Pos} {n : Str} (hK : X.K = K) (he : PE X e te) (hb : attributeBase e n X.env (eval e X.env) = eval e X.env := by rfl) : PE X (.Attribute e n pos) (tKf K n te) := hK ▸ pe_kf he hb
theorem kx_truth {a : PySem.Expr} {ta : TE} (hK : X.K = K) (h : PE X a ta) (hw : ∀ whole : Sem Value, PySem.isTrue a X.env whole = (do let v ← whole; standAt a.pos; holding [v] (truthy v))) :
    PT X a (fun σ H Q => ta σ H fun x H' => ∃ k, TruV K x H' k ∧ Q k H') := hK ▸ pt_truth h hw
theorem kx_bm {T id m : String} (h : X.K = K) : X.K = K := h
end
/-! ### the classes with their own __init__ -/
def zOf (st : Stmt) : SupP := match defBody st, (defArgs st).args with
  | [.Expr (.Call (.Attribute (.Call (.Name _ p0) _ _ p1) _ p2) [.Constant _ j p3] _ p4) p5, .Assign [.Attribute (.Name _ q1) _ q2] (.Name _ q3) q4], [a1, a2] =>
    ⟨j, a1.pos, a2.pos, p0, p1, p2, p3, p4, p5, q1, q2, q3, q4⟩
  | _, _ => ⟨0, ⟨0, 0, 0, 0⟩, ⟨0, 0, 0, 0⟩, ⟨0, 0, 0, 0⟩, ⟨0, 0, 0, 0⟩, ⟨0, 0, 0, 0⟩, ⟨0, 0, 0, 0⟩, ⟨0, 0, 0, 0⟩, ⟨0, 0, 0, 0⟩, ⟨0, 0, 0, 0⟩, ⟨0, 0, 0, 0⟩, ⟨0, 0, 0, 0⟩, ⟨0, 0, 0, 0⟩⟩
theorem sup_binds {P : Program} {K : PySem.W.Frag} {C fI cc cda : Addr} {qual txt : Str} {z : SupP} {fd : FuncData} (T : SupC P K C fI cc cda qual txt z fd) : L2.Binds K fd ["self", "wrong"] [] := by
  obtain ⟨oc, od, kV, doc, pm, an, ct, osl, rfl, lk⟩ := T.fn
  exact .all fun us hl => match us, hl with | [_, _], _ => rfl
/-- what the text says of a class without __init__ of its own -/
structure OwnC (K : PySem.W.Frag) (C : Addr) : Prop where
  x : PySem.W.excIn K C [.type "ValueError", .type "Exception", .type "BaseException", .type "object"] "ValueError.__new__" = true
  k : PySem.W.keepIn K (.ref C) = true
  s : PySem.W.subIn K (.ref C) (.type "BaseException") = some true
  t : PySem.W.typeIn K (.ref C) = some (.type "type")
/-! ### readings by hand, with what is known of the slots at hand -/
section
variable {O : List Addr} {δ : List Sl} {te : TE} {tt : TT} {t u : TS} {D : Ends} {σ : L2.St} {H : Hp} {d : PyData} {b : Bool} {i : Nat}
theorem ha_seq (h : t { D with nx := u D } σ H) : tSeq t u D σ H := h
theorem ha_if (h : Cp.TP O tt δ b) (hD : Dom O H) (hS : SD (hid O H) δ σ) (h1 : b = true → ∀ H', Ex H H' → t D σ H') (h2 : b = false → ∀ H', Ex H H' → u D σ H') : tIfS tt t u D σ H :=
  h σ H hD hS _ fun H1 e1 => by
    cases b with
    | true => exact h1 rfl H1 e1
    | false => exact h2 rfl H1 e1
theorem ha_asg (h : Cp.EP O te δ d) (hD : Dom O H) (hS : SD (hid O H) δ σ) (k : ∀ v H', Ex H H' → Dt (hid O H') d v → SD (hid O H') (δ.set i (.d d)) (σ.set i (some v)) → D.nx (σ.set i (some v)) H') : tAsg te (gName i) D σ H :=
  h σ H hD hS _ fun v H1 e1 hv => k v H1 e1 hv ((hS.mono (hid_ex e1)).set i (slok_d hv))
theorem ha_ret (h : Cp.EP O te δ d) (hD : Dom O H) (hS : SD (hid O H) δ σ) (k : ∀ v H', Ex H H' → Dt (hid O H') d v → D.rt v H') : tRet te D σ H := h σ H hD hS _ k
theorem ha_asgM {J : Hp → Prop} {P : PyData → Hp → Prop} (h : EM O J te δ P) (hJ : J H) (hD : Dom O H) (hS : SD (hid O H) δ σ)
    (k : ∀ d v H', P d H' → Dom O H' → Ex (hid O H) (hid O H') → Dt (hid O H') d v → SD (hid O H') (δ.set i (.d d)) (σ.set i (some v)) → D.nx (σ.set i (some v)) H') : tAsg te (gName i) D σ H :=
  h σ H hJ hD hS _ fun d v H1 p d1 e1 hv => k d v H1 p d1 e1 hv ((hS.mono e1).set i (slok_d hv))
end
end Cp
/-! Cameposts: readings where a list of one's own is read and changed -/
namespace Cp
open PySem L2 PySem.Spec PyProof.Rows
open Evl (Ex)
/-- from J, and J stays: te gives the data d -/
def ED (O : List Addr) (J : Hp → Prop) (te : TE) (δ : List Sl) (d : PyData) : Prop := EM O J te δ (fun x H => x = d ∧ J H)
def TD (O : List Addr) (J : Hp → Prop) (tt : TT) (δ : List Sl) (b : Bool) : Prop := TM O J tt δ (fun x H => x = b ∧ J H)
def AD (O : List Addr) (J : Hp → Prop) (ta : TA) (δ : List Sl) (ds : List PyData) : Prop := AM O J ta δ (fun x H => x = ds ∧ J H)
section
variable {O : List Addr} {J : Hp → Prop} {K : PySem.W.Frag} {δ : List Sl} {ta tb te ti : TE} {tt : TT} {t u : TS} {x y z d : PyData} {N : List Sl → Hp → Prop} {R : V → Hp → Prop} {l : Addr} {i : Nat}
theorem ed_of (j : Jok O J) (h : EP O te δ d) : ED O J te δ d := h.em j
theorem ed_is {e : PyData} (h : ED O J te δ d) (q : d = e) : ED O J te δ e := q ▸ h
theorem td_of {b : Bool} (j : Jok O J) (h : TP O tt δ b) : TD O J tt δ b := h.tm j
theorem ed_op {r : R2} (j : Jok O J) (ha : ED O J ta δ x) (hb : ED O J tb δ y) (hr : RP O r x y z) : ED O J (tOp r ta tb) δ z :=
  em_op (Pb := fun a b H => a = x ∧ b = y ∧ J H) ha (fun a => fun σ H hJ hD hS Q k => hb σ H hJ.2 hD hS Q fun e v H' p => k e v H' ⟨hJ.1, p.1, p.2⟩)
    fun a b H p => ⟨z, by rw [p.1, p.2.1]; exact hr, fun H' hD e => ⟨rfl, j.ex hD e p.2.2⟩⟩
/-- an item of the own list -/
theorem ed_ixO {vs : List V} {k : Int} {m : Nat} {v : V} (j : Jok O J) (hs : δ.getD i .no = .at l) (hl : ∀ H, J H → H l = some (.lst vs)) (hb : ED O J tb δ (.int k)) (hk : ixN vs.length k = some m) (hv : vs[m]? = some v) (hd : ∀ H, Dt H d v) :
    ED O J (tOp (rIx K) (tVar i) tb) δ d := fun σ H hJ hD hS Q q =>
  ⟨.ref l, hS.loc hs, hb σ H hJ hD hS _ fun e w H1 p d1 e1 hw => Or.inl ⟨l, vs, k, v, rfl, by rw [p.1] at hw; exact hw, SqL.of (hl H1 p.2), by unfold atI; rw [hk]; exact hv, q d v H1 ⟨rfl, p.2⟩ d1 e1 (hd _)⟩⟩
theorem ed_lenO {vs : List V} (hs : δ.getD i .no = .at l) (hl : ∀ H, J H → H l = some (.lst vs)) :
    ED O J (tCB (fun xs H Q => ∃ x n, xs = [x] ∧ LenV K x H n ∧ Q (V.int ↑n) H) (tCons (tVar i) tNil)) δ (.int vs.length) := fun σ H hJ hD hS Q q =>
  ⟨.ref l, hS.loc hs, .ref l, vs.length, rfl, Or.inl ⟨vs, SqL.of (hl H hJ), rfl⟩, q _ _ H ⟨rfl, hJ⟩ hD (Ex.refl _) rfl⟩
theorem ed_abs {n : Int} (h : ED O J te δ (.int n)) : ED O J (tCB (fun xs H Q => ∃ i, xs = [.int i] ∧ Q (.int (if i < 0 then -i else i)) H) (tCons te tNil)) δ (.int (if n < 0 then -n else n)) := fun σ H hJ hD hS Q q =>
  h σ H hJ hD hS _ fun e w H1 p d1 e1 hw => by
    rw [p.1] at hw
    exact ⟨n, by rw [show w = .int n from hw], q _ _ H1 ⟨rfl, p.2⟩ d1 e1 rfl⟩
theorem td_test {b : Bool} (h : ED O J te δ (.bool b)) : TD O J (tTest te) δ b := fun σ H hJ hD hS Q q =>
  h σ H hJ hD hS _ fun e w H1 p d1 e1 hw => by
    rw [p.1] at hw
    exact ⟨b, hw, q b H1 ⟨rfl, p.2⟩ d1 e1⟩
theorem dm_ifD {b : Bool} (h : TD O J tt δ b) (h1 : b = true → DM O J t δ N R) (h2 : b = false → DM O J u δ N R) : DM O J (tIfS tt t u) δ N R :=
  dm_if h (dm_fact fun q => h1 q.symm) (dm_fact fun q => h2 q.symm)
theorem dm_asgD (h : ED O J te δ d) (k : ∀ H, J H → N (δ.set i (.d d)) H) : DM O J (tAsg te (gName i)) δ N R := dm_asg h fun x H p => by rw [p.1]; exact k H p.2
/-- an own list's item is set -/
theorem dm_setO {vs : List V} {k : Int} {m : Nat} {v : V} (he : ED O J te δ x) (hs : δ.getD i .no = .at l) (hi : ED O J ti δ (.int k)) (hl : ∀ H, J H → H l = some (.lst vs)) (hO : l ∈ O) (hk : ixN vs.length k = some m) (hx : ∀ H w, Dt H x w → w = v)
    (q : ∀ H, J H → N δ (upd H l (.lst (vs.set m v)))) : DM O J (tAsg te (gSub (tVar i) ti rSetL)) δ N R := fun σ H D hJ hD hS kn kr =>
  he σ H hJ hD hS _ fun e w H1 p d1 e1 hw => ⟨.ref l, (hS.mono e1).loc hs, hi σ H1 p.2 d1 (hS.mono e1) _ fun e2 w2 H2 p2 d2 ex2 hw2 => by
    rw [p2.1] at hw2
    rw [p.1] at hw
    have hwv := hx _ _ hw
    subst hwv
    refine ⟨l, vs, k, m, rfl, hw2, hl H2 p2.2, hk, ?_⟩
    have ex3 : Ex (hid O H2) (hid O (upd H2 l (.lst (vs.set m w)))) := fun a o z => by
      obtain ⟨z1, z2⟩ := hid_some z
      rw [hid_out z1, upd_ne (fun q => z1 (by rw [q]; exact hO))]
      exact z2
    refine kn δ σ _ (q H2 p2.2) (fun a ha => ?_) ((e1.trans ex2).trans ex3) (hS.mono ((e1.trans ex2).trans ex3))
    by_cases c : a = l
    · rw [c, upd_same]; simp
    · rw [upd_ne c]; exact d2 a ha⟩
end
/-! ### the purse -/
structure Pu (p c : Addr) (B : Nat) (H : Hp) : Prop where
  ex : ∃ (ns : List Int) (t : Int), H p = some (.lst [.ref c, .int t]) ∧ H c = some (.lst (ns.map V.int)) ∧ 1 ≤ ns.length ∧ ns.length ≤ 63 ∧ 0 ≤ t ∧ t ≤ B ∧ ∀ n ∈ ns, n.natAbs < 2 ^ 4000
  ne : p ≠ c
theorem Pu.jok {p c : Addr} {B : Nat} {O : List Addr} (hp : p ∈ O) (hc : c ∈ O) : Jok O (Pu p c B) := fun H H' e _ ⟨⟨ns, t, h1, h2, h3⟩, ne⟩ => ⟨⟨ns, t, by rw [e p hp]; exact h1, by rw [e c hc]; exact h2, h3⟩, ne⟩
theorem Pu.mono {p c : Addr} {B B' : Nat} {H : Hp} (h : Pu p c B H) (k : B ≤ B') : Pu p c B' H := by
  obtain ⟨⟨ns, t, h1, h2, h3, h4, h5, h6, h7⟩, ne⟩ := h
  exact ⟨⟨ns, t, h1, h2, h3, h4, h5, by omega, h7⟩, ne⟩
theorem Pu.dom {p c : Addr} {B : Nat} {H : Hp} (h : Pu p c B H) : Dom [p, c] H := fun a ha => by
  obtain ⟨⟨ns, t, h1, h2, _⟩, ne⟩ := h
  simp only [List.mem_cons, List.not_mem_nil, or_false] at ha
  rcases ha with rfl | rfl
  · rw [h1]; simp
  · rw [h2]; simp
/-- a heap in which but the purse is kept -/
def Kp (p c : Addr) (H H' : Hp) : Prop := ∀ a o, a ≠ p → a ≠ c → H a = some o → H' a = some o
theorem Kp.refl (p c : Addr) (H : Hp) : Kp p c H H := fun _ _ _ _ h => h
theorem Kp.trans {p c : Addr} {H H1 H2 : Hp} (a : Kp p c H H1) (b : Kp p c H1 H2) : Kp p c H H2 := fun x o h1 h2 h => b x o h1 h2 (a x o h1 h2 h)
theorem Kp.of {p c : Addr} {H H' : Hp} (e : Ex H H') : Kp p c H H' := fun a o _ _ h => e a o h
theorem Kp.hid {p c : Addr} {O : List Addr} {H H' : Hp} (k : Kp p c H H') (hp : p ∈ O) (hc : c ∈ O) : Ex (Cp.hid O H) (Cp.hid O H') := fun a o q => by
  obtain ⟨h1, h2⟩ := hid_some q
  rw [hid_out h1]
  exact k a o (fun z => h1 (by rw [z]; exact hp)) (fun z => h1 (by rw [z]; exact hc)) h2
/-- _law_draw(purse, n) -/
def spDraw : Sp := fun vs H Q _ => ∃ (p c : Addr) (B : Nat) (n : Int), vs = [.ref p, .int n] ∧ Pu p c B H ∧ 1 ≤ n ∧ n.natAbs < 2 ^ 4000 ∧ B ≤ 1000000 ∧
  ∀ r H', 0 ≤ r → r < n → Kp p c H H' → Pu p c (B + 1) H' → Q (.int r) H'
section
variable {O : List Addr} {J : Hp → Prop} {K : PySem.W.Frag} {δ : List Sl} {te : TE} {p c : Addr} {B : Nat} {i : Nat} {E : XK}
/-- a draw, with what else is owned (J, which hangs not on the purse) -/
theorem em_draw {n : Int} (hp : p ∈ O) (hc : c ∈ O) (hs : δ.getD i .no = .at p) (hn : ED O (fun H => Pu p c B H ∧ J H) te δ (.int n)) (h1 : 1 ≤ n) (hz : n.natAbs < 2 ^ 4000) (hB : B ≤ 1000000)
    (hJ : ∀ H H', Kp p c H H' → J H → J H') : EM O (fun H => Pu p c B H ∧ J H) (tCall spDraw [] E (tCons (tVar i) (tCons te tNil))) δ (fun d H => (∃ r, d = .int r ∧ 0 ≤ r ∧ r < n) ∧ Pu p c (B + 1) H ∧ J H) := fun σ H hj hD hS Q k =>
  ⟨.ref p, hS.loc hs, hn σ H hj hD hS _ fun e w H1 q d1 e1 hw => by
    rw [q.1] at hw
    refine ⟨p, c, B, n, by rw [show w = .int n from hw]; rfl, q.2.1, h1, hz, hB, fun r H2 r0 r1 kp pu => ?_⟩
    refine k (.int r) _ H2 ⟨⟨r, rfl, r0, r1⟩, pu, hJ H1 H2 kp q.2.2⟩ (fun a ha => ?_) (e1.trans (kp.hid hp hc)) rfl
    by_cases e1 : a = p
    · obtain ⟨⟨_, _, z, _⟩, _⟩ := pu
      rw [e1, z]; simp
    by_cases e2 : a = c
    · obtain ⟨⟨_, _, _, z, _⟩, _⟩ := pu
      rw [e2, z]; simp
    cases z : H1 a with
    | none => exact absurd z (d1 a ha)
    | some o => rw [kp a o e1 e2 z]; simp⟩
end
/-! ### a for whose walk leans on what is owned -/
section
variable {O : List Addr} {J : Hp → Prop} {K : PySem.W.Frag} {δ : List Sl} {te : TE} {tb : TS} {N : List Sl → Hp → Prop} {R : V → Hp → Prop} {d : PyData}
def WJ (O : List Addr) (J : Hp → Prop) (wi : TI) (δ : List Sl) (n : Nat) (item : Nat → PyData) : Prop := ∀ σ H, J H → Dom O H → SD (hid O H) δ σ → ∀ R : It → Hp → Prop,
  (∀ Ji H1, J H1 → Dom O H1 → Ex (hid O H) (hid O H1) → Walk Ji n (fun H' => Ex (hid O H1) H') (fun i H' v H'' => Ex H' H'' ∧ ∀ O', Ex (hid O H1) (hid O' H') → Dom O' H' → Dt (hid O' H'') (item i) v) → R Ji H1) → wi σ H R
theorem WP.wj {wi : TI} {n : Nat} {item : Nat → PyData} (j : Jok O J) (h : WP O wi δ n item) : WJ O J wi δ n item := fun σ H hJ hD hS R k =>
  h σ H hD hS R fun Ji H1 e w => k Ji H1 (j.ex hD e hJ) (hD.ex e) (hid_ex e) w
theorem wj_rng1 {ta : TA} {n : Int} (h : AD O J ta δ [.int n]) (hb : 0 ≤ n ∧ n ≤ 100000) : WJ O J (iRng1 ta) δ n.toNat (fun i => .int i) := fun σ H hJ hD hS R k =>
  h σ H hJ hD hS _ fun ds vs H1 p d1 e1 hv => by
    rw [p.1] at hv
    obtain ⟨v, r, rfl, q1, q2⟩ := hv
    cases q1; cases q2
    refine ⟨n, rfl, by omega, by omega, k _ H1 p.2 d1 e1 (walk_rng.mono (fun _ _ => trivial) fun i H' v H'' hi g y => ?_)⟩
    obtain ⟨rfl, rfl⟩ := y
    exact ⟨Ex.refl _, fun _ _ _ => by show V.int ((0 : Int) + i) = V.int i; rw [Int.zero_add]⟩
theorem ad_one (h : ED O J te δ d) : AD O J (tCons te tNil) δ [d] := fun σ H hJ hD hS Q q =>
  h σ H hJ hD hS _ fun e w H1 p d1 e1 hw => q [d] [w] H1 ⟨rfl, p.2⟩ d1 e1 (DtAll.one (by
    have z := hw
    rw [p.1] at z
    exact z))
theorem dm_run {t : TS} {D : Ends} {σ : L2.St} {H : Hp} (h : DM O J t δ N R) (hJ : J H) (hD : Dom O H) (hS : SD (hid O H) δ σ) (kn : ∀ δ' σ' H', N δ' H' → Dom O H' → Ex (hid O H) (hid O H') → SD (hid O H') δ' σ' → D.nx σ' H')
    (kr : ∀ v H', R v H' → Dom O H' → Ex (hid O H) (hid O H') → D.rt v H') : t D σ H := h σ H D hJ hD hS kn kr
theorem dm_ex {α : Type} {J : α → Hp → Prop} {t : TS} (h : ∀ x, DM O (J x) t δ N R) : DM O (fun H => ∃ x, J x H) t δ N R := fun σ H D ⟨x, hJ⟩ hD hS kn kr => h x σ H D hJ hD hS kn kr
theorem dm_forJ {wi : TI} {g : TG} {n : Nat} {item : Nat → PyData} {ix : List Nat} (hw : WJ O J wi δ n item) (Iv : Nat → List Sl → Hp → Prop) (h0 : ∀ H, J H → Iv 0 δ H)
    (hs : ∀ i δ1 H1, i < n → Iv i δ1 H1 → ∃ δ2 J1, GB O g (item i) δ1 δ2 ix ∧ J1 H1 ∧ Jok O J1 ∧ DM O J1 tb δ2 (Iv (i + 1)) R) (hd : ∀ δ1 H1, Iv n δ1 H1 → N δ1 H1) : DM O J (tFor wi g tb) δ N R := fun σ H D hJ0 hD hS kn kr =>
  hw σ H hJ0 hD hS _ fun Ji H1 j1 dd1 e1 w => by
    refine for_it w (fun i σ' H' => ∃ δ1, Iv i δ1 H' ∧ SD (hid O H') δ1 σ' ∧ Ex (hid O H1) (hid O H') ∧ Dom O H') ⟨δ, h0 H1 j1, hS.mono e1, Ex.refl _, dd1⟩
      (fun i σ' H' _ p => by obtain ⟨δ1, _, _, e, dd⟩ := p; exact e.trans hid_le) (fun i v σ' H' H2 hi p y => ?_) fun σ' H' p => ?_
    · obtain ⟨δ1, hI, hs1, e2, d2⟩ := p
      obtain ⟨e3, hv⟩ := y
      obtain ⟨δ2, J1, hg, j1, jk, hb⟩ := hs i δ1 H' hi hI
      refine hg σ' H2 v (d2.ex e3) (hs1.mono (hid_ex e3)) (hv O e2 d2) _ fun σ2 s2 _ _ => ?_
      exact hb σ2 H2 _ (jk.ex d2 e3 j1) (d2.ex e3) s2 (fun δ3 σ3 H3 n3 d3 e4 s3 => ⟨δ3, n3, s3, (e2.trans (hid_ex e3)).trans e4, d3⟩) fun v' H3 r3 d3 e4 => kr v' H3 r3 d3 (((e1.trans e2).trans (hid_ex e3)).trans e4)
    · obtain ⟨δ1, hI, hs1, e2, d2⟩ := p
      exact kn δ1 σ' H' (hd δ1 H' hI) d2 (e1.trans e2) hs1
end
/-! ### numbers -/
theorem cmul {i j : Int} {a b : Nat} (ha : i.natAbs < 2 ^ a) (hb : j.natAbs < 2 ^ b) (h0 : 0 < a := by decide) (h1 : 0 < b := by decide) (h : a + b ≤ 1000000 := by decide) : CMulW i j := wide_mul ha hb h0 h1 h
theorem fmod_pos {a b : Int} (h : 0 < b) : 0 ≤ a.fmod b ∧ a.fmod b < b := by
  rw [Int.fmod_eq_emod_of_nonneg a (by omega)]
  exact ⟨Int.emod_nonneg a (by omega), Int.emod_lt_of_pos a h⟩
theorem nat_lt {a : Int} {n : Nat} (h0 : 0 ≤ a) (h : a < (2 ^ n : Nat)) : a.natAbs < 2 ^ n := by omega
theorem hid_nil {H : Hp} : hid [] H = H := by
  funext a
  exact hid_out (by simp)
theorem shaped_ints (ns : List Int) : SeqAt.shaped (.list (ns.map PyData.int)) = true := by
  have h1 : ∀ l : List Int, PyData.canLayAll0 (l.map PyData.int) = true := fun l => by
    induction l with
    | nil => simp [PyData.canLayAll0]
    | cons a l ih => simp [PyData.canLayAll0, PyData.canLay0, ih]
  have h2 : ∀ l : List Int, PyData.depthAll (l.map PyData.int) = 0 := fun l => by
    induction l with
    | nil => simp [PyData.depthAll]
    | cons a l ih => simp [PyData.depthAll, PyData.depth, ih]
  show (PyData.canLay0 (.list _) && decide (PyData.depth (.list _) ≤ 64)) = true
  simp [PyData.canLay0, PyData.depth, h1, h2]
theorem eqv_nil (ds : List PyData) : PyData.eqv (.list ds) (.list []) = ds.isEmpty := by
  cases ds <;> simp [PyData.eqv, PyData.eqvAll]
/-! ### own lists of data -/
def Own (O : List Addr) (l : Addr) (ds : List PyData) (H : Hp) : Prop := ∃ vs, H l = some (.lst vs) ∧ DtAll (hid O H) ds vs
theorem Own.jok {O : List Addr} {l : Addr} {ds : List PyData} (hl : l ∈ O) : Jok O (Own O l ds) := fun H H' e ex ⟨vs, h1, h2⟩ => ⟨vs, by rw [e l hl]; exact h1, h2.mono ex⟩
theorem Own.kp {O : List Addr} {l p c : Addr} {ds : List PyData} {H H' : Hp} (hp : p ∈ O) (hc : c ∈ O) (n1 : l ≠ p) (n2 : l ≠ c) (k : Kp p c H H') (h : Own O l ds H) : Own O l ds H' := by
  obtain ⟨vs, h1, h2⟩ := h
  exact ⟨vs, k l _ n1 n2 h1, h2.mono (k.hid hp hc)⟩
theorem jok_and {O : List Addr} {J1 J2 : Hp → Prop} (a : Jok O J1) (b : Jok O J2) : Jok O (fun H => J1 H ∧ J2 H) := fun H H' e ex h => ⟨a H H' e ex h.1, b H H' e ex h.2⟩
theorem jok_fact {O : List Addr} {p : Prop} {J1 : Hp → Prop} (b : Jok O J1) : Jok O (fun H => p ∧ J1 H) := fun H H' e ex h => ⟨h.1, b H H' e ex h.2⟩
theorem hid_set {O : List Addr} {l : Addr} {o : HO} {H : Hp} (h : l ∈ O) : hid O (upd H l o) = hid O H := by
  funext a
  by_cases ha : a ∈ O
  · rw [hid_in ha, hid_in ha]
  · rw [hid_out ha, hid_out ha, upd_ne (fun z => ha (by rw [z]; exact h))]
section
variable {O : List Addr} {J : Hp → Prop} {K : PySem.W.Frag} {δ : List Sl} {te ti ta : TE} {N : List Sl → Hp → Prop} {R : V → Hp → Prop} {l : Addr} {i : Nat} {ds : List PyData} {d : PyData}
theorem dom_upd {H : Hp} {o : HO} (h : Dom O H) : Dom O (upd H l o) := fun a ha => by
  by_cases c : a = l
  · rw [c, upd_same]; simp
  · rw [upd_ne c]; exact h a ha
/-- l.append(e) -/
theorem dm_append {P : PyData → Hp → Prop} (he : EM O J te δ P) (hs : δ.getD i .no = .at l) (hO : l ∈ O) (h0 : ∀ H, J H → ∃ vs, H l = some (.lst vs)) (hown : ∀ d H, P d H → Own O l ds H) (hz : ds.length < 100000)
    (k : ∀ d H H', P d H → (∀ a, a ≠ l → H' a = H a) → Own O l (ds ++ [d]) H' → N δ H') : DM O J (tDrop (tBM K "list" rAppend (tVar i) (tCons te tNil))) δ N R := fun σ H D hJ hD hS kn kr => by
  obtain ⟨vs0, q0⟩ := h0 H hJ
  refine ⟨.ref l, hS.loc hs, Or.inl ⟨rfl, vs0, SqL.of q0⟩, he σ H hJ hD hS _ fun d v H1 p d1 e1 hv => ?_⟩
  obtain ⟨vs, q1, q2⟩ := hown d H1 p
  refine ⟨l, vs, v, rfl, rfl, q1, by rw [q2.length]; exact Evl.sz_lt hz, ?_⟩
  have hh := hid_set (H := H1) (o := .lst (vs ++ [v])) hO
  refine kn δ σ _ (k d H1 _ p (fun a ha => upd_ne ha) ⟨vs ++ [v], upd_same, by rw [hh]; exact q2.append (DtAll.one hv)⟩) (dom_upd d1) (by rw [hh]; exact e1) (by rw [hh]; exact hS.mono e1)
/-- l.insert(draw, e) -/
theorem dm_insert {P : PyData → Hp → Prop} (hi : EM O J ti δ P) (he : EP O te δ d) (hs : δ.getD i .no = .at l) (hO : l ∈ O) (h0 : ∀ H, J H → ∃ vs, H l = some (.lst vs)) (hown : ∀ d H, P d H → (∃ r : Int, d = .int r ∧ 0 ≤ r ∧ r < 2 ^ 63) ∧ Own O l ds H) (hz : ds.length < 100000)
    (hP : ∀ d, Jok O (P d)) (k : ∀ r : Int, ∀ H H', P (.int r) H → (∀ a, a ≠ l → H' a = H a) → Own O l (ds.take r.toNat ++ [d] ++ ds.drop r.toNat) H' → N δ H') :
    DM O J (tDrop (tBM K "list" (fun x vs H Q => ∃ (l : Addr) (xs : List V) (i : Int) (y : V), x = .ref l ∧ vs = [.int i, y] ∧ H l = some (.lst xs) ∧ xs.length < sizeLine ∧ 0 ≤ i ∧ i < 2 ^ 63 ∧
      Q .non (upd H l (.lst (xs.take i.toNat ++ [y] ++ xs.drop i.toNat)))) (tVar i) (tCons ti (tCons te tNil)))) δ N R := fun σ H D hJ hD hS kn kr => by
  obtain ⟨vs0, q0⟩ := h0 H hJ
  refine ⟨.ref l, hS.loc hs, Or.inl ⟨rfl, vs0, SqL.of q0⟩, hi σ H hJ hD hS _ fun x w H1 p d1 e1 hw => he σ H1 d1 (hS.mono e1) _ fun v H2 e2 hv => ?_⟩
  obtain ⟨⟨r, rfl, r0, r1⟩, _⟩ := hown x H1 p
  have p2 := (hP _).ex d1 e2 p
  obtain ⟨_, vs, q1, q2⟩ := hown _ H2 p2
  cases hw
  refine ⟨l, vs, r, v, rfl, rfl, q1, by rw [q2.length]; exact Evl.sz_lt hz, r0, r1, ?_⟩
  have hh := hid_set (H := H2) (o := .lst (vs.take r.toNat ++ [v] ++ vs.drop r.toNat)) hO
  refine kn δ σ _ (k r H2 _ p2 (fun a ha => upd_ne ha) ⟨_, upd_same, by rw [hh]; exact ((q2.take _).append (DtAll.one hv)).append (q2.drop _)⟩) (dom_upd (d1.ex e2)) (by rw [hh]; exact e1.trans (hid_ex e2)) (by rw [hh]; exact hS.mono (e1.trans (hid_ex e2)))
/-- a list of data at a drawn place -/
theorem em_ixDraw {p c : Addr} {B : Nat} {n : Int} {E : XK} {te : TE} (hp : p ∈ O) (hc : c ∈ O) (hs : δ.getD i .no = .at p) (jk : Jok O J) (ha : ED O (fun H => Pu p c B H ∧ J H) ta δ (.list ds)) (hn : ED O (fun H => Pu p c B H ∧ J H) te δ (.int n)) (h1 : 1 ≤ n)
    (hz : n.natAbs < 2 ^ 4000) (hds : n ≤ ds.length) (hB : B ≤ 1000000) (hJ : ∀ H H', Kp p c H H' → J H → J H') :
    EM O (fun H => Pu p c B H ∧ J H) (tOp (rIx K) ta (tCall spDraw [] E (tCons (tVar i) (tCons te tNil)))) δ (fun d H => d ∈ ds ∧ Pu p c (B + 1) H ∧ J H) :=
  em_op (Pb := fun a b H => a = .list ds ∧ (∃ r, b = .int r ∧ 0 ≤ r ∧ r < n) ∧ Pu p c (B + 1) H ∧ J H) ha (fun a σ H hj hD hS Q k => em_draw hp hc hs hn h1 hz hB hJ σ H hj.2 hD hS Q fun d v H' q => k d v H' ⟨hj.1, q.1, q.2⟩) fun a b H q => by
    obtain ⟨rfl, ⟨r, rfl, r0, r1⟩, q2⟩ := q
    have hr : r.toNat < ds.length := by omega
    have er : ((r.toNat : Nat) : Int) = r := by omega
    refine ⟨ds[r.toNat], rp_ix1 (rp_ixL (j := r.toNat) (by rw [← er]; exact Evl.ixN_nat hr) (List.getElem?_eq_getElem hr)), fun H' hD e => ⟨List.getElem_mem hr, (jok_and (Pu.jok hp hc) jk).ex hD e q2⟩⟩
end
/-! ### shaped data -/
def Sh (d : PyData) : Prop := d.canLay0 = true ∧ d.depth ≤ 60
theorem Sh.shaped {d : PyData} (h : Sh d) : SeqAt.shaped d = true := by
  have z := h.2
  show (d.canLay0 && decide (d.depth ≤ 64)) = true
  rw [h.1, Bool.true_and]
  exact decide_eq_true (by omega)
theorem lay_mem : ∀ {ds : List PyData} {d : PyData}, PyData.canLayAll0 ds = true → d ∈ ds → d.canLay0 = true
  | x :: ds, d, h, hm => by
    simp only [PyData.canLayAll0, Bool.and_eq_true] at h
    rcases List.mem_cons.mp hm with rfl | hm
    · exact h.1
    · exact lay_mem h.2 hm
theorem depth_mem : ∀ {ds : List PyData} {d : PyData}, d ∈ ds → d.depth ≤ PyData.depthAll ds
  | x :: ds, d, hm => by
    simp only [PyData.depthAll]
    rcases List.mem_cons.mp hm with rfl | hm
    · omega
    · have := depth_mem hm
      omega
theorem sh_list_mem {ds : List PyData} {d : PyData} (h : Sh (.list ds)) (hm : d ∈ ds) : Sh d := by
  obtain ⟨h1, h2⟩ := h
  simp only [PyData.canLay0, PyData.depth] at h1 h2
  have := depth_mem hm
  exact ⟨lay_mem h1 hm, by omega⟩
theorem sh_tuple_mem {ds : List PyData} {d : PyData} (h : Sh (.tuple ds)) (hm : d ∈ ds) : Sh d := by
  obtain ⟨h1, h2⟩ := h
  simp only [PyData.canLay0, PyData.depth] at h1 h2
  have := depth_mem hm
  exact ⟨lay_mem h1 hm, by omega⟩
theorem lay_all : ∀ {ds : List PyData}, (∀ d ∈ ds, d.canLay0 = true) → PyData.canLayAll0 ds = true
  | [], _ => by simp [PyData.canLayAll0]
  | x :: ds, h => by
    simp only [PyData.canLayAll0, Bool.and_eq_true]
    exact ⟨h x (by simp), lay_all fun d hd => h d (by simp [hd])⟩
theorem depth_all {n : Nat} : ∀ {ds : List PyData}, (∀ d ∈ ds, d.depth ≤ n) → PyData.depthAll ds ≤ n
  | [], _ => by simp [PyData.depthAll]
  | x :: ds, h => by
    simp only [PyData.depthAll]
    have h1 := h x (by simp)
    have h2 := depth_all (ds := ds) fun d hd => h d (by simp [hd])
    omega
theorem shaped_list {ds : List PyData} (h : ∀ d ∈ ds, Sh d) : SeqAt.shaped (.list ds) = true := by
  show (PyData.canLay0 (.list ds) && decide (PyData.depth (.list ds) ≤ 64)) = true
  simp only [PyData.canLay0, PyData.depth]
  rw [lay_all fun d hd => (h d hd).1, Bool.true_and]
  have := depth_all (ds := ds) (n := 60) fun d hd => (h d hd).2
  exact decide_eq_true (by omega)
/-! ### more of draws -/
section
variable {O : List Addr} {J : Hp → Prop} {K : PySem.W.Frag} {δ : List Sl} {te ti ta tb : TE} {tb' : TS} {N : List Sl → Hp → Prop} {R : V → Hp → Prop} {l p c : Addr} {i B : Nat} {ds : List PyData} {d : PyData}
theorem am_nil {P : List PyData → Hp → Prop} (h : ∀ H, J H → P [] H) : AM O J tNil δ P := fun σ H hJ hD hS Q k => k [] [] H (h H hJ) hD (Ex.refl _) rfl
theorem am_cons {tr : TA} {P : PyData → Hp → Prop} {P2 : PyData → List PyData → Hp → Prop} (h : EM O J te δ P) (hr : ∀ d, AM O (P d) tr δ (P2 d)) : AM O J (tCons te tr) δ (fun xs H => ∃ d ds, xs = d :: ds ∧ P2 d ds H) := fun σ H hJ hD hS Q k =>
  h σ H hJ hD hS _ fun d v H1 p d1 e1 hv => hr d σ H1 p d1 (hS.mono e1) _ fun ds vs H2 p2 d2 e2 hvs => k (d :: ds) (v :: vs) H2 ⟨d, ds, rfl, p2⟩ d2 (e1.trans e2) ⟨v, vs, rfl, Dt.mono e2 d v hv, hvs⟩
theorem em_lst {t : TA} {P : List PyData → Hp → Prop} {P' : PyData → Hp → Prop} (h : AM O J t δ P) (hl : ∀ ds H, P ds H → ds.length ≤ 100000) (k : ∀ ds H H', P ds H → Dom O H → Ex H H' → P' (.list ds) H') : EM O J (tLst t) δ P' := fun σ H hJ hD hS Q q =>
  h σ H hJ hD hS _ fun ds vs H1 p d1 e1 hv => ⟨by rw [hv.length]; exact Evl.sz_of (hl ds H1 p), fun a ha => q (.list ds) (.ref a) _ (k ds H1 _ p d1 (Ex.new ha)) (d1.ex (Ex.new ha)) (e1.trans (hid_ex (Ex.new ha)))
    ⟨a, vs, rfl, by rw [hid_out (d1.fresh ha)]; exact upd_same, hv.mono (hid_ex (Ex.new ha))⟩⟩
theorem em_tup {t : TA} {P : List PyData → Hp → Prop} {P' : PyData → Hp → Prop} (h : AM O J t δ P) (hl : ∀ ds H, P ds H → ds.length ≤ 100000) (k : ∀ ds H H', P ds H → Dom O H → Ex H H' → P' (.tuple ds) H') : EM O J (tTup t) δ P' := fun σ H hJ hD hS Q q =>
  h σ H hJ hD hS _ fun ds vs H1 p d1 e1 hv => ⟨by rw [hv.length]; exact Evl.sz_of (hl ds H1 p), fun a ha => q (.tuple ds) (.ref a) _ (k ds H1 _ p d1 (Ex.new ha)) (d1.ex (Ex.new ha)) (e1.trans (hid_ex (Ex.new ha)))
    ⟨a, vs, rfl, by rw [hid_out (d1.fresh ha)]; exact upd_same, hv.mono (hid_ex (Ex.new ha))⟩⟩
/-- a drawn place of a list of which S tells -/
theorem em_ixDraw2 {J0 : Hp → Prop} {S : List PyData → Prop} {n : Int} {E : XK} (hp : p ∈ O) (hc : c ∈ O) (hs : δ.getD i .no = .at p) (jk : Jok O J) (ha : EM O J0 ta δ (fun d H => ∃ ds, d = .list ds ∧ S ds ∧ Pu p c B H ∧ J H)) (hn : ED O (fun H => Pu p c B H ∧ J H) te δ (.int n)) (h1 : 1 ≤ n)
    (hz : n.natAbs < 2 ^ 4000) (hds : ∀ ds, S ds → n ≤ ds.length) (hB : B ≤ 1000000) (hJ : ∀ H H', Kp p c H H' → J H → J H') :
    EM O J0 (tOp (rIx K) ta (tCall spDraw [] E (tCons (tVar i) (tCons te tNil)))) δ (fun d H => (∃ ds, S ds ∧ d ∈ ds) ∧ Pu p c (B + 1) H ∧ J H) :=
  em_op (Pb := fun a b H => ∃ ds, (a = .list ds ∧ S ds) ∧ (∃ r, b = .int r ∧ 0 ≤ r ∧ r < n) ∧ Pu p c (B + 1) H ∧ J H) ha (fun a σ H hj hD hS Q k => by
    obtain ⟨ds, h1', h2', h3'⟩ := hj
    exact em_draw hp hc hs hn h1 hz hB hJ σ H h3' hD hS Q fun d v H' q => k d v H' ⟨ds, ⟨h1', h2'⟩, q.1, q.2⟩) fun a b H q => by
    obtain ⟨ds, ⟨rfl, hS⟩, ⟨r, rfl, r0, r1⟩, q2⟩ := q
    have := hds ds hS
    have hr : r.toNat < ds.length := by omega
    have er : ((r.toNat : Nat) : Int) = r := by omega
    refine ⟨ds[r.toNat], rp_ix1 (rp_ixL (j := r.toNat) (by rw [← er]; exact Evl.ixN_nat hr) (List.getElem?_eq_getElem hr)), fun H' hD e => ⟨⟨ds, hS, List.getElem_mem hr⟩, (jok_and (Pu.jok hp hc) jk).ex hD e q2⟩⟩
/-- a drawn place of an own list -/
theorem em_ixOwnDraw {J2 : Hp → Prop} {i2 : Nat} {n : Int} {E : XK} (hp : p ∈ O) (hc : c ∈ O) (lO : l ∈ O) (n1 : l ≠ p) (n2 : l ≠ c) (hs : δ.getD i .no = .at p) (hs2 : δ.getD i2 .no = .at l) (jk : Jok O J2)
    (hn : ED O (fun H => Pu p c B H ∧ Own O l ds H ∧ J2 H) te δ (.int n)) (h1 : 1 ≤ n) (hz : n.natAbs < 2 ^ 4000) (hds : n ≤ ds.length) (hB : B ≤ 1000000) (hJ : ∀ H H', Kp p c H H' → J2 H → J2 H') :
    EM O (fun H => Pu p c B H ∧ Own O l ds H ∧ J2 H) (tOp (rIx K) (tVar i2) (tCall spDraw [] E (tCons (tVar i) (tCons te tNil)))) δ (fun d H => d ∈ ds ∧ Pu p c (B + 1) H ∧ Own O l ds H ∧ J2 H) := fun σ H hj hD hS Q k =>
  ⟨.ref l, hS.loc hs2, em_draw (J := fun H => Own O l ds H ∧ J2 H) hp hc hs hn h1 hz hB (fun H H' kp z => ⟨Own.kp hp hc n1 n2 kp z.1, hJ H H' kp z.2⟩) σ H hj hD hS _ fun x w H1 q d1 e1 hw => by
    obtain ⟨⟨r, rfl, r0, r1⟩, q2⟩ := q
    cases hw
    obtain ⟨vs, o1, o2⟩ := id q2.2.1
    have hr : r.toNat < ds.length := by omega
    have er : ((r.toNat : Nat) : Int) = r := by omega
    obtain ⟨u, u1, u2⟩ := o2.get (List.getElem?_eq_getElem hr)
    exact Or.inl ⟨l, vs, r, u, rfl, rfl, SqL.of o1, by unfold atI; rw [o2.length, ← er, Evl.ixN_nat hr]; exact u1, k _ u H1 ⟨List.getElem_mem hr, q2⟩ d1 e1 u2⟩⟩
theorem ed_lenOwn {J0 : Hp → Prop} (hs : δ.getD i .no = .at l) (hl : ∀ H, J H → Own O l ds H) :
    ED O J (tCB (fun xs H Q => ∃ x n, xs = [x] ∧ LenV K x H n ∧ Q (V.int ↑n) H) (tCons (tVar i) tNil)) δ (.int ds.length) := fun σ H hJ hD hS Q q => by
  obtain ⟨vs, o1, o2⟩ := hl H hJ
  exact ⟨.ref l, hS.loc hs, .ref l, vs.length, rfl, Or.inl ⟨vs, SqL.of o1, rfl⟩, q _ _ H ⟨rfl, hJ⟩ hD (Ex.refl _) (by rw [o2.length]; rfl)⟩
/-- a for whose number of turns is drawn -/
def WE (O : List Addr) (J : Hp → Prop) (wi : TI) (δ : List Sl) (P : Nat → Hp → Prop) (item : Nat → PyData) : Prop := ∀ σ H, J H → Dom O H → SD (hid O H) δ σ → ∀ R : It → Hp → Prop,
  (∀ n Ji H1, P n H1 → Dom O H1 → Ex (hid O H) (hid O H1) → Walk Ji n (fun H' => Ex (hid O H1) H') (fun i H' v H'' => Ex H' H'' ∧ ∀ O', Ex (hid O H1) (hid O' H') → Dom O' H' → Dt (hid O' H'') (item i) v) → R Ji H1) → wi σ H R
theorem we_rng {P : Nat → Hp → Prop} {P0 : PyData → Hp → Prop} (h : EM O J te δ P0) (hp : ∀ d H, P0 d H → ∃ n : Nat, d = .int n ∧ n ≤ 100000 ∧ P n H) : WE O J (iRng1 (tCons te tNil)) δ P (fun i => .int i) := fun σ H hJ hD hS R k =>
  h σ H hJ hD hS _ fun d v H1 p d1 e1 hv => by
    obtain ⟨n, rfl, hn, pn⟩ := hp d H1 p
    cases hv
    refine ⟨(n : Int), rfl, by omega, by omega, k n _ H1 pn d1 e1 (walk_rng.mono (fun _ _ => trivial) fun i H' v H'' hi g y => ?_)⟩
    obtain ⟨rfl, rfl⟩ := y
    exact ⟨Ex.refl _, fun _ _ _ => by show V.int ((0 : Int) + i) = V.int i; rw [Int.zero_add]⟩
theorem dm_forE {wi : TI} {g : TG} {P : Nat → Hp → Prop} {item : Nat → PyData} {ix : List Nat} (hw : WE O J wi δ P item) (Iv : Nat → Nat → List Sl → Hp → Prop) (h0 : ∀ n H, P n H → Iv n 0 δ H)
    (hs : ∀ n i δ1 H1, i < n → Iv n i δ1 H1 → ∃ δ2 J1, GB O g (item i) δ1 δ2 ix ∧ J1 H1 ∧ Jok O J1 ∧ DM O J1 tb' δ2 (Iv n (i + 1)) R) (hd : ∀ n δ1 H1, Iv n n δ1 H1 → N δ1 H1) : DM O J (tFor wi g tb') δ N R := fun σ H D hJ0 hD hS kn kr =>
  hw σ H hJ0 hD hS _ fun n Ji H1 j1 dd1 e1 w => by
    refine for_it w (fun i σ' H' => ∃ δ1, Iv n i δ1 H' ∧ SD (hid O H') δ1 σ' ∧ Ex (hid O H1) (hid O H') ∧ Dom O H') ⟨δ, h0 n H1 j1, hS.mono e1, Ex.refl _, dd1⟩
      (fun i σ' H' _ p => by obtain ⟨δ1, _, _, e, dd⟩ := p; exact e.trans hid_le) (fun i v σ' H' H2 hi p y => ?_) fun σ' H' p => ?_
    · obtain ⟨δ1, hI, hs1, e2, d2⟩ := p
      obtain ⟨e3, hv⟩ := y
      obtain ⟨δ2, J1, hg, j1, jk, hb⟩ := hs n i δ1 H' hi hI
      refine hg σ' H2 v (d2.ex e3) (hs1.mono (hid_ex e3)) (hv O e2 d2) _ fun σ2 s2 _ _ => ?_
      exact hb σ2 H2 _ (jk.ex d2 e3 j1) (d2.ex e3) s2 (fun δ3 σ3 H3 n3 d3 e4 s3 => ⟨δ3, n3, s3, (e2.trans (hid_ex e3)).trans e4, d3⟩) fun v' H3 r3 d3 e4 => kr v' H3 r3 d3 (((e1.trans e2).trans (hid_ex e3)).trans e4)
    · obtain ⟨δ1, hI, hs1, e2, d2⟩ := p
      exact kn δ1 σ' H' (hd n δ1 H' hI) d2 (e1.trans e2) hs1
theorem dm_run2 {t : TS} {D : Ends} {σ : L2.St} {H : Hp} (h : DM O J t δ N (fun _ _ => False)) (hJ : J H) (hD : Dom O H) (hS : SD (hid O H) δ σ) (kn : ∀ δ' σ' H', N δ' H' → Dom O H' → Ex (hid O H) (hid O H') → SD (hid O H') δ' σ' → D.nx σ' H') : t D σ H :=
  h σ H D hJ hD hS kn fun _ _ z => z.elim
theorem Pu.same {H H' : Hp} (h : Pu p c B H) (e : ∀ a, a ≠ l → H' a = H a) (n1 : l ≠ p) (n2 : l ≠ c) : Pu p c B H' := by
  obtain ⟨⟨ns, t, h1, h2, h3⟩, ne⟩ := h
  exact ⟨⟨ns, t, by rw [e p n1.symm]; exact h1, by rw [e c n2.symm]; exact h2, h3⟩, ne⟩
end
/-- slots told one by one -/
theorem sd_cons {H : Hp} {s : Sl} {o : Option V} {δ : List Sl} {σ : L2.St} (h : SlOk H s o) (k : SD H δ σ) : SD H (s :: δ) (o :: σ) := ⟨by simp [k.1], fun i => match i with
  | 0 => h
  | n + 1 => k.2 n⟩
theorem sd_nil {H : Hp} : SD H [] [] := ⟨rfl, fun _ => trivial⟩
/-- a new own list -/
theorem own_new {O : List Addr} {H : Hp} {l : Addr} (hD : Dom O H) (hl : H l = none) : Dom (l :: O) (upd H l (.lst [])) ∧ Ex (hid O H) (hid (l :: O) (upd H l (.lst []))) ∧ Own (l :: O) l [] (upd H l (.lst [])) ∧ l ∉ O := by
  have lO : l ∉ O := hD.fresh hl
  refine ⟨fun a ha => ?_, fun a o q => ?_, ⟨[], upd_same, rfl⟩, lO⟩
  · by_cases q : a = l
    · rw [q, upd_same]; simp
    · rw [upd_ne q]
      rcases List.mem_cons.mp ha with z | z
      · exact absurd z q
      · exact hD a z
  · obtain ⟨q1, q2⟩ := hid_some q
    have : a ≠ l := fun z => by rw [z, hl] at q2; cases q2
    rw [hid_out (by simp [this, q1]), upd_ne this]
    exact q2
/-- an own list is let go: it is data from now on -/
theorem own_data {O : List Addr} {H : Hp} {l : Addr} {ds : List PyData} (lO : l ∉ O) (h : Own (l :: O) l ds H) : Dt (hid O H) (.list ds) (.ref l) ∧ Ex (hid (l :: O) H) (hid O H) := by
  have e : Ex (hid (l :: O) H) (hid O H) := fun a o q => by
    obtain ⟨q1, q2⟩ := hid_some q
    rw [hid_out (fun z => q1 (by simp [z]))]
    exact q2
  obtain ⟨vs, h1, h2⟩ := h
  exact ⟨⟨l, vs, rfl, by rw [hid_out lO]; exact h1, h2.mono e⟩, e⟩
end Cp
/-! Cameposts: data of bounded size and depth, and draws among them -/
namespace Cp
open PySem L2 PySem.Spec PyProof.Rows
open Evl (Ex)
structure Bn (D W : Nat) (d : PyData) : Prop where
  lay : d.canLay0 = true
  sho : d.showable = true
  nod : d.hasDict = false
  lea : d.leavesShort 40 = true
  dep : d.depth ≤ D
  wei : d.weight ≤ W
theorem Bn.mono {D W D' W' : Nat} {d : PyData} (h : Bn D W d) (h1 : D ≤ D') (h2 : W ≤ W') : Bn D' W' d := ⟨h.lay, h.sho, h.nod, h.lea, Nat.le_trans h.dep h1, Nat.le_trans h.wei h2⟩
theorem Bn.sh {D W : Nat} {d : PyData} (h : Bn D W d) (h1 : D ≤ 60) : Sh d := ⟨h.lay, Nat.le_trans h.dep h1⟩
theorem Bn.shows {D W : Nat} {d : PyData} (h : Bn D W d) (h1 : D ≤ 60) (h2 : W ≤ 399000) : Shows d := by
  refine ⟨h.sho, h.nod, Nat.le_trans h.dep h1, ?_⟩
  have z := PyData.shown_le 40 (by decide) d h.lea
  have z2 : (40 + 2) * d.weight ≤ (40 + 2) * 399000 := Nat.mul_le_mul (Nat.le_refl _) (Nat.le_trans h.wei h2)
  have z3 : sizeLine = 16777216 := by decide
  omega
theorem bn_int {i : Int} (h : -1000000000000000000000000 ≤ i ∧ i ≤ 1000000000000000000000000) : Bn 0 84 (.int i) := by
  have h2 : i.natAbs < 2 ^ 84 := by
    have e : (2 : Nat) ^ 84 = 19342813113834066795298816 := by decide
    omega
  have h3 : i.natAbs.log2 < 84 := PySem.Flt.log2_lt_of (by decide) h2
  refine ⟨by simp [PyData.canLay0], ?_, by simp [PyData.hasDict], ?_, by simp [PyData.depth], ?_⟩
  · show decide (i.natAbs.log2 < 1920) = true
    exact decide_eq_true (by omega)
  · show decide ((PyData.shown (.int i)).length ≤ 40) = true
    have e := int_text_length_le10 (k := 25) (a := i) (by decide) (by
      have e : (10 : Nat) ^ 25 = 10000000000000000000000000 := by decide
      omega)
    refine decide_eq_true ?_
    show (Str.ofString (toString i)).length ≤ 40
    rw [PySem.ofString_length]
    omega
  · show (if i == 0 then 0 else i.natAbs.log2 + 1) ≤ 84
    split <;> omega
theorem bn_none : Bn 0 0 .none := ⟨by simp [PyData.canLay0], rfl, rfl, rfl, by simp [PyData.depth], by simp [PyData.weight]⟩
theorem bn_bool {b : Bool} : Bn 0 0 (.bool b) := ⟨by simp [PyData.canLay0], rfl, rfl, rfl, by simp [PyData.depth], by simp [PyData.weight]⟩
theorem bn_str {x : Str} {W : Nat} (h1 : (PyData.str x).canLay0 = true) (h2 : (PyData.str x).leavesShort 40 = true) (h3 : x.cps.size ≤ W) : Bn 0 W (.str x) := ⟨h1, rfl, rfl, h2, by simp [PyData.depth], h3⟩
def BnA (D W : Nat) (ds : List PyData) : Prop := ∀ d ∈ ds, Bn D W d
theorem bna_nil {D W : Nat} : BnA D W [] := fun d h => by cases h
theorem bna_cons {D W : Nat} {d : PyData} {ds : List PyData} {D0 W0 : Nat} (h : Bn D0 W0 d) (k : BnA D W ds) (h1 : D0 ≤ D := by decide) (h2 : W0 ≤ W := by decide) : BnA D W (d :: ds) := fun x hx => by
  rcases List.mem_cons.mp hx with rfl | hx
  · exact h.mono h1 h2
  · exact k x hx
theorem BnA.mono {D W D' W' : Nat} {ds : List PyData} (h : BnA D W ds) (h1 : D ≤ D') (h2 : W ≤ W') : BnA D' W' ds := fun x hx => (h x hx).mono h1 h2
theorem bna_app {D W : Nat} {ds es : List PyData} (h : BnA D W ds) (k : BnA D W es) : BnA D W (ds ++ es) := fun x hx => by
  rcases List.mem_append.mp hx with z | z
  · exact h x z
  · exact k x z
theorem bna_lay {D W : Nat} : ∀ {ds : List PyData}, BnA D W ds → PyData.canLayAll0 ds = true ∧ PyData.showableAll ds = true ∧ PyData.hasDictAll ds = false ∧ PyData.leavesShortAll 40 ds = true ∧ PyData.depthAll ds ≤ D ∧ PyData.weightAll ds ≤ ds.length * (W + 1)
  | [], _ => by simp [PyData.canLayAll0, PyData.showableAll, PyData.hasDictAll, PyData.leavesShortAll, PyData.depthAll, PyData.weightAll]
  | x :: ds, h => by
    have z := h x (by simp)
    obtain ⟨h1, h2, h3, h4, h5, h6⟩ := bna_lay (ds := ds) fun d hd => h d (by simp [hd])
    have z5 := z.dep
    have z6 := z.wei
    refine ⟨by simp [PyData.canLayAll0, z.lay, h1], by simp [PyData.showableAll, z.sho, h2], by simp [PyData.hasDictAll, z.nod, h3], by simp [PyData.leavesShortAll, z.lea, h4], ?_, ?_⟩
    · simp only [PyData.depthAll]; omega
    · simp only [PyData.weightAll, List.length_cons, Nat.add_mul]; omega
theorem bn_list {D W : Nat} {ds : List PyData} {n : Nat} (h : BnA D W ds) (hn : ds.length ≤ n) : Bn (D + 1) (n * (W + 1)) (.list ds) := by
  obtain ⟨h1, h2, h3, h4, h5, h6⟩ := bna_lay h
  refine ⟨by simpa [PyData.canLay0] using h1, by simpa [PyData.showable] using h2, by simpa [PyData.hasDict] using h3, by simpa [PyData.leavesShort] using h4, by simp only [PyData.depth]; omega, ?_⟩
  simp only [PyData.weight]
  exact Nat.le_trans h6 (Nat.mul_le_mul_right _ hn)
theorem bn_tuple {D W : Nat} {ds : List PyData} {n : Nat} (h : BnA D W ds) (hn : ds.length ≤ n) : Bn (D + 1) (n * (W + 1)) (.tuple ds) := by
  obtain ⟨h1, h2, h3, h4, h5, h6⟩ := bna_lay h
  refine ⟨by simpa [PyData.canLay0] using h1, by simpa [PyData.showable] using h2, by simpa [PyData.hasDict] using h3, by simpa [PyData.leavesShort] using h4, by simp only [PyData.depth]; omega, ?_⟩
  simp only [PyData.weight]
  exact Nat.le_trans h6 (Nat.mul_le_mul_right _ hn)
theorem cutD_mem {ds : List PyData} {lo hi : Option Int} {d : PyData} (h : d ∈ cutD ds lo hi) : d ∈ ds := List.mem_of_mem_drop (List.mem_of_mem_take h)
theorem cutD_len {ds : List PyData} {lo hi : Option Int} : (cutD ds lo hi).length ≤ ds.length := by
  unfold cutD
  rw [List.length_take, List.length_drop]
  omega
theorem bna_cut {D W : Nat} {ds : List PyData} {lo hi : Option Int} (h : BnA D W ds) : BnA D W (cutD ds lo hi) := fun d hd => h d (cutD_mem hd)
theorem bna_rep {D W : Nat} {ds : List PyData} {k : Nat} (h : BnA D W ds) : BnA D W (List.replicate k ds).flatten := fun d hd => by
  obtain ⟨l, hl, hm⟩ := List.mem_flatten.mp hd
  rw [List.eq_of_mem_replicate hl] at hm
  exact h d hm
theorem rep_len {ds : List PyData} {k : Nat} : (List.replicate k ds).flatten.length = k * ds.length := by simp
section
variable {O : List Addr} {J : Hp → Prop} {K : PySem.W.Frag} {δ : List Sl} {te ti ta tb : TE} {tt : TT} {t u : TS} {N : List Sl → Hp → Prop} {R : V → Hp → Prop} {l p c : Addr} {i j B : Nat} {ds : List PyData} {d x : PyData}
/-- if test: body, and the rest behind -/
theorem dm_branch {b : Bool} (jk : Jok O J) (h : TP O tt δ b) (h1 : DM O J t δ (fun _ _ => False) R) (h2 : DM O J u δ N R) : DM O J (tSeq (tIfS tt t tNext) u) δ N R :=
  dm_seq (N1 := fun δ' H => δ' = δ ∧ J H) (dm_ifD (td_of jk h) (fun _ => dm_imp h1 (fun _ _ z => z.elim) fun _ _ z => z) fun _ => dm_next fun H hJ => ⟨rfl, hJ⟩) fun δ1 => dm_fact fun e => e ▸ h2
theorem em_tup2 {Pa : PyData → Hp → Prop} {Pb : PyData → PyData → Hp → Prop} {P' : PyData → Hp → Prop} (ha : EM O J ta δ Pa) (hb : ∀ x, EM O (Pa x) tb δ (Pb x)) (k : ∀ x y H H', Pb x y H → Dom O H → Ex H H' → P' (.tuple [x, y]) H') :
    EM O J (tTup (tCons ta (tCons tb tNil))) δ P' := fun σ H hJ hD hS Q q =>
  ha σ H hJ hD hS _ fun x v H1 p1 d1 e1 hv => hb x σ H1 p1 d1 (hS.mono e1) _ fun y w H2 p2 d2 e2 hw => ⟨Evl.sz_of (n := 2) (by decide), fun a ha => q (.tuple [x, y]) (.ref a) _ (k x y H2 _ p2 d2 (Ex.new ha)) (d2.ex (Ex.new ha)) ((e1.trans e2).trans (hid_ex (Ex.new ha)))
    ⟨a, [v, w], rfl, by rw [hid_out (d2.fresh ha)]; exact upd_same, v, [w], rfl, Dt.mono (e2.trans (hid_ex (Ex.new ha))) _ _ hv, w, [], rfl, Dt.mono (hid_ex (Ex.new ha)) _ _ hw, rfl⟩⟩
theorem em_lst1 {Pa P' : PyData → Hp → Prop} (ha : EM O J ta δ Pa) (k : ∀ x H H', Pa x H → Dom O H → Ex H H' → P' (.list [x]) H') : EM O J (tLst (tCons ta tNil)) δ P' := fun σ H hJ hD hS Q q =>
  ha σ H hJ hD hS _ fun x v H1 p1 d1 e1 hv => ⟨Evl.sz_of (n := 1) (by decide), fun a ha => q (.list [x]) (.ref a) _ (k x H1 _ p1 d1 (Ex.new ha)) (d1.ex (Ex.new ha)) (e1.trans (hid_ex (Ex.new ha)))
    ⟨a, [v], rfl, by rw [hid_out (d1.fresh ha)]; exact upd_same, v, [], rfl, Dt.mono (hid_ex (Ex.new ha)) _ _ hv, rfl⟩⟩
/-- the first so many of a list, the number reckoned with draws -/
theorem em_slHi {P : PyData → Hp → Prop} {P' : PyData → Hp → Prop} (jk : Jok O J) (h : Cp.EP O te δ (.list ds)) (hi : EM O J ti δ P) (hP : ∀ x H, P x H → ∃ k, x = .int k) (k : ∀ x H H' o, P x H → Dom O H → Ex H H' → P' (.list (cutD ds none o)) H') :
    EM O J (tSl (rSlL K) te tNoPart (tPart ti)) δ P' := fun σ H hJ hD hS Q q =>
  h σ H hD hS _ fun v H1 e1 hv => hi σ H1 (jk.ex hD e1 hJ) (hD.ex e1) (hS.mono (hid_ex e1)) _ fun x w H2 p2 d2 e2 hw => by
    obtain ⟨m, rfl⟩ := hP x H2 p2
    obtain ⟨a, xs, rfl, q1, q2⟩ := hv
    refine ⟨m, hw, a, xs, rfl, SqL.of (hid_some (e2 _ _ q1)).2, fun z hz => ?_⟩
    have e3 := hid_ex (O := O) (Ex.new (o := .lst (cutV xs none (some m))) hz)
    refine q (.list (cutD ds none (some m))) _ _ (k _ H2 _ _ p2 d2 (Ex.new hz)) (d2.ex (Ex.new hz)) (((hid_ex e1).trans e2).trans e3) ⟨z, _, rfl, by rw [hid_out (d2.fresh hz)]; exact upd_same, ?_⟩
    unfold cutV cutD
    rw [q2.length]
    exact ((q2.mono (e2.trans (hid_ex (Ex.new hz)))).drop _).take _
/-- own[draw] = value -/
theorem dm_setOwn {P : PyData → PyData → Hp → Prop} {P1 : PyData → Hp → Prop} (he : EM O J te δ P1) (hs : δ.getD i .no = .at l) (hi : ∀ d, EM O (P1 d) ti δ (P d)) (hO : l ∈ O)
    (hown : ∀ d x H, P d x H → ∃ k : Int, x = .int k ∧ 0 ≤ k ∧ ∃ ds, k < ds.length ∧ Own O l ds H ∧ ∀ H', (∀ a, a ≠ l → H' a = H a) → Own O l (ds.set k.toNat d) H' → N δ H') : DM O J (tAsg te (gSub (tVar i) ti rSetL)) δ N R := fun σ H D hJ hD hS kn kr =>
  he σ H hJ hD hS _ fun d w H1 p1 d1 e1 hw => ⟨.ref l, (hS.mono e1).loc hs, hi d σ H1 p1 d1 (hS.mono e1) _ fun x w2 H2 p2 d2 ex2 hw2 => by
    obtain ⟨k, rfl, k0, ds, k1, ⟨vs, o1, o2⟩, kk⟩ := hown d x H2 p2
    cases hw2
    have hm : k.toNat < vs.length := by rw [o2.length]; omega
    have er : ((k.toNat : Nat) : Int) = k := by omega
    have hix : ixN vs.length k = some k.toNat := by rw [← er]; exact Evl.ixN_nat hm
    refine ⟨l, vs, k, k.toNat, rfl, rfl, o1, hix, ?_⟩
    have hh := hid_set (H := H2) (o := .lst (vs.set k.toNat w)) hO
    refine kn δ σ _ (kk _ (fun a ha => upd_ne ha) ⟨_, upd_same, by rw [hh]; exact o2.set (Dt.mono ex2 _ _ hw) _⟩) (dom_upd d2) (by rw [hh]; exact e1.trans ex2) (by rw [hh]; exact hS.mono (e1.trans ex2))⟩
end
/-- a new own list of data -/
theorem own_new2 {O : List Addr} {H : Hp} {l : Addr} {ds : List PyData} {vs : List V} (hD : Dom O H) (hl : H l = none) (hv : DtAll (hid O H) ds vs) : Dom (l :: O) (upd H l (.lst vs)) ∧ Ex (hid O H) (hid (l :: O) (upd H l (.lst vs))) ∧ Own (l :: O) l ds (upd H l (.lst vs)) ∧ l ∉ O := by
  have lO : l ∉ O := hD.fresh hl
  have e : Ex (hid O H) (hid (l :: O) (upd H l (.lst vs))) := fun a o q => by
    obtain ⟨q1, q2⟩ := hid_some q
    have : a ≠ l := fun z => by rw [z, hl] at q2; cases q2
    rw [hid_out (by simp [this, q1]), upd_ne this]
    exact q2
  refine ⟨fun a ha => ?_, e, ⟨vs, upd_same, hv.mono e⟩, lO⟩
  by_cases q : a = l
  · rw [q, upd_same]; simp
  · rw [upd_ne q]
    rcases List.mem_cons.mp ha with z | z
    · exact absurd z q
    · exact hD a z
theorem hid_less {O : List Addr} {l : Addr} {H : Hp} : Ex (hid (l :: O) H) (hid O H) := fun a o q => by
  obtain ⟨q1, q2⟩ := hid_some q
  rw [hid_out (fun z => q1 (by simp [z]))]
  exact q2
theorem bna_set {D W : Nat} {ds : List PyData} {d : PyData} {k : Nat} (h : BnA D W ds) (hd : Bn D W d) : BnA D W (ds.set k d) := fun x hx => by
  rcases List.mem_or_eq_of_mem_set hx with z | z
  · exact h x z
  · exact z ▸ hd
theorem ds_run {O : List Addr} {t : TS} {δ : List Sl} {N0 : List Sl → Prop} {D : Ends} {σ : L2.St} {H : Hp} {J : Hp → Prop} (h : DS O t δ N0 (fun _ => False)) (jk : Jok O J) (hJ : J H) (hD : Dom O H) (hS : SD (hid O H) δ σ)
    (k : ∀ δ' σ' H', N0 δ' → J H' → Dom O H' → Ex (hid O H) (hid O H') → SD (hid O H') δ' σ' → D.nx σ' H') : t D σ H :=
  h J jk σ H D hJ hD hS (fun δ' σ' H' n d e s => k δ' σ' H' n.1 n.2 d e s) fun v H' r _ _ => by
    obtain ⟨d, _, z, _⟩ := r
    exact z.elim
theorem em_and {O : List Addr} {J : Hp → Prop} {te : TE} {δ : List Sl} {f : Prop} {P : PyData → Hp → Prop} (h : EM O J te δ P) : EM O (fun H => f ∧ J H) te δ (fun d H => f ∧ P d H) := fun σ H hj hD hS Q k =>
  h σ H hj.2 hD hS Q fun d v H' q => k d v H' ⟨hj.1, q⟩
theorem bn_pair {x y : PyData} {D W : Nat} (hx : Bn D 84 x) (hy : Bn D W y) : Bn (D + 1) (W + 86) (.tuple [x, y]) := by
  obtain ⟨h1, h2, h3, h4, h5, h6⟩ := hx
  obtain ⟨g1, g2, g3, g4, g5, g6⟩ := hy
  refine ⟨by simp [PyData.canLay0, PyData.canLayAll0, h1, g1], by simp [PyData.showable, PyData.showableAll, h2, g2], by simp [PyData.hasDict, PyData.hasDictAll, h3, g3], by simp [PyData.leavesShort, PyData.leavesShortAll, h4, g4], ?_, ?_⟩
  · simp only [PyData.depth, PyData.depthAll]; omega
  · simp only [PyData.weight, PyData.weightAll]; omega
/-! ### a walk over a list of which but some facts are known -/
section
variable {O : List Addr} {J : Hp → Prop} {K : PySem.W.Frag} {δ : List Sl} {te : TE} {tb : TS} {N : List Sl → Hp → Prop} {R : V → Hp → Prop}
def WD (O : List Addr) (J : Hp → Prop) (wi : TI) (δ : List Sl) (P : List PyData → Hp → Prop) : Prop := ∀ σ H, J H → Dom O H → SD (hid O H) δ σ → ∀ R : It → Hp → Prop,
  (∀ ds Ji H1, P ds H1 → Dom O H1 → Ex (hid O H) (hid O H1) → Walk Ji ds.length (fun H' => Ex (hid O H1) H') (fun i H' v H'' => Ex H' H'' ∧ ∀ O', Ex (hid O H1) (hid O' H') → Dom O' H' → Dt (hid O' H'') (ds.getD i .none) v) → R Ji H1) → wi σ H R
theorem wd_list {P : List PyData → Hp → Prop} (h : EM O J te δ (fun d H => ∃ ds, d = .list ds ∧ P ds H)) : WD O J (iList K te) δ P := fun σ H hJ hD hS R k =>
  h σ H hJ hD hS _ fun d v H1 p d1 e1 hv => by
    obtain ⟨ds, rfl, p⟩ := p
    obtain ⟨a, xs, rfl, h1, h2⟩ := hv
    refine ⟨a, rfl, ⟨xs, SqL.of (hid_some h1).2⟩, k ds _ H1 p d1 e1 ?_⟩
    rw [← h2.length]
    refine walk_list.mono (fun H' g => SqL.of (g _ _ h1)) (fun i H' v H'' hi g y => ?_)
    obtain ⟨rfl, hy⟩ := y
    obtain ⟨d, q1, q2⟩ := h2.got hy
    exact ⟨Ex.refl _, fun O' eo _ => by
      show Dt _ (ds.getD i .none) v
      rw [List.getD_eq_getElem?_getD, q1]
      exact Dt.mono eo d v q2⟩
theorem dm_forD {wi : TI} {g : TG} {P : List PyData → Hp → Prop} {ix : List Nat} (hw : WD O J wi δ P) (Iv : List PyData → Nat → List Sl → Hp → Prop) (h0 : ∀ ds H, P ds H → Iv ds 0 δ H)
    (hs : ∀ ds i δ1 H1, i < ds.length → Iv ds i δ1 H1 → ∃ δ2 J1, GB O g (ds.getD i .none) δ1 δ2 ix ∧ J1 H1 ∧ Jok O J1 ∧ DM O J1 tb δ2 (Iv ds (i + 1)) R) (hd : ∀ ds δ1 H1, Iv ds ds.length δ1 H1 → N δ1 H1) : DM O J (tFor wi g tb) δ N R := fun σ H D hJ0 hD hS kn kr =>
  hw σ H hJ0 hD hS _ fun ds Ji H1 j1 dd1 e1 w => by
    refine for_it w (fun i σ' H' => ∃ δ1, Iv ds i δ1 H' ∧ SD (hid O H') δ1 σ' ∧ Ex (hid O H1) (hid O H') ∧ Dom O H') ⟨δ, h0 ds H1 j1, hS.mono e1, Ex.refl _, dd1⟩
      (fun i σ' H' _ p => by obtain ⟨δ1, _, _, e, dd⟩ := p; exact e.trans hid_le) (fun i v σ' H' H2 hi p y => ?_) fun σ' H' p => ?_
    · obtain ⟨δ1, hI, hs1, e2, d2⟩ := p
      obtain ⟨e3, hv⟩ := y
      obtain ⟨δ2, J1, hg, j1, jk, hb⟩ := hs ds i δ1 H' hi hI
      refine hg σ' H2 v (d2.ex e3) (hs1.mono (hid_ex e3)) (hv O e2 d2) _ fun σ2 s2 _ _ => ?_
      exact hb σ2 H2 _ (jk.ex d2 e3 j1) (d2.ex e3) s2 (fun δ3 σ3 H3 n3 d3 e4 s3 => ⟨δ3, n3, s3, (e2.trans (hid_ex e3)).trans e4, d3⟩) fun v' H3 r3 d3 e4 => kr v' H3 r3 d3 (((e1.trans e2).trans (hid_ex e3)).trans e4)
    · obtain ⟨δ1, hI, hs1, e2, d2⟩ := p
      exact kn δ1 σ' H' (hd ds δ1 H' hI) d2 (e1.trans e2) hs1
theorem am_and {ta : TA} {f : Prop} {P : List PyData → Hp → Prop} (h : AM O J ta δ P) : AM O (fun H => f ∧ J H) ta δ (fun d H => f ∧ P d H) := fun σ H hj hD hS Q k =>
  h σ H hj.2 hD hS Q fun d v H' q => k d v H' ⟨hj.1, q⟩
/-- a pure statement among others -/
theorem ds_dm {t : TS} {N0 : List Sl → Prop} (h : DS O t δ N0 (fun _ => False)) (jk : Jok O J) (k : ∀ δ' H, N0 δ' → J H → N δ' H) : DM O J t δ N R :=
  dm_imp (h J jk) (fun δ' H z => k δ' H z.1 z.2) fun v H ⟨d, _, z, _⟩ => z.elim
/-- a test that doesn't come true -/
theorem ds_pass {tt : TT} {t : TS} {N0 : List Sl → Prop} {R0 : PyData → Prop} (h : Cp.TP O tt δ false) (k : N0 δ) : DS O (tIfS tt t tNext) δ N0 R0 := ds_if h (fun z => by cases z) fun _ => ds_next k
end
theorem sh_refl {d : PyData} (h : Sh d) : PyData.eqv d d = true := SeqAt.eqv_refl d h.1
theorem sh_ne {O : List Addr} {K : PySem.W.Frag} {d : PyData} (h : Sh d) : RP O (rNeD K) d d (.bool false) := by
  have z := rp_neD (O := O) (K := K) h.shaped h.shaped
  rwa [sh_refl h] at z
end Cp
/-! Cameposts, refusals: made of nothing, and made of their value by its name -/
namespace Cp
open PySem PySem.W PySem.Calls PyProof.Rows L2
section
variable {prog : Program} {w : World} {A : Around} {E : Value → Shared → Prop} {R : Result → Shared → Prop} {h : Heap} {g : Array GenState} {d : Drawn} {t : Nat} {os : OsState}
variable {nm q : Str} {C N : Addr} {bs bm bmB : List Value} {hdct : Bool} {sn : List Str} {sub : List Value} {ab : Bool} {col : Option Bool} {dd : Option Addr} {k0 k1 k2 k3 k5 : Option Value} {B newId initId : String} {kn : Str} {kv : Value}
theorem kw_check (F : ExcBaseFacts B newId initId bmB) (hT : ∀ X : String, bm.contains (.type X) = bmB.contains (.type X)) {M : Model} {Q : Unit → Shared → Prop}
    (hC : h.get? C = some (excClassObj nm q C N bs bm hdct sn sub ab col dd k0 k1 k2 k3 k5 newId)) (hq : Q () ⟨h, g, d, t, os⟩) : wpAny M A (checkBuiltinCall newId ⟨[.ref C], [(kn, kv)]⟩) Q E ⟨h, g, d, t, os⟩ := by
  have c1 : (Value.ref C :: bm).contains (.type B) = true := by
    rw [List.contains_cons, hT, F.hasB]
    rfl
  have c2 := F.noStar
  simp only [checkBuiltinCall, F.newKind, F.newSplit, F.newRow]
  repeat (first
    | refine wpAny_loadPart_at hC ?_
    | (refine wpAny_isSubtype_exc hC ?_; rw [c1])
    | refine wpAny_staticBase_exc hC ?_
    | refine wpAny_madeBy_exc hC ?_
    | simp only [bne_self_eq_false, Bool.false_eq_true, if_false]
    | wp_step)
  exact hq
theorem kw_new (F : ExcBaseFacts B newId initId bmB) (hT : ∀ X : String, bm.contains (.type X) = bmB.contains (.type X))
    (hC : h.get? C = some (excClassObj nm q C N bs bm hdct sn sub ab col dd k0 k1 k2 k3 k5 newId))
    (hq : R (.ok (.ret (.ref (h.objs.size + 1)))) ⟨(h.push (kdv_tup [])).push (HandSPX.excO C h.objs.size), g, d, t, os⟩) :
    codeAny (model prog w) A (.builtin newId ⟨[.ref C], [(kn, kv)]⟩) R ⟨h, g, d, t, os⟩ := by
  have e0 := F.ends
  have has : ∀ {T : String} {b : Bool}, bmB.contains (.type T) = b → (Value.ref C :: bm).contains (.type T) = b := fun {T b} z => by
    rw [List.contains_cons, hT, z]
    rfl
  have c1 := has F.hasB
  have c2 := has F.noAttr
  have c3 := has F.noName
  refine codeAny_builtinAt F.entry ?_
  unfold Builtin.«BaseException.__new__»
  refine PySem.wpAt_bind ?_
  show PySem.wpAt _ _ _ (stack >>= _) _ _ _
  refine PySem.wpAt_bind (PySem.wpAt_stack fun p below => PySem.wpAt_of_wpAny ?_)
  wp_walk
  refine PySem.wpAt_of_wpAny ?_
  rw [F.owner]
  repeat (first
    | with_reducible refine wpAny_madeHere_exc F.canon hC ?_
    | with_reducible refine wpAny_loadPart_at hC ?_
    | (with_reducible refine wpAny_isSubtype_exc hC ?_; first | rw [c1] | rw [c2] | rw [c3])
    | wp_step)
  show R _ _
  rw [Heap.size_push]
  exact hq
theorem kw_type (F : ExcBaseFacts B newId initId bmB) (hT : ∀ X : String, bm.contains (.type X) = bmB.contains (.type X)) {fI : Addr} {Q : Fin → Shared → Prop}
    (hC : h.get? C = some (excClassObj nm q C N bs bm hdct sn sub ab col dd k0 k1 k2 k3 k5 newId))
    (hi : Looks (model prog w) h (typeLookup (.ref C) "__init__") (some (.ref fI))) (hb : ∀ x, Looks (model prog w) h (bindSpecial (.ref fI) x) (.ref fI, [x]))
    (hq : codeAny (model prog w) A (.call (.ref fI) ⟨[.ref (h.objs.size + 1)], [(kn, kv)]⟩)
      (fun r z => match r with | .ok (.ret v) => v = .none ∧ Q (.done (.ret (.ref (h.objs.size + 1)))) z | .ok _ => False | .error e => E e z)
      ⟨(h.push (kdv_tup [])).push (HandSPX.excO C h.objs.size), g, d, t, os⟩) :
    wpAny (model prog w) A (Builtin.«type.__call__» ⟨[.ref C], [(kn, kv)]⟩) Q E ⟨h, g, d, t, os⟩ := by
  repeat (first
    | with_reducible refine wpAny_loadPart_at hC ?_
    | with_reducible refine wpAny_madeBy_exc hC ?_
    | wp_step)
  refine codeAny_call_builtin_code (Code.quiet_builtin _ F.quiet) (kw_check F hT hC ?_)
  refine kw_new F hT hC ?_
  show wpAny _ _ _ _ _ _
  have up : ∀ b o, h.get? b = some o → ((h.push (kdv_tup [])).push (HandSPX.excO C h.objs.size)).get? b = some o := fun b o e =>
    Heap.get?_push_of_some _ (Heap.get?_push_of_some _ e)
  have at2 : ((h.push (kdv_tup [])).push (HandSPX.excO C h.objs.size)).get? (h.objs.size + 1) = some (HandSPX.excO C h.objs.size) := by heap_get
  have cC : (Value.ref C :: bm).contains (.ref C) = true := by simp
  have C2 := up _ _ hC
  unfold isInstance
  repeat (first
    | with_reducible refine wpAny_loadPart_at at2 ?_
    | (with_reducible refine wpAny_isSubtype_exc C2 ?_; rw [cC])
    | wp_step)
  show wpAny _ _ (typeLookup (.ref C) _) _ _ _
  refine (hi.keeps up).at ?_
  refine wpAny_holding (wpAny_bind (((hb (.ref (h.objs.size + 1))).keeps up).at ?_))
  refine wpAny_bind (wpAny_call (codeAny_mono hq fun r z hz => ?_))
  match r, hz with
  | .ok (.ret v), hz =>
    obtain ⟨rfl, hz⟩ := hz
    first
      | exact wpAny_pure (wpAny_pure hz)
      | (wp_walk; exact hz)
  | .ok .next, hz => exact hz.elim
  | .ok .brk, hz => exact hz.elim
  | .ok .cont, hz => exact hz.elim
  | .error e, hz => exact hz
theorem kw_tcheck {M : Model} {Q : Unit → Shared → Prop} (hC : h.get? C = some (excClassObj nm q C N bs bm hdct sn sub ab col dd k0 k1 k2 k3 k5 newId)) (hq : Q () ⟨h, g, d, t, os⟩) :
    wpAny M A (checkBuiltinCall "type.__call__" ⟨[.ref C], [(kn, kv)]⟩) Q E ⟨h, g, d, t, os⟩ := by
  have f3 := tc_sub
  have ty : (⟨h, g, d, t, os⟩ : Shared).TypeIs (.ref C) "type" := ⟨_, hC, rfl⟩
  simp only [checkBuiltinCall, tc_kind, tc_split]
  repeat (any_goals (first
    | assumption
    | with_reducible refine wpAny_loadPart_at hC ?_
    | with_reducible refine wpAny_onRaise ?_
    | with_reducible refine wpAny_map ?_
    | wp_step))
theorem kw_call (F : ExcBaseFacts B newId initId bmB) (hT : ∀ X : String, bm.contains (.type X) = bmB.contains (.type X)) {fI : Addr}
    (hC : h.get? C = some (excClassObj nm q C N bs bm hdct sn sub ab col dd k0 k1 k2 k3 k5 newId))
    (hi : Looks (model prog w) h (typeLookup (.ref C) "__init__") (some (.ref fI))) (hb : ∀ x, Looks (model prog w) h (bindSpecial (.ref fI) x) (.ref fI, [x]))
    (hq : codeAny (model prog w) (A.under (.builtin "type.__call__" ⟨[.ref C], [(kn, kv)]⟩)) (.call (.ref fI) ⟨[.ref (h.objs.size + 1)], [(kn, kv)]⟩) (InitBack (h.objs.size + 1) R)
      ⟨(h.push (kdv_tup [])).push (HandSPX.excO C h.objs.size), g, d, t, os⟩) :
    codeAny (model prog w) A (.call (.ref C) ⟨[], [(kn, kv)]⟩) R ⟨h, g, d, t, os⟩ := by
  have f1 := tc_lookup
  have f2 := tc_bind (.ref C)
  have ty : (⟨h, g, d, t, os⟩ : Shared).TypeIs (.ref C) "type" := ⟨_, hC, rfl⟩
  refine codeAny_of_tree ?_
  show wpAny _ _ (callAny (.ref C) _) _ _ _
  repeat (any_goals (first
    | assumption
    | with_reducible refine wpAny_loadPart_at hC ?_
    | wp_step))
  refine ⟨rfl, ?_⟩
  refine codeAny_call_builtin_at (Code.quiet_builtin _ (by decide +kernel)) entry_typeCall (kw_tcheck hC (kw_type F hT hC hi hb ?_))
  refine codeAny_mono hq fun r z hz => ?_
  match r, hz with
  | .ok (.ret v), hz => exact hz
  | .ok .next, hz => exact hz
  | .ok .brk, hz => exact hz
  | .ok .cont, hz => exact hz
  | .error e, hz => exact hz
end
end Cp
/-! Cameposts, refusals: raise X(), raise X(wrong=value) -/
namespace Cp
open PySem PySem.W PySem.Calls PyProof.Rows L2
theorem sup_kwbind {P : Program} {K : Frag} {C fI cc cda : Addr} {qual txt : Str} {z : SupP} {fd : FuncData} (T : SupC P K C fI cc cda qual txt z fd) (s : Shared) (x v : Value) :
    BindsTo s fd ⟨[x], [("wrong", v)]⟩ [("self", x), ("wrong", v)] := by
  obtain ⟨oc, od, kV, doc, pm, an, ct, osl, rfl, lk⟩ := T.fn
  exact .of_eq rfl
section
variable {X : Cx} {C : Addr} {x : Str} {p pos kpos : Pos}
/-- X(wrong=e) -/
theorem pmk_supK {fI cc cda : Addr} {qual txt : Str} {z : SupP} {fd : FuncData} {e : Expr} {te : TE} (T : SupC X.prog X.K C fI cc cda qual txt z fd) (mS : X.mg "super" = none) (hr : Room 2 X.A) (hg : Gl X x) (hm : X.mg x = some (.ref C)) (he : PE X e te)
    (hdb : (x == ("__debug__" : Str)) = false := by decide) (hall : (backToKw pos (keywordEach [⟨some "wrong", e, kpos⟩] X.env)).all (·.1.isSome) = true := by rfl)
    (hks : (backToKw pos (keywordEach [⟨some "wrong", e, kpos⟩] X.env)).filterMap (·.1) = ([("wrong" : Str)] : List Str) := by rfl)
    (hpl : ((backTo pos (starEach [] X.env)).any (·.1) || (backToKw pos (keywordEach [⟨some "wrong", e, kpos⟩] X.env)).any (·.1.isNone)) = false := by rfl) :
    PMk X (.Call (.Name x p) [] [⟨some "wrong", e, kpos⟩] pos) (tMkO C (spSup C) [] (tCons te tNil)) := by
  intro pins s σ H Q I h
  obtain ⟨nm, q, N, bs, bm, sn, sub, ab, col, dd, k0, k1, k2, k3, k5, hC, hbm⟩ := T.oex.cls
  refine wpAny_Call_Name_kw (ld_glob I hg hm ?_ hdb)
  refine callWith_KW0 (h₀ := X.base) I.ok.mod.kin T.oex.kC hall (thn ((pk_cons (nm := some "wrong") (kpos := kpos) he pk_nil).run pos pins s σ H _ I h) fun us s1 ⟨vs, H1, I1, r1, _, q1⟩ => ⟨I1.kIn, ?_⟩) hpl
  rw [hks]
  have F1 : FnOk X.prog X.w X.K X.mg X.base CX0 1 fI fd ["self", "wrong"] (spSup C) := sup_ok T mS CX0 0
  have one : vs.length = 1 := by
    have e := F1.len _ _ _ _ (q1 s1.heap.objs.size (I1.hok.fresh (Nat.le_refl _)))
    simpa using e
  obtain ⟨v, rfl⟩ := List.length_eq_one_iff.mp one
  cases r1 with
  | cons rv rn =>
    cases rn
    rename_i v' hx
    show wpAny _ _ (call (.ref C) [] [("wrong", v')]) _ _ _
    obtain ⟨hp, g, dr, tk, os⟩ := s1
    have sz : hp.objs.size ≤ hp.objs.size + 1 := Nat.le_succ _
    have new : H1 (hp.objs.size + 1) = none := I1.hok.fresh sz
    have hq := q1 (hp.objs.size + 1) new
    have up : ∀ b o, hp.get? b = some o → ((hp.push (kdv_tup [])).push (HandSPX.excO C hp.objs.size)).get? b = some o := fun b o e => Heap.get?_push_of_some _ (Heap.get?_push_of_some _ e)
    have at2 : ((hp.push (kdv_tup [])).push (HandSPX.excO C hp.objs.size)).get? (hp.objs.size + 1) = some (HandSPX.excO C hp.objs.size) := by heap_get
    have I2 : Inv X pins σ (upd H1 (hp.objs.size + 1) (exo (hp.objs.size + 1) C none)) ⟨(hp.push (kdv_tup [])).push (HandSPX.excO C hp.objs.size), g, dr, tk, os⟩ :=
      I1.laid (t' := tk) (a := hp.objs.size + 1) (o := exo (hp.objs.size + 1) C none) up sz (exo_ok at2)
    have r2 : Vals (V.ref (hp.objs.size + 1) :: ([v] ++ [])) [Value.ref (hp.objs.size + 1), v'] := .cons (show L2.RelV (V.ref (hp.objs.size + 1)) (Value.ref (hp.objs.size + 1)) from rfl) (.cons rv .nil)
    refine wpAny_call (kw_call F.excBase_ValueError (fun Y => HandSPX.refsVE_contains Y bm hbm) (I1.kIn _ _ hC) (looks_findIn I1.kIn T.iC) (fun self => bind_fn I1.kIn self T.tI) ?_)
    refine codeAny_mono (F1.run _ X.stack _ _ ⟨[Value.ref (hp.objs.size + 1)], [("wrong", v')]⟩ [Value.ref (hp.objs.size + 1), v'] _ _ (fun _ _ _ => False) (hr.make C [] [("wrong", v')]) (I2.env0.make C [] [("wrong", v')]) (sup_kwbind T _ _ _) r2 hq) fun r z hz => ?_
    cases r with
    | error er => exact hz.elim
    | ok fl =>
      cases fl with
      | ret u =>
        obtain ⟨w', H2, os2, bare2, un2, hok2, ru, eu, d, fs, ea, ed, hd1, q2⟩ := hz
        subst eu
        obtain ⟨h2, g2, d2, t2, os'⟩ := z
        exact ⟨ru, mk_end (raises_own T.oex.exC T.oex.tyC) I1 sz up un2 hok2 os2 bare2 ea ed hd1 q2⟩
      | next => exact hz.elim
      | brk => exact hz.elim
      | cont => exact hz.elim
/-- X() -/
theorem pmk_own0 {bmB : List Value} {B newId initId : String} (F : ExcBaseFacts B newId initId bmB) (q : excIn X.K C bmB newId = true) (gC : X.mg x = some (.ref C)) (kC : keepIn X.K (.ref C) = true) (r : L2.Raises X (.ref C)) (hg : Gl X x) (hdb : (x == ("__debug__" : Str)) = false := by decide) :
    PMk X (.Call (.Name x p) [] [] pos) (fun _ H Q => Q (.ref C) none H) := by
  intro pins s σ H Q I h
  refine wpAny_Call_Name_kw (ld_glob I hg gC ?_ hdb)
  refine callWith_K0 I.kIn kC ?_
  show wpAny _ _ (call (.ref C) []) _ _ _
  obtain ⟨bm, N, nm, qn, bs, hdct, sn, sub, ab, col, dd, k0, k1, k2, k3, k5, mN, hC, hN, hni, T⟩ := exc_obj I.kIn q
  refine wpAny_call_exc_subT F T hC hN hni (fun h' e hm => ?_) (by decide)
  exact mk_of I hm r h (I.hok.gone hm.new)
end
end Cp
/-! Cameposts: some text of data -/
namespace Cp
open PySem PySem.W PySem.Calls PyProof.Rows L2
/-- str(v) is some text -/
def rSomeStr (K : PySem.W.Frag) : List V → Hp → VK → Prop := fun xs H Q => ∃ v d, xs = [v] ∧ Dp K H v d ∧ Shows d ∧ ∀ t, Q (.str t) H
theorem call_someStr {X : Cx} (hg : X.A.guards = some []) (hu : X.A.units + 200 < cLine) : CallR X (.type "str") (rSomeStr X.K) := by
  intro pins s σ H xs us Q I r h
  obtain ⟨v, d, rfl, hd, ⟨h1, h2, h3, h4⟩, q⟩ := h
  obtain ⟨u, rfl, rv⟩ := vals1 r
  have fin : ∀ (y : Str) (h' : Heap) (uu : Tok) (tk : Nat), (∀ b o, s.heap.get? b = some o → h'.get? b = some o) → L2.EP X pins σ Q (.str y uu) { s with heap := h', toks := tk } := fun y h' uu tk k =>
    ⟨.str y, H, I.kept k, ⟨uu, rfl⟩, q y⟩
  obtain ⟨as, rd⟩ := Dp.reads I d v u hd rv
  cases d with
  | none =>
    cases hd
    cases rv
    exact PySem.P.str_of_none (fin _ _ _ _ fun _ _ e => e)
  | bool b =>
    cases hd
    cases rv
    refine PySem.P.str_of_bool ?_
    cases b
    · exact fin _ _ _ _ fun _ _ e => e
    · exact fin _ _ _ _ fun _ _ e => e
  | int i =>
    cases hd
    obtain ⟨t, rfl⟩ := rv
    have hz : i.natAbs.log2 < 1920 := by
      have z := h1
      simp only [PyData.showable] at z
      exact of_decide_eq_true z
    exact PySem.P.str_of_int hz (fin _ _ _ _ fun _ _ e => e)
  | str y =>
    cases hd
    obtain ⟨t, rfl⟩ := rv
    exact PySem.P.str_of_str (fin _ _ _ _ fun _ _ e => e)
  | list ds =>
    cases hd with
    | lst hs ha =>
      obtain rfl : u = Value.ref _ := rv
      exact PySem.str_of_reads rd h1 (fun z => by rw [h2] at z; cases z) hg (by omega) (fun _ _ e => e) (fun h' uu tk k => fin _ h' uu tk k) h4
  | tuple ds =>
    cases hd with
    | tup hs ha =>
      obtain rfl : u = Value.ref _ := rv
      exact PySem.str_of_reads rd h1 (fun z => by rw [h2] at z; cases z) hg (by omega) (fun _ _ e => e) (fun h' uu tk k => fin _ h' uu tk k) h4
  | dict kvs => cases hd
theorem kx_str {X : Cx} {K : PySem.W.Frag} (h : X.K = K) (hg : X.A.guards = some []) (hu : X.A.units + 200 < cLine) : CallR X (.type "str") (rSomeStr K) := h ▸ call_someStr hg hu
end Cp
/-! Cameposts: a law's end where its promise wants to know that nothing is being shown -/
namespace Cp
open PySem L2 PySem.Spec PyProof.Rows
/-- the script at a, tracked but where the text itself holds it -/
def scr (a : Addr) (o : Obj) (xs : List V) (own : Bool) : Hp := fun b => if b = a ∧ own = false then some (.frz o (.lst xs)) else none
theorem scr_two (a : Addr) (o : Obj) (xs : List V) (own : Bool) (b : Addr) : scr a o xs own b = none ∨ (b = a ∧ own = false ∧ scr a o xs own b = some (.frz o (.lst xs))) := by
  unfold scr
  by_cases h : b = a ∧ own = false
  · rw [if_pos h]
    exact .inr ⟨h.1, h.2, rfl⟩
  · rw [if_neg h]
    exact .inl rfl
section
variable {P : Program} {w : World} {K : PySem.W.Frag} {mg mb : Str → Option Value} {k : Nat} {fa a : Addr} {fd : FuncData} {x : Str} {sp : Sp} {t : Shared} {us : List Value} {ns : List Int}
theorem gcall (kin : K.In t.heap) (gm : t.heap.Ns mainGlobals mg) (gb : t.heap.Ns builtinsNs mb) (bt : ∀ y : Str, y ≠ "__name__" → mb y = bootBuiltins y) (nl : t.heap.NoLimit) (ge : t.gens = #[])
    (sa : t.heap.get? a = some { cls := .type "list", data := .seq us.toArray }) (ia : IntsAre us ns) (sz : ns.length ≤ sizeLine) (rm : Room k callerA)
    (G : ∀ b : Heap, K.In b → b.Ns mainGlobals mg → GOk P w K mg b CX0 k fa fd [x] sp) (bd : ∀ (s : Shared) (u : Value), BindsTo s fd ⟨[u], []⟩ [(x, u)])
    (yes : ∀ M : Hp, SqL K M a (ns.map V.int) → sp [.ref a] M (fun v _ => v = .bl true) fun _ _ _ => False) :
    codeAny (model P w) callerA (.call (.ref fa) ⟨[.ref a], []⟩) (fun r z => r = .ok (.ret (.bool true)) ∧ OldK t.heap z.heap ∧ z.os = t.os ∧ AllBare z.gens) t := by
  have two := scr_two a { cls := .type "list", data := .seq us.toArray } (ns.map V.int) (K.lookup a).isSome
  have sq : SqL K (scr a { cls := .type "list", data := .seq us.toArray } (ns.map V.int) (K.lookup a).isSome) a (ns.map V.int) := by
    cases e : K.lookup a with
    | none => exact .inl (.inr ⟨_, if_pos ⟨rfl, rfl⟩⟩)
    | some o =>
      have z := (kin a o e).symm.trans sa
      cases z
      exact .inr ⟨_, us.toArray, _, e, rfl, rfl, rfl, by rw [List.size_toArray, ia.length]; exact sz, by simpa using vals_ints ia⟩
  have held : HOk P w (scr a { cls := .type "list", data := .seq us.toArray } (ns.map V.int) (K.lookup a).isSome) t.heap := fun b u hu => by
    rcases two b with z | ⟨e, _, z⟩
    · rw [z] at hu
      cases hu
    · rw [z] at hu
      cases hu
      subst e
      exact ⟨sa, by rw [List.length_map]; exact sz, us, _, vals_ints ia, sa⟩
  have free : ∀ b, K.lookup b ≠ none → scr a { cls := .type "list", data := .seq us.toArray } (ns.map V.int) (K.lookup a).isSome b = none := fun b hb => by
    rcases two b with z | ⟨e, q, _⟩
    · exact z
    · subst e
      rw [Option.isSome_eq_false_iff, Option.isNone_iff_eq_none] at q
      exact absurd q hb
  have dicts : ∀ {b : Addr} {m : Str → Option Value}, t.heap.Ns b m → (hidT t.heap (scr a { cls := .type "list", data := .seq us.toArray } (ns.map V.int) (K.lookup a).isSome)).Ns b m := fun {b m} h => by
    obtain ⟨o, es, ep, e, d, r⟩ := h
    refine ⟨o, es, ep, hidT_get e ?_, d, r⟩
    rcases two b with z | ⟨q, _, _⟩
    · exact z
    · subst q
      have z := e.symm.trans sa
      cases z
      cases d
  generalize scr a { cls := .type "list", data := .seq us.toArray } (ns.map V.int) (K.lookup a).isSome = M at two sq held free dicts
  have kin' : K.In (hidT t.heap M) := fun b o e => hidT_get (kin b o e) (free b (by rw [e]; simp))
  have ev : Env0 P w K mg (hidT t.heap M) callerA [] t M := by
    refine ⟨rfl, ⟨kin', dicts gm, ⟨mb, dicts gb, bt⟩, ?_⟩, fun b o e => of_hidT e, Nat.le_of_eq (hidT_size _ _), trivial, fun b hb => ?_, held, .of_eq ge⟩
    · obtain ⟨mc, n1, n2⟩ := nl
      exact ⟨mc, dicts n1, n2⟩
    · cases hb
  refine codeAny_mono ((G _ kin' (dicts gm)).2 callerA [] t M ⟨[.ref a], []⟩ [.ref a] [.ref a] _ _ rfl rm ev (bd t _) (.cons rfl .nil) (yes M sq)) fun r z hr => ?_
  match r, hr with
  | .ok (.ret u), hr =>
    obtain ⟨v, M', q1, q2, q3, q4, q5, q6⟩ := hr
    have q6 : v = .bl true := q6
    subst q6
    have q5 : u = Value.bool true := q5
    refine ⟨by rw [q5], OldK.of_keep fun b o e => ?_, q1, q2⟩
    rcases two b with n | ⟨_, _, n⟩
    · exact q3.keep b o e n (fun m => by cases m) (by simp)
    · have f := q3.frzs b _ _ n
      have c1 := (held b _ n).1
      have c2 := (q4 b _ f).1
      rw [c1] at e
      cases e
      exact c2
  | .ok .next, hr => exact hr.elim
  | .ok .brk, hr => exact hr.elim
  | .ok .cont, hr => exact hr.elim
  | .error e, hr => exact hr.elim
end
/-- what a law's head leaves, from its promise -/
theorem gwalk {l : PySem.W.OpenLaw} {n k : Nat} {q : Program} {lo : List Str} {XP : (Str → Option Value) → Heap → Prop} {YP : World → Heap → Prop} {d : DefRec} {K : Params → PySem.W.Frag} {sp : World → Sp} {x : Str}
    (h1 : l.most = some n) (h2 : n ≤ sizeLine) (h3 : d.params.defaults = []) (rm : Room k callerA) (hY : ∀ (w : World) (h : Heap), YP w h → (K w.params).In h)
    (F : ∀ (w : World) (mg : Str → Option Value) (f : Addr) (h : Heap), (K w.params).In h → h.Ns mainGlobals mg → mg d.name = some (.ref f) →
      ∃ fd : FuncData, (∀ (s : Shared) (u : Value), BindsTo s fd ⟨[u], []⟩ [(x, u)]) ∧ ∀ b : Heap, (K w.params).In b → b.Ns mainGlobals mg → GOk l.prog w (K w.params) mg b CX0 k f fd [x] (sp w))
    (yes : ∀ (w : World) (M : Hp) (a : Addr) (ns : List Int), ns.length ≤ n → SqL (K w.params) M a (ns.map V.int) → sp w [.ref a] M (fun v _ => v = .bl true) fun _ _ _ => False) :
    PySem.W.WalkO q lo XP YP l.row.toRowW d [] (fun f vs => PySem.call f vs) := by
  refine Att.attach_call h1 h3 fun w s0 t mg mb f o pm cd doc a us ns G Y ho hd hcd hm ha hi hl hg => ?_
  obtain ⟨fd, b, hF⟩ := F w mg f _ (hY w _ Y) G.T.g hm
  exact gcall (hY w _ Y) G.T.g G.T.b G.T.builtins G.T.nolimit hg ha hi (Nat.le_trans hl h2) rm hF b fun M hS => yes w M a ns hl hS
/-! ### what a fragment holds of the classes -/
section
variable {K : PySem.W.Frag} {a c : Addr} {T : String} {b : Bool}
theorem kit_same : PySem.W.kitOne K (.ref a) (.ref a) = some true := by
  unfold PySem.W.kitOne
  simp
theorem kit_type (h : PySem.W.subIn K (.ref a) (.type T) = some b) (m : PySem.W.kitMeta T = true) : PySem.W.kitOne K (.ref a) (.type T) = some b := by
  unfold PySem.W.kitOne PySem.W.kitCls
  have z : ((Value.ref a) == (Value.type T)) = false := rfl
  simp only [z, m]
  exact h
theorem kit_own (h : PySem.W.subIn K (.ref a) (.ref c) = some b) (i : PySem.W.isClsIn K c = true) (t : PySem.W.typeIn K (.ref c) = some (.type "type")) (n : a ≠ c) : PySem.W.kitOne K (.ref a) (.ref c) = some b := by
  have z : ((Value.ref a) == (Value.ref c)) = false := by
    refine Bool.eq_false_iff.mpr fun q => n ?_
    have q := eq_of_beq q
    cases q
    rfl
  have y : ((PySem.W.clsIn K c).isSome && PySem.W.typeIn K (.ref c) == some (.type "type")) = true := by
    have i : (PySem.W.clsIn K c).isSome = true := i
    rw [i, t]
    rfl
  unfold PySem.W.kitOne PySem.W.kitCls
  simp only [z, y]
  exact h
theorem exm_own (e : PySem.W.subIn K (.ref c) (.type "BaseException") = some true) (i : PySem.W.isClsIn K c = true) (t : PySem.W.typeIn K (.ref c) = some (.type "type")) (h : PySem.W.subIn K (.ref a) (.ref c) = some b) :
    PySem.W.exmOne K (.ref a) (.ref c) = some b := by
  have y : ((PySem.W.clsIn K c).isSome && PySem.W.typeIn K (.ref c) == some (.type "type")) = true := by
    have i : (PySem.W.clsIn K c).isSome = true := i
    rw [i, t]
    rfl
  have x : (PySem.W.subIn K (.ref c) (.type "BaseException") == some true) = true := by
    rw [e]
    rfl
  unfold PySem.W.exmOne PySem.W.kitCls
  simp only [x, y]
  exact h
end
end Cp
namespace K75
open PySem L2 PySem.Spec PyProof.Rows Cp
open Evl (Ex)
abbrev prg : Program := PySem.Challenge.pw_cameposts_k75_refusals_made
def topS (i : Nat) : Stmt := prg.main.body.getD i (.Pass ⟨0, 0, 0, 0⟩)
/-- where the text's own things stand -/
structure Ad where
  a_law_purse : Addr
  a_law_draw : Addr
  a_law_thing : Addr
  a_law_marks : Addr
  a_law_bare : Addr
  a_law_texted : Addr
  a_law_valued : Addr
  a_law_caught : Addr
  a_law : Addr
  PostError : Addr
  NoChoice : Addr
  NoEnd : Addr
  NoGoers : Addr
  NoName : Addr
  NoNumber : Addr
  NoPair : Addr
  NoPlace : Addr
  NoWishes : Addr
  NoRow : Addr
  NoStanding : Addr
  NoTown : Addr
  i_NoRow : Addr
  cc_NoRow : Addr
  cda_NoRow : Addr
  fd_NoRow : FuncData
  i_NoStanding : Addr
  cc_NoStanding : Addr
  cda_NoStanding : Addr
  fd_NoStanding : FuncData
  i_NoTown : Addr
  cc_NoTown : Addr
  cda_NoTown : Addr
  fd_NoTown : FuncData
/-- what the module's names hold -/
structure Txt (K : PySem.W.Frag) (mg : Str → Option Value) (A : Ad) : Prop where
  g_law_purse : mg "_law_purse" = some (.ref A.a_law_purse)
  k_law_purse : PySem.W.keepIn K (.ref A.a_law_purse) = true
  g_law_draw : mg "_law_draw" = some (.ref A.a_law_draw)
  k_law_draw : PySem.W.keepIn K (.ref A.a_law_draw) = true
  g_law_thing : mg "_law_thing" = some (.ref A.a_law_thing)
  k_law_thing : PySem.W.keepIn K (.ref A.a_law_thing) = true
  g_law_marks : mg "_law_marks" = some (.ref A.a_law_marks)
  k_law_marks : PySem.W.keepIn K (.ref A.a_law_marks) = true
  g_law_bare : mg "_law_bare" = some (.ref A.a_law_bare)
  k_law_bare : PySem.W.keepIn K (.ref A.a_law_bare) = true
  g_law_texted : mg "_law_texted" = some (.ref A.a_law_texted)
  k_law_texted : PySem.W.keepIn K (.ref A.a_law_texted) = true
  g_law_valued : mg "_law_valued" = some (.ref A.a_law_valued)
  k_law_valued : PySem.W.keepIn K (.ref A.a_law_valued) = true
  g_law_caught : mg "_law_caught" = some (.ref A.a_law_caught)
  k_law_caught : PySem.W.keepIn K (.ref A.a_law_caught) = true
  g_law : mg "law" = some (.ref A.a_law)
  k_law : PySem.W.keepIn K (.ref A.a_law) = true
  n_ValueError : mg "ValueError" = none
  n_abs : mg "abs" = none
  n_isinstance : mg "isinstance" = none
  n_len : mg "len" = none
  n_range : mg "range" = none
  n_repr : mg "repr" = none
  n_str : mg "str" = none
  n_super : mg "super" = none
  g_PostError : mg "PostError" = some (.ref A.PostError)
  g_NoChoice : mg "NoChoice" = some (.ref A.NoChoice)
  g_NoEnd : mg "NoEnd" = some (.ref A.NoEnd)
  g_NoGoers : mg "NoGoers" = some (.ref A.NoGoers)
  g_NoName : mg "NoName" = some (.ref A.NoName)
  g_NoNumber : mg "NoNumber" = some (.ref A.NoNumber)
  g_NoPair : mg "NoPair" = some (.ref A.NoPair)
  g_NoPlace : mg "NoPlace" = some (.ref A.NoPlace)
  g_NoWishes : mg "NoWishes" = some (.ref A.NoWishes)
  g_NoRow : mg "NoRow" = some (.ref A.NoRow)
  g_NoStanding : mg "NoStanding" = some (.ref A.NoStanding)
  g_NoTown : mg "NoTown" = some (.ref A.NoTown)
  s_NoRow : SupC prg K A.NoRow A.i_NoRow A.cc_NoRow A.cda_NoRow "NoRow.__init__" "this is no row" (zOf (inClass (topS 10) 0)) A.fd_NoRow
  s_NoStanding : SupC prg K A.NoStanding A.i_NoStanding A.cc_NoStanding A.cda_NoStanding "NoStanding.__init__" "this is no standing" (zOf (inClass (topS 11) 0)) A.fd_NoStanding
  s_NoTown : SupC prg K A.NoTown A.i_NoTown A.cc_NoTown A.cda_NoTown "NoTown.__init__" "this is no town" (zOf (inClass (topS 12) 0)) A.fd_NoTown
  o_NoChoice : OwnC K A.NoChoice
  o_NoEnd : OwnC K A.NoEnd
  o_NoGoers : OwnC K A.NoGoers
  o_NoName : OwnC K A.NoName
  o_NoNumber : OwnC K A.NoNumber
  o_NoPair : OwnC K A.NoPair
  o_NoPlace : OwnC K A.NoPlace
  o_NoWishes : OwnC K A.NoWishes
  e_NoChoice : ExcC K A.NoChoice
  f_NoChoice : XfC K A.NoChoice
  e_NoEnd : ExcC K A.NoEnd
  f_NoEnd : XfC K A.NoEnd
  e_NoGoers : ExcC K A.NoGoers
  f_NoGoers : XfC K A.NoGoers
  e_NoName : ExcC K A.NoName
  f_NoName : XfC K A.NoName
  e_NoNumber : ExcC K A.NoNumber
  f_NoNumber : XfC K A.NoNumber
  e_NoPair : ExcC K A.NoPair
  f_NoPair : XfC K A.NoPair
  e_NoPlace : ExcC K A.NoPlace
  f_NoPlace : XfC K A.NoPlace
  e_NoWishes : ExcC K A.NoWishes
  f_NoWishes : XfC K A.NoWishes
  e_NoRow : ExcC K A.NoRow
  f_NoRow : XfC K A.NoRow
  e_NoStanding : ExcC K A.NoStanding
  f_NoStanding : XfC K A.NoStanding
  e_NoTown : ExcC K A.NoTown
  f_NoTown : XfC K A.NoTown
  t_NoChoice_ValueError : PySem.W.kitOne K (.ref A.NoChoice) (.type "ValueError") = some true
  t_NoEnd_ValueError : PySem.W.kitOne K (.ref A.NoEnd) (.type "ValueError") = some true
  t_NoGoers_ValueError : PySem.W.kitOne K (.ref A.NoGoers) (.type "ValueError") = some true
  t_NoName_ValueError : PySem.W.kitOne K (.ref A.NoName) (.type "ValueError") = some true
  t_NoNumber_ValueError : PySem.W.kitOne K (.ref A.NoNumber) (.type "ValueError") = some true
  t_NoPair_ValueError : PySem.W.kitOne K (.ref A.NoPair) (.type "ValueError") = some true
  t_NoPlace_ValueError : PySem.W.kitOne K (.ref A.NoPlace) (.type "ValueError") = some true
  t_NoWishes_ValueError : PySem.W.kitOne K (.ref A.NoWishes) (.type "ValueError") = some true
  t_NoRow_ValueError : PySem.W.kitOne K (.ref A.NoRow) (.type "ValueError") = some true
  t_NoStanding_ValueError : PySem.W.kitOne K (.ref A.NoStanding) (.type "ValueError") = some true
  t_NoTown_ValueError : PySem.W.kitOne K (.ref A.NoTown) (.type "ValueError") = some true
  t_NoChoice_NoChoice : PySem.W.kitOne K (.ref A.NoChoice) (.ref A.NoChoice) = some true
  t_NoChoice_NoEnd : PySem.W.kitOne K (.ref A.NoChoice) (.ref A.NoEnd) = some false
  t_NoChoice_NoGoers : PySem.W.kitOne K (.ref A.NoChoice) (.ref A.NoGoers) = some false
  t_NoChoice_NoName : PySem.W.kitOne K (.ref A.NoChoice) (.ref A.NoName) = some false
  t_NoChoice_NoNumber : PySem.W.kitOne K (.ref A.NoChoice) (.ref A.NoNumber) = some false
  t_NoChoice_NoPair : PySem.W.kitOne K (.ref A.NoChoice) (.ref A.NoPair) = some false
  t_NoChoice_NoPlace : PySem.W.kitOne K (.ref A.NoChoice) (.ref A.NoPlace) = some false
  t_NoChoice_NoWishes : PySem.W.kitOne K (.ref A.NoChoice) (.ref A.NoWishes) = some false
  t_NoChoice_NoRow : PySem.W.kitOne K (.ref A.NoChoice) (.ref A.NoRow) = some false
  t_NoChoice_NoStanding : PySem.W.kitOne K (.ref A.NoChoice) (.ref A.NoStanding) = some false
  t_NoChoice_NoTown : PySem.W.kitOne K (.ref A.NoChoice) (.ref A.NoTown) = some false
  t_NoEnd_NoChoice : PySem.W.kitOne K (.ref A.NoEnd) (.ref A.NoChoice) = some false
  t_NoEnd_NoEnd : PySem.W.kitOne K (.ref A.NoEnd) (.ref A.NoEnd) = some true
  t_NoEnd_NoGoers : PySem.W.kitOne K (.ref A.NoEnd) (.ref A.NoGoers) = some false
  t_NoEnd_NoName : PySem.W.kitOne K (.ref A.NoEnd) (.ref A.NoName) = some false
  t_NoEnd_NoNumber : PySem.W.kitOne K (.ref A.NoEnd) (.ref A.NoNumber) = some false
  t_NoEnd_NoPair : PySem.W.kitOne K (.ref A.NoEnd) (.ref A.NoPair) = some false
  t_NoEnd_NoPlace : PySem.W.kitOne K (.ref A.NoEnd) (.ref A.NoPlace) = some false
  t_NoEnd_NoWishes : PySem.W.kitOne K (.ref A.NoEnd) (.ref A.NoWishes) = some false
  t_NoEnd_NoRow : PySem.W.kitOne K (.ref A.NoEnd) (.ref A.NoRow) = some false
  t_NoEnd_NoStanding : PySem.W.kitOne K (.ref A.NoEnd) (.ref A.NoStanding) = some false
  t_NoEnd_NoTown : PySem.W.kitOne K (.ref A.NoEnd) (.ref A.NoTown) = some false
  t_NoGoers_NoChoice : PySem.W.kitOne K (.ref A.NoGoers) (.ref A.NoChoice) = some false
  t_NoGoers_NoEnd : PySem.W.kitOne K (.ref A.NoGoers) (.ref A.NoEnd) = some false
  t_NoGoers_NoGoers : PySem.W.kitOne K (.ref A.NoGoers) (.ref A.NoGoers) = some true
  t_NoGoers_NoName : PySem.W.kitOne K (.ref A.NoGoers) (.ref A.NoName) = some false
  t_NoGoers_NoNumber : PySem.W.kitOne K (.ref A.NoGoers) (.ref A.NoNumber) = some false
  t_NoGoers_NoPair : PySem.W.kitOne K (.ref A.NoGoers) (.ref A.NoPair) = some false
  t_NoGoers_NoPlace : PySem.W.kitOne K (.ref A.NoGoers) (.ref A.NoPlace) = some false
  t_NoGoers_NoWishes : PySem.W.kitOne K (.ref A.NoGoers) (.ref A.NoWishes) = some false
  t_NoGoers_NoRow : PySem.W.kitOne K (.ref A.NoGoers) (.ref A.NoRow) = some false
  t_NoGoers_NoStanding : PySem.W.kitOne K (.ref A.NoGoers) (.ref A.NoStanding) = some false
  t_NoGoers_NoTown : PySem.W.kitOne K (.ref A.NoGoers) (.ref A.NoTown) = some false
  t_NoName_NoChoice : PySem.W.kitOne K (.ref A.NoName) (.ref A.NoChoice) = some false
  t_NoName_NoEnd : PySem.W.kitOne K (.ref A.NoName) (.ref A.NoEnd) = some false
  t_NoName_NoGoers : PySem.W.kitOne K (.ref A.NoName) (.ref A.NoGoers) = some false
  t_NoName_NoName : PySem.W.kitOne K (.ref A.NoName) (.ref A.NoName) = some true
  t_NoName_NoNumber : PySem.W.kitOne K (.ref A.NoName) (.ref A.NoNumber) = some false
  t_NoName_NoPair : PySem.W.kitOne K (.ref A.NoName) (.ref A.NoPair) = some false
  t_NoName_NoPlace : PySem.W.kitOne K (.ref A.NoName) (.ref A.NoPlace) = some false
  t_NoName_NoWishes : PySem.W.kitOne K (.ref A.NoName) (.ref A.NoWishes) = some false
  t_NoName_NoRow : PySem.W.kitOne K (.ref A.NoName) (.ref A.NoRow) = some false
  t_NoName_NoStanding : PySem.W.kitOne K (.ref A.NoName) (.ref A.NoStanding) = some false
  t_NoName_NoTown : PySem.W.kitOne K (.ref A.NoName) (.ref A.NoTown) = some false
  t_NoNumber_NoChoice : PySem.W.kitOne K (.ref A.NoNumber) (.ref A.NoChoice) = some false
  t_NoNumber_NoEnd : PySem.W.kitOne K (.ref A.NoNumber) (.ref A.NoEnd) = some false
  t_NoNumber_NoGoers : PySem.W.kitOne K (.ref A.NoNumber) (.ref A.NoGoers) = some false
  t_NoNumber_NoName : PySem.W.kitOne K (.ref A.NoNumber) (.ref A.NoName) = some false
  t_NoNumber_NoNumber : PySem.W.kitOne K (.ref A.NoNumber) (.ref A.NoNumber) = some true
  t_NoNumber_NoPair : PySem.W.kitOne K (.ref A.NoNumber) (.ref A.NoPair) = some false
  t_NoNumber_NoPlace : PySem.W.kitOne K (.ref A.NoNumber) (.ref A.NoPlace) = some false
  t_NoNumber_NoWishes : PySem.W.kitOne K (.ref A.NoNumber) (.ref A.NoWishes) = some false
  t_NoNumber_NoRow : PySem.W.kitOne K (.ref A.NoNumber) (.ref A.NoRow) = some false
  t_NoNumber_NoStanding : PySem.W.kitOne K (.ref A.NoNumber) (.ref A.NoStanding) = some false
  t_NoNumber_NoTown : PySem.W.kitOne K (.ref A.NoNumber) (.ref A.NoTown) = some false
  t_NoPair_NoChoice : PySem.W.kitOne K (.ref A.NoPair) (.ref A.NoChoice) = some false
  t_NoPair_NoEnd : PySem.W.kitOne K (.ref A.NoPair) (.ref A.NoEnd) = some false
  t_NoPair_NoGoers : PySem.W.kitOne K (.ref A.NoPair) (.ref A.NoGoers) = some false
  t_NoPair_NoName : PySem.W.kitOne K (.ref A.NoPair) (.ref A.NoName) = some false
  t_NoPair_NoNumber : PySem.W.kitOne K (.ref A.NoPair) (.ref A.NoNumber) = some false
  t_NoPair_NoPair : PySem.W.kitOne K (.ref A.NoPair) (.ref A.NoPair) = some true
  t_NoPair_NoPlace : PySem.W.kitOne K (.ref A.NoPair) (.ref A.NoPlace) = some false
  t_NoPair_NoWishes : PySem.W.kitOne K (.ref A.NoPair) (.ref A.NoWishes) = some false
  t_NoPair_NoRow : PySem.W.kitOne K (.ref A.NoPair) (.ref A.NoRow) = some false
  t_NoPair_NoStanding : PySem.W.kitOne K (.ref A.NoPair) (.ref A.NoStanding) = some false
  t_NoPair_NoTown : PySem.W.kitOne K (.ref A.NoPair) (.ref A.NoTown) = some false
  t_NoPlace_NoChoice : PySem.W.kitOne K (.ref A.NoPlace) (.ref A.NoChoice) = some false
  t_NoPlace_NoEnd : PySem.W.kitOne K (.ref A.NoPlace) (.ref A.NoEnd) = some false
  t_NoPlace_NoGoers : PySem.W.kitOne K (.ref A.NoPlace) (.ref A.NoGoers) = some false
  t_NoPlace_NoName : PySem.W.kitOne K (.ref A.NoPlace) (.ref A.NoName) = some false
  t_NoPlace_NoNumber : PySem.W.kitOne K (.ref A.NoPlace) (.ref A.NoNumber) = some false
  t_NoPlace_NoPair : PySem.W.kitOne K (.ref A.NoPlace) (.ref A.NoPair) = some false
  t_NoPlace_NoPlace : PySem.W.kitOne K (.ref A.NoPlace) (.ref A.NoPlace) = some true
  t_NoPlace_NoWishes : PySem.W.kitOne K (.ref A.NoPlace) (.ref A.NoWishes) = some false
  t_NoPlace_NoRow : PySem.W.kitOne K (.ref A.NoPlace) (.ref A.NoRow) = some false
  t_NoPlace_NoStanding : PySem.W.kitOne K (.ref A.NoPlace) (.ref A.NoStanding) = some false
  t_NoPlace_NoTown : PySem.W.kitOne K (.ref A.NoPlace) (.ref A.NoTown) = some false
  t_NoWishes_NoChoice : PySem.W.kitOne K (.ref A.NoWishes) (.ref A.NoChoice) = some false
  t_NoWishes_NoEnd : PySem.W.kitOne K (.ref A.NoWishes) (.ref A.NoEnd) = some false
  t_NoWishes_NoGoers : PySem.W.kitOne K (.ref A.NoWishes) (.ref A.NoGoers) = some false
  t_NoWishes_NoName : PySem.W.kitOne K (.ref A.NoWishes) (.ref A.NoName) = some false
  t_NoWishes_NoNumber : PySem.W.kitOne K (.ref A.NoWishes) (.ref A.NoNumber) = some false
  t_NoWishes_NoPair : PySem.W.kitOne K (.ref A.NoWishes) (.ref A.NoPair) = some false
  t_NoWishes_NoPlace : PySem.W.kitOne K (.ref A.NoWishes) (.ref A.NoPlace) = some false
  t_NoWishes_NoWishes : PySem.W.kitOne K (.ref A.NoWishes) (.ref A.NoWishes) = some true
  t_NoWishes_NoRow : PySem.W.kitOne K (.ref A.NoWishes) (.ref A.NoRow) = some false
  t_NoWishes_NoStanding : PySem.W.kitOne K (.ref A.NoWishes) (.ref A.NoStanding) = some false
  t_NoWishes_NoTown : PySem.W.kitOne K (.ref A.NoWishes) (.ref A.NoTown) = some false
  t_NoRow_NoChoice : PySem.W.kitOne K (.ref A.NoRow) (.ref A.NoChoice) = some false
  t_NoRow_NoEnd : PySem.W.kitOne K (.ref A.NoRow) (.ref A.NoEnd) = some false
  t_NoRow_NoGoers : PySem.W.kitOne K (.ref A.NoRow) (.ref A.NoGoers) = some false
  t_NoRow_NoName : PySem.W.kitOne K (.ref A.NoRow) (.ref A.NoName) = some false
  t_NoRow_NoNumber : PySem.W.kitOne K (.ref A.NoRow) (.ref A.NoNumber) = some false
  t_NoRow_NoPair : PySem.W.kitOne K (.ref A.NoRow) (.ref A.NoPair) = some false
  t_NoRow_NoPlace : PySem.W.kitOne K (.ref A.NoRow) (.ref A.NoPlace) = some false
  t_NoRow_NoWishes : PySem.W.kitOne K (.ref A.NoRow) (.ref A.NoWishes) = some false
  t_NoRow_NoRow : PySem.W.kitOne K (.ref A.NoRow) (.ref A.NoRow) = some true
  t_NoRow_NoStanding : PySem.W.kitOne K (.ref A.NoRow) (.ref A.NoStanding) = some false
  t_NoRow_NoTown : PySem.W.kitOne K (.ref A.NoRow) (.ref A.NoTown) = some false
  t_NoStanding_NoChoice : PySem.W.kitOne K (.ref A.NoStanding) (.ref A.NoChoice) = some false
  t_NoStanding_NoEnd : PySem.W.kitOne K (.ref A.NoStanding) (.ref A.NoEnd) = some false
  t_NoStanding_NoGoers : PySem.W.kitOne K (.ref A.NoStanding) (.ref A.NoGoers) = some false
  t_NoStanding_NoName : PySem.W.kitOne K (.ref A.NoStanding) (.ref A.NoName) = some false
  t_NoStanding_NoNumber : PySem.W.kitOne K (.ref A.NoStanding) (.ref A.NoNumber) = some false
  t_NoStanding_NoPair : PySem.W.kitOne K (.ref A.NoStanding) (.ref A.NoPair) = some false
  t_NoStanding_NoPlace : PySem.W.kitOne K (.ref A.NoStanding) (.ref A.NoPlace) = some false
  t_NoStanding_NoWishes : PySem.W.kitOne K (.ref A.NoStanding) (.ref A.NoWishes) = some false
  t_NoStanding_NoRow : PySem.W.kitOne K (.ref A.NoStanding) (.ref A.NoRow) = some false
  t_NoStanding_NoStanding : PySem.W.kitOne K (.ref A.NoStanding) (.ref A.NoStanding) = some true
  t_NoStanding_NoTown : PySem.W.kitOne K (.ref A.NoStanding) (.ref A.NoTown) = some false
  t_NoTown_NoChoice : PySem.W.kitOne K (.ref A.NoTown) (.ref A.NoChoice) = some false
  t_NoTown_NoEnd : PySem.W.kitOne K (.ref A.NoTown) (.ref A.NoEnd) = some false
  t_NoTown_NoGoers : PySem.W.kitOne K (.ref A.NoTown) (.ref A.NoGoers) = some false
  t_NoTown_NoName : PySem.W.kitOne K (.ref A.NoTown) (.ref A.NoName) = some false
  t_NoTown_NoNumber : PySem.W.kitOne K (.ref A.NoTown) (.ref A.NoNumber) = some false
  t_NoTown_NoPair : PySem.W.kitOne K (.ref A.NoTown) (.ref A.NoPair) = some false
  t_NoTown_NoPlace : PySem.W.kitOne K (.ref A.NoTown) (.ref A.NoPlace) = some false
  t_NoTown_NoWishes : PySem.W.kitOne K (.ref A.NoTown) (.ref A.NoWishes) = some false
  t_NoTown_NoRow : PySem.W.kitOne K (.ref A.NoTown) (.ref A.NoRow) = some false
  t_NoTown_NoStanding : PySem.W.kitOne K (.ref A.NoTown) (.ref A.NoStanding) = some false
  t_NoTown_NoTown : PySem.W.kitOne K (.ref A.NoTown) (.ref A.NoTown) = some true
  m_NoChoice_PostError : PySem.W.exmOne K (.ref A.NoChoice) (.ref A.PostError) = some true
  m_NoEnd_PostError : PySem.W.exmOne K (.ref A.NoEnd) (.ref A.PostError) = some true
  m_NoGoers_PostError : PySem.W.exmOne K (.ref A.NoGoers) (.ref A.PostError) = some true
  m_NoName_PostError : PySem.W.exmOne K (.ref A.NoName) (.ref A.PostError) = some true
  m_NoNumber_PostError : PySem.W.exmOne K (.ref A.NoNumber) (.ref A.PostError) = some true
  m_NoPair_PostError : PySem.W.exmOne K (.ref A.NoPair) (.ref A.PostError) = some true
  m_NoPlace_PostError : PySem.W.exmOne K (.ref A.NoPlace) (.ref A.PostError) = some true
  m_NoWishes_PostError : PySem.W.exmOne K (.ref A.NoWishes) (.ref A.PostError) = some true
  m_NoRow_PostError : PySem.W.exmOne K (.ref A.NoRow) (.ref A.PostError) = some true
  m_NoStanding_PostError : PySem.W.exmOne K (.ref A.NoStanding) (.ref A.PostError) = some true
  m_NoTown_PostError : PySem.W.exmOne K (.ref A.NoTown) (.ref A.PostError) = some true
abbrev s_law_purse : Stmt := topS 14
theorem sc_law_purse : FnScope ["script", "cells", "j"] ["script"] (defScope s_law_purse) := ⟨rfl, rfl, rfl, by decide +kernel, rfl, by decide +kernel, by decide +kernel⟩
abbrev s_law_draw : Stmt := topS 15
theorem sc_law_draw : FnScope ["purse", "out_of", "cells", "went", "where", "cell", "figure"] ["purse", "out_of"] (defScope s_law_draw) := ⟨rfl, rfl, rfl, by decide +kernel, rfl, by decide +kernel, by decide +kernel⟩
abbrev s_law_thing : Stmt := topS 17
theorem sc_law_thing : FnScope ["purse", "k", "some"] ["purse"] (defScope s_law_thing) := ⟨rfl, rfl, rfl, by decide +kernel, rfl, by decide +kernel, by decide +kernel⟩
abbrev s_law_marks : Stmt := topS 18
theorem sc_law_marks : FnScope ["caught", "found", "k"] ["caught"] (defScope s_law_marks) := ⟨rfl, rfl, rfl, by decide +kernel, rfl, by decide +kernel, by decide +kernel⟩
abbrev s_law_bare : Stmt := topS 19
theorem sc_law_bare : FnScope ["which"] ["which"] (defScope s_law_bare) := ⟨rfl, rfl, rfl, by decide +kernel, rfl, by decide +kernel, by decide +kernel⟩
abbrev s_law_texted : Stmt := topS 20
theorem sc_law_texted : FnScope ["which", "line"] ["which", "line"] (defScope s_law_texted) := ⟨rfl, rfl, rfl, by decide +kernel, rfl, by decide +kernel, by decide +kernel⟩
abbrev s_law_valued : Stmt := topS 21
theorem sc_law_valued : FnScope ["which", "way", "value"] ["which", "way", "value"] (defScope s_law_valued) := ⟨rfl, rfl, rfl, by decide +kernel, rfl, by decide +kernel, by decide +kernel⟩
abbrev s_law_caught : Stmt := topS 22
theorem sc_law_caught : FnScope ["which", "way", "value", "caught", "e"] ["which", "way", "value"] (defScope s_law_caught) := ⟨rfl, rfl, rfl, by decide +kernel, rfl, by decide +kernel, by decide +kernel⟩
abbrev s_law : Stmt := topS 23
theorem sc_law : FnScope ["script", "purse", "held", "way", "which", "value", "caught"] ["script"] (defScope s_law) := ⟨rfl, rfl, rfl, by decide +kernel, rfl, by decide +kernel, by decide +kernel⟩
/-- the defs as they stand -/
structure Fns (K : PySem.W.Frag) (A : Ad) where
  fd_law_purse : FuncData
  F_law_purse : Fun K "_law_purse" "_law_purse" s_law_purse A.a_law_purse fd_law_purse
  b_law_purse : L2.Binds K fd_law_purse ["script"] []
  fd_law_draw : FuncData
  F_law_draw : Fun K "_law_draw" "_law_draw" s_law_draw A.a_law_draw fd_law_draw
  b_law_draw : L2.Binds K fd_law_draw ["purse", "out_of"] []
  fd_law_thing : FuncData
  F_law_thing : Fun K "_law_thing" "_law_thing" s_law_thing A.a_law_thing fd_law_thing
  b_law_thing : L2.Binds K fd_law_thing ["purse"] []
  fd_law_marks : FuncData
  F_law_marks : Fun K "_law_marks" "_law_marks" s_law_marks A.a_law_marks fd_law_marks
  b_law_marks : L2.Binds K fd_law_marks ["caught"] []
  fd_law_bare : FuncData
  F_law_bare : Fun K "_law_bare" "_law_bare" s_law_bare A.a_law_bare fd_law_bare
  b_law_bare : L2.Binds K fd_law_bare ["which"] []
  fd_law_texted : FuncData
  F_law_texted : Fun K "_law_texted" "_law_texted" s_law_texted A.a_law_texted fd_law_texted
  b_law_texted : L2.Binds K fd_law_texted ["which", "line"] []
  fd_law_valued : FuncData
  F_law_valued : Fun K "_law_valued" "_law_valued" s_law_valued A.a_law_valued fd_law_valued
  b_law_valued : L2.Binds K fd_law_valued ["which", "way", "value"] []
  fd_law_caught : FuncData
  F_law_caught : Fun K "_law_caught" "_law_caught" s_law_caught A.a_law_caught fd_law_caught
  b_law_caught : L2.Binds K fd_law_caught ["which", "way", "value"] []
  fd_law : FuncData
  F_law : Fun K "law" "law" s_law A.a_law fd_law
  b_law : L2.Binds K fd_law ["script"] []
end K75
namespace K75
open PySem L2 PySem.Spec PyProof.Rows Cp
open Evl (Ex)
section
variable {w : World} {K : PySem.W.Frag} {mg : Str → Option Value} {base : Heap} {A : Ad}
theorem eqv_int (i j : Int) : PyData.eqv (.int i) (.int j) = (i == j) := by simp [PyData.eqv]
theorem shaped_int (i : Int) : SeqAt.shaped (.int i) = true := rfl
def spPurse (K : PySem.W.Frag) : Sp := fun vs H Q _ => ∃ (a : Addr) (ns : List Int), vs = [.ref a] ∧ SqL K H a (ns.map V.int) ∧ ns.length ≤ 63 ∧
  ∀ p c H', H p = none → H c = none → Ex H H' → Pu p c 0 H' → Q (.ref p) H'
theorem cut63 (ns : List Int) (h : ns.length ≤ 63) : cutV (ns.map V.int) none (some 63) = ns.map V.int := by
  unfold cutV
  rw [HT.sIx_none, show (some 63 : Option Int) = some ((63 : Nat) : Int) from rfl, HT.sIx_nat, List.length_map, Nat.min_eq_right h, List.drop_zero, Nat.sub_zero]
  exact List.take_of_length_le (by simp)
theorem pow18 : CPowW 10 18 := ⟨by decide, by decide +kernel⟩
theorem pow60 : CPowW 10 60 := ⟨by decide, by decide +kernel⟩
theorem pow1200 : CPowW (10 ^ (60 : Int).toNat) 20 := ⟨by decide, by decide +kernel⟩
theorem big1200 : (0 : Int) < (10 ^ (60 : Int).toNat) ^ (20 : Int).toNat ∧ ((10 ^ (60 : Int).toNat) ^ (20 : Int).toNat : Int) < ((2 ^ 4000 : Nat) : Int) := by decide +kernel
theorem big18 : ((10 : Int) ^ (18 : Int).toNat) < ((2 ^ 4000 : Nat) : Int) := by decide +kernel
theorem ep_pow18 {O : List Addr} {δ : List Sl} : EP O (tOp rPowI (tC (.int 10)) (tC (.int 18))) δ (.int (10 ^ (18 : Int).toNat)) := ep_op ep_int ep_int (rp_intC (g := fun i j => i ^ j.toNat) pow18)
theorem ep_pow1200 {O : List Addr} {δ : List Sl} : EP O (tOp rPowI (tOp rPowI (tC (.int 10)) (tC (.int 60))) (tC (.int 20))) δ (.int ((10 ^ (60 : Int).toNat) ^ (20 : Int).toNat)) :=
  ep_op (ep_op ep_int ep_int (rp_intC (g := fun i j => i ^ j.toNat) pow60)) ep_int (rp_intC (g := fun i j => i ^ j.toNat) pow1200)
theorem G_law_purse (T : Txt K mg A) (Z : Fns K A) : FnOk prg w K mg base CX0 1 A.a_law_purse Z.fd_law_purse ["script"] (spPurse K) := by
  refine Fun.ok Z.F_law_purse sc_law_purse (fun vs H Q E h => by obtain ⟨a, ns, rfl, _⟩ := h; rfl) (fun cdv Ar outer s H vs Q E hr h => ⟨_, (pss_cons (ps_set (i := 1) sc_law_purse.nd rfl (by first | exact Or.inl rfl | exact Or.inr rfl) (pe_slice (kx_sl (K := K) rfl) (pv 0) po_none (po_some pe_int)))
    (pss_cons (ps_for PassesOwn.never rfl (pi_range1 rfl T.n_range (pa_cons (pe_callB (kx_len (K := K) rfl) (by rfl) T.n_len (by decide +kernel) (pa_cons (pv 1) pa_nil)) pa_nil)) (pg_name (i := 2) sc_law_purse.nd rfl (by first | exact Or.inl rfl | exact Or.inr rfl)) (pss_one (ps_if (pt_cmpR op_ge (pe_callB call_abs (by rfl) T.n_abs (by decide +kernel) (pa_cons (pe_ix (kx_ix (K := K) rfl) (pv 1) (pv 2) (fun _ _ => rfl)) pa_nil)) (pe_op op_powW pe_int pe_int) (nomark _)) (pss_one (ps_asg (pe_op op_modN (pe_ix (kx_ix (K := K) rfl) (pv 1) (pv 2) (fun _ _ => rfl)) (pe_op op_powW (pe_op op_powW pe_int pe_int) pe_int)) (pg_sub (pv 1) (pv 2) set_list))) pss_nil)))
    (pss_cons (ps_if (pt_cmpR (kx_eq (K := K) rfl hr.units) (pv 1) (pe_lst pa_nil) (nomark _)) (pss_one (ps_set (i := 1) sc_law_purse.nd rfl (by first | exact Or.inl rfl | exact Or.inr rfl) (pe_lst (pa_cons pe_int pa_nil)))) pss_nil)
    (pss_one (ps_ret (pe_lst (pa_cons (pv 1) (pa_cons pe_int pa_nil)))))))), ?_⟩)
  obtain ⟨a, ns, rfl, hS, h63, k⟩ := h
  refine ha_seq ?_
  refine ⟨.ref a, rfl, 63, rfl, a, ns.map V.int, rfl, hS, fun l hl => ?_⟩
  rw [cut63 ns h63]
  dsimp only [gName]
  have hl0 : upd H l (.lst (ns.map V.int)) l = some (.lst (ns.map V.int)) := upd_same
  refine ha_seq ?_
  refine dm_forJ (O := [l]) (J := fun H' => H' l = some (.lst (ns.map V.int))) (δ := [.no, .at l, .no]) (ix := [2]) (R := fun _ _ => False)
    (N := fun δ' H' => ∃ ms : List Int, H' l = some (.lst (ms.map V.int)) ∧ ms.length = ns.length ∧ (∀ m ∈ ms, m.natAbs < 2 ^ 4000) ∧ ∃ s, δ' = [.no, .at l, s])
    (wj_rng1 (n := ((ns.map V.int).length : Int)) (ad_one (ed_lenO rfl fun H h => h)) (by rw [List.length_map]; omega))
    (fun i δ' H' => ∃ ms : List Int, H' l = some (.lst (ms.map V.int)) ∧ ms.length = ns.length ∧ (∀ j m, ms[j]? = some m → j < i → m.natAbs < 2 ^ 4000) ∧ ∃ s, δ' = [.no, .at l, s])
    (fun H' h => ⟨ns, h, rfl, fun j m _ hj => by omega, _, rfl⟩) (fun i δ1 H1 hi hI => ?_) (fun δ1 H1 hI => ?_) _ _ _ hl0 (fun x hx => by
      simp only [List.mem_cons, List.not_mem_nil, or_false] at hx
      rw [hx, upd_same]; simp) ⟨rfl, fun i => ?_⟩ (fun δ' σ' H' n' d' e' s' => ?_) (fun v H' r _ _ => r.elim)
  · obtain ⟨ms, h1, h2, h3, s, rfl⟩ := hI
    have hi : i < ns.length := by simpa using hi
    have him : i < ms.length := by omega
    have hget : (ms.map V.int)[i]? = some (.int ms[i]) := by rw [List.getElem?_map, List.getElem?_eq_getElem him]; rfl
    refine ⟨_, fun H' => H' l = some (.lst (ms.map V.int)), gb_name, h1, fun A B e _ z => (e l (by simp)).trans z, ?_⟩
    have jk : Jok [l] (fun H' => H' l = some (.lst (ms.map V.int))) := fun A B e _ z => (e l (by simp)).trans z
    have hix : ED [l] (fun H' => H' l = some (.lst (ms.map V.int))) (tOp (rIx K) (tVar 1) (tVar 2)) [.no, .at l, .d (.int (i : Int))] (.int ms[i]) :=
      ed_ixO jk rfl (fun H h => h) (ed_of jk (ep_var (x := .int (i : Int)) rfl)) (Evl.ixN_nat (by simpa using him)) hget fun _ => rfl
    refine dm_ifD (td_test (ed_op jk (ed_abs hix) (ed_of jk ep_pow18) (rp_bl (g := fun i j => decide (j ≤ i))))) (fun c => ?_) fun c => ?_
    · refine dm_setO (v := .int (ms[i].fmod ((10 ^ (60 : Int).toNat) ^ (20 : Int).toNat))) (ed_op jk hix (ed_of jk ep_pow1200) (rp_intC (g := fun i j => i.fmod j) (by have := big1200.1; omega))) rfl (ed_of jk (ep_var (x := .int (i : Int)) rfl)) (fun H h => h) (by simp) (Evl.ixN_nat (by simpa using him)) (fun _ _ h => h) fun H2 hJ => ?_
      have z := fmod_pos (a := ms[i]) big1200.1
      refine ⟨ms.set i (ms[i].fmod ((10 ^ (60 : Int).toNat) ^ (20 : Int).toNat)), by rw [upd_same, List.map_set], by rw [List.length_set]; exact h2, fun j m hj hji => ?_, _, rfl⟩
      by_cases e : i = j
      · subst e
        rw [List.getElem?_set_self him] at hj
        cases hj
        exact nat_lt z.1 (Int.lt_trans z.2 big1200.2)
      · rw [List.getElem?_set_ne e] at hj
        exact h3 j m hj (by omega)
    · refine dm_next fun H2 hJ => ⟨ms, hJ, h2, fun j m hj hji => ?_, _, rfl⟩
      by_cases e : i = j
      · subst e
        rw [List.getElem?_eq_getElem him] at hj
        cases hj
        have c2 : ¬ ((10 : Int) ^ (18 : Int).toNat ≤ (if ms[i] < 0 then -ms[i] else ms[i])) := by simpa using c
        have z := big18
        split at c2 <;> omega
      · exact h3 j m hj (by omega)
  · obtain ⟨ms, h1, h2, h3, h4⟩ := hI
    exact ⟨ms, h1, h2, fun m hm => by
      obtain ⟨j, hj, rfl⟩ := List.mem_iff_getElem.mp hm
      exact h3 j _ (List.getElem?_eq_getElem hj) (by simpa using (by omega : j < ns.length)), h4⟩
  · match i with
    | 0 => exact trivial
    | 1 => exact rfl
    | 2 => exact trivial
    | n + 3 => exact trivial
  obtain ⟨ms, h1, h2, h3, s, rfl⟩ := n'
  have exl : Ex H H' := fun b o q => by
    have hb : b ≠ l := fun z => by rw [z, hl] at q; cases q
    have z := e' b o (by rw [hid_out (by simp [hb]), upd_ne hb]; exact q)
    exact (hid_some z).2
  have sl : σ'[1]? = some (some (.ref l)) := s'.loc rfl
  have hlen : σ'.length = 3 := s'.1
  obtain ⟨x0, x1, x2, rfl⟩ : ∃ x0 x1 x2, σ' = [x0, x1, x2] := match σ', hlen with | [x0, x1, x2], _ => ⟨x0, x1, x2, rfl⟩
  have hx1 : x1 = some (.ref l) := by simpa using sl
  subst hx1
  have s2 : SD (hid [] H') [.no, .d (.list (ms.map PyData.int)), .no] [x0, some (.ref l), x2] := ⟨rfl, fun i => match i with
    | 0 => trivial
    | 1 => ⟨_, rfl, l, _, rfl, by rw [hid_nil]; exact h1, by rw [hid_nil]; exact DtAll.ints ms⟩
    | 2 => trivial
    | _ + 3 => trivial⟩
  dsimp only
  refine ha_seq ?_
  refine ha_if (O := []) (tp_test (ep_op (ep_var (i := 1) rfl) (ep_lst ap_nil (by decide)) (rp_eqD (shaped_ints ms) (shaped_ints [])))) (fun _ h => by simp at h) s2 (fun c H2 e2 => ?_) fun c H2 e2 => ?_
  · refine ⟨by decide, fun c0 hc0 => ?_⟩
    dsimp only [gName]
    refine ⟨.ref c0, rfl, by show 2 ≤ sizeLine; decide, fun p0 hp0 => ?_⟩
    have hne : p0 ≠ c0 := fun z => by rw [z, upd_same] at hp0; cases hp0
    refine k p0 c0 _ (Evl.fresh_back (exl.trans (e2.trans (Ex.new hc0))) hp0) (Evl.fresh_back (exl.trans e2) hc0) ((exl.trans (e2.trans (Ex.new hc0))).trans (Ex.new hp0)) ⟨⟨[0], 0, upd_same, by rw [upd_ne hne.symm]; exact upd_same, by decide, by decide, by decide, by decide, fun n hn => ?_⟩, hne⟩
    simp only [List.mem_cons, List.not_mem_nil, or_false] at hn
    rw [hn]
    exact Nat.two_pow_pos 4000
  · have c2 : ms ≠ [] := fun z => by
      rw [z] at c
      exact absurd c (by rw [List.map_nil, eqv_nil]; simp)
    refine ⟨.ref l, rfl, by show 2 ≤ sizeLine; decide, fun p0 hp0 => ?_⟩
    have hl2 : H2 l = some (.lst (ms.map V.int)) := e2 _ _ h1
    have hne : p0 ≠ l := fun z => by rw [z, hl2] at hp0; cases hp0
    refine k p0 l _ (Evl.fresh_back (exl.trans e2) hp0) hl ((exl.trans e2).trans (Ex.new hp0)) ⟨⟨ms, 0, upd_same, by rw [upd_ne hne.symm]; exact hl2, ?_, by omega, by decide, by decide, h3⟩, hne⟩
    cases ms with
    | nil => exact absurd rfl c2
    | cons _ _ => simp
end
end K75
namespace K75
open PySem L2 PySem.Spec PyProof.Rows Cp
open Evl (Ex)
section
variable {w : World} {K : PySem.W.Frag} {mg : Str → Option Value} {base : Heap} {A : Ad}
theorem n31 {a : Int} (h : 0 ≤ a ∧ a < 2147483647) : a.natAbs < 2 ^ 31 := by omega
theorem lt31 {x : Int} : (x.fmod 2147483629).natAbs < 2 ^ 31 := by
  have z := fmod_pos (a := x) (b := 2147483629) (by decide)
  omega
theorem lt31b {x : Int} : (x.fmod 2147483587).natAbs < 2 ^ 31 := by
  have z := fmod_pos (a := x) (b := 2147483587) (by decide)
  omega
theorem lt31c {x : Int} : (x.fmod 2147483647).natAbs < 2 ^ 31 := by
  have z := fmod_pos (a := x) (b := 2147483647) (by decide)
  omega
theorem G_law_draw (T : Txt K mg A) (Z : Fns K A) : FnOk prg w K mg base CX0 1 A.a_law_draw Z.fd_law_draw ["purse", "out_of"] (spDraw) := by
  refine Fun.ok Z.F_law_draw sc_law_draw (fun vs H Q E h => by obtain ⟨p, c, B, n, rfl, _⟩ := h; rfl) (fun cdv Ar outer s H vs Q E hr h => ⟨_, (pss_cons (ps_asg (pv 0) (kx_gunl (K := K) (n := 2) rfl rfl (pgs_cons (pg_name (i := 2) sc_law_draw.nd rfl (by first | exact Or.inl rfl | exact Or.inr rfl)) (pgs_cons (pg_name (i := 3) sc_law_draw.nd rfl (by first | exact Or.inl rfl | exact Or.inr rfl)) pgs_nil))))
    (pss_cons (ps_set (i := 4) sc_law_draw.nd rfl (by first | exact Or.inl rfl | exact Or.inr rfl) (pe_op op_modN (pv 3) (pe_callB (kx_len (K := K) rfl) (by rfl) T.n_len (by decide +kernel) (pa_cons (pv 2) pa_nil))))
    (pss_cons (ps_set (i := 5) sc_law_draw.nd rfl (by first | exact Or.inl rfl | exact Or.inr rfl) (pe_ix (kx_ix (K := K) rfl) (pv 2) (pv 4) (fun _ _ => rfl)))
    (pss_cons (ps_asg (pe_op op_addU (pv 3) pe_int) (pg_sub (pv 0) pe_int set_list))
    (pss_cons (ps_if (pt_cmpR op_ge (pv 5) (pe_op op_powW pe_int pe_int) (nomark _)) (pss_cons (ps_asg (pe_op op_fdivW (pv 5) (pv 1)) (pg_sub (pv 2) (pv 4) set_list))
    (pss_one (ps_ret (pe_op op_modN (pv 5) (pv 1))))) pss_nil)
    (pss_cons (ps_set (i := 6) sc_law_draw.nd rfl (by first | exact Or.inl rfl | exact Or.inr rfl) (pe_op op_modN (pe_op op_addU (pe_op op_addU (pe_op op_mulU (pe_op op_modN (pv 5) pe_int) pe_int) (pe_op op_mulU (pe_op op_mulU (pv 3) (pv 3)) pe_int)) pe_int) pe_int))
    (pss_cons (ps_set (i := 6) sc_law_draw.nd rfl (by first | exact Or.inl rfl | exact Or.inr rfl) (pe_op op_modN (pe_op op_mulU (pv 6) (pv 6)) pe_int))
    (pss_cons (ps_set (i := 6) sc_law_draw.nd rfl (by first | exact Or.inl rfl | exact Or.inr rfl) (pe_op op_modN (pe_op op_mulU (pv 6) (pv 6)) pe_int))
    (pss_one (ps_ret (pe_op op_modN (pv 6) (pv 1)))))))))))), ?_⟩)
  obtain ⟨p, c, B, n, rfl, pu, h1, hz, hB, k⟩ := h
  have hpc := pu.ne
  obtain ⟨⟨ns, t, hp, hc, n1, n63, t0, tB, hb⟩, _⟩ := pu
  have hD : Dom [p, c] H := (Pu.dom ⟨⟨ns, t, hp, hc, n1, n63, t0, tB, hb⟩, hpc⟩)
  refine ha_seq ?_
  refine ⟨.ref p, rfl, p, [.ref c, .int t], rfl, SqL.of hp, rfl, .ref c, [.int t], rfl, .int t, [], rfl, rfl, ?_⟩
  dsimp only
  have ml : (t.fmod (ns.length : Int)).toNat < ns.length ∧ ((t.fmod (ns.length : Int)).toNat : Int) = t.fmod (ns.length : Int) := by
    have z := fmod_pos (a := t) (b := (ns.length : Int)) (by omega)
    omega
  obtain ⟨hm, em⟩ := ml
  generalize hmd : (t.fmod (ns.length : Int)).toNat = m at hm em
  have hget : (ns.map V.int)[m]? = some (.int ns[m]) := by rw [List.getElem?_map, List.getElem?_eq_getElem hm]; rfl
  generalize hcell : ns[m] = cell at hget
  have hcb : cell.natAbs < 2 ^ 4000 := hcell ▸ hb _ (List.getElem_mem hm)
  let J1 : Hp → Prop := fun H' => H' p = some (.lst [.ref c, .int t]) ∧ H' c = some (.lst (ns.map V.int))
  let J2 : Hp → Prop := fun H' => H' p = some (.lst [.ref c, .int (t + 1)]) ∧ H' c = some (.lst (ns.map V.int))
  have j1 : Jok [p, c] J1 := fun _ _ e _ z => ⟨(e p (by simp)).trans z.1, (e c (by simp)).trans z.2⟩
  have j2 : Jok [p, c] J2 := fun _ _ e _ z => ⟨(e p (by simp)).trans z.1, (e c (by simp)).trans z.2⟩
  let R : V → Hp → Prop := fun v H' => ∃ r : Int, v = .int r ∧ 0 ≤ r ∧ r < n ∧ H' p = some (.lst [.ref c, .int (t + 1)]) ∧ ∃ ns' : List Int, H' c = some (.lst (ns'.map V.int)) ∧ ns'.length = ns.length ∧ ∀ x ∈ ns', x.natAbs < 2 ^ 4000
  have fin : ∀ {te : TE} {δ : List Sl} {x : Int} (_ : ED [p, c] J2 te δ (.int x)) (_ : 0 ≤ x ∧ x < n), DM [p, c] J2 (tRet te) δ (fun _ _ => False) R := fun h hx =>
    dm_imp (dm_ret h) (fun _ _ z => z) fun v H' ⟨d, hd, e, hj⟩ => by
      subst e
      exact ⟨_, hd, hx.1, hx.2, hj.1, ns, hj.2, rfl, hb⟩
  have s0 : SD (hid [p, c] H) [.at p, .d (.int n), .at c, .d (.int t), .no, .no, .no] (((L2.start ["purse", "out_of", "cells", "went", "where", "cell", "figure"] [.ref p, .int n]).set 2 (some (.ref c))).set 3 (some (.int t))) :=
    ⟨rfl, fun i => match i with
      | 0 => rfl
      | 1 => ⟨_, rfl, rfl⟩
      | 2 => rfl
      | 3 => ⟨_, rfl, rfl⟩
      | 4 => trivial
      | 5 => trivial
      | 6 => trivial
      | _ + 7 => trivial⟩
  refine dm_run (O := [p, c]) (J := J1) (δ := [.at p, .d (.int n), .at c, .d (.int t), .no, .no, .no]) (N := fun _ _ => False) (R := R) ?body ⟨hp, hc⟩ hD s0 (fun _ _ _ z => z.elim) (fun v H' ⟨r, hv, r0, r1, p1, ns', c1, l1, b1⟩ _ e' => ?fin)
  case body =>
    refine dm_seq (N1 := fun δ H' => δ = [.at p, .d (.int n), .at c, .d (.int t), .d (.int (m : Int)), .no, .no] ∧ J1 H') (dm_asgD (ed_op j1 (ed_of j1 (ep_var (i := 3) rfl)) (ed_lenO (i := 2) rfl fun H h => h.2)
      (rp_intC (g := fun i j => i.fmod j) (by rw [List.length_map]; omega))) fun H' hj => ⟨by rw [List.length_map, em]; rfl, hj⟩) fun δ1 => dm_fact ?_
    rintro rfl
    refine dm_seq (N1 := fun δ H' => δ = [.at p, .d (.int n), .at c, .d (.int t), .d (.int (m : Int)), .d (.int cell), .no] ∧ J1 H') (dm_asgD (ed_ixO (d := .int cell) j1 (i := 2) rfl (fun H h => h.2) (ed_of j1 (ep_var (i := 4) rfl)) (Evl.ixN_nat (by simpa using hm)) hget fun _ => rfl) fun H' hj => ⟨rfl, hj⟩) fun δ1 => dm_fact ?_
    rintro rfl
    refine dm_seq (N1 := fun δ H' => δ = [.at p, .d (.int n), .at c, .d (.int t), .d (.int (m : Int)), .d (.int cell), .no] ∧ J2 H')
      (dm_setO (l := p) (i := 0) (k := 1) (m := 1) (v := .int (t + 1)) (ed_of j1 (ep_op (ep_var (i := 3) rfl) ep_int (rp_l (rp_int (g := fun i j => i + j))))) rfl (ed_of j1 ep_int) (fun H h => h.1) (by simp) rfl (fun _ _ h => h) fun H' hj => ⟨rfl, by rw [upd_same]; rfl, by rw [upd_ne hpc.symm]; exact hj.2⟩) fun δ1 => dm_fact ?_
    rintro rfl
    refine dm_seq (N1 := fun δ H' => δ = [.at p, .d (.int n), .at c, .d (.int t), .d (.int (m : Int)), .d (.int cell), .no] ∧ J2 H')
      (dm_ifD (td_test (ed_of j2 (ep_op (ep_var (i := 5) rfl) ep_pow18 (rp_bl (g := fun i j => decide (j ≤ i)))))) (fun _ => ?_) fun _ => dm_next fun H' hj => ⟨rfl, hj⟩) fun δ1 => dm_fact ?_
    · rename_i hc18
      have c0 : (10 : Int) ^ (18 : Int).toNat ≤ cell := by simpa using hc18
      have c1 : 0 ≤ cell := Int.le_trans (by decide) c0
      have hq : (cell / n).natAbs < 2 ^ 4000 := by
        have z1 := Int.ediv_le_self n c1
        have z2 := Int.ediv_nonneg c1 (by omega : 0 ≤ n)
        omega
      refine dm_seq (N1 := fun δ H' => δ = [.at p, .d (.int n), .at c, .d (.int t), .d (.int (m : Int)), .d (.int cell), .no] ∧ H' p = some (.lst [.ref c, .int (t + 1)]) ∧ H' c = some (.lst ((ns.set m (cell / n)).map V.int)))
        (dm_setO (l := c) (i := 2) (v := .int (cell / n)) (ed_of j2 (ep_op (ep_var (i := 5) rfl) (ep_var (i := 1) rfl) (rp_intC (g := fun i j => i / j) (wide_div (by omega) hz (by decide) (by decide))))) rfl (ed_of j2 (ep_var (i := 4) rfl)) (fun H h => h.2) (by simp) (Evl.ixN_nat (by simpa using hm)) (fun _ _ h => h)
          fun H' hj => ⟨rfl, by rw [upd_ne hpc]; exact hj.1, by rw [upd_same, List.map_set]⟩) fun δ1 => dm_fact ?_
      rintro rfl
      have j3 : Jok [p, c] (fun H' => H' p = some (.lst [.ref c, .int (t + 1)]) ∧ H' c = some (.lst ((ns.set m (cell / n)).map V.int))) := fun _ _ e _ z => ⟨(e p (by simp)).trans z.1, (e c (by simp)).trans z.2⟩
      refine dm_imp (dm_ret (ed_of j3 (ep_op (ep_var (i := 5) rfl) (ep_var (i := 1) rfl) (rp_intC (g := fun i j => i.fmod j) (by omega))))) (fun _ _ z => z) fun v H' ⟨d, hd, e, hj⟩ => ?_
      subst e
      have z := fmod_pos (a := cell) (b := n) (by omega)
      refine ⟨_, hd, z.1, z.2, hj.1, _, hj.2, by rw [List.length_set], fun x hx => ?_⟩
      rcases List.mem_or_eq_of_mem_set hx with hx | rfl
      · exact hb x hx
      · exact hq
    rintro rfl
    have ht : t.natAbs < 2 ^ 21 := by omega
    refine dm_seq (N1 := fun δ H' => ∃ x : Int, x.natAbs < 2 ^ 31 ∧ δ = [.at p, .d (.int n), .at c, .d (.int t), .d (.int (m : Int)), .d (.int cell), .d (.int x)] ∧ J2 H')
      (dm_asgD (ed_of j2 (ep_op (ep_op (ep_op (ep_op (ep_op (ep_var (i := 5) rfl) ep_int (rp_intC (g := fun i j => i.fmod j) (by decide))) ep_int (rp_l (rp_intC (g := fun i j => i * j) (cmul lt31 (show (48271 : Int).natAbs < 2 ^ 31 by decide)))))
        (ep_op (ep_op (ep_var (i := 3) rfl) (ep_var (i := 3) rfl) (rp_l (rp_intC (g := fun i j => i * j) (cmul ht ht)))) ep_int (rp_l (rp_intC (g := fun i j => i * j) (cmul (wide_lt ht ht) (show (69621 : Int).natAbs < 2 ^ 31 by decide)))))
        (rp_l (rp_int (g := fun i j => i + j)))) ep_int (rp_l (rp_int (g := fun i j => i + j)))) ep_int (rp_intC (g := fun i j => i.fmod j) (by decide)))) fun H' hj => ⟨_, lt31c, rfl, hj⟩) fun δ1 => dm_ex fun x => dm_fact fun hx => dm_fact ?_
    rintro rfl
    refine dm_seq (N1 := fun δ H' => ∃ x : Int, x.natAbs < 2 ^ 31 ∧ δ = [.at p, .d (.int n), .at c, .d (.int t), .d (.int (m : Int)), .d (.int cell), .d (.int x)] ∧ J2 H')
      (dm_asgD (ed_of j2 (ep_op (ep_op (ep_var (i := 6) rfl) (ep_var (i := 6) rfl) (rp_l (rp_intC (g := fun i j => i * j) (cmul hx hx)))) ep_int (rp_intC (g := fun i j => i.fmod j) (by decide)))) fun H' hj => ⟨_, lt31, rfl, hj⟩) fun δ1 => dm_ex fun x2 => dm_fact fun hx2 => dm_fact ?_
    rintro rfl
    refine dm_seq (N1 := fun δ H' => ∃ x : Int, x.natAbs < 2 ^ 31 ∧ δ = [.at p, .d (.int n), .at c, .d (.int t), .d (.int (m : Int)), .d (.int cell), .d (.int x)] ∧ J2 H')
      (dm_asgD (ed_of j2 (ep_op (ep_op (ep_var (i := 6) rfl) (ep_var (i := 6) rfl) (rp_l (rp_intC (g := fun i j => i * j) (cmul hx2 hx2)))) ep_int (rp_intC (g := fun i j => i.fmod j) (by decide)))) fun H' hj => ⟨_, lt31b, rfl, hj⟩) fun δ1 => dm_ex fun x3 => dm_fact fun hx3 => dm_fact ?_
    rintro rfl
    exact fin (ed_of j2 (ep_op (ep_var (i := 6) rfl) (ep_var (i := 1) rfl) (rp_intC (g := fun i j => i.fmod j) (by omega)))) (fmod_pos (by omega))
  case fin =>
    subst hv
    refine k r H' r0 r1 (fun a o h1 h2 q => ?_) ⟨⟨ns', t + 1, p1, c1, by omega, by omega, by omega, by omega, b1⟩, hpc⟩
    have z := e' a o (by rw [hid_out (by simp [h1, h2])]; exact q)
    exact (hid_some z).2
end
end K75
namespace K75
open PySem L2 PySem.Spec PyProof.Rows Cp
open Evl (Ex)
section
variable {w : World} {K : PySem.W.Frag} {mg : Str → Option Value} {base : Heap} {A : Ad}
theorem small4000' {n : Int} (h : 0 ≤ n ∧ n ≤ 1000000) : n.natAbs < 2 ^ 4000 := Nat.lt_of_lt_of_le (show n.natAbs < 2 ^ 20 by omega) (Nat.pow_le_pow_right (by decide) (by decide))
def spThing : Sp := fun vs H Q _ => ∃ (O : List Addr) (p c : Addr) (B : Nat), vs = [.ref p] ∧ p ∈ O ∧ c ∈ O ∧ Dom O H ∧ Pu p c B H ∧ B + 2 ≤ 1000000 ∧
  ∀ d u H', Bn 3 1000 d → Kp p c H H' → Pu p c (B + 2) H' → Dt (hid O H') d u → Q u H'
def some1 (k : Int) : List PyData := [.tuple [.str (Str.ofString "row")], .tuple [.str (Str.ofString "deed"), .int k], .tuple [.str (Str.ofString "standing")], .tuple [.str (Str.ofString "posts")], .tuple [.str (Str.ofString "post"), .int k], .tuple [.str (Str.ofString "walkers")], .tuple [.str (Str.ofString "walker"), .int k]]
def some2 (k : Int) : List PyData := [.tuple [.str (Str.ofString "town")], .tuple [.str (Str.ofString "bare"), .int k]]
def some3 (k : Int) : List PyData := [.none, .bool true, .int 0, .int (10 ^ (30 : Int).toNat), .str (Str.ofString ""), .str (Str.ofString "row"), .tuple [], .list [], .tuple [.none], .tuple [.int k, .int k], .list [.str (Str.ofString "deed"), .int k], .tuple [.str (Str.ofString "deed"), .int k, .list [.int k]]]
theorem bn_30 : Bn 0 120 (.int (10 ^ (30 : Int).toNat)) := ⟨by simp [PyData.canLay0], by decide +kernel, by decide +kernel, by decide +kernel, by simp [PyData.depth], by decide +kernel⟩
theorem bn_s (s : Str) (h : (PyData.str s).canLay0 = true ∧ (PyData.str s).leavesShort 40 = true ∧ s.cps.size ≤ 84) : Bn 0 84 (.str s) := bn_str h.1 h.2.1 h.2.2
theorem bn_t1 {s : Str} (h : Bn 0 84 (.str s)) : Bn 1 255 (.tuple [.str s]) := (bn_tuple (D := 0) (W := 84) (n := 1) (bna_cons h bna_nil) (by simp)).mono (by decide) (by decide)
theorem bn_t2 {x y : PyData} (h : Bn 0 84 x) (k : Bn 0 84 y) : Bn 1 255 (.tuple [x, y]) := (bn_tuple (D := 0) (W := 84) (n := 2) (bna_cons h (bna_cons k bna_nil)) (by simp)).mono (by decide) (by decide)
theorem bna_some {k : Int} (h : 0 ≤ k ∧ k < 20) : BnA 3 1000 (some1 k ++ some2 k ++ some3 k) := by
  have hk : Bn 0 84 (.int k) := bn_int (by omega)
  refine bna_app (bna_app (bna_cons (bn_t1 (bn_s _ (by decide +kernel))) (bna_cons (bn_t2 (bn_s _ (by decide +kernel)) hk) (bna_cons (bn_t1 (bn_s _ (by decide +kernel))) (bna_cons (bn_t1 (bn_s _ (by decide +kernel))) (bna_cons (bn_t2 (bn_s _ (by decide +kernel)) hk) (bna_cons (bn_t1 (bn_s _ (by decide +kernel))) (bna_cons (bn_t2 (bn_s _ (by decide +kernel)) hk) bna_nil)))))))
    (bna_cons (bn_t1 (bn_s _ (by decide +kernel))) (bna_cons (bn_t2 (bn_s _ (by decide +kernel)) hk) bna_nil))) ?_
  refine bna_cons bn_none (bna_cons bn_bool (bna_cons (bn_int (by omega)) (bna_cons bn_30 (bna_cons (bn_s _ (by decide +kernel)) (bna_cons (bn_s _ (by decide +kernel)) (bna_cons (bn_tuple (D := 0) (W := 0) (n := 0) bna_nil (by simp)) (bna_cons (bn_list (D := 0) (W := 0) (n := 0) bna_nil (by simp)) (bna_cons (bn_tuple (D := 0) (W := 0) (n := 1) (bna_cons bn_none bna_nil) (by simp)) (bna_cons (bn_t2 hk hk)
    (bna_cons (bn_list (D := 0) (W := 84) (n := 2) (bna_cons (bn_s _ (by decide +kernel)) (bna_cons hk bna_nil)) (by simp)) (bna_cons (bn_tuple (D := 1) (W := 85) (n := 3) (bna_cons (bn_s _ (by decide +kernel)) (bna_cons hk (bna_cons (bn_list (D := 0) (W := 84) (n := 1) (bna_cons hk bna_nil) (by simp)) bna_nil))) (by simp)) bna_nil)))))))))))
theorem G_law_thing (T : Txt K mg A) (Z : Fns K A) : FnOk prg w K mg base CX0 2 A.a_law_thing Z.fd_law_thing ["purse"] (spThing) := by
  refine Fun.ok Z.F_law_thing sc_law_thing (fun vs H Q E h => by obtain ⟨O, p, c, B, rfl, _⟩ := h; rfl) (fun cdv Ar outer s H vs Q E hr h => ⟨_, (pss_cons (ps_set (i := 1) sc_law_thing.nd rfl (by first | exact Or.inl rfl | exact Or.inr rfl) (pe_call (G_law_draw T Z) (hr.mono (by decide)) rfl T.g_law_draw T.k_law_draw Z.b_law_draw .nil pass0 (pa_cons (pv 0) (pa_cons pe_int pa_nil))))
    (pss_cons (ps_set (i := 2) sc_law_thing.nd rfl (by first | exact Or.inl rfl | exact Or.inr rfl) (pe_lst (pa_cons (pe_tup (pa_cons pe_str pa_nil)) (pa_cons (pe_tup (pa_cons pe_str (pa_cons (pv 1) pa_nil))) (pa_cons (pe_tup (pa_cons pe_str pa_nil)) (pa_cons (pe_tup (pa_cons pe_str pa_nil)) (pa_cons (pe_tup (pa_cons pe_str (pa_cons (pv 1) pa_nil))) (pa_cons (pe_tup (pa_cons pe_str pa_nil)) (pa_cons (pe_tup (pa_cons pe_str (pa_cons (pv 1) pa_nil))) pa_nil)))))))))
    (pss_cons (ps_set (i := 2) sc_law_thing.nd rfl (by first | exact Or.inl rfl | exact Or.inr rfl) (pe_op op_addU (pv 2) (pe_lst (pa_cons (pe_tup (pa_cons pe_str pa_nil)) (pa_cons (pe_tup (pa_cons pe_str (pa_cons (pv 1) pa_nil))) pa_nil)))))
    (pss_cons (ps_set (i := 2) sc_law_thing.nd rfl (by first | exact Or.inl rfl | exact Or.inr rfl) (pe_op op_addU (pv 2) (pe_lst (pa_cons pe_non (pa_cons pe_bl (pa_cons pe_int (pa_cons (pe_op op_powW pe_int pe_int) (pa_cons pe_str (pa_cons pe_str (pa_cons (pe_tup pa_nil) (pa_cons (pe_lst pa_nil) (pa_cons (pe_tup (pa_cons pe_non pa_nil)) (pa_cons (pe_tup (pa_cons (pv 1) (pa_cons (pv 1) pa_nil))) (pa_cons (pe_lst (pa_cons pe_str (pa_cons (pv 1) pa_nil))) (pa_cons (pe_tup (pa_cons pe_str (pa_cons (pv 1) (pa_cons (pe_lst (pa_cons (pv 1) pa_nil)) pa_nil)))) pa_nil)))))))))))))))
    (pss_one (ps_ret (pe_ix (kx_ix (K := K) rfl) (pv 2) (pe_call (G_law_draw T Z) (hr.mono (by decide)) rfl T.g_law_draw T.k_law_draw Z.b_law_draw .nil pass0 (pa_cons (pv 0) (pa_cons pe_int pa_nil))) (fun _ _ => rfl)))))))), ?_⟩)
  obtain ⟨O, p, c, B, rfl, hp, hc, hD, pu, hB, k⟩ := h
  have js : Jok O (fun H' => ∀ a ∈ O, a ≠ p → a ≠ c → H' a = H a) := fun H1 H2 s _ h b hb n1 n2 => (s b hb).trans (h b hb n1 n2)
  have jp : ∀ {B : Nat}, Jok O (fun H' => Pu p c B H' ∧ ∀ a ∈ O, a ≠ p → a ≠ c → H' a = H a) := jok_and (Pu.jok hp hc) js
  have kj : ∀ (H1 H2 : Hp), Kp p c H1 H2 → (∀ a ∈ O, a ≠ p → a ≠ c → H1 a = H a) → ∀ a ∈ O, a ≠ p → a ≠ c → H2 a = H a := fun H1 H2 kp h a ha n1 n2 => by
    cases z : H a with
    | none => exact absurd z (hD a ha)
    | some o => exact kp a o n1 n2 ((h a ha n1 n2).trans z)
  have s0 : SD (hid O H) [.at p, .no, .no] (L2.start ["purse", "k", "some"] [.ref p]) := sd_cons rfl (sd_cons trivial (sd_cons trivial sd_nil))
  refine ha_seq (ha_asgM (O := O) (J := fun H' => Pu p c B H' ∧ ∀ a ∈ O, a ≠ p → a ≠ c → H' a = H a) (P := fun d H' => (∃ r : Int, d = .int r ∧ 0 ≤ r ∧ r < 20) ∧ Pu p c (B + 1) H' ∧ ∀ a ∈ O, a ≠ p → a ≠ c → H' a = H a) (em_draw (J := fun H' => ∀ a ∈ O, a ≠ p → a ≠ c → H' a = H a) (i := 0) (n := 20) hp hc rfl (ed_of jp ep_int) (by decide) (small4000' (by decide)) (by omega) kj) ⟨pu, fun _ _ _ _ => rfl⟩ hD s0 fun d v1 H1 hd d1 e1 hv1 s1 => ?_)
  obtain ⟨⟨r, rfl, r0, r1⟩, pu1⟩ := hd
  clear hv1
  dsimp only
  have s2 : ∀ {s : Str} {δ : List Sl}, δ.getD 1 .no = .d (.int r) → Cp.EP O (tTup (tCons (tC (.str s)) (tCons (tVar 1) tNil))) δ (.tuple [.str s, .int r]) := fun h => ep_tup (ap_cons ep_str (ap_cons (ep_var h) ap_nil)) (by simp)
  have s1' : ∀ {s : Str} {δ : List Sl}, Cp.EP O (tTup (tCons (tC (.str s)) tNil)) δ (.tuple [.str s]) := fun {s δ} => ep_tup (ap_cons ep_str ap_nil) (by simp)
  refine ha_seq (ha_asg (d := .list (some1 r)) (ep_lst (ds := some1 r) (ap_cons s1' (ap_cons (s2 rfl) (ap_cons s1' (ap_cons s1' (ap_cons (s2 rfl) (ap_cons s1' (ap_cons (s2 rfl) ap_nil))))))) (by show (7 : Nat) ≤ _; decide)) d1 s1 fun v2 H2 e2 hv2 t2 => ?_)
  have d2 := d1.ex e2
  have pu2 : Pu p c (B + 1) H2 ∧ ∀ a ∈ O, a ≠ p → a ≠ c → H2 a = H a := jp.ex d1 e2 pu1
  dsimp only
  refine ha_seq (ha_asg (d := .list (some1 r ++ some2 r)) (ep_op (ep_var (i := 2) rfl) (ep_lst (ds := some2 r) (ap_cons s1' (ap_cons (s2 rfl) ap_nil)) (by show (2 : Nat) ≤ _; decide)) (rp_r (rp_cat (by show (7 + 2 : Nat) ≤ _; decide)))) d2 t2 fun v3 H3 e3 hv3 t3 => ?_)
  have d3 := d2.ex e3
  have pu3 : Pu p c (B + 1) H3 ∧ ∀ a ∈ O, a ≠ p → a ≠ c → H3 a = H a := jp.ex d2 e3 pu2
  dsimp only
  refine ha_seq (ha_asg (d := .list (some1 r ++ some2 r ++ some3 r)) (ep_op (ep_var (i := 2) rfl) (ep_lst (ds := some3 r) (ap_cons ep_non (ap_cons ep_bl (ap_cons ep_int (ap_cons (ep_op ep_int ep_int (rp_intC (g := fun i j => i ^ j.toNat) ⟨by decide, by decide +kernel⟩)) (ap_cons ep_str (ap_cons ep_str (ap_cons (ep_tup ap_nil (by simp)) (ap_cons (ep_lst ap_nil (by simp)) (ap_cons (ep_tup (ap_cons ep_non ap_nil) (by simp))
    (ap_cons (ep_tup (ap_cons (ep_var (i := 1) rfl) (ap_cons (ep_var (i := 1) rfl) ap_nil)) (by simp)) (ap_cons (ep_lst (ap_cons ep_str (ap_cons (ep_var (i := 1) rfl) ap_nil)) (by simp)) (ap_cons (ep_tup (ap_cons ep_str (ap_cons (ep_var (i := 1) rfl) (ap_cons (ep_lst (ap_cons (ep_var (i := 1) rfl) ap_nil) (by simp)) ap_nil))) (by simp)) ap_nil)))))))))))) (by show (12 : Nat) ≤ _; decide)) (rp_r (rp_cat (by show (9 + 12 : Nat) ≤ _; decide)))) d3 t3 fun v4 H4 e4 hv4 t4 => ?_)
  have d4 := d3.ex e4
  have pu4 : Pu p c (B + 1) H4 ∧ ∀ a ∈ O, a ≠ p → a ≠ c → H4 a = H a := jp.ex d3 e4 pu3
  have hb := bna_some ⟨r0, r1⟩
  have hl : (some1 r ++ some2 r ++ some3 r).length = 21 := rfl
  clear hv2 hv3 hv4
  generalize some1 r ++ some2 r ++ some3 r = some at t4 hb hl
  dsimp only
  refine dm_run (O := O) (J := fun H' => Pu p c (B + 1) H' ∧ ∀ a ∈ O, a ≠ p → a ≠ c → H' a = H a) (δ := [.at p, .d (.int r), .d (.list some)]) (N := fun _ _ => False) (R := RD O fun d H' => d ∈ some ∧ Pu p c (B + 1 + 1) H' ∧ ∀ a ∈ O, a ≠ p → a ≠ c → H' a = H a)
    (dm_ret (em_ixDraw (J := fun H' => ∀ a ∈ O, a ≠ p → a ≠ c → H' a = H a) (i := 0) (n := 21) hp hc rfl js (ed_of jp (ep_var (i := 2) rfl)) (ed_of jp ep_int) (by decide) (small4000' (by decide)) (by omega) (by omega) kj)) pu4 d4 t4 (fun _ _ _ z => z.elim) fun v H5 hr _ e5 => ?_
  obtain ⟨d, hd, hm, pu5, same⟩ := hr
  refine k d v H5 (hb d hm) (fun a o h1 h2 q => ?_) pu5 hd
  by_cases ha : a ∈ O
  · rw [same a ha h1 h2]
    exact q
  · have z1 := e1 a o (by rw [hid_out ha]; exact q)
    exact (hid_some (e5 a o (hid_ex ((e2.trans e3).trans e4) a o z1))).2
end
end K75
namespace K75
open PySem L2 PySem.Spec PyProof.Rows Cp
open Evl (Ex)
section
variable {w : World} {K : PySem.W.Frag} {mg : Str → Option Value} {base : Heap} {A : Ad}
/-- the classes in the law's order -/
def cl (A : Ad) : Nat → Addr
  | 0 => A.NoChoice
  | 1 => A.NoEnd
  | 2 => A.NoGoers
  | 3 => A.NoName
  | 4 => A.NoNumber
  | 5 => A.NoPair
  | 6 => A.NoPlace
  | 7 => A.NoWishes
  | 8 => A.NoRow
  | 9 => A.NoStanding
  | 10 => A.NoTown
  | _ => A.PostError
theorem kk (T : Txt K mg A) : ∀ (i j : Nat), i < 11 → j < 11 → PySem.W.kitOne K (.ref (cl A i)) (.ref (cl A j)) = some (decide (i = j)) := fun i j hi hj => match i, hi, j, hj with
  | 0, _, 0, _ => T.t_NoChoice_NoChoice
  | 0, _, 1, _ => T.t_NoChoice_NoEnd
  | 0, _, 2, _ => T.t_NoChoice_NoGoers
  | 0, _, 3, _ => T.t_NoChoice_NoName
  | 0, _, 4, _ => T.t_NoChoice_NoNumber
  | 0, _, 5, _ => T.t_NoChoice_NoPair
  | 0, _, 6, _ => T.t_NoChoice_NoPlace
  | 0, _, 7, _ => T.t_NoChoice_NoWishes
  | 0, _, 8, _ => T.t_NoChoice_NoRow
  | 0, _, 9, _ => T.t_NoChoice_NoStanding
  | 0, _, 10, _ => T.t_NoChoice_NoTown
  | 1, _, 0, _ => T.t_NoEnd_NoChoice
  | 1, _, 1, _ => T.t_NoEnd_NoEnd
  | 1, _, 2, _ => T.t_NoEnd_NoGoers
  | 1, _, 3, _ => T.t_NoEnd_NoName
  | 1, _, 4, _ => T.t_NoEnd_NoNumber
  | 1, _, 5, _ => T.t_NoEnd_NoPair
  | 1, _, 6, _ => T.t_NoEnd_NoPlace
  | 1, _, 7, _ => T.t_NoEnd_NoWishes
  | 1, _, 8, _ => T.t_NoEnd_NoRow
  | 1, _, 9, _ => T.t_NoEnd_NoStanding
  | 1, _, 10, _ => T.t_NoEnd_NoTown
  | 2, _, 0, _ => T.t_NoGoers_NoChoice
  | 2, _, 1, _ => T.t_NoGoers_NoEnd
  | 2, _, 2, _ => T.t_NoGoers_NoGoers
  | 2, _, 3, _ => T.t_NoGoers_NoName
  | 2, _, 4, _ => T.t_NoGoers_NoNumber
  | 2, _, 5, _ => T.t_NoGoers_NoPair
  | 2, _, 6, _ => T.t_NoGoers_NoPlace
  | 2, _, 7, _ => T.t_NoGoers_NoWishes
  | 2, _, 8, _ => T.t_NoGoers_NoRow
  | 2, _, 9, _ => T.t_NoGoers_NoStanding
  | 2, _, 10, _ => T.t_NoGoers_NoTown
  | 3, _, 0, _ => T.t_NoName_NoChoice
  | 3, _, 1, _ => T.t_NoName_NoEnd
  | 3, _, 2, _ => T.t_NoName_NoGoers
  | 3, _, 3, _ => T.t_NoName_NoName
  | 3, _, 4, _ => T.t_NoName_NoNumber
  | 3, _, 5, _ => T.t_NoName_NoPair
  | 3, _, 6, _ => T.t_NoName_NoPlace
  | 3, _, 7, _ => T.t_NoName_NoWishes
  | 3, _, 8, _ => T.t_NoName_NoRow
  | 3, _, 9, _ => T.t_NoName_NoStanding
  | 3, _, 10, _ => T.t_NoName_NoTown
  | 4, _, 0, _ => T.t_NoNumber_NoChoice
  | 4, _, 1, _ => T.t_NoNumber_NoEnd
  | 4, _, 2, _ => T.t_NoNumber_NoGoers
  | 4, _, 3, _ => T.t_NoNumber_NoName
  | 4, _, 4, _ => T.t_NoNumber_NoNumber
  | 4, _, 5, _ => T.t_NoNumber_NoPair
  | 4, _, 6, _ => T.t_NoNumber_NoPlace
  | 4, _, 7, _ => T.t_NoNumber_NoWishes
  | 4, _, 8, _ => T.t_NoNumber_NoRow
  | 4, _, 9, _ => T.t_NoNumber_NoStanding
  | 4, _, 10, _ => T.t_NoNumber_NoTown
  | 5, _, 0, _ => T.t_NoPair_NoChoice
  | 5, _, 1, _ => T.t_NoPair_NoEnd
  | 5, _, 2, _ => T.t_NoPair_NoGoers
  | 5, _, 3, _ => T.t_NoPair_NoName
  | 5, _, 4, _ => T.t_NoPair_NoNumber
  | 5, _, 5, _ => T.t_NoPair_NoPair
  | 5, _, 6, _ => T.t_NoPair_NoPlace
  | 5, _, 7, _ => T.t_NoPair_NoWishes
  | 5, _, 8, _ => T.t_NoPair_NoRow
  | 5, _, 9, _ => T.t_NoPair_NoStanding
  | 5, _, 10, _ => T.t_NoPair_NoTown
  | 6, _, 0, _ => T.t_NoPlace_NoChoice
  | 6, _, 1, _ => T.t_NoPlace_NoEnd
  | 6, _, 2, _ => T.t_NoPlace_NoGoers
  | 6, _, 3, _ => T.t_NoPlace_NoName
  | 6, _, 4, _ => T.t_NoPlace_NoNumber
  | 6, _, 5, _ => T.t_NoPlace_NoPair
  | 6, _, 6, _ => T.t_NoPlace_NoPlace
  | 6, _, 7, _ => T.t_NoPlace_NoWishes
  | 6, _, 8, _ => T.t_NoPlace_NoRow
  | 6, _, 9, _ => T.t_NoPlace_NoStanding
  | 6, _, 10, _ => T.t_NoPlace_NoTown
  | 7, _, 0, _ => T.t_NoWishes_NoChoice
  | 7, _, 1, _ => T.t_NoWishes_NoEnd
  | 7, _, 2, _ => T.t_NoWishes_NoGoers
  | 7, _, 3, _ => T.t_NoWishes_NoName
  | 7, _, 4, _ => T.t_NoWishes_NoNumber
  | 7, _, 5, _ => T.t_NoWishes_NoPair
  | 7, _, 6, _ => T.t_NoWishes_NoPlace
  | 7, _, 7, _ => T.t_NoWishes_NoWishes
  | 7, _, 8, _ => T.t_NoWishes_NoRow
  | 7, _, 9, _ => T.t_NoWishes_NoStanding
  | 7, _, 10, _ => T.t_NoWishes_NoTown
  | 8, _, 0, _ => T.t_NoRow_NoChoice
  | 8, _, 1, _ => T.t_NoRow_NoEnd
  | 8, _, 2, _ => T.t_NoRow_NoGoers
  | 8, _, 3, _ => T.t_NoRow_NoName
  | 8, _, 4, _ => T.t_NoRow_NoNumber
  | 8, _, 5, _ => T.t_NoRow_NoPair
  | 8, _, 6, _ => T.t_NoRow_NoPlace
  | 8, _, 7, _ => T.t_NoRow_NoWishes
  | 8, _, 8, _ => T.t_NoRow_NoRow
  | 8, _, 9, _ => T.t_NoRow_NoStanding
  | 8, _, 10, _ => T.t_NoRow_NoTown
  | 9, _, 0, _ => T.t_NoStanding_NoChoice
  | 9, _, 1, _ => T.t_NoStanding_NoEnd
  | 9, _, 2, _ => T.t_NoStanding_NoGoers
  | 9, _, 3, _ => T.t_NoStanding_NoName
  | 9, _, 4, _ => T.t_NoStanding_NoNumber
  | 9, _, 5, _ => T.t_NoStanding_NoPair
  | 9, _, 6, _ => T.t_NoStanding_NoPlace
  | 9, _, 7, _ => T.t_NoStanding_NoWishes
  | 9, _, 8, _ => T.t_NoStanding_NoRow
  | 9, _, 9, _ => T.t_NoStanding_NoStanding
  | 9, _, 10, _ => T.t_NoStanding_NoTown
  | 10, _, 0, _ => T.t_NoTown_NoChoice
  | 10, _, 1, _ => T.t_NoTown_NoEnd
  | 10, _, 2, _ => T.t_NoTown_NoGoers
  | 10, _, 3, _ => T.t_NoTown_NoName
  | 10, _, 4, _ => T.t_NoTown_NoNumber
  | 10, _, 5, _ => T.t_NoTown_NoPair
  | 10, _, 6, _ => T.t_NoTown_NoPlace
  | 10, _, 7, _ => T.t_NoTown_NoWishes
  | 10, _, 8, _ => T.t_NoTown_NoRow
  | 10, _, 9, _ => T.t_NoTown_NoStanding
  | 10, _, 10, _ => T.t_NoTown_NoTown
theorem kV (T : Txt K mg A) : ∀ (i : Nat), i < 11 → PySem.W.kitOne K (.ref (cl A i)) (.type "ValueError") = some true := fun i hi => match i, hi with
  | 0, _ => T.t_NoChoice_ValueError
  | 1, _ => T.t_NoEnd_ValueError
  | 2, _ => T.t_NoGoers_ValueError
  | 3, _ => T.t_NoName_ValueError
  | 4, _ => T.t_NoNumber_ValueError
  | 5, _ => T.t_NoPair_ValueError
  | 6, _ => T.t_NoPlace_ValueError
  | 7, _ => T.t_NoWishes_ValueError
  | 8, _ => T.t_NoRow_ValueError
  | 9, _ => T.t_NoStanding_ValueError
  | 10, _ => T.t_NoTown_ValueError
theorem kM (T : Txt K mg A) : ∀ (i : Nat), i < 11 → PySem.W.exmOne K (.ref (cl A i)) (.ref A.PostError) = some true := fun i hi => match i, hi with
  | 0, _ => T.m_NoChoice_PostError
  | 1, _ => T.m_NoEnd_PostError
  | 2, _ => T.m_NoGoers_PostError
  | 3, _ => T.m_NoName_PostError
  | 4, _ => T.m_NoNumber_PostError
  | 5, _ => T.m_NoPair_PostError
  | 6, _ => T.m_NoPlace_PostError
  | 7, _ => T.m_NoWishes_PostError
  | 8, _ => T.m_NoRow_PostError
  | 9, _ => T.m_NoStanding_PostError
  | 10, _ => T.m_NoTown_PostError
theorem kE (T : Txt K mg A) : ∀ (i : Nat), i < 11 → ExcC K (cl A i) := fun i hi => match i, hi with
  | 0, _ => T.e_NoChoice
  | 1, _ => T.e_NoEnd
  | 2, _ => T.e_NoGoers
  | 3, _ => T.e_NoName
  | 4, _ => T.e_NoNumber
  | 5, _ => T.e_NoPair
  | 6, _ => T.e_NoPlace
  | 7, _ => T.e_NoWishes
  | 8, _ => T.e_NoRow
  | 9, _ => T.e_NoStanding
  | 10, _ => T.e_NoTown
theorem kF (T : Txt K mg A) : ∀ (i : Nat), i < 11 → XfC K (cl A i) := fun i hi => match i, hi with
  | 0, _ => T.f_NoChoice
  | 1, _ => T.f_NoEnd
  | 2, _ => T.f_NoGoers
  | 3, _ => T.f_NoName
  | 4, _ => T.f_NoNumber
  | 5, _ => T.f_NoPair
  | 6, _ => T.f_NoPlace
  | 7, _ => T.f_NoWishes
  | 8, _ => T.f_NoRow
  | 9, _ => T.f_NoStanding
  | 10, _ => T.f_NoTown
theorem Kept.ex {H H' : Hp} {a D : Addr} (h : Kept K H a D) (e : Ex H H') : Kept K H' a D := by
  obtain ⟨d, h1, h2, h3⟩ := h
  exact ⟨d, e _ _ h1, fun dd hd => by
    obtain ⟨fs, z⟩ := h2 dd hd
    exact ⟨fs, e _ _ z⟩, h3⟩
theorem Kept.jok {O : List Addr} {a D : Addr} : Jok O (fun H => Kept K (hid O H) a D) := fun H H' _ e h => Kept.ex h e
theorem jok_same {O : List Addr} (H0 : Hp) : Jok O (fun H => ∀ b ∈ O, H b = H0 b) := fun H H' s _ h b hb => (s b hb).trans (h b hb)
theorem ex_of {O : List Addr} {H H' : Hp} (e : Ex (hid O H) (hid O H')) (s : ∀ b ∈ O, H' b = H b) : Ex H H' := fun a o q => by
  by_cases c : a ∈ O
  · rw [s a c]; exact q
  · exact hid_le a o (e a o (by rw [hid_out c]; exact q))
section
variable {O : List Addr} {J : Hp → Prop} {δ : List Sl} {te : TE} {tr : TA}
theorem ed_isK {i : Nat} {a D c : Addr} {b : Bool} (hs : δ.getD i .no = .at a) (hk : ∀ H, J H → Kept K H a D) (e : PySem.W.kitOne K (.ref D) (.ref c) = some b) : ED O J (tCB (rIsU K) (tCons (tVar i) (tCons (tC (.ref c)) tNil))) δ (.bool b) := fun σ H hJ hD hS Q q =>
  ⟨_, hS.loc hs, Or.inr ⟨_, _, _, _, _, rfl, hk H hJ, .own _, e, q _ _ H ⟨rfl, hJ⟩ hD (Ex.refl _) rfl⟩⟩
theorem ad_nil : AD O J tNil δ [] := fun σ H hJ hD hS Q q => q [] [] H ⟨rfl, hJ⟩ hD (Ex.refl _) rfl
theorem ad_cons {d : PyData} {ds : List PyData} (h : ED O J te δ d) (hr : AD O J tr δ ds) : AD O J (tCons te tr) δ (d :: ds) := fun σ H hJ hD hS Q q =>
  h σ H hJ hD hS _ fun e v H1 p1 d1 e1 hv => hr σ H1 p1.2 d1 (hS.mono e1) _ fun es vs H2 p2 d2 e2 hvs => q (d :: ds) (v :: vs) H2 ⟨rfl, p2.2⟩ d2 (e1.trans e2) (by
    rw [p1.1] at hv
    rw [p2.1] at hvs
    exact ⟨v, vs, rfl, Dt.mono e2 d v hv, hvs⟩)
theorem ed_lst {ds : List PyData} (jk : Jok O J) (h : AD O J tr δ ds) (hl : ds.length ≤ 100000) : ED O J (tLst tr) δ (.list ds) :=
  em_lst (P := fun xs H => xs = ds ∧ J H) h (fun xs H p => by rw [p.1]; exact hl) fun xs H H' p hD e => ⟨by rw [p.1], jk.ex hD e p.2⟩
end
def spMarks (A : Ad) (K : PySem.W.Frag) : Sp := fun vs H Q _ => ∃ (O : List Addr) (a : Addr) (k : Nat), vs = [.ref a] ∧ Dom O H ∧ k < 11 ∧ Kept K (hid O H) a (cl A k) ∧ ∀ v H', Ex H H' → Dt (hid O H') (.list [.int (k : Int)]) v → Q v H'
def bl (k j : Nat) : PyData := .bool (decide (k = j))
def bls (k : Nat) : List PyData := [bl k 0, bl k 1, bl k 2] ++ [bl k 3, bl k 4, bl k 5] ++ [bl k 6, bl k 7, bl k 8] ++ [bl k 9, bl k 10]
def markOf (k j : Nat) : Option PyData := if decide (k = j) = true then some (.int (j : Int)) else none
theorem bls_get : ∀ (k j : Nat), j < 11 → (bls k)[j]? = some (bl k j) := fun k j hj => match j, hj with
  | 0, _ => rfl
  | 1, _ => rfl
  | 2, _ => rfl
  | 3, _ => rfl
  | 4, _ => rfl
  | 5, _ => rfl
  | 6, _ => rfl
  | 7, _ => rfl
  | 8, _ => rfl
  | 9, _ => rfl
  | 10, _ => rfl
theorem marks_one : ∀ (k : Nat), k < 11 → (List.range 11).filterMap (markOf k) = [.int (k : Int)] := fun k hk => match k, hk with
  | 0, _ => rfl
  | 1, _ => rfl
  | 2, _ => rfl
  | 3, _ => rfl
  | 4, _ => rfl
  | 5, _ => rfl
  | 6, _ => rfl
  | 7, _ => rfl
  | 8, _ => rfl
  | 9, _ => rfl
  | 10, _ => rfl
theorem G_law_marks (T : Txt K mg A) (Z : Fns K A) : FnOk prg w K mg base CX0 1 A.a_law_marks Z.fd_law_marks ["caught"] (spMarks A K) := by
  refine Fun.ok Z.F_law_marks sc_law_marks (fun vs H Q E h => by obtain ⟨O, a, k, rfl, _⟩ := h; rfl) (fun cdv Ar outer s H vs Q E hr h => ⟨_, (pss_cons (ps_set (i := 1) sc_law_marks.nd rfl (by first | exact Or.inl rfl | exact Or.inr rfl) (pe_lst (pa_cons (pe_callB (kx_isi (K := K) rfl) (by rfl) T.n_isinstance (by decide +kernel) (pa_cons (pv 0) (pa_cons (pe_glob (v := .ref A.NoChoice) rfl T.g_NoChoice rfl) pa_nil))) (pa_cons (pe_callB (kx_isi (K := K) rfl) (by rfl) T.n_isinstance (by decide +kernel) (pa_cons (pv 0) (pa_cons (pe_glob (v := .ref A.NoEnd) rfl T.g_NoEnd rfl) pa_nil))) (pa_cons (pe_callB (kx_isi (K := K) rfl) (by rfl) T.n_isinstance (by decide +kernel) (pa_cons (pv 0) (pa_cons (pe_glob (v := .ref A.NoGoers) rfl T.g_NoGoers rfl) pa_nil))) pa_nil)))))
    (pss_cons (ps_set (i := 1) sc_law_marks.nd rfl (by first | exact Or.inl rfl | exact Or.inr rfl) (pe_op op_addU (pv 1) (pe_lst (pa_cons (pe_callB (kx_isi (K := K) rfl) (by rfl) T.n_isinstance (by decide +kernel) (pa_cons (pv 0) (pa_cons (pe_glob (v := .ref A.NoName) rfl T.g_NoName rfl) pa_nil))) (pa_cons (pe_callB (kx_isi (K := K) rfl) (by rfl) T.n_isinstance (by decide +kernel) (pa_cons (pv 0) (pa_cons (pe_glob (v := .ref A.NoNumber) rfl T.g_NoNumber rfl) pa_nil))) (pa_cons (pe_callB (kx_isi (K := K) rfl) (by rfl) T.n_isinstance (by decide +kernel) (pa_cons (pv 0) (pa_cons (pe_glob (v := .ref A.NoPair) rfl T.g_NoPair rfl) pa_nil))) pa_nil))))))
    (pss_cons (ps_set (i := 1) sc_law_marks.nd rfl (by first | exact Or.inl rfl | exact Or.inr rfl) (pe_op op_addU (pv 1) (pe_lst (pa_cons (pe_callB (kx_isi (K := K) rfl) (by rfl) T.n_isinstance (by decide +kernel) (pa_cons (pv 0) (pa_cons (pe_glob (v := .ref A.NoPlace) rfl T.g_NoPlace rfl) pa_nil))) (pa_cons (pe_callB (kx_isi (K := K) rfl) (by rfl) T.n_isinstance (by decide +kernel) (pa_cons (pv 0) (pa_cons (pe_glob (v := .ref A.NoWishes) rfl T.g_NoWishes rfl) pa_nil))) (pa_cons (pe_callB (kx_isi (K := K) rfl) (by rfl) T.n_isinstance (by decide +kernel) (pa_cons (pv 0) (pa_cons (pe_glob (v := .ref A.NoRow) rfl T.g_NoRow rfl) pa_nil))) pa_nil))))))
    (pss_cons (ps_set (i := 1) sc_law_marks.nd rfl (by first | exact Or.inl rfl | exact Or.inr rfl) (pe_op op_addU (pv 1) (pe_lst (pa_cons (pe_callB (kx_isi (K := K) rfl) (by rfl) T.n_isinstance (by decide +kernel) (pa_cons (pv 0) (pa_cons (pe_glob (v := .ref A.NoStanding) rfl T.g_NoStanding rfl) pa_nil))) (pa_cons (pe_callB (kx_isi (K := K) rfl) (by rfl) T.n_isinstance (by decide +kernel) (pa_cons (pv 0) (pa_cons (pe_glob (v := .ref A.NoTown) rfl T.g_NoTown rfl) pa_nil))) pa_nil)))))
    (pss_one (ps_ret (pe_lc (own := [("k", 2)]) rfl sc_law_marks.nd (pi_range1 rfl T.n_range (pa_cons pe_int pa_nil)) (blkOk_by (own := [("k", 2)]) (N := ["caught", "found", "k"]) (sc := defScope s_law_marks) (by decide +kernel)) (fun _ _ _ _ _ => (pg_name (i := 2) sc_law_marks.nd rfl (by first | exact Or.inl rfl | exact Or.inr rfl))) (fun _ _ _ _ _ => (pts_one (pt_val (pe_ix (kx_ix (K := K) rfl) (pv 1) (pv 2) (fun _ _ => rfl))))) (fun _ _ _ _ _ => (pv 2))))))))), ?_⟩)
  obtain ⟨O, a, k, rfl, hD, hk, hkp, kk'⟩ := h
  have s0 : SD (hid O H) [.at a, .no, .no] (L2.start ["caught", "found", "k"] [.ref a]) := sd_cons rfl (sd_cons trivial (sd_cons trivial sd_nil))
  have jk : Jok O (fun H' => Kept K (hid O H') a (cl A k) ∧ ∀ b ∈ O, H' b = H b) := jok_and Kept.jok (jok_same H)
  have hkept : ∀ H', (Kept K (hid O H') a (cl A k) ∧ ∀ b ∈ O, H' b = H b) → Kept K H' a (cl A k) := fun H' h => Kept.ex h.1 hid_le
  have is : ∀ {δ : List Sl} {j : Nat}, δ.getD 0 .no = .at a → j < 11 → ED O (fun H' => Kept K (hid O H') a (cl A k) ∧ ∀ b ∈ O, H' b = H b) (tCB (rIsU K) (tCons (tVar 0) (tCons (tC (.ref (cl A j))) tNil))) δ (bl k j) := fun h hj => ed_isK h hkept (kk T _ _ hk hj)
  refine dm_run (O := O) (J := fun H' => Kept K (hid O H') a (cl A k) ∧ ∀ b ∈ O, H' b = H b) (δ := [.at a, .no, .no]) (N := fun _ _ => False) (R := RD O fun d H' => d = .list [.int (k : Int)] ∧ Kept K (hid O H') a (cl A k) ∧ ∀ b ∈ O, H' b = H b) ?_ ⟨hkp, fun _ _ => rfl⟩ hD s0 (fun _ _ _ z => z.elim) fun v H' r _ e => ?_
  · refine dm_seq (N1 := fun δ H' => δ = [.at a, .d (.list [bl k 0, bl k 1, bl k 2]), .no] ∧ Kept K (hid O H') a (cl A k) ∧ ∀ b ∈ O, H' b = H b) (dm_asgD (i := 1) (ed_lst jk (ad_cons (is (j := 0) rfl (by decide)) (ad_cons (is (j := 1) rfl (by decide)) (ad_cons (is (j := 2) rfl (by decide)) ad_nil))) (by simp)) fun H h => ⟨rfl, h⟩) fun δ1 => dm_fact ?_
    rintro rfl
    refine dm_seq (N1 := fun δ H' => δ = [.at a, .d (.list ([bl k 0, bl k 1, bl k 2] ++ [bl k 3, bl k 4, bl k 5])), .no] ∧ Kept K (hid O H') a (cl A k) ∧ ∀ b ∈ O, H' b = H b) (dm_asgD (i := 1) (ed_op jk (ed_of jk (ep_var (i := 1) rfl)) (ed_lst jk (ad_cons (is (j := 3) rfl (by decide)) (ad_cons (is (j := 4) rfl (by decide)) (ad_cons (is (j := 5) rfl (by decide)) ad_nil))) (by simp)) (rp_r (rp_cat (by simp)))) fun H h => ⟨rfl, h⟩) fun δ1 => dm_fact ?_
    rintro rfl
    refine dm_seq (N1 := fun δ H' => δ = [.at a, .d (.list ([bl k 0, bl k 1, bl k 2] ++ [bl k 3, bl k 4, bl k 5] ++ [bl k 6, bl k 7, bl k 8])), .no] ∧ Kept K (hid O H') a (cl A k) ∧ ∀ b ∈ O, H' b = H b) (dm_asgD (i := 1) (ed_op jk (ed_of jk (ep_var (i := 1) rfl)) (ed_lst jk (ad_cons (is (j := 6) rfl (by decide)) (ad_cons (is (j := 7) rfl (by decide)) (ad_cons (is (j := 8) rfl (by decide)) ad_nil))) (by simp)) (rp_r (rp_cat (by simp)))) fun H h => ⟨rfl, h⟩) fun δ1 => dm_fact ?_
    rintro rfl
    refine dm_seq (N1 := fun δ H' => δ = [.at a, .d (.list (bls k)), .no] ∧ Kept K (hid O H') a (cl A k) ∧ ∀ b ∈ O, H' b = H b) (dm_asgD (i := 1) (ed_op jk (ed_of jk (ep_var (i := 1) rfl)) (ed_lst jk (ad_cons (is (j := 9) rfl (by decide)) (ad_cons (is (j := 10) rfl (by decide)) ad_nil)) (by simp)) (rp_r (rp_cat (by simp)))) fun H h => ⟨rfl, h⟩) fun δ1 => dm_fact ?_
    rintro rfl
    refine dm_ret (ed_is (ed_of jk (ep_lc (n := 11) (ix := [2]) (item := fun j => .int (j : Int)) (f := markOf k) (fun O' => wp_rng1 (ap_cons ep_int ap_nil) (by decide)) (by decide) (by decide) fun O' j hj => ⟨_, gb_name, ?_, fun y hy => ?_⟩)) (by rw [marks_one k hk]))
    · refine tp_is (tp_B (ep_op (ep_var (i := 1) rfl) (ep_var (i := 2) (x := .int (j : Int)) rfl) (rp_ix1 (rp_ixL (j := j) (Evl.ixN_nat (by show j < 11; exact hj)) (bls_get k j hj))))) ?_
      unfold markOf
      split <;> simp_all
    · unfold markOf at hy
      split at hy
      · cases hy
        exact ep_var rfl
      · cases hy
  · obtain ⟨d, hd, rfl, _, hs⟩ := r
    exact kk' v H' (ex_of e hs) hd
end
end K75
namespace K75
open PySem L2 PySem.Spec PyProof.Rows Cp
open Evl (Ex)
section
variable {w : World} {K : PySem.W.Frag} {mg : Str → Option Value} {base : Heap} {A : Ad}
theorem dom_nil {H : Hp} : Dom [] H := fun a h => by cases h
def spBare (A : Ad) : Sp := fun vs H Q E => ∃ k : Nat, vs = [.int (k : Int)] ∧ k < 8 ∧ ∀ H', Ex H H' → E (.ref (cl A k)) none H'
theorem G_law_bare (T : Txt K mg A) (Z : Fns K A) : FnOk prg w K mg base (L2.CX prg w) 1 A.a_law_bare Z.fd_law_bare ["which"] (spBare A) := by
  refine Fun.okX Z.F_law_bare sc_law_bare (fun vs H Q E h => by obtain ⟨k, rfl, _⟩ := h; rfl) (fun cdv Ar outer s H vs Q E hr h => ⟨_, (pss_cons (ps_if (pt_cmpR (kx_eq (K := K) rfl hr.units) (pv 0) pe_int (nomark _)) (pss_one (ps_raise rfl (takes_of rfl rfl rfl rfl) (pmk_own0 PySem.F.excBase_ValueError T.o_NoChoice.x T.g_NoChoice T.o_NoChoice.k (raises_own T.o_NoChoice.s T.o_NoChoice.t) rfl))) pss_nil)
    (pss_cons (ps_if (pt_cmpR (kx_eq (K := K) rfl hr.units) (pv 0) pe_int (nomark _)) (pss_one (ps_raise rfl (takes_of rfl rfl rfl rfl) (pmk_own0 PySem.F.excBase_ValueError T.o_NoEnd.x T.g_NoEnd T.o_NoEnd.k (raises_own T.o_NoEnd.s T.o_NoEnd.t) rfl))) pss_nil)
    (pss_cons (ps_if (pt_cmpR (kx_eq (K := K) rfl hr.units) (pv 0) pe_int (nomark _)) (pss_one (ps_raise rfl (takes_of rfl rfl rfl rfl) (pmk_own0 PySem.F.excBase_ValueError T.o_NoGoers.x T.g_NoGoers T.o_NoGoers.k (raises_own T.o_NoGoers.s T.o_NoGoers.t) rfl))) pss_nil)
    (pss_cons (ps_if (pt_cmpR (kx_eq (K := K) rfl hr.units) (pv 0) pe_int (nomark _)) (pss_one (ps_raise rfl (takes_of rfl rfl rfl rfl) (pmk_own0 PySem.F.excBase_ValueError T.o_NoName.x T.g_NoName T.o_NoName.k (raises_own T.o_NoName.s T.o_NoName.t) rfl))) pss_nil)
    (pss_cons (ps_if (pt_cmpR (kx_eq (K := K) rfl hr.units) (pv 0) pe_int (nomark _)) (pss_one (ps_raise rfl (takes_of rfl rfl rfl rfl) (pmk_own0 PySem.F.excBase_ValueError T.o_NoNumber.x T.g_NoNumber T.o_NoNumber.k (raises_own T.o_NoNumber.s T.o_NoNumber.t) rfl))) pss_nil)
    (pss_cons (ps_if (pt_cmpR (kx_eq (K := K) rfl hr.units) (pv 0) pe_int (nomark _)) (pss_one (ps_raise rfl (takes_of rfl rfl rfl rfl) (pmk_own0 PySem.F.excBase_ValueError T.o_NoPair.x T.g_NoPair T.o_NoPair.k (raises_own T.o_NoPair.s T.o_NoPair.t) rfl))) pss_nil)
    (pss_cons (ps_if (pt_cmpR (kx_eq (K := K) rfl hr.units) (pv 0) pe_int (nomark _)) (pss_one (ps_raise rfl (takes_of rfl rfl rfl rfl) (pmk_own0 PySem.F.excBase_ValueError T.o_NoPlace.x T.g_NoPlace T.o_NoPlace.k (raises_own T.o_NoPlace.s T.o_NoPlace.t) rfl))) pss_nil)
    (pss_one (ps_if (pt_cmpR (kx_eq (K := K) rfl hr.units) (pv 0) pe_int (nomark _)) (pss_one (ps_raise rfl (takes_of rfl rfl rfl rfl) (pmk_own0 PySem.F.excBase_ValueError T.o_NoWishes.x T.g_NoWishes T.o_NoWishes.k (raises_own T.o_NoWishes.s T.o_NoWishes.t) rfl))) pss_nil))))))))), ?_⟩)
  obtain ⟨k, rfl, hk, kk'⟩ := h
  have hD : ∀ {H : Hp}, Dom [] H := dom_nil
  have s0 : SD (hid [] H) [.d (.int (k : Int))] (L2.start ["which"] [.int (k : Int)]) := sd_cons (slok_d rfl) sd_nil
  refine ha_seq (ha_if (O := []) (tp_test (ep_op (ep_var (i := 0) (x := .int (k : Int)) rfl) ep_int (rp_eqD (shaped_int _) (shaped_int _)))) hD s0 (fun c H1 e1 => ?_) fun c0 H1 e1 => ?_)
  · rw [eqv_int] at c
    have c := eq_of_beq c
    have c : k = 0 := by omega
    subst c
    exact kk' H1 e1
  rw [eqv_int] at c0
  have s1 := s0.mono (hid_ex e1)
  dsimp only [tNext]
  refine ha_seq (ha_if (O := []) (tp_test (ep_op (ep_var (i := 0) (x := .int (k : Int)) rfl) ep_int (rp_eqD (shaped_int _) (shaped_int _)))) hD s1 (fun c H2 e2 => ?_) fun c1 H2 e2 => ?_)
  · rw [eqv_int] at c
    have c := eq_of_beq c
    have c : k = 1 := by omega
    subst c
    exact kk' H2 (e1.trans e2)
  rw [eqv_int] at c1
  have s2 := s1.mono (hid_ex e2)
  dsimp only [tNext]
  refine ha_seq (ha_if (O := []) (tp_test (ep_op (ep_var (i := 0) (x := .int (k : Int)) rfl) ep_int (rp_eqD (shaped_int _) (shaped_int _)))) hD s2 (fun c H3 e3 => ?_) fun c2 H3 e3 => ?_)
  · rw [eqv_int] at c
    have c := eq_of_beq c
    have c : k = 2 := by omega
    subst c
    exact kk' H3 ((e1.trans e2).trans e3)
  rw [eqv_int] at c2
  have s3 := s2.mono (hid_ex e3)
  dsimp only [tNext]
  refine ha_seq (ha_if (O := []) (tp_test (ep_op (ep_var (i := 0) (x := .int (k : Int)) rfl) ep_int (rp_eqD (shaped_int _) (shaped_int _)))) hD s3 (fun c H4 e4 => ?_) fun c3 H4 e4 => ?_)
  · rw [eqv_int] at c
    have c := eq_of_beq c
    have c : k = 3 := by omega
    subst c
    exact kk' H4 (((e1.trans e2).trans e3).trans e4)
  rw [eqv_int] at c3
  have s4 := s3.mono (hid_ex e4)
  dsimp only [tNext]
  refine ha_seq (ha_if (O := []) (tp_test (ep_op (ep_var (i := 0) (x := .int (k : Int)) rfl) ep_int (rp_eqD (shaped_int _) (shaped_int _)))) hD s4 (fun c H5 e5 => ?_) fun c4 H5 e5 => ?_)
  · rw [eqv_int] at c
    have c := eq_of_beq c
    have c : k = 4 := by omega
    subst c
    exact kk' H5 ((((e1.trans e2).trans e3).trans e4).trans e5)
  rw [eqv_int] at c4
  have s5 := s4.mono (hid_ex e5)
  dsimp only [tNext]
  refine ha_seq (ha_if (O := []) (tp_test (ep_op (ep_var (i := 0) (x := .int (k : Int)) rfl) ep_int (rp_eqD (shaped_int _) (shaped_int _)))) hD s5 (fun c H6 e6 => ?_) fun c5 H6 e6 => ?_)
  · rw [eqv_int] at c
    have c := eq_of_beq c
    have c : k = 5 := by omega
    subst c
    exact kk' H6 (((((e1.trans e2).trans e3).trans e4).trans e5).trans e6)
  rw [eqv_int] at c5
  have s6 := s5.mono (hid_ex e6)
  dsimp only [tNext]
  refine ha_seq (ha_if (O := []) (tp_test (ep_op (ep_var (i := 0) (x := .int (k : Int)) rfl) ep_int (rp_eqD (shaped_int _) (shaped_int _)))) hD s6 (fun c H7 e7 => ?_) fun c6 H7 e7 => ?_)
  · rw [eqv_int] at c
    have c := eq_of_beq c
    have c : k = 6 := by omega
    subst c
    exact kk' H7 ((((((e1.trans e2).trans e3).trans e4).trans e5).trans e6).trans e7)
  rw [eqv_int] at c6
  have s7 := s6.mono (hid_ex e7)
  dsimp only [tNext]
  refine ha_if (O := []) (tp_test (ep_op (ep_var (i := 0) (x := .int (k : Int)) rfl) ep_int (rp_eqD (shaped_int _) (shaped_int _)))) hD s7 (fun c H8 e8 => ?_) fun c7 H8 e8 => ?_
  · rw [eqv_int] at c
    have c := eq_of_beq c
    have c : k = 7 := by omega
    subst c
    exact kk' H8 (((((((e1.trans e2).trans e3).trans e4).trans e5).trans e6).trans e7).trans e8)
  rw [eqv_int] at c7
  have s8 := s7.mono (hid_ex e8)
  dsimp only [tNext]
  exfalso
  have c0 : ¬ (k : Int) = 0 := by simpa using c0
  have c1 : ¬ (k : Int) = 1 := by simpa using c1
  have c2 : ¬ (k : Int) = 2 := by simpa using c2
  have c3 : ¬ (k : Int) = 3 := by simpa using c3
  have c4 : ¬ (k : Int) = 4 := by simpa using c4
  have c5 : ¬ (k : Int) = 5 := by simpa using c5
  have c6 : ¬ (k : Int) = 6 := by simpa using c6
  have c7 : ¬ (k : Int) = 7 := by simpa using c7
  omega
def spTexted (A : Ad) : Sp := fun vs H Q E => ∃ (k : Nat) (x : V), vs = [.int (k : Int), x] ∧ k < 8 ∧ ∀ H', Ex H H' → E (.ref (cl A k)) none H'
theorem G_law_texted (T : Txt K mg A) (Z : Fns K A) : FnOk prg w K mg base (L2.CX prg w) 1 A.a_law_texted Z.fd_law_texted ["which", "line"] (spTexted A) := by
  refine Fun.okX Z.F_law_texted sc_law_texted (fun vs H Q E h => by obtain ⟨k, x, rfl, _⟩ := h; rfl) (fun cdv Ar outer s H vs Q E hr h => ⟨_, (pss_cons (ps_if (pt_cmpR (kx_eq (K := K) rfl hr.units) (pv 0) pe_int (nomark _)) (pss_one (ps_raise rfl (takes_of rfl rfl rfl rfl) (SkE.pmk_own1 PySem.F.excBase_ValueError T.o_NoChoice.x T.g_NoChoice T.o_NoChoice.k (raises_own T.o_NoChoice.s T.o_NoChoice.t) rfl (pv 1)))) pss_nil)
    (pss_cons (ps_if (pt_cmpR (kx_eq (K := K) rfl hr.units) (pv 0) pe_int (nomark _)) (pss_one (ps_raise rfl (takes_of rfl rfl rfl rfl) (SkE.pmk_own1 PySem.F.excBase_ValueError T.o_NoEnd.x T.g_NoEnd T.o_NoEnd.k (raises_own T.o_NoEnd.s T.o_NoEnd.t) rfl (pv 1)))) pss_nil)
    (pss_cons (ps_if (pt_cmpR (kx_eq (K := K) rfl hr.units) (pv 0) pe_int (nomark _)) (pss_one (ps_raise rfl (takes_of rfl rfl rfl rfl) (SkE.pmk_own1 PySem.F.excBase_ValueError T.o_NoGoers.x T.g_NoGoers T.o_NoGoers.k (raises_own T.o_NoGoers.s T.o_NoGoers.t) rfl (pv 1)))) pss_nil)
    (pss_cons (ps_if (pt_cmpR (kx_eq (K := K) rfl hr.units) (pv 0) pe_int (nomark _)) (pss_one (ps_raise rfl (takes_of rfl rfl rfl rfl) (SkE.pmk_own1 PySem.F.excBase_ValueError T.o_NoName.x T.g_NoName T.o_NoName.k (raises_own T.o_NoName.s T.o_NoName.t) rfl (pv 1)))) pss_nil)
    (pss_cons (ps_if (pt_cmpR (kx_eq (K := K) rfl hr.units) (pv 0) pe_int (nomark _)) (pss_one (ps_raise rfl (takes_of rfl rfl rfl rfl) (SkE.pmk_own1 PySem.F.excBase_ValueError T.o_NoNumber.x T.g_NoNumber T.o_NoNumber.k (raises_own T.o_NoNumber.s T.o_NoNumber.t) rfl (pv 1)))) pss_nil)
    (pss_cons (ps_if (pt_cmpR (kx_eq (K := K) rfl hr.units) (pv 0) pe_int (nomark _)) (pss_one (ps_raise rfl (takes_of rfl rfl rfl rfl) (SkE.pmk_own1 PySem.F.excBase_ValueError T.o_NoPair.x T.g_NoPair T.o_NoPair.k (raises_own T.o_NoPair.s T.o_NoPair.t) rfl (pv 1)))) pss_nil)
    (pss_cons (ps_if (pt_cmpR (kx_eq (K := K) rfl hr.units) (pv 0) pe_int (nomark _)) (pss_one (ps_raise rfl (takes_of rfl rfl rfl rfl) (SkE.pmk_own1 PySem.F.excBase_ValueError T.o_NoPlace.x T.g_NoPlace T.o_NoPlace.k (raises_own T.o_NoPlace.s T.o_NoPlace.t) rfl (pv 1)))) pss_nil)
    (pss_one (ps_if (pt_cmpR (kx_eq (K := K) rfl hr.units) (pv 0) pe_int (nomark _)) (pss_one (ps_raise rfl (takes_of rfl rfl rfl rfl) (SkE.pmk_own1 PySem.F.excBase_ValueError T.o_NoWishes.x T.g_NoWishes T.o_NoWishes.k (raises_own T.o_NoWishes.s T.o_NoWishes.t) rfl (pv 1)))) pss_nil))))))))), ?_⟩)
  obtain ⟨k, x, rfl, hk, kk'⟩ := h
  have hD : ∀ {H : Hp}, Dom [] H := dom_nil
  have s0 : SD (hid [] H) [.d (.int (k : Int)), .no] (L2.start ["which", "line"] [.int (k : Int), x]) := sd_cons (slok_d rfl) (sd_cons trivial sd_nil)
  refine ha_seq (ha_if (O := []) (tp_test (ep_op (ep_var (i := 0) (x := .int (k : Int)) rfl) ep_int (rp_eqD (shaped_int _) (shaped_int _)))) hD s0 (fun c H1 e1 => ?_) fun c0 H1 e1 => ?_)
  · rw [eqv_int] at c
    have c := eq_of_beq c
    have c : k = 0 := by omega
    subst c
    exact ⟨x, rfl, kk' H1 e1⟩
  rw [eqv_int] at c0
  have s1 := s0.mono (hid_ex e1)
  dsimp only [tNext]
  refine ha_seq (ha_if (O := []) (tp_test (ep_op (ep_var (i := 0) (x := .int (k : Int)) rfl) ep_int (rp_eqD (shaped_int _) (shaped_int _)))) hD s1 (fun c H2 e2 => ?_) fun c1 H2 e2 => ?_)
  · rw [eqv_int] at c
    have c := eq_of_beq c
    have c : k = 1 := by omega
    subst c
    exact ⟨x, rfl, kk' H2 (e1.trans e2)⟩
  rw [eqv_int] at c1
  have s2 := s1.mono (hid_ex e2)
  dsimp only [tNext]
  refine ha_seq (ha_if (O := []) (tp_test (ep_op (ep_var (i := 0) (x := .int (k : Int)) rfl) ep_int (rp_eqD (shaped_int _) (shaped_int _)))) hD s2 (fun c H3 e3 => ?_) fun c2 H3 e3 => ?_)
  · rw [eqv_int] at c
    have c := eq_of_beq c
    have c : k = 2 := by omega
    subst c
    exact ⟨x, rfl, kk' H3 ((e1.trans e2).trans e3)⟩
  rw [eqv_int] at c2
  have s3 := s2.mono (hid_ex e3)
  dsimp only [tNext]
  refine ha_seq (ha_if (O := []) (tp_test (ep_op (ep_var (i := 0) (x := .int (k : Int)) rfl) ep_int (rp_eqD (shaped_int _) (shaped_int _)))) hD s3 (fun c H4 e4 => ?_) fun c3 H4 e4 => ?_)
  · rw [eqv_int] at c
    have c := eq_of_beq c
    have c : k = 3 := by omega
    subst c
    exact ⟨x, rfl, kk' H4 (((e1.trans e2).trans e3).trans e4)⟩
  rw [eqv_int] at c3
  have s4 := s3.mono (hid_ex e4)
  dsimp only [tNext]
  refine ha_seq (ha_if (O := []) (tp_test (ep_op (ep_var (i := 0) (x := .int (k : Int)) rfl) ep_int (rp_eqD (shaped_int _) (shaped_int _)))) hD s4 (fun c H5 e5 => ?_) fun c4 H5 e5 => ?_)
  · rw [eqv_int] at c
    have c := eq_of_beq c
    have c : k = 4 := by omega
    subst c
    exact ⟨x, rfl, kk' H5 ((((e1.trans e2).trans e3).trans e4).trans e5)⟩
  rw [eqv_int] at c4
  have s5 := s4.mono (hid_ex e5)
  dsimp only [tNext]
  refine ha_seq (ha_if (O := []) (tp_test (ep_op (ep_var (i := 0) (x := .int (k : Int)) rfl) ep_int (rp_eqD (shaped_int _) (shaped_int _)))) hD s5 (fun c H6 e6 => ?_) fun c5 H6 e6 => ?_)
  · rw [eqv_int] at c
    have c := eq_of_beq c
    have c : k = 5 := by omega
    subst c
    exact ⟨x, rfl, kk' H6 (((((e1.trans e2).trans e3).trans e4).trans e5).trans e6)⟩
  rw [eqv_int] at c5
  have s6 := s5.mono (hid_ex e6)
  dsimp only [tNext]
  refine ha_seq (ha_if (O := []) (tp_test (ep_op (ep_var (i := 0) (x := .int (k : Int)) rfl) ep_int (rp_eqD (shaped_int _) (shaped_int _)))) hD s6 (fun c H7 e7 => ?_) fun c6 H7 e7 => ?_)
  · rw [eqv_int] at c
    have c := eq_of_beq c
    have c : k = 6 := by omega
    subst c
    exact ⟨x, rfl, kk' H7 ((((((e1.trans e2).trans e3).trans e4).trans e5).trans e6).trans e7)⟩
  rw [eqv_int] at c6
  have s7 := s6.mono (hid_ex e7)
  dsimp only [tNext]
  refine ha_if (O := []) (tp_test (ep_op (ep_var (i := 0) (x := .int (k : Int)) rfl) ep_int (rp_eqD (shaped_int _) (shaped_int _)))) hD s7 (fun c H8 e8 => ?_) fun c7 H8 e8 => ?_
  · rw [eqv_int] at c
    have c := eq_of_beq c
    have c : k = 7 := by omega
    subst c
    exact ⟨x, rfl, kk' H8 (((((((e1.trans e2).trans e3).trans e4).trans e5).trans e6).trans e7).trans e8)⟩
  rw [eqv_int] at c7
  have s8 := s7.mono (hid_ex e8)
  dsimp only [tNext]
  exfalso
  have c0 : ¬ (k : Int) = 0 := by simpa using c0
  have c1 : ¬ (k : Int) = 1 := by simpa using c1
  have c2 : ¬ (k : Int) = 2 := by simpa using c2
  have c3 : ¬ (k : Int) = 3 := by simpa using c3
  have c4 : ¬ (k : Int) = 4 := by simpa using c4
  have c5 : ¬ (k : Int) = 5 := by simpa using c5
  have c6 : ¬ (k : Int) = 6 := by simpa using c6
  have c7 : ¬ (k : Int) = 7 := by simpa using c7
  omega
end
end K75
namespace K75
open PySem L2 PySem.Spec PyProof.Rows Cp
open Evl (Ex)
section
variable {w : World} {K : PySem.W.Frag} {mg : Str → Option Value} {base : Heap} {A : Ad}
theorem sup_raise {C : Addr} {σ : L2.St} {H0 H : Hp} {Q : XK} {x : V} (hs : σ[2]? = some (some x)) (e : Ex H0 H) (k : ∀ dd H', H0 dd = none → Ex H0 H' → H' dd = some (.xd [("wrong", x)]) → Q (.ref C) (some dd) H') : tMkO C (spSup C) [] (tCons (tVar 2) tNil) σ H Q := by
  refine ⟨x, hs, (by simp : [x].length ≤ 1000), fun a ha => ⟨a, x, rfl, upd_same, fun dx h1 h2 => ⟨rfl, dx, [("wrong", x)], ?_, upd_same, ?_, ?_⟩⟩⟩
  · rw [upd_ne (Ne.symm h2), upd_same]
  · rw [upd_ne h2] at h1
    exact h1
  · rw [upd_ne h2] at h1
    have ex : Ex H (upd (L2.del (upd (upd (upd H a (exo a C none)) a (exo a C (some dx))) dx (exd dx [("wrong", x)])) a) dx (.xd [("wrong", x)])) := fun b o q => by
      have hba : b ≠ a := fun z => by rw [z, ha] at q; cases q
      have hbd : b ≠ dx := fun z => by rw [z, h1] at q; cases q
      rw [upd_ne hbd, del_ne hba, upd_ne hbd, upd_ne hba, upd_ne hba]
      exact q
    exact k dx _ (Evl.fresh_back e h1) (e.trans ex) upd_same
def spValued (A : Ad) : Sp := fun vs H Q E => ∃ (k : Nat) (way : Int) (x : V), vs = [.int (k : Int), .int way, x] ∧ 8 ≤ k ∧ k < 11 ∧ ∀ dd H', H dd = none → Ex H H' → H' dd = some (.xd [("wrong", x)]) → E (.ref (cl A k)) (some dd) H'
theorem G_law_valued (T : Txt K mg A) (Z : Fns K A) : FnOk prg w K mg base (L2.CX prg w) 3 A.a_law_valued Z.fd_law_valued ["which", "way", "value"] (spValued A) := by
  refine Fun.okX Z.F_law_valued sc_law_valued (fun vs H Q E h => by obtain ⟨k, way, x, rfl, _⟩ := h; rfl) (fun cdv Ar outer s H vs Q E hr h => ⟨_, (pss_cons (ps_if (PW.pt (pw_and (pt_cmpR (kx_eq (K := K) rfl hr.units) (pv 0) pe_int (nomark _)) (pw_and1 (pt_cmpR (kx_eq (K := K) rfl hr.units) (pv 1) pe_int (nomark _))))) (pss_one (ps_raise rfl (takes_of rfl rfl rfl rfl) (pmk_oex T.s_NoRow.oex T.s_NoRow.iC T.s_NoRow.tI (sup_ok T.s_NoRow T.n_super CX0 0) (hr.mono (by decide)) (sup_binds T.s_NoRow) .nil pass0 rfl T.g_NoRow (pa_cons (pv 2) pa_nil)))) pss_nil)
    (pss_cons (ps_if (PW.pt (pw_and (pt_cmpR (kx_eq (K := K) rfl hr.units) (pv 0) pe_int (nomark _)) (pw_and1 (pt_cmpR (kx_eq (K := K) rfl hr.units) (pv 1) pe_int (nomark _))))) (pss_one (ps_raise rfl (takes_of rfl rfl rfl rfl) (pmk_oex T.s_NoStanding.oex T.s_NoStanding.iC T.s_NoStanding.tI (sup_ok T.s_NoStanding T.n_super CX0 0) (hr.mono (by decide)) (sup_binds T.s_NoStanding) .nil pass0 rfl T.g_NoStanding (pa_cons (pv 2) pa_nil)))) pss_nil)
    (pss_cons (ps_if (PW.pt (pw_and (pt_cmpR (kx_eq (K := K) rfl hr.units) (pv 0) pe_int (nomark _)) (pw_and1 (pt_cmpR (kx_eq (K := K) rfl hr.units) (pv 1) pe_int (nomark _))))) (pss_one (ps_raise rfl (takes_of rfl rfl rfl rfl) (pmk_oex T.s_NoTown.oex T.s_NoTown.iC T.s_NoTown.tI (sup_ok T.s_NoTown T.n_super CX0 0) (hr.mono (by decide)) (sup_binds T.s_NoTown) .nil pass0 rfl T.g_NoTown (pa_cons (pv 2) pa_nil)))) pss_nil)
    (pss_cons (ps_if (pt_cmpR (kx_eq (K := K) rfl hr.units) (pv 0) pe_int (nomark _)) (pss_one (ps_raise rfl (takes_of rfl rfl rfl rfl) (pmk_supK T.s_NoRow T.n_super (hr.mono (by decide)) rfl T.g_NoRow (pv 2)))) pss_nil)
    (pss_cons (ps_if (pt_cmpR (kx_eq (K := K) rfl hr.units) (pv 0) pe_int (nomark _)) (pss_one (ps_raise rfl (takes_of rfl rfl rfl rfl) (pmk_supK T.s_NoStanding T.n_super (hr.mono (by decide)) rfl T.g_NoStanding (pv 2)))) pss_nil)
    (pss_one (ps_if (pt_cmpR (kx_eq (K := K) rfl hr.units) (pv 0) pe_int (nomark _)) (pss_one (ps_raise rfl (takes_of rfl rfl rfl rfl) (pmk_supK T.s_NoTown T.n_super (hr.mono (by decide)) rfl T.g_NoTown (pv 2)))) pss_nil))))))), ?_⟩)
  obtain ⟨k, way, x, rfl, h8, h11, kk'⟩ := h
  have hD : ∀ {H : Hp}, Dom [] H := dom_nil
  have s0 : SD (hid [] H) [.d (.int (k : Int)), .d (.int way), .no] (L2.start ["which", "way", "value"] [.int (k : Int), .int way, x]) := sd_cons (slok_d rfl) (sd_cons (slok_d rfl) (sd_cons trivial sd_nil))
  refine ha_seq (ha_if (O := []) (tp_and (tp_test (ep_op (ep_var (i := 0) (x := .int (k : Int)) rfl) ep_int (rp_eqD (shaped_int _) (shaped_int _)))) fun _ => tp_test (ep_op (ep_var (i := 1) (x := .int way) rfl) ep_int (rp_eqD (shaped_int _) (shaped_int _)))) hD s0 (fun c H1 e1 => ?_) fun c0 H1 e1 => ?_)
  · rw [eqv_int] at c
    have c : k = 8 := by
      have c := (Bool.and_eq_true_iff.mp c).1
      have c := eq_of_beq c
      omega
    subst c
    exact sup_raise rfl e1 kk'
  have s1 := s0.mono (hid_ex e1)
  dsimp only [tNext]
  refine ha_seq (ha_if (O := []) (tp_and (tp_test (ep_op (ep_var (i := 0) (x := .int (k : Int)) rfl) ep_int (rp_eqD (shaped_int _) (shaped_int _)))) fun _ => tp_test (ep_op (ep_var (i := 1) (x := .int way) rfl) ep_int (rp_eqD (shaped_int _) (shaped_int _)))) hD s1 (fun c H2 e2 => ?_) fun c1 H2 e2 => ?_)
  · rw [eqv_int] at c
    have c : k = 9 := by
      have c := (Bool.and_eq_true_iff.mp c).1
      have c := eq_of_beq c
      omega
    subst c
    exact sup_raise rfl (e1.trans e2) kk'
  have s2 := s1.mono (hid_ex e2)
  dsimp only [tNext]
  refine ha_seq (ha_if (O := []) (tp_and (tp_test (ep_op (ep_var (i := 0) (x := .int (k : Int)) rfl) ep_int (rp_eqD (shaped_int _) (shaped_int _)))) fun _ => tp_test (ep_op (ep_var (i := 1) (x := .int way) rfl) ep_int (rp_eqD (shaped_int _) (shaped_int _)))) hD s2 (fun c H3 e3 => ?_) fun c2 H3 e3 => ?_)
  · rw [eqv_int] at c
    have c : k = 10 := by
      have c := (Bool.and_eq_true_iff.mp c).1
      have c := eq_of_beq c
      omega
    subst c
    exact sup_raise rfl ((e1.trans e2).trans e3) kk'
  have s3 := s2.mono (hid_ex e3)
  dsimp only [tNext]
  refine ha_seq (ha_if (O := []) (tp_test (ep_op (ep_var (i := 0) (x := .int (k : Int)) rfl) ep_int (rp_eqD (shaped_int _) (shaped_int _)))) hD s3 (fun c H4 e4 => ?_) fun c3 H4 e4 => ?_)
  · rw [eqv_int] at c
    have c : k = 8 := by
      have c := eq_of_beq c
      omega
    subst c
    exact sup_raise rfl (((e1.trans e2).trans e3).trans e4) kk'
  have s4 := s3.mono (hid_ex e4)
  dsimp only [tNext]
  refine ha_seq (ha_if (O := []) (tp_test (ep_op (ep_var (i := 0) (x := .int (k : Int)) rfl) ep_int (rp_eqD (shaped_int _) (shaped_int _)))) hD s4 (fun c H5 e5 => ?_) fun c4 H5 e5 => ?_)
  · rw [eqv_int] at c
    have c : k = 9 := by
      have c := eq_of_beq c
      omega
    subst c
    exact sup_raise rfl ((((e1.trans e2).trans e3).trans e4).trans e5) kk'
  have s5 := s4.mono (hid_ex e5)
  dsimp only [tNext]
  refine ha_if (O := []) (tp_test (ep_op (ep_var (i := 0) (x := .int (k : Int)) rfl) ep_int (rp_eqD (shaped_int _) (shaped_int _)))) hD s5 (fun c H6 e6 => ?_) fun c5 H6 e6 => ?_
  · rw [eqv_int] at c
    have c : k = 10 := by
      have c := eq_of_beq c
      omega
    subst c
    exact sup_raise rfl (((((e1.trans e2).trans e3).trans e4).trans e5).trans e6) kk'
  have s6 := s5.mono (hid_ex e6)
  dsimp only [tNext]
  exfalso
  rw [eqv_int] at c3 c4 c5
  have d3 : ¬ (k : Int) = 8 := by simpa using c3
  have d4 : ¬ (k : Int) = 9 := by simpa using c4
  have d5 : ¬ (k : Int) = 10 := by simpa using c5
  omega
end
end K75
namespace K75
open PySem L2 PySem.Spec PyProof.Rows Cp
open Evl (Ex)
section
variable {w : World} {K : PySem.W.Frag} {mg : Str → Option Value} {base : Heap} {A : Ad}
def spCaught (A : Ad) (K : PySem.W.Frag) : Sp := fun vs H Q _ => ∃ (O : List Addr) (k : Nat) (way : Int) (x : V) (d : PyData), vs = [.int (k : Int), .int way, x] ∧ k < 11 ∧ Dom O H ∧ Dt (hid O H) d x ∧ Shows d ∧
  ∀ a dd H', a ∉ O → Ex H H' → Kept K (hid O H') a (cl A k) → (8 ≤ k → hid O H' a = some (ExcAt a (.ref (cl A k)) (some dd)) ∧ hid O H' dd = some (.xd [("wrong", x)])) → Q (.ref a) H'
theorem G_law_caught (T : Txt K mg A) (Z : Fns K A) : GOk prg w K mg base CX0 4 A.a_law_caught Z.fd_law_caught ["which", "way", "value"] (spCaught A K) := by
  refine Fun.okG Z.F_law_caught sc_law_caught (fun vs H Q E h => by obtain ⟨O, k, way, x, d, rfl, _⟩ := h; rfl) (fun cdv Ar outer s H vs Q E hgd hr h => ⟨_, (pss_cons (ps_set (i := 3) sc_law_caught.nd rfl (by first | exact Or.inl rfl | exact Or.inr rfl) pe_non)
    (pss_cons (ps_try_keep (i := 4) (Wout := fun _ _ _ _ => False) rfl rfl sc_law_caught.nd rfl rfl ⟨rfl, by decide, Or.inl T.g_PostError⟩ takes0 rfl (fun W pn xe tk _ => (pss_cons (ps_if (pt_cmpR op_gt (pv 0) pe_int (nomark _)) (pss_one (ps_expr (pe_callS (G_law_valued T Z) (hr.mono (by decide)) rfl T.g_law_valued T.k_law_valued Z.b_law_valued (fun σ => passAt tk σ) (pa_cons (pv 0) (pa_cons (pv 1) (pa_cons (pv 2) pa_nil)))))) pss_nil)
    (pss_cons (ps_if (pt_cmpR (kx_eq (K := K) rfl hr.units) (pv 1) pe_int (nomark _)) (pss_one (ps_expr (pe_callS (G_law_bare T Z) (hr.mono (by decide)) rfl T.g_law_bare T.k_law_bare Z.b_law_bare (fun σ => passAt tk σ) (pa_cons (pv 0) pa_nil)))) pss_nil)
    (pss_one (ps_expr (pe_callS (G_law_texted T Z) (hr.mono (by decide)) rfl T.g_law_texted T.k_law_texted Z.b_law_texted (fun σ => passAt tk σ) (pa_cons (pv 0) (pa_cons (pe_callTy (kx_str (K := K) rfl hgd hr.units200) (by rfl) T.n_str (by decide +kernel) (pa_cons (pv 2) pa_nil)) pa_nil)))))))) (fun a oe cls d pn hz hf => (pss_one (ps_set (i := 3) sc_law_caught.nd rfl (by first | exact Or.inl rfl | exact Or.inr rfl) (pv 4)))))
    (pss_one (ps_ret (pv 3))))), ?_⟩)
  obtain ⟨O, k, way, x, d, rfl, hk, hD, hx, hsh, kk'⟩ := h
  have s0 : SD (hid O H) [.d (.int (k : Int)), .d (.int way), .d d, .no, .no] (L2.start ["which", "way", "value", "caught", "e"] [.int (k : Int), .int way, x]) := sd_cons (slok_d rfl) (sd_cons (slok_d rfl) (sd_cons (slok_d hx) (sd_cons trivial (sd_cons trivial sd_nil))))
  refine ha_seq (ha_asg (i := 3) ep_non hD s0 fun v1 H1 e1 hv1 s1 => ?_)
  have d1 := hD.ex e1
  dsimp only
  have fin : ∀ (H2 : Hp) (a : Addr) (o : Option Addr), Ex H1 H2 → H2 a = none → (∀ q, o = some q → H1 q = none ∧ H2 q = some (.xd [("wrong", x)])) → (8 ≤ k → ∃ q, o = some q) → Q (.ref a) (upd H2 a (ExcAt a (.ref (cl A k)) o)) := fun H2 a o e2 ha ho h8 => by
    have d2 := d1.ex e2
    have aO : a ∉ O := d2.fresh ha
    have ex : Ex H2 (upd H2 a (ExcAt a (.ref (cl A k)) o)) := Ex.new ha
    have at_a : hid O (upd H2 a (ExcAt a (.ref (cl A k)) o)) a = some (ExcAt a (.ref (cl A k)) o) := by rw [hid_out aO, upd_same]
    have at_q : ∀ q, o = some q → hid O (upd H2 a (ExcAt a (.ref (cl A k)) o)) q = some (.xd [("wrong", x)]) := fun q hq => by
      obtain ⟨z1, z2⟩ := ho q hq
      rw [hid_out (d1.fresh z1)]
      exact ex _ _ z2
    refine kk' a (o.getD 0) _ aO ((e1.trans e2).trans ex) ⟨o, at_a, fun q hq => ⟨_, at_q q hq⟩, kE T k hk⟩ fun h => ?_
    obtain ⟨q, rfl⟩ := h8 h
    exact ⟨at_a, at_q q rfl⟩
  refine ha_seq (ha_seq ?_)
  have none_ : ∀ (H2 : Hp), ∀ q, (none : Option Addr) = some q → H1 q = none ∧ H2 q = some (.xd [("wrong", x)]) := fun H2 q z => by cases z
  refine ha_if (tp_test (ep_op (ep_var (i := 0) (x := .int (k : Int)) rfl) ep_int (rp_bl (g := fun i j => decide (j < i))))) d1 s1 (fun c H2 e2 => ?_) fun c H2 e2 => ?_
  · have k8 : 8 ≤ k := by
      have z := of_decide_eq_true c
      omega
    refine ⟨.int (k : Int), rfl, .int way, rfl, x, rfl, k, way, x, rfl, k8, hk, fun dd H3 hdd e3 hw => ?_⟩
    refine ⟨true, kM T k hk, fun _ a ha => ?_, fun z => by cases z⟩
    exact ⟨.ref a, rfl, fun hn => ⟨.ref a, rfl, fin H3 a (some dd) (e2.trans e3) ha (fun q hq => by cases hq; exact ⟨Evl.fresh_back e2 hdd, hw⟩) fun _ => ⟨dd, rfl⟩⟩⟩
  · have k8 : k < 8 := by
      have z := of_decide_eq_false c
      omega
    have s2 := s1.mono (hid_ex e2)
    have d2 := d1.ex e2
    dsimp only [tNext]
    refine ha_seq ?_
    refine ha_if (tp_test (ep_op (ep_var (i := 1) (x := .int way) rfl) ep_int (rp_eqD (shaped_int _) (shaped_int _)))) d2 s2 (fun c2 H3 e3 => ?_) fun c2 H3 e3 => ?_
    · refine ⟨.int (k : Int), rfl, k, rfl, k8, fun H4 e4 => ?_⟩
      refine ⟨true, kM T k hk, fun _ a ha => ?_, fun z => by cases z⟩
      exact ⟨.ref a, rfl, fun hn => ⟨.ref a, rfl, fin H4 a none ((e2.trans e3).trans e4) ha (none_ H4) fun h => by omega⟩⟩
    · dsimp only [tNext]
      refine ⟨.int (k : Int), rfl, x, rfl, x, d, rfl, Dt.dp d x (Dt.mono (hid_le.trans ((e1.trans e2).trans e3)) d x hx), hsh, fun t => ⟨k, .str t, rfl, k8, fun H4 e4 => ?_⟩⟩
      refine ⟨true, kM T k hk, fun _ a ha => ?_, fun z => by cases z⟩
      exact ⟨.ref a, rfl, fun hn => ⟨.ref a, rfl, fin H4 a none ((e2.trans e3).trans e4) ha (none_ H4) fun h => by omega⟩⟩
end
end K75
namespace K75
open PySem L2 PySem.Spec PyProof.Rows Cp
open Evl (Ex)
section
variable {w : World} {K : PySem.W.Frag} {mg : Str → Option Value} {base : Heap} {A : Ad}
def spLaw (K : PySem.W.Frag) : Sp := fun vs H Q _ => ∃ (a : Addr) (ns : List Int), vs = [.ref a] ∧ SqL K H a (ns.map V.int) ∧ ns.length ≤ 63 ∧ ∀ H', Q (.bl true) H'
/-- a pair that is held: a refusal of the classes with a value, and this value -/
def Item (A : Ad) (H : Hp) (t : Addr) : Prop := ∃ (a dd : Addr) (k : Nat) (v u : V) (d : PyData), (8 ≤ k ∧ k < 11) ∧ H t = some (.tup [.ref a, v]) ∧ H a = some (ExcAt a (.ref (cl A k)) (some dd)) ∧ H dd = some (.xd [("wrong", u)]) ∧ Dt H d v ∧ Dt H d u ∧ Shows d
theorem Item.ex {H H' : Hp} {t : Addr} (h : Item A H t) (e : Ex H H') : Item A H' t := by
  obtain ⟨a, dd, k, v, u, d, hk, h1, h2, h3, h4, h5, h6⟩ := h
  exact ⟨a, dd, k, v, u, d, hk, e _ _ h1, e _ _ h2, e _ _ h3, Dt.mono e _ _ h4, Dt.mono e _ _ h5, h6⟩
def Hd (A : Ad) (O : List Addr) (l : Addr) (n : Nat) (H : Hp) : Prop := ∃ ts : List Addr, H l = some (.lst (ts.map V.ref)) ∧ ts.length ≤ n ∧ ∀ t ∈ ts, Item A (hid O H) t
theorem Hd.jok {O : List Addr} {l : Addr} {n : Nat} (hl : l ∈ O) : Jok O (Hd A O l n) := fun H H' s e ⟨ts, h1, h2, h3⟩ => ⟨ts, by rw [s l hl]; exact h1, h2, fun t ht => (h3 t ht).ex e⟩
theorem Hd.kp {O : List Addr} {l p c : Addr} {n : Nat} (hp : p ∈ O) (hc : c ∈ O) (n1 : l ≠ p) (n2 : l ≠ c) (H H' : Hp) (k : Kp p c H H') (h : Hd A O l n H) : Hd A O l n H' := by
  obtain ⟨ts, h1, h2, h3⟩ := h
  exact ⟨ts, k l _ n1 n2 h1, h2, fun t ht => (h3 t ht).ex (k.hid hp hc)⟩
theorem kp_dom {O : List Addr} {p c : Addr} {B : Nat} {H H' : Hp} (hD : Dom O H) (kp : Kp p c H H') (pu : Pu p c B H') : Dom O H' := fun a ha => by
  by_cases z1 : a = p
  · obtain ⟨⟨_, _, z, _⟩, _⟩ := pu
    rw [z1, z]; simp
  by_cases z2 : a = c
  · obtain ⟨⟨_, _, _, z, _⟩, _⟩ := pu
    rw [z2, z]; simp
  cases z : H a with
  | none => exact absurd z (hD a ha)
  | some o => rw [kp a o z1 z2 z]; simp
theorem kW (T : Txt K mg A) : ∀ (k : Nat), 8 ≤ k ∧ k < 11 → PySem.W.findIn K (.ref (cl A k)) "wrong" = some none := fun k h => match k, h with
  | 8, _ => T.s_NoRow.noW
  | 9, _ => T.s_NoStanding.noW
  | 10, _ => T.s_NoTown.noW
section
variable {O : List Addr} {J : Hp → Prop} {δ : List Sl} {te : TE} {t u : TT} {N : List Sl → Hp → Prop} {R : V → Hp → Prop} {p c l : Addr} {B : Nat} {E : XK} {a b : Bool}
theorem em_thing (hp : p ∈ O) (hc : c ∈ O) (hs : δ.getD 1 .no = .at p) (hB : B + 2 ≤ 1000000) (hJ : ∀ H H', Kp p c H H' → J H → J H') : EM O (fun H => Pu p c B H ∧ J H) (tCall spThing [] E (tCons (tVar 1) tNil)) δ (fun d H => Bn 3 1000 d ∧ Pu p c (B + 2) H ∧ J H) := fun σ H hj hD hS Q k =>
  ⟨.ref p, hS.loc hs, O, p, c, B, rfl, hp, hc, hD, hj.1, hB, fun d u H2 hb kp pu hu => k d u H2 ⟨hb, pu, hJ H H2 kp hj.2⟩ (kp_dom hD kp pu) (kp.hid hp hc) hu⟩
theorem td_or (h1 : TD O J t δ a) (h2 : a = false → TD O J u δ b) : TD O J (tOr t u) δ (a || b) := fun σ H hJ hD hS Q q => h1 σ H hJ hD hS _ fun x H1 p1 d1 e1 => by
  rw [p1.1]
  cases a with
  | true => exact q true H1 ⟨rfl, p1.2⟩ d1 e1
  | false => exact h2 rfl σ H1 p1.2 d1 (hS.mono e1) Q fun y H2 p2 d2 e2 => q y H2 p2 d2 (e1.trans e2)
theorem td_not (h : TD O J t δ a) : TD O J (tNot t) δ (!a) := fun σ H hJ hD hS Q q => h σ H hJ hD hS _ fun x H1 p1 d1 e1 => q (!x) H1 ⟨by rw [p1.1], p1.2⟩ d1 e1
theorem td_B (h : ED O J te δ (.bool a)) : TD O J (tB te) δ a := fun σ H hJ hD hS Q q => h σ H hJ hD hS _ fun e w H1 p d1 e1 hw => by
  rw [p.1] at hw
  exact ⟨a, hw, q a H1 ⟨rfl, p.2⟩ d1 e1⟩
theorem td_is (h : TD O J t δ a) (e : a = b) : TD O J t δ b := e ▸ h
theorem ed_isV {i : Nat} {ad D : Addr} {T : String} {b : Bool} (hs : δ.getD i .no = .at ad) (hk : ∀ H, J H → Kept K H ad D) (e : PySem.W.kitOne K (.ref D) (.type T) = some b) : ED O J (tCB (rIsU K) (tCons (tVar i) (tCons (tC (.ty T)) tNil))) δ (.bool b) := fun σ H hJ hD hS Q q =>
  ⟨_, hS.loc hs, Or.inr ⟨_, _, _, _, _, rfl, hk H hJ, .ty _, e, q _ _ H ⟨rfl, hJ⟩ hD (Ex.refl _) rfl⟩⟩
theorem ed_marks {i k : Nat} {ad : Addr} (jk : Jok O J) (hs : δ.getD i .no = .at ad) (hk : k < 11) (hkp : ∀ H, J H → Kept K (hid O H) ad (cl A k)) : ED O J (tCall (spMarks A K) [] E (tCons (tVar i) tNil)) δ (.list [.int (k : Int)]) := fun σ H hJ hD hS Q q =>
  ⟨.ref ad, hS.loc hs, O, ad, k, rfl, hD, hk, hkp H hJ, fun v H' ex hd => q _ v H' ⟨rfl, jk.ex hD ex hJ⟩ (hD.ex ex) (hid_ex ex) hd⟩
theorem dm_caught {k : Nat} {way : Int} {d : PyData} (jk : Jok O J) (h4 : δ.getD 4 .no = .d (.int (k : Int))) (h3 : δ.getD 3 .no = .d (.int way)) (h5 : δ.getD 5 .no = .d d) (hk : k < 11) (hsh : Shows d)
    (kk : ∀ a H', J H' → Kept K (hid O H') a (cl A k) → (8 ≤ k → ∃ dd u, hid O H' a = some (ExcAt a (.ref (cl A k)) (some dd)) ∧ hid O H' dd = some (.xd [("wrong", u)]) ∧ Dt (hid O H') d u) → N (δ.set 6 (.at a)) H') :
    DM O J (tAsg (tCall (spCaught A K) [] E (tCons (tVar 4) (tCons (tVar 3) (tCons (tVar 5) tNil)))) (gName 6)) δ N R := fun σ H D hJ hD hS kn kr => by
  obtain ⟨v4, q4, e4⟩ := hS.var h4
  obtain ⟨v3, q3, e3⟩ := hS.var h3
  obtain ⟨v5, q5, e5⟩ := hS.var h5
  cases e4
  cases e3
  refine ⟨_, q4, _, q3, v5, q5, O, k, way, v5, d, rfl, hk, hD, e5, hsh, fun a dd H' aO ex hkept h8 => ?_⟩
  exact kn (δ.set 6 (.at a)) _ H' (kk a H' (jk.ex hD ex hJ) hkept fun h => ⟨dd, v5, (h8 h).1, (h8 h).2, Dt.mono (hid_ex ex) _ _ e5⟩) (hD.ex ex) (hid_ex ex) ((hS.mono (hid_ex ex)).set 6 (s := .at a) (o := some (.ref a)) rfl)
end
theorem G_law (T : Txt K mg A) (Z : Fns K A) : GOk prg w K mg base CX0 5 A.a_law Z.fd_law ["script"] (spLaw K) := by
  refine Fun.okG Z.F_law sc_law (fun vs H Q E h => by obtain ⟨a, ns, rfl, _⟩ := h; rfl) (fun cdv Ar outer s H vs Q E hgd hr h => ⟨_, (pss_cons (ps_set (i := 1) sc_law.nd rfl (by first | exact Or.inl rfl | exact Or.inr rfl) (pe_call (G_law_purse T Z) (hr.mono (by decide)) rfl T.g_law_purse T.k_law_purse Z.b_law_purse .nil pass0 (pa_cons (pv 0) pa_nil)))
    (pss_cons (ps_set (i := 2) sc_law.nd rfl (by first | exact Or.inl rfl | exact Or.inr rfl) (pe_lst pa_nil))
    (pss_cons (ps_for PassesOwn.never rfl (kx_list (K := K) rfl (pe_op op_mulU (pe_lst (pa_cons pe_int (pa_cons pe_int pa_nil))) pe_int)) (pg_name (i := 3) sc_law.nd rfl (by first | exact Or.inl rfl | exact Or.inr rfl)) (pss_one (ps_for PassesOwn.never rfl (pi_range1 rfl T.n_range (pa_cons pe_int pa_nil)) (pg_name (i := 4) sc_law.nd rfl (by first | exact Or.inl rfl | exact Or.inr rfl)) (pss_cons (ps_set (i := 5) sc_law.nd rfl (by first | exact Or.inl rfl | exact Or.inr rfl) (pe_call (G_law_thing T Z) (hr.mono (by decide)) rfl T.g_law_thing T.k_law_thing Z.b_law_thing .nil pass0 (pa_cons (pv 1) pa_nil)))
    (pss_cons (ps_set (i := 6) sc_law.nd rfl (by first | exact Or.inl rfl | exact Or.inr rfl) (pe_callG (G_law_caught T Z) hgd (hr.mono (by decide)) rfl T.g_law_caught T.k_law_caught Z.b_law_caught pass0 (pa_cons (pv 4) (pa_cons (pv 3) (pa_cons (pv 5) pa_nil)))))
    (pss_cons (ps_if (PW.pt (pw_or (pt_cmpR (kx_ne (K := K) rfl hr.units) (pe_call (G_law_marks T Z) (hr.mono (by decide)) rfl T.g_law_marks T.k_law_marks Z.b_law_marks .nil pass0 (pa_cons (pv 6) pa_nil)) (pe_lst (pa_cons (pv 4) pa_nil)) (nomark _)) (pw_or1 (pt_not (pt_val (pe_callB (kx_isi (K := K) rfl) (by rfl) T.n_isinstance (by decide +kernel) (pa_cons (pv 6) (pa_cons (pe_bltn (v := .ty "ValueError") (by rfl) T.n_ValueError (by decide +kernel) rfl) pa_nil)))))))) (pss_one (ps_ret pe_bl)) pss_nil)
    (pss_one (ps_if (pt_cmpR op_gt (pv 4) pe_int (nomark _)) (pss_one (ps_expr (pe_bm PySem.F.plainAttrs_list PySem.F.slot_list_append PySem.F.type_list_append mt_append (pv 2) (pa_cons (pe_tup (pa_cons (pv 6) (pa_cons (pv 5) pa_nil))) pa_nil)))) pss_nil))))))))
    (pss_one (ps_ret (pe_cmpR (kx_eq (K := K) rfl hr.units) (pe_lc (own := [("caught", 6), ("value", 5)]) rfl sc_law.nd (kx_list (K := K) rfl (pv 2)) (blkOk_by (own := [("caught", 6), ("value", 5)]) (N := ["script", "purse", "held", "way", "which", "value", "caught"]) (sc := defScope s_law) (by decide +kernel)) (fun _ _ _ _ _ => (kx_gtup (K := K) (n := 2) rfl rfl (pgs_cons (pg_name (i := 6) sc_law.nd rfl (by first | exact Or.inl rfl | exact Or.inr rfl)) (pgs_cons (pg_name (i := 5) sc_law.nd rfl (by first | exact Or.inl rfl | exact Or.inr rfl)) pgs_nil)))) (fun _ _ _ _ _ => (pts_one (pt_cmpR (op_or2 (kx_ne (K := K) rfl hr.units) op_ne) (pe_callB (kx_repr (K := K) rfl hgd hr.units200) (by rfl) T.n_repr (by decide +kernel) (pa_cons (kx_kf (K := K) rfl (pv 6)) pa_nil)) (pe_callB (kx_repr (K := K) rfl hgd hr.units200) (by rfl) T.n_repr (by decide +kernel) (pa_cons (pv 5) pa_nil)) (nomark _)))) (fun _ _ _ _ _ => (pv 5))) (pe_lst pa_nil) (nomark _))))))), ?_⟩)
  obtain ⟨a, ns, rfl, hSq, h63, k⟩ := h
  refine ha_seq ⟨.ref a, rfl, a, ns, rfl, hSq, h63, fun p c H1 hp hc e1 pu => ?_⟩
  dsimp only [gName]
  have hD : Dom [p, c] H1 := pu.dom
  refine ha_seq ⟨by decide, fun l hl => ?_⟩
  dsimp only [gName]
  obtain ⟨d2, e2, own2, lO⟩ := own_new hD hl
  have lp : l ≠ p := fun z => lO (by simp [z])
  have lc : l ≠ c := fun z => lO (by simp [z])
  have pu2 : Pu p c 0 (upd H1 l (.lst [])) := pu.same (fun a ha => upd_ne ha) lp lc
  have s2 : SD (hid [l, p, c] (upd H1 l (.lst []))) [.no, .at p, .at l, .no, .no, .no, .no] (((L2.start ["script", "purse", "held", "way", "which", "value", "caught"] [V.ref a]).set 1 (some (.ref p))).set 2 (some (.ref l))) :=
    sd_cons trivial (sd_cons rfl (sd_cons rfl (sd_cons trivial (sd_cons trivial (sd_cons trivial (sd_cons trivial sd_nil))))))
  have jo : ∀ {b n : Nat}, Jok [l, p, c] (fun H => Pu p c b H ∧ Hd A [l, p, c] l n H) := jok_and (Pu.jok (by simp) (by simp)) (Hd.jok (by simp))
  have kpo : ∀ {n : Nat} (H H' : Hp), Kp p c H H' → Hd A [l, p, c] l n H → Hd A [l, p, c] l n H' := fun {n} H H' kp h => Hd.kp (by simp) (by simp) lp lc H H' kp h
  refine dm_run (O := [l, p, c]) (J := fun H => Pu p c 0 H ∧ Hd A [l, p, c] l 0 H) (δ := [.no, .at p, .at l, .no, .no, .no, .no]) (N := fun _ _ => False) (R := fun v _ => v = .bl true) ?_ ⟨pu2, [], upd_same, Nat.le_refl _, fun t ht => by cases ht⟩ d2 s2 (fun _ _ _ z => z.elim) fun v H' r _ _ => by rw [r]; exact k H'
  have hl8 : (List.replicate (4 : Int).toNat [PyData.int 0, PyData.int 1]).flatten.length = 8 := rfl
  have it8 : ∀ j, j < 8 → ∃ w : Int, (List.replicate (4 : Int).toNat [PyData.int 0, PyData.int 1]).flatten.getD j .none = .int w := fun j hj => match j, hj with
    | 0, _ => ⟨0, rfl⟩
    | 1, _ => ⟨1, rfl⟩
    | 2, _ => ⟨0, rfl⟩
    | 3, _ => ⟨1, rfl⟩
    | 4, _ => ⟨0, rfl⟩
    | 5, _ => ⟨1, rfl⟩
    | 6, _ => ⟨0, rfl⟩
    | 7, _ => ⟨1, rfl⟩
  refine dm_seq (N1 := fun δ H => (∃ s3 s4 s5 s6, δ = [.no, .at p, .at l, s3, s4, s5, s6]) ∧ Pu p c 800 H ∧ Hd A [l, p, c] l 800 H) (dm_for (ix := [3]) (wp_list (ep_op (ep_lst (ap_cons ep_int (ap_cons ep_int ap_nil)) (by simp)) ep_int (rp_r (rp_rep (by decide) (by decide) (by decide))))) jo
    (fun j δ H => (∃ s3 s4 s5 s6, δ = [.no, .at p, .at l, s3, s4, s5, s6]) ∧ Pu p c (100 * j) H ∧ Hd A [l, p, c] l (100 * j) H) (fun H h => ⟨⟨_, _, _, _, rfl⟩, h⟩) (fun j δ1 H1 hj hI => ?_) fun δ1 H1 hI => by rw [hl8] at hI; exact hI) fun δ1 => dm_fact ?_
  · obtain ⟨⟨s3, s4, s5, s6, rfl⟩, hJ⟩ := hI
    rw [hl8] at hj
    obtain ⟨w, hw⟩ := it8 j hj
    refine ⟨_, _, gb_name, hJ, jo, ?_⟩
    rw [hw]
    refine dm_for (ix := [4]) (wp_rng1 (n := 11) (ap_cons ep_int ap_nil) (by decide)) jo (fun i δ H => (∃ s4 s5 s6, δ = [.no, .at p, .at l, .d (.int w), s4, s5, s6]) ∧ Pu p c (100 * j + 2 * i) H ∧ Hd A [l, p, c] l (100 * j + 2 * i) H) (fun H h => ⟨⟨_, _, _, rfl⟩, h⟩) (fun i δ1 H1 hi hI => ?_) fun δ1 H1 hI => ?_
    · obtain ⟨⟨t4, t5, t6, rfl⟩, hJ⟩ := hI
      have hi : i < 11 := hi
      refine ⟨_, _, gb_name, hJ, jo, ?_⟩
      refine dm_seq (N1 := fun δ H => ∃ d, (Bn 3 1000 d ∧ δ = [.no, .at p, .at l, .d (.int w), .d (.int (i : Int)), .d d, t6]) ∧ Pu p c (100 * j + 2 * i + 2) H ∧ Hd A [l, p, c] l (100 * j + 2 * i) H) (dm_asg (i := 5) (em_thing (B := 100 * j + 2 * i) (J := Hd A [l, p, c] l (100 * j + 2 * i)) (by simp) (by simp) rfl (by omega) kpo) fun d H q => ⟨d, ⟨q.1, rfl⟩, q.2⟩) fun δ1 => dm_ex fun d => dm_fact ?_
      rintro ⟨hb, rfl⟩
      have hsh := hb.shows (by decide) (by decide)
      refine dm_seq (N1 := fun δ H => ∃ ad, δ = [.no, .at p, .at l, .d (.int w), .d (.int (i : Int)), .d d, .at ad] ∧ (Kept K (hid [l, p, c] H) ad (cl A i) ∧ (8 ≤ i → ∃ dd u, hid [l, p, c] H ad = some (ExcAt ad (.ref (cl A i)) (some dd)) ∧ hid [l, p, c] H dd = some (.xd [("wrong", u)]) ∧ Dt (hid [l, p, c] H) d u)) ∧ Pu p c (100 * j + 2 * i + 2) H ∧ Hd A [l, p, c] l (100 * j + 2 * i) H)
        (dm_caught jo rfl rfl rfl hi hsh fun a H' hJ hkp h8 => ⟨a, rfl, ⟨hkp, h8⟩, hJ⟩) fun δ1 => dm_ex fun ad => dm_fact ?_
      rintro rfl
      have jc : Jok [l, p, c] (fun H => (Kept K (hid [l, p, c] H) ad (cl A i) ∧ (8 ≤ i → ∃ dd u, hid [l, p, c] H ad = some (ExcAt ad (.ref (cl A i)) (some dd)) ∧ hid [l, p, c] H dd = some (.xd [("wrong", u)]) ∧ Dt (hid [l, p, c] H) d u)) ∧ Pu p c (100 * j + 2 * i + 2) H ∧ Hd A [l, p, c] l (100 * j + 2 * i) H) :=
        jok_and (jok_and Kept.jok fun H H' _ e h h8 => by
          obtain ⟨dd, u, z1, z2, z3⟩ := h h8
          exact ⟨dd, u, e _ _ z1, e _ _ z2, Dt.mono e _ _ z3⟩) jo
      refine dm_seq (N1 := fun δ H => δ = [.no, .at p, .at l, .d (.int w), .d (.int (i : Int)), .d d, .at ad] ∧ (Kept K (hid [l, p, c] H) ad (cl A i) ∧ (8 ≤ i → ∃ dd u, hid [l, p, c] H ad = some (ExcAt ad (.ref (cl A i)) (some dd)) ∧ hid [l, p, c] H dd = some (.xd [("wrong", u)]) ∧ Dt (hid [l, p, c] H) d u)) ∧ Pu p c (100 * j + 2 * i + 2) H ∧ Hd A [l, p, c] l (100 * j + 2 * i) H)
        (dm_ifD (td_is (td_or (a := false) (td_test (ed_op jc (ed_marks (k := i) jc rfl hi fun H h => h.1.1) (ed_of jc (ep_lst (ap_cons (ep_var (i := 4) rfl) ap_nil) (by simp))) (sh_ne ⟨by simp [PyData.canLay0, PyData.canLayAll0], by simp [PyData.depth, PyData.depthAll]⟩))) fun _ => td_not (td_B (ed_isV (i := 6) (b := true) rfl (fun H h => Kept.ex h.1.1 hid_le) (kV T i hi)))) rfl) (fun z => by cases z) fun _ => dm_next fun H h => ⟨rfl, h⟩) fun δ1 => dm_fact ?_
      rintro rfl
      refine dm_ifD (td_of jc (tp_test (ep_op (ep_var (i := 4) (x := .int (i : Int)) rfl) ep_int (rp_bl (g := fun i j => decide (j < i)))))) (fun hc => ?_) fun _ => dm_next fun H h => ⟨⟨_, _, _, rfl⟩, h.2.1.mono (by omega), by
        obtain ⟨ts, z1, z2, z3⟩ := h.2.2
        exact ⟨ts, z1, by omega, z3⟩⟩
      have i8 : 8 ≤ i := by
        have z := of_decide_eq_true hc
        omega
      intro σ H D hJ hD hS kn kr
      obtain ⟨⟨hkp, h8⟩, hpu, ts, q1, q2, q3⟩ := hJ
      obtain ⟨dd, u, z1, z2, z3⟩ := h8 i8
      obtain ⟨v5, g5, w5⟩ := hS.var (i := 5) rfl
      refine ⟨.ref l, hS.loc (i := 2) rfl, Or.inl ⟨rfl, ts.map V.ref, SqL.of q1⟩, .ref ad, hS.loc (i := 6) rfl, v5, g5, by show 2 ≤ sizeLine; decide, fun t ht => ?_⟩
      have tO : t ∉ [l, p, c] := hD.fresh ht
      have tl : t ≠ l := fun z => tO (by simp [z])
      have ext : Ex (hid [l, p, c] H) (hid [l, p, c] (upd H t (.tup [.ref ad, v5]))) := hid_ex (Ex.new ht)
      refine ⟨l, ts.map V.ref, .ref t, rfl, rfl, by rw [upd_ne tl.symm]; exact q1, by rw [List.length_map]; exact Evl.sz_lt (by omega), ?_⟩
      have hh := hid_set (O := [l, p, c]) (l := l) (o := .lst (ts.map V.ref ++ [.ref t])) (H := upd H t (.tup [.ref ad, v5])) (by simp)
      refine kn _ σ _ ⟨⟨_, _, _, rfl⟩, ((hpu.same (fun a ha => upd_ne ha) (fun z => tO (by simp [z])) (fun z => tO (by simp [z]))).same (fun a ha => upd_ne ha) lp lc).mono (by omega), ts ++ [t], by rw [upd_same, List.map_append]; rfl, by rw [List.length_append]; simp only [List.length_cons, List.length_nil]; omega, fun t' ht' => ?_⟩ (dom_upd (hD.ex (Ex.new ht))) (by rw [hh]; exact ext) (by rw [hh]; exact hS.mono ext)
      rw [hh]
      rcases List.mem_append.mp ht' with z | z
      · exact (q3 t' z).ex ext
      · simp only [List.mem_cons, List.not_mem_nil, or_false] at z
        subst z
        exact ⟨ad, dd, i, v5, u, d, ⟨i8, hi⟩, by rw [hid_out tO, upd_same], ext _ _ z1, ext _ _ z2, Dt.mono ext _ _ w5, Dt.mono ext _ _ z3, hsh⟩
    · obtain ⟨⟨t4, t5, t6, rfl⟩, hpu, ts, z1, z2, z3⟩ := hI
      have e11 : (11 : Int).toNat = 11 := rfl
      rw [e11] at hpu z2
      exact ⟨⟨_, _, _, _, rfl⟩, hpu.mono (by omega), ts, z1, by omega, z3⟩
  rintro ⟨s3, s4, s5, s6, rfl⟩
  intro σ H D hJ hD hS kn kr
  obtain ⟨hpu, ts, q1, q2, q3⟩ := hJ
  have s2l : σ[2]? = some (some (.ref l)) := hS.loc (i := 2) rfl
  have hlen : σ.length = 7 := hS.1
  obtain ⟨x0, x1, x2, x3, x4, x5, x6, rfl⟩ : ∃ x0 x1 x2 x3 x4 x5 x6, σ = [x0, x1, x2, x3, x4, x5, x6] := match σ, hlen with | [x0, x1, x2, x3, x4, x5, x6], _ => ⟨x0, x1, x2, x3, x4, x5, x6, rfl⟩
  refine ⟨.ref l, s2l, l, rfl, ⟨_, SqL.of q1⟩, fun D0 hD0 => lc_it walk_list (fun i H' => H' D0 = some (.lst []) ∧ Ex H H') ⟨upd_same, Ex.new hD0⟩ (fun i H' _ p => SqL.of (p.2 _ _ q1)) (fun i x H' H2 hi p y => ?_) fun H' p => ?_⟩
  · obtain ⟨rfl, hy⟩ := y
    rw [List.getElem?_map] at hy
    cases ht : ts[i]? with
    | none => rw [ht] at hy; cases hy
    | some t =>
      rw [ht] at hy
      cases hy
      obtain ⟨a0, dd, k0, v, u, d, hk0, i1, i2, i3, i4, i5, i6⟩ := (q3 t (List.mem_of_getElem? ht)).ex (hid_le.trans p.2)
      refine ⟨t, _, rfl, SqT.of i1, rfl, .ref a0, [v], rfl, v, [], rfl, rfl, rfl, ?_⟩
      refine ⟨.ref a0, rfl, a0, cl A k0, dd, [("wrong", u)], u, rfl, i2, kF T k0 hk0.2, kW T k0 hk0, i3, rfl, ?_⟩
      refine ⟨u, d, rfl, Dt.dp d u i5, i6, v, rfl, v, d, rfl, Dt.dp d v i4, i6, Or.inr ⟨rfl, ?_⟩⟩
      have z : (!decide (V.str d.shown = V.str d.shown)) = false := by simp
      rw [z]
      exact ⟨false, rfl, p⟩
  · refine ⟨by decide, fun q hq => ⟨.list [], .list [], Dt.dp (.list []) (.ref D0) ⟨D0, [], rfl, Ex.new hq _ _ p.1, rfl⟩, Dt.dp (.list []) (.ref q) ⟨q, [], rfl, upd_same, rfl⟩, shaped_ints [], shaped_ints [], ?_⟩⟩
    exact kr _ _ rfl (hD.ex (p.2.trans (Ex.new hq))) (hid_ex (p.2.trans (Ex.new hq)))
end
end K75
namespace K75
open PySem L2 PySem.Spec PyProof.Rows Cp
open PySem.W PySem.Calls
set_option maxHeartbeats 0 in
theorem fin {w : World} {K : PySem.W.Frag} {h : Heap} {mg : Str → Option Value} {fa : Addr} (X : K.In h) (G : h.Ns mainGlobals mg) (hfa : mg "law" = some (.ref fa))
    {xPostError xNoChoice xNoEnd xNoGoers xNoName xNoNumber xNoPair xNoPlace xNoWishes xNoRow xNoStanding xNoTown xlaw_purse xlaw_draw xlaw_thing xlaw_marks xlaw_bare xlaw_texted xlaw_valued xlaw_caught xlaw xiNoRow xdNoRow xcNoRow xiNoStanding xdNoStanding xcNoStanding xiNoTown xdNoTown xcNoTown : Addr} {oclaw_purse kVlaw_purse dclaw_purse pmlaw_purse cdlaw_purse ctlaw_purse oclaw_draw kVlaw_draw dclaw_draw pmlaw_draw cdlaw_draw ctlaw_draw oclaw_thing kVlaw_thing dclaw_thing pmlaw_thing cdlaw_thing ctlaw_thing oclaw_marks kVlaw_marks dclaw_marks pmlaw_marks cdlaw_marks ctlaw_marks oclaw_bare kVlaw_bare dclaw_bare pmlaw_bare cdlaw_bare ctlaw_bare oclaw_texted kVlaw_texted dclaw_texted pmlaw_texted cdlaw_texted ctlaw_texted oclaw_valued kVlaw_valued dclaw_valued pmlaw_valued cdlaw_valued ctlaw_valued oclaw_caught kVlaw_caught dclaw_caught pmlaw_caught cdlaw_caught ctlaw_caught oclaw kVlaw dclaw pmlaw cdlaw ctlaw ocNoRow kVNoRow dcNoRow pmNoRow ctNoRow cclNoRow clNoRow ocNoStanding kVNoStanding dcNoStanding pmNoStanding ctNoStanding cclNoStanding clNoStanding ocNoTown kVNoTown dcNoTown pmNoTown ctNoTown cclNoTown clNoTown : Value} {odlaw_purse anlaw_purse odlaw_draw anlaw_draw odlaw_thing anlaw_thing odlaw_marks anlaw_marks odlaw_bare anlaw_bare odlaw_texted anlaw_texted odlaw_valued anlaw_valued odlaw_caught anlaw_caught odlaw anlaw odNoRow anNoRow ddNoRow cddNoRow cldNoRow odNoStanding anNoStanding ddNoStanding cddNoStanding cldNoStanding odNoTown anNoTown ddNoTown cddNoTown cldNoTown : Option Addr} {sllaw_purse sllaw_draw sllaw_thing sllaw_marks sllaw_bare sllaw_texted sllaw_valued sllaw_caught sllaw slNoRow ccsNoRow cslNoRow slNoStanding ccsNoStanding cslNoStanding slNoTown ccsNoTown cslNoTown : Array (Option Value)} {nmNoRow qnNoRow cfiNoRow : Str} {NNoRow : Addr} {bsNoRow bmNoRow subNoRow : List Value} {snNoRow : List Str} {abNoRow : Bool} {colNoRow : Option Bool} {m0NoRow m1NoRow m2NoRow m3NoRow m5NoRow : Option Value} {cvsNoRow : Array Value} {ctfNoRow : Tok} {nmNoStanding qnNoStanding cfiNoStanding : Str} {NNoStanding : Addr} {bsNoStanding bmNoStanding subNoStanding : List Value} {snNoStanding : List Str} {abNoStanding : Bool} {colNoStanding : Option Bool} {m0NoStanding m1NoStanding m2NoStanding m3NoStanding m5NoStanding : Option Value} {cvsNoStanding : Array Value} {ctfNoStanding : Tok} {nmNoTown qnNoTown cfiNoTown : Str} {NNoTown : Addr} {bsNoTown bmNoTown subNoTown : List Value} {snNoTown : List Str} {abNoTown : Bool} {colNoTown : Option Bool} {m0NoTown m1NoTown m2NoTown m3NoTown m5NoTown : Option Value} {cvsNoTown : Array Value} {ctfNoTown : Tok}
    (gPostError : PySem.W.nsIn K mainGlobals "PostError" = some (some (.ref xPostError)))
    (gNoChoice : PySem.W.nsIn K mainGlobals "NoChoice" = some (some (.ref xNoChoice)))
    (gNoEnd : PySem.W.nsIn K mainGlobals "NoEnd" = some (some (.ref xNoEnd)))
    (gNoGoers : PySem.W.nsIn K mainGlobals "NoGoers" = some (some (.ref xNoGoers)))
    (gNoName : PySem.W.nsIn K mainGlobals "NoName" = some (some (.ref xNoName)))
    (gNoNumber : PySem.W.nsIn K mainGlobals "NoNumber" = some (some (.ref xNoNumber)))
    (gNoPair : PySem.W.nsIn K mainGlobals "NoPair" = some (some (.ref xNoPair)))
    (gNoPlace : PySem.W.nsIn K mainGlobals "NoPlace" = some (some (.ref xNoPlace)))
    (gNoWishes : PySem.W.nsIn K mainGlobals "NoWishes" = some (some (.ref xNoWishes)))
    (gNoRow : PySem.W.nsIn K mainGlobals "NoRow" = some (some (.ref xNoRow)))
    (gNoStanding : PySem.W.nsIn K mainGlobals "NoStanding" = some (some (.ref xNoStanding)))
    (gNoTown : PySem.W.nsIn K mainGlobals "NoTown" = some (some (.ref xNoTown)))
    (alaw_purse : PySem.W.nsIn K mainGlobals "_law_purse" = some (some (.ref xlaw_purse)))
    (llaw_purse : K.lookup xlaw_purse = some ⟨oclaw_purse, odlaw_purse, .func (PySem.W.fnOf "_law_purse" "_law_purse" (defArgs s_law_purse) (defBody s_law_purse) (defScope s_law_purse) .none kVlaw_purse dclaw_purse pmlaw_purse anlaw_purse cdlaw_purse ctlaw_purse), sllaw_purse⟩)
    (claw_purse : PySem.W.codeIn K cdlaw_purse "_law_purse" = true)
    (klaw_purse : PySem.W.keepIn K (.ref xlaw_purse) = true)
    (alaw_draw : PySem.W.nsIn K mainGlobals "_law_draw" = some (some (.ref xlaw_draw)))
    (llaw_draw : K.lookup xlaw_draw = some ⟨oclaw_draw, odlaw_draw, .func (PySem.W.fnOf "_law_draw" "_law_draw" (defArgs s_law_draw) (defBody s_law_draw) (defScope s_law_draw) .none kVlaw_draw dclaw_draw pmlaw_draw anlaw_draw cdlaw_draw ctlaw_draw), sllaw_draw⟩)
    (claw_draw : PySem.W.codeIn K cdlaw_draw "_law_draw" = true)
    (klaw_draw : PySem.W.keepIn K (.ref xlaw_draw) = true)
    (alaw_thing : PySem.W.nsIn K mainGlobals "_law_thing" = some (some (.ref xlaw_thing)))
    (llaw_thing : K.lookup xlaw_thing = some ⟨oclaw_thing, odlaw_thing, .func (PySem.W.fnOf "_law_thing" "_law_thing" (defArgs s_law_thing) (defBody s_law_thing) (defScope s_law_thing) .none kVlaw_thing dclaw_thing pmlaw_thing anlaw_thing cdlaw_thing ctlaw_thing), sllaw_thing⟩)
    (claw_thing : PySem.W.codeIn K cdlaw_thing "_law_thing" = true)
    (klaw_thing : PySem.W.keepIn K (.ref xlaw_thing) = true)
    (alaw_marks : PySem.W.nsIn K mainGlobals "_law_marks" = some (some (.ref xlaw_marks)))
    (llaw_marks : K.lookup xlaw_marks = some ⟨oclaw_marks, odlaw_marks, .func (PySem.W.fnOf "_law_marks" "_law_marks" (defArgs s_law_marks) (defBody s_law_marks) (defScope s_law_marks) .none kVlaw_marks dclaw_marks pmlaw_marks anlaw_marks cdlaw_marks ctlaw_marks), sllaw_marks⟩)
    (claw_marks : PySem.W.codeIn K cdlaw_marks "_law_marks" = true)
    (klaw_marks : PySem.W.keepIn K (.ref xlaw_marks) = true)
    (alaw_bare : PySem.W.nsIn K mainGlobals "_law_bare" = some (some (.ref xlaw_bare)))
    (llaw_bare : K.lookup xlaw_bare = some ⟨oclaw_bare, odlaw_bare, .func (PySem.W.fnOf "_law_bare" "_law_bare" (defArgs s_law_bare) (defBody s_law_bare) (defScope s_law_bare) .none kVlaw_bare dclaw_bare pmlaw_bare anlaw_bare cdlaw_bare ctlaw_bare), sllaw_bare⟩)
    (claw_bare : PySem.W.codeIn K cdlaw_bare "_law_bare" = true)
    (klaw_bare : PySem.W.keepIn K (.ref xlaw_bare) = true)
    (alaw_texted : PySem.W.nsIn K mainGlobals "_law_texted" = some (some (.ref xlaw_texted)))
    (llaw_texted : K.lookup xlaw_texted = some ⟨oclaw_texted, odlaw_texted, .func (PySem.W.fnOf "_law_texted" "_law_texted" (defArgs s_law_texted) (defBody s_law_texted) (defScope s_law_texted) .none kVlaw_texted dclaw_texted pmlaw_texted anlaw_texted cdlaw_texted ctlaw_texted), sllaw_texted⟩)
    (claw_texted : PySem.W.codeIn K cdlaw_texted "_law_texted" = true)
    (klaw_texted : PySem.W.keepIn K (.ref xlaw_texted) = true)
    (alaw_valued : PySem.W.nsIn K mainGlobals "_law_valued" = some (some (.ref xlaw_valued)))
    (llaw_valued : K.lookup xlaw_valued = some ⟨oclaw_valued, odlaw_valued, .func (PySem.W.fnOf "_law_valued" "_law_valued" (defArgs s_law_valued) (defBody s_law_valued) (defScope s_law_valued) .none kVlaw_valued dclaw_valued pmlaw_valued anlaw_valued cdlaw_valued ctlaw_valued), sllaw_valued⟩)
    (claw_valued : PySem.W.codeIn K cdlaw_valued "_law_valued" = true)
    (klaw_valued : PySem.W.keepIn K (.ref xlaw_valued) = true)
    (alaw_caught : PySem.W.nsIn K mainGlobals "_law_caught" = some (some (.ref xlaw_caught)))
    (llaw_caught : K.lookup xlaw_caught = some ⟨oclaw_caught, odlaw_caught, .func (PySem.W.fnOf "_law_caught" "_law_caught" (defArgs s_law_caught) (defBody s_law_caught) (defScope s_law_caught) .none kVlaw_caught dclaw_caught pmlaw_caught anlaw_caught cdlaw_caught ctlaw_caught), sllaw_caught⟩)
    (claw_caught : PySem.W.codeIn K cdlaw_caught "_law_caught" = true)
    (klaw_caught : PySem.W.keepIn K (.ref xlaw_caught) = true)
    (alaw : PySem.W.nsIn K mainGlobals "law" = some (some (.ref xlaw)))
    (llaw : K.lookup xlaw = some ⟨oclaw, odlaw, .func (PySem.W.fnOf "law" "law" (defArgs s_law) (defBody s_law) (defScope s_law) .none kVlaw dclaw pmlaw anlaw cdlaw ctlaw), sllaw⟩)
    (claw : PySem.W.codeIn K cdlaw "law" = true)
    (klaw : PySem.W.keepIn K (.ref xlaw) = true)
    (n_ValueError : PySem.W.nsIn K mainGlobals "ValueError" = some none)
    (n_abs : PySem.W.nsIn K mainGlobals "abs" = some none)
    (n_isinstance : PySem.W.nsIn K mainGlobals "isinstance" = some none)
    (n_len : PySem.W.nsIn K mainGlobals "len" = some none)
    (n_range : PySem.W.nsIn K mainGlobals "range" = some none)
    (n_repr : PySem.W.nsIn K mainGlobals "repr" = some none)
    (n_str : PySem.W.nsIn K mainGlobals "str" = some none)
    (n_super : PySem.W.nsIn K mainGlobals "super" = some none)
    (oxNoChoice : PySem.W.excIn K xNoChoice [.type "ValueError", .type "Exception", .type "BaseException", .type "object"] "ValueError.__new__" = true)
    (oxNoEnd : PySem.W.excIn K xNoEnd [.type "ValueError", .type "Exception", .type "BaseException", .type "object"] "ValueError.__new__" = true)
    (oxNoGoers : PySem.W.excIn K xNoGoers [.type "ValueError", .type "Exception", .type "BaseException", .type "object"] "ValueError.__new__" = true)
    (oxNoName : PySem.W.excIn K xNoName [.type "ValueError", .type "Exception", .type "BaseException", .type "object"] "ValueError.__new__" = true)
    (oxNoNumber : PySem.W.excIn K xNoNumber [.type "ValueError", .type "Exception", .type "BaseException", .type "object"] "ValueError.__new__" = true)
    (oxNoPair : PySem.W.excIn K xNoPair [.type "ValueError", .type "Exception", .type "BaseException", .type "object"] "ValueError.__new__" = true)
    (oxNoPlace : PySem.W.excIn K xNoPlace [.type "ValueError", .type "Exception", .type "BaseException", .type "object"] "ValueError.__new__" = true)
    (oxNoWishes : PySem.W.excIn K xNoWishes [.type "ValueError", .type "Exception", .type "BaseException", .type "object"] "ValueError.__new__" = true)
    (okNoChoice : PySem.W.keepIn K (.ref xNoChoice) = true)
    (osNoChoice : PySem.W.subIn K (.ref xNoChoice) (.type "BaseException") = some true)
    (otNoChoice : PySem.W.typeIn K (.ref xNoChoice) = some (.type "type"))
    (egNoChoice : PySem.W.findIn K (.ref xNoChoice) "__getattribute__" = some (some (.builtin "BaseException.__getattribute__")))
    (ekNoChoice : PySem.W.findIn K (.ref xNoChoice) "__getattr__" = some none)
    (edNoChoice : PySem.W.hasDictIn K xNoChoice = true)
    (eaNoChoice : PySem.W.findIn K (.ref xNoChoice) "__class__" = some (some (.builtin "object.__class__")))
    (emNoChoice : PySem.W.mroIn K xNoChoice (.type "object") = some true)
    (okNoEnd : PySem.W.keepIn K (.ref xNoEnd) = true)
    (osNoEnd : PySem.W.subIn K (.ref xNoEnd) (.type "BaseException") = some true)
    (otNoEnd : PySem.W.typeIn K (.ref xNoEnd) = some (.type "type"))
    (egNoEnd : PySem.W.findIn K (.ref xNoEnd) "__getattribute__" = some (some (.builtin "BaseException.__getattribute__")))
    (ekNoEnd : PySem.W.findIn K (.ref xNoEnd) "__getattr__" = some none)
    (edNoEnd : PySem.W.hasDictIn K xNoEnd = true)
    (eaNoEnd : PySem.W.findIn K (.ref xNoEnd) "__class__" = some (some (.builtin "object.__class__")))
    (emNoEnd : PySem.W.mroIn K xNoEnd (.type "object") = some true)
    (okNoGoers : PySem.W.keepIn K (.ref xNoGoers) = true)
    (osNoGoers : PySem.W.subIn K (.ref xNoGoers) (.type "BaseException") = some true)
    (otNoGoers : PySem.W.typeIn K (.ref xNoGoers) = some (.type "type"))
    (egNoGoers : PySem.W.findIn K (.ref xNoGoers) "__getattribute__" = some (some (.builtin "BaseException.__getattribute__")))
    (ekNoGoers : PySem.W.findIn K (.ref xNoGoers) "__getattr__" = some none)
    (edNoGoers : PySem.W.hasDictIn K xNoGoers = true)
    (eaNoGoers : PySem.W.findIn K (.ref xNoGoers) "__class__" = some (some (.builtin "object.__class__")))
    (emNoGoers : PySem.W.mroIn K xNoGoers (.type "object") = some true)
    (okNoName : PySem.W.keepIn K (.ref xNoName) = true)
    (osNoName : PySem.W.subIn K (.ref xNoName) (.type "BaseException") = some true)
    (otNoName : PySem.W.typeIn K (.ref xNoName) = some (.type "type"))
    (egNoName : PySem.W.findIn K (.ref xNoName) "__getattribute__" = some (some (.builtin "BaseException.__getattribute__")))
    (ekNoName : PySem.W.findIn K (.ref xNoName) "__getattr__" = some none)
    (edNoName : PySem.W.hasDictIn K xNoName = true)
    (eaNoName : PySem.W.findIn K (.ref xNoName) "__class__" = some (some (.builtin "object.__class__")))
    (emNoName : PySem.W.mroIn K xNoName (.type "object") = some true)
    (okNoNumber : PySem.W.keepIn K (.ref xNoNumber) = true)
    (osNoNumber : PySem.W.subIn K (.ref xNoNumber) (.type "BaseException") = some true)
    (otNoNumber : PySem.W.typeIn K (.ref xNoNumber) = some (.type "type"))
    (egNoNumber : PySem.W.findIn K (.ref xNoNumber) "__getattribute__" = some (some (.builtin "BaseException.__getattribute__")))
    (ekNoNumber : PySem.W.findIn K (.ref xNoNumber) "__getattr__" = some none)
    (edNoNumber : PySem.W.hasDictIn K xNoNumber = true)
    (eaNoNumber : PySem.W.findIn K (.ref xNoNumber) "__class__" = some (some (.builtin "object.__class__")))
    (emNoNumber : PySem.W.mroIn K xNoNumber (.type "object") = some true)
    (okNoPair : PySem.W.keepIn K (.ref xNoPair) = true)
    (osNoPair : PySem.W.subIn K (.ref xNoPair) (.type "BaseException") = some true)
    (otNoPair : PySem.W.typeIn K (.ref xNoPair) = some (.type "type"))
    (egNoPair : PySem.W.findIn K (.ref xNoPair) "__getattribute__" = some (some (.builtin "BaseException.__getattribute__")))
    (ekNoPair : PySem.W.findIn K (.ref xNoPair) "__getattr__" = some none)
    (edNoPair : PySem.W.hasDictIn K xNoPair = true)
    (eaNoPair : PySem.W.findIn K (.ref xNoPair) "__class__" = some (some (.builtin "object.__class__")))
    (emNoPair : PySem.W.mroIn K xNoPair (.type "object") = some true)
    (okNoPlace : PySem.W.keepIn K (.ref xNoPlace) = true)
    (osNoPlace : PySem.W.subIn K (.ref xNoPlace) (.type "BaseException") = some true)
    (otNoPlace : PySem.W.typeIn K (.ref xNoPlace) = some (.type "type"))
    (egNoPlace : PySem.W.findIn K (.ref xNoPlace) "__getattribute__" = some (some (.builtin "BaseException.__getattribute__")))
    (ekNoPlace : PySem.W.findIn K (.ref xNoPlace) "__getattr__" = some none)
    (edNoPlace : PySem.W.hasDictIn K xNoPlace = true)
    (eaNoPlace : PySem.W.findIn K (.ref xNoPlace) "__class__" = some (some (.builtin "object.__class__")))
    (emNoPlace : PySem.W.mroIn K xNoPlace (.type "object") = some true)
    (okNoRow : PySem.W.keepIn K (.ref xNoRow) = true)
    (osNoRow : PySem.W.subIn K (.ref xNoRow) (.type "BaseException") = some true)
    (otNoRow : PySem.W.typeIn K (.ref xNoRow) = some (.type "type"))
    (egNoRow : PySem.W.findIn K (.ref xNoRow) "__getattribute__" = some (some (.builtin "BaseException.__getattribute__")))
    (ekNoRow : PySem.W.findIn K (.ref xNoRow) "__getattr__" = some none)
    (edNoRow : PySem.W.hasDictIn K xNoRow = true)
    (eaNoRow : PySem.W.findIn K (.ref xNoRow) "__class__" = some (some (.builtin "object.__class__")))
    (emNoRow : PySem.W.mroIn K xNoRow (.type "object") = some true)
    (okNoStanding : PySem.W.keepIn K (.ref xNoStanding) = true)
    (osNoStanding : PySem.W.subIn K (.ref xNoStanding) (.type "BaseException") = some true)
    (otNoStanding : PySem.W.typeIn K (.ref xNoStanding) = some (.type "type"))
    (egNoStanding : PySem.W.findIn K (.ref xNoStanding) "__getattribute__" = some (some (.builtin "BaseException.__getattribute__")))
    (ekNoStanding : PySem.W.findIn K (.ref xNoStanding) "__getattr__" = some none)
    (edNoStanding : PySem.W.hasDictIn K xNoStanding = true)
    (eaNoStanding : PySem.W.findIn K (.ref xNoStanding) "__class__" = some (some (.builtin "object.__class__")))
    (emNoStanding : PySem.W.mroIn K xNoStanding (.type "object") = some true)
    (okNoTown : PySem.W.keepIn K (.ref xNoTown) = true)
    (osNoTown : PySem.W.subIn K (.ref xNoTown) (.type "BaseException") = some true)
    (otNoTown : PySem.W.typeIn K (.ref xNoTown) = some (.type "type"))
    (egNoTown : PySem.W.findIn K (.ref xNoTown) "__getattribute__" = some (some (.builtin "BaseException.__getattribute__")))
    (ekNoTown : PySem.W.findIn K (.ref xNoTown) "__getattr__" = some none)
    (edNoTown : PySem.W.hasDictIn K xNoTown = true)
    (eaNoTown : PySem.W.findIn K (.ref xNoTown) "__class__" = some (some (.builtin "object.__class__")))
    (emNoTown : PySem.W.mroIn K xNoTown (.type "object") = some true)
    (okNoWishes : PySem.W.keepIn K (.ref xNoWishes) = true)
    (osNoWishes : PySem.W.subIn K (.ref xNoWishes) (.type "BaseException") = some true)
    (otNoWishes : PySem.W.typeIn K (.ref xNoWishes) = some (.type "type"))
    (egNoWishes : PySem.W.findIn K (.ref xNoWishes) "__getattribute__" = some (some (.builtin "BaseException.__getattribute__")))
    (ekNoWishes : PySem.W.findIn K (.ref xNoWishes) "__getattr__" = some none)
    (edNoWishes : PySem.W.hasDictIn K xNoWishes = true)
    (eaNoWishes : PySem.W.findIn K (.ref xNoWishes) "__class__" = some (some (.builtin "object.__class__")))
    (emNoWishes : PySem.W.mroIn K xNoWishes (.type "object") = some true)
    (en : PySem.W.specialIn K (.builtin "object.__class__") "__get__" = some (some (.builtin "getset_descriptor.__get__")))
    (et : PySem.W.takesIn K (.builtin "object.__class__") = some true)
    (plNoRow : K.lookup xNoRow = some (excClassObj nmNoRow qnNoRow xNoRow NNoRow bsNoRow bmNoRow true snNoRow subNoRow abNoRow colNoRow ddNoRow m0NoRow m1NoRow m2NoRow m3NoRow m5NoRow "ValueError.__new__"))
    (prNoRow : PySem.HandSPX.refsVE bmNoRow = true)
    (paNoRow : PySem.W.findIn K (.ref xNoRow) "__setattr__" = some (some (.builtin "object.__setattr__")))
    (piNoRow : PySem.W.findIn K (.ref xNoRow) "__init__" = some (some (.ref xiNoRow)))
    (ptNoRow : PySem.W.typeIn K (.ref xiNoRow) = some (.type "function"))
    (pkNoRow : PySem.W.keepIn K (.ref xiNoRow) = true)
    (pwNoRow : PySem.W.findIn K (.ref xNoRow) "wrong" = some none)
    (pfNoRow : K.lookup xiNoRow = some ⟨ocNoRow, odNoRow, .func (ksFn "__init__" "NoRow.__init__" (supArgs (zOf (inClass (topS 10) 0))) (supBody "this is no row" (zOf (inClass (topS 10) 0))) supScope .none kVNoRow dcNoRow pmNoRow anNoRow (.ref xdNoRow) ctNoRow xcNoRow), slNoRow⟩)
    (pcNoRow : PySem.W.codeIn K (.ref xdNoRow) "NoRow.__init__" = true)
    (poNoRow : K.lookup xdNoRow = some ⟨cclNoRow, cddNoRow, .fields cvsNoRow, ccsNoRow⟩)
    (p2NoRow : cvsNoRow[2]? = some (.str cfiNoRow ctfNoRow))
    (p3NoRow : ((prg.main.file : Str) == cfiNoRow) = true)
    (peNoRow : K.lookup xcNoRow = some ⟨clNoRow, cldNoRow, .cell (some (.ref xNoRow)), cslNoRow⟩)
    (p1NoRow : PySem.W.mroIn K xNoRow (.ref xNoRow) = some true)
    (puNoRow : ks_superIn K xNoRow xNoRow "__init__" = some (some (.builtin "ValueError.__init__")))
    (pvNoRow : PySem.W.subIn K (.ref xNoRow) (.type "ValueError") = some true)
    (plNoStanding : K.lookup xNoStanding = some (excClassObj nmNoStanding qnNoStanding xNoStanding NNoStanding bsNoStanding bmNoStanding true snNoStanding subNoStanding abNoStanding colNoStanding ddNoStanding m0NoStanding m1NoStanding m2NoStanding m3NoStanding m5NoStanding "ValueError.__new__"))
    (prNoStanding : PySem.HandSPX.refsVE bmNoStanding = true)
    (paNoStanding : PySem.W.findIn K (.ref xNoStanding) "__setattr__" = some (some (.builtin "object.__setattr__")))
    (piNoStanding : PySem.W.findIn K (.ref xNoStanding) "__init__" = some (some (.ref xiNoStanding)))
    (ptNoStanding : PySem.W.typeIn K (.ref xiNoStanding) = some (.type "function"))
    (pkNoStanding : PySem.W.keepIn K (.ref xiNoStanding) = true)
    (pwNoStanding : PySem.W.findIn K (.ref xNoStanding) "wrong" = some none)
    (pfNoStanding : K.lookup xiNoStanding = some ⟨ocNoStanding, odNoStanding, .func (ksFn "__init__" "NoStanding.__init__" (supArgs (zOf (inClass (topS 11) 0))) (supBody "this is no standing" (zOf (inClass (topS 11) 0))) supScope .none kVNoStanding dcNoStanding pmNoStanding anNoStanding (.ref xdNoStanding) ctNoStanding xcNoStanding), slNoStanding⟩)
    (pcNoStanding : PySem.W.codeIn K (.ref xdNoStanding) "NoStanding.__init__" = true)
    (poNoStanding : K.lookup xdNoStanding = some ⟨cclNoStanding, cddNoStanding, .fields cvsNoStanding, ccsNoStanding⟩)
    (p2NoStanding : cvsNoStanding[2]? = some (.str cfiNoStanding ctfNoStanding))
    (p3NoStanding : ((prg.main.file : Str) == cfiNoStanding) = true)
    (peNoStanding : K.lookup xcNoStanding = some ⟨clNoStanding, cldNoStanding, .cell (some (.ref xNoStanding)), cslNoStanding⟩)
    (p1NoStanding : PySem.W.mroIn K xNoStanding (.ref xNoStanding) = some true)
    (puNoStanding : ks_superIn K xNoStanding xNoStanding "__init__" = some (some (.builtin "ValueError.__init__")))
    (pvNoStanding : PySem.W.subIn K (.ref xNoStanding) (.type "ValueError") = some true)
    (plNoTown : K.lookup xNoTown = some (excClassObj nmNoTown qnNoTown xNoTown NNoTown bsNoTown bmNoTown true snNoTown subNoTown abNoTown colNoTown ddNoTown m0NoTown m1NoTown m2NoTown m3NoTown m5NoTown "ValueError.__new__"))
    (prNoTown : PySem.HandSPX.refsVE bmNoTown = true)
    (paNoTown : PySem.W.findIn K (.ref xNoTown) "__setattr__" = some (some (.builtin "object.__setattr__")))
    (piNoTown : PySem.W.findIn K (.ref xNoTown) "__init__" = some (some (.ref xiNoTown)))
    (ptNoTown : PySem.W.typeIn K (.ref xiNoTown) = some (.type "function"))
    (pkNoTown : PySem.W.keepIn K (.ref xiNoTown) = true)
    (pwNoTown : PySem.W.findIn K (.ref xNoTown) "wrong" = some none)
    (pfNoTown : K.lookup xiNoTown = some ⟨ocNoTown, odNoTown, .func (ksFn "__init__" "NoTown.__init__" (supArgs (zOf (inClass (topS 12) 0))) (supBody "this is no town" (zOf (inClass (topS 12) 0))) supScope .none kVNoTown dcNoTown pmNoTown anNoTown (.ref xdNoTown) ctNoTown xcNoTown), slNoTown⟩)
    (pcNoTown : PySem.W.codeIn K (.ref xdNoTown) "NoTown.__init__" = true)
    (poNoTown : K.lookup xdNoTown = some ⟨cclNoTown, cddNoTown, .fields cvsNoTown, ccsNoTown⟩)
    (p2NoTown : cvsNoTown[2]? = some (.str cfiNoTown ctfNoTown))
    (p3NoTown : ((prg.main.file : Str) == cfiNoTown) = true)
    (peNoTown : K.lookup xcNoTown = some ⟨clNoTown, cldNoTown, .cell (some (.ref xNoTown)), cslNoTown⟩)
    (p1NoTown : PySem.W.mroIn K xNoTown (.ref xNoTown) = some true)
    (puNoTown : ks_superIn K xNoTown xNoTown "__init__" = some (some (.builtin "ValueError.__init__")))
    (pvNoTown : PySem.W.subIn K (.ref xNoTown) (.type "ValueError") = some true)
    (pq : PySem.W.nsIn K cStatics "thirdparty.any" = some none)
    (isPostError : PySem.W.isClsIn K xPostError = true)
    (itPostError : PySem.W.typeIn K (.ref xPostError) = some (.type "type"))
    (iePostError : PySem.W.subIn K (.ref xPostError) (.type "BaseException") = some true)
    (isNoChoice : PySem.W.isClsIn K xNoChoice = true)
    (itNoChoice : PySem.W.typeIn K (.ref xNoChoice) = some (.type "type"))
    (ieNoChoice : PySem.W.subIn K (.ref xNoChoice) (.type "BaseException") = some true)
    (isNoEnd : PySem.W.isClsIn K xNoEnd = true)
    (itNoEnd : PySem.W.typeIn K (.ref xNoEnd) = some (.type "type"))
    (ieNoEnd : PySem.W.subIn K (.ref xNoEnd) (.type "BaseException") = some true)
    (isNoGoers : PySem.W.isClsIn K xNoGoers = true)
    (itNoGoers : PySem.W.typeIn K (.ref xNoGoers) = some (.type "type"))
    (ieNoGoers : PySem.W.subIn K (.ref xNoGoers) (.type "BaseException") = some true)
    (isNoName : PySem.W.isClsIn K xNoName = true)
    (itNoName : PySem.W.typeIn K (.ref xNoName) = some (.type "type"))
    (ieNoName : PySem.W.subIn K (.ref xNoName) (.type "BaseException") = some true)
    (isNoNumber : PySem.W.isClsIn K xNoNumber = true)
    (itNoNumber : PySem.W.typeIn K (.ref xNoNumber) = some (.type "type"))
    (ieNoNumber : PySem.W.subIn K (.ref xNoNumber) (.type "BaseException") = some true)
    (isNoPair : PySem.W.isClsIn K xNoPair = true)
    (itNoPair : PySem.W.typeIn K (.ref xNoPair) = some (.type "type"))
    (ieNoPair : PySem.W.subIn K (.ref xNoPair) (.type "BaseException") = some true)
    (isNoPlace : PySem.W.isClsIn K xNoPlace = true)
    (itNoPlace : PySem.W.typeIn K (.ref xNoPlace) = some (.type "type"))
    (ieNoPlace : PySem.W.subIn K (.ref xNoPlace) (.type "BaseException") = some true)
    (isNoWishes : PySem.W.isClsIn K xNoWishes = true)
    (itNoWishes : PySem.W.typeIn K (.ref xNoWishes) = some (.type "type"))
    (ieNoWishes : PySem.W.subIn K (.ref xNoWishes) (.type "BaseException") = some true)
    (isNoRow : PySem.W.isClsIn K xNoRow = true)
    (itNoRow : PySem.W.typeIn K (.ref xNoRow) = some (.type "type"))
    (ieNoRow : PySem.W.subIn K (.ref xNoRow) (.type "BaseException") = some true)
    (isNoStanding : PySem.W.isClsIn K xNoStanding = true)
    (itNoStanding : PySem.W.typeIn K (.ref xNoStanding) = some (.type "type"))
    (ieNoStanding : PySem.W.subIn K (.ref xNoStanding) (.type "BaseException") = some true)
    (isNoTown : PySem.W.isClsIn K xNoTown = true)
    (itNoTown : PySem.W.typeIn K (.ref xNoTown) = some (.type "type"))
    (ieNoTown : PySem.W.subIn K (.ref xNoTown) (.type "BaseException") = some true)
    (su_NoChoice_ValueError : PySem.W.subIn K (.ref xNoChoice) (.type "ValueError") = some true)
    (su_NoEnd_ValueError : PySem.W.subIn K (.ref xNoEnd) (.type "ValueError") = some true)
    (su_NoGoers_ValueError : PySem.W.subIn K (.ref xNoGoers) (.type "ValueError") = some true)
    (su_NoName_ValueError : PySem.W.subIn K (.ref xNoName) (.type "ValueError") = some true)
    (su_NoNumber_ValueError : PySem.W.subIn K (.ref xNoNumber) (.type "ValueError") = some true)
    (su_NoPair_ValueError : PySem.W.subIn K (.ref xNoPair) (.type "ValueError") = some true)
    (su_NoPlace_ValueError : PySem.W.subIn K (.ref xNoPlace) (.type "ValueError") = some true)
    (su_NoWishes_ValueError : PySem.W.subIn K (.ref xNoWishes) (.type "ValueError") = some true)
    (su_NoRow_ValueError : PySem.W.subIn K (.ref xNoRow) (.type "ValueError") = some true)
    (su_NoStanding_ValueError : PySem.W.subIn K (.ref xNoStanding) (.type "ValueError") = some true)
    (su_NoTown_ValueError : PySem.W.subIn K (.ref xNoTown) (.type "ValueError") = some true)
    (su_NoChoice_NoEnd : PySem.W.subIn K (.ref xNoChoice) (.ref xNoEnd) = some false)
    (ne_NoChoice_NoEnd : xNoChoice ≠ xNoEnd)
    (su_NoChoice_NoGoers : PySem.W.subIn K (.ref xNoChoice) (.ref xNoGoers) = some false)
    (ne_NoChoice_NoGoers : xNoChoice ≠ xNoGoers)
    (su_NoChoice_NoName : PySem.W.subIn K (.ref xNoChoice) (.ref xNoName) = some false)
    (ne_NoChoice_NoName : xNoChoice ≠ xNoName)
    (su_NoChoice_NoNumber : PySem.W.subIn K (.ref xNoChoice) (.ref xNoNumber) = some false)
    (ne_NoChoice_NoNumber : xNoChoice ≠ xNoNumber)
    (su_NoChoice_NoPair : PySem.W.subIn K (.ref xNoChoice) (.ref xNoPair) = some false)
    (ne_NoChoice_NoPair : xNoChoice ≠ xNoPair)
    (su_NoChoice_NoPlace : PySem.W.subIn K (.ref xNoChoice) (.ref xNoPlace) = some false)
    (ne_NoChoice_NoPlace : xNoChoice ≠ xNoPlace)
    (su_NoChoice_NoWishes : PySem.W.subIn K (.ref xNoChoice) (.ref xNoWishes) = some false)
    (ne_NoChoice_NoWishes : xNoChoice ≠ xNoWishes)
    (su_NoChoice_NoRow : PySem.W.subIn K (.ref xNoChoice) (.ref xNoRow) = some false)
    (ne_NoChoice_NoRow : xNoChoice ≠ xNoRow)
    (su_NoChoice_NoStanding : PySem.W.subIn K (.ref xNoChoice) (.ref xNoStanding) = some false)
    (ne_NoChoice_NoStanding : xNoChoice ≠ xNoStanding)
    (su_NoChoice_NoTown : PySem.W.subIn K (.ref xNoChoice) (.ref xNoTown) = some false)
    (ne_NoChoice_NoTown : xNoChoice ≠ xNoTown)
    (su_NoEnd_NoChoice : PySem.W.subIn K (.ref xNoEnd) (.ref xNoChoice) = some false)
    (ne_NoEnd_NoChoice : xNoEnd ≠ xNoChoice)
    (su_NoEnd_NoGoers : PySem.W.subIn K (.ref xNoEnd) (.ref xNoGoers) = some false)
    (ne_NoEnd_NoGoers : xNoEnd ≠ xNoGoers)
    (su_NoEnd_NoName : PySem.W.subIn K (.ref xNoEnd) (.ref xNoName) = some false)
    (ne_NoEnd_NoName : xNoEnd ≠ xNoName)
    (su_NoEnd_NoNumber : PySem.W.subIn K (.ref xNoEnd) (.ref xNoNumber) = some false)
    (ne_NoEnd_NoNumber : xNoEnd ≠ xNoNumber)
    (su_NoEnd_NoPair : PySem.W.subIn K (.ref xNoEnd) (.ref xNoPair) = some false)
    (ne_NoEnd_NoPair : xNoEnd ≠ xNoPair)
    (su_NoEnd_NoPlace : PySem.W.subIn K (.ref xNoEnd) (.ref xNoPlace) = some false)
    (ne_NoEnd_NoPlace : xNoEnd ≠ xNoPlace)
    (su_NoEnd_NoWishes : PySem.W.subIn K (.ref xNoEnd) (.ref xNoWishes) = some false)
    (ne_NoEnd_NoWishes : xNoEnd ≠ xNoWishes)
    (su_NoEnd_NoRow : PySem.W.subIn K (.ref xNoEnd) (.ref xNoRow) = some false)
    (ne_NoEnd_NoRow : xNoEnd ≠ xNoRow)
    (su_NoEnd_NoStanding : PySem.W.subIn K (.ref xNoEnd) (.ref xNoStanding) = some false)
    (ne_NoEnd_NoStanding : xNoEnd ≠ xNoStanding)
    (su_NoEnd_NoTown : PySem.W.subIn K (.ref xNoEnd) (.ref xNoTown) = some false)
    (ne_NoEnd_NoTown : xNoEnd ≠ xNoTown)
    (su_NoGoers_NoChoice : PySem.W.subIn K (.ref xNoGoers) (.ref xNoChoice) = some false)
    (ne_NoGoers_NoChoice : xNoGoers ≠ xNoChoice)
    (su_NoGoers_NoEnd : PySem.W.subIn K (.ref xNoGoers) (.ref xNoEnd) = some false)
    (ne_NoGoers_NoEnd : xNoGoers ≠ xNoEnd)
    (su_NoGoers_NoName : PySem.W.subIn K (.ref xNoGoers) (.ref xNoName) = some false)
    (ne_NoGoers_NoName : xNoGoers ≠ xNoName)
    (su_NoGoers_NoNumber : PySem.W.subIn K (.ref xNoGoers) (.ref xNoNumber) = some false)
    (ne_NoGoers_NoNumber : xNoGoers ≠ xNoNumber)
    (su_NoGoers_NoPair : PySem.W.subIn K (.ref xNoGoers) (.ref xNoPair) = some false)
    (ne_NoGoers_NoPair : xNoGoers ≠ xNoPair)
    (su_NoGoers_NoPlace : PySem.W.subIn K (.ref xNoGoers) (.ref xNoPlace) = some false)
    (ne_NoGoers_NoPlace : xNoGoers ≠ xNoPlace)
    (su_NoGoers_NoWishes : PySem.W.subIn K (.ref xNoGoers) (.ref xNoWishes) = some false)
    (ne_NoGoers_NoWishes : xNoGoers ≠ xNoWishes)
    (su_NoGoers_NoRow : PySem.W.subIn K (.ref xNoGoers) (.ref xNoRow) = some false)
    (ne_NoGoers_NoRow : xNoGoers ≠ xNoRow)
    (su_NoGoers_NoStanding : PySem.W.subIn K (.ref xNoGoers) (.ref xNoStanding) = some false)
    (ne_NoGoers_NoStanding : xNoGoers ≠ xNoStanding)
    (su_NoGoers_NoTown : PySem.W.subIn K (.ref xNoGoers) (.ref xNoTown) = some false)
    (ne_NoGoers_NoTown : xNoGoers ≠ xNoTown)
    (su_NoName_NoChoice : PySem.W.subIn K (.ref xNoName) (.ref xNoChoice) = some false)
    (ne_NoName_NoChoice : xNoName ≠ xNoChoice)
    (su_NoName_NoEnd : PySem.W.subIn K (.ref xNoName) (.ref xNoEnd) = some false)
    (ne_NoName_NoEnd : xNoName ≠ xNoEnd)
    (su_NoName_NoGoers : PySem.W.subIn K (.ref xNoName) (.ref xNoGoers) = some false)
    (ne_NoName_NoGoers : xNoName ≠ xNoGoers)
    (su_NoName_NoNumber : PySem.W.subIn K (.ref xNoName) (.ref xNoNumber) = some false)
    (ne_NoName_NoNumber : xNoName ≠ xNoNumber)
    (su_NoName_NoPair : PySem.W.subIn K (.ref xNoName) (.ref xNoPair) = some false)
    (ne_NoName_NoPair : xNoName ≠ xNoPair)
    (su_NoName_NoPlace : PySem.W.subIn K (.ref xNoName) (.ref xNoPlace) = some false)
    (ne_NoName_NoPlace : xNoName ≠ xNoPlace)
    (su_NoName_NoWishes : PySem.W.subIn K (.ref xNoName) (.ref xNoWishes) = some false)
    (ne_NoName_NoWishes : xNoName ≠ xNoWishes)
    (su_NoName_NoRow : PySem.W.subIn K (.ref xNoName) (.ref xNoRow) = some false)
    (ne_NoName_NoRow : xNoName ≠ xNoRow)
    (su_NoName_NoStanding : PySem.W.subIn K (.ref xNoName) (.ref xNoStanding) = some false)
    (ne_NoName_NoStanding : xNoName ≠ xNoStanding)
    (su_NoName_NoTown : PySem.W.subIn K (.ref xNoName) (.ref xNoTown) = some false)
    (ne_NoName_NoTown : xNoName ≠ xNoTown)
    (su_NoNumber_NoChoice : PySem.W.subIn K (.ref xNoNumber) (.ref xNoChoice) = some false)
    (ne_NoNumber_NoChoice : xNoNumber ≠ xNoChoice)
    (su_NoNumber_NoEnd : PySem.W.subIn K (.ref xNoNumber) (.ref xNoEnd) = some false)
    (ne_NoNumber_NoEnd : xNoNumber ≠ xNoEnd)
    (su_NoNumber_NoGoers : PySem.W.subIn K (.ref xNoNumber) (.ref xNoGoers) = some false)
    (ne_NoNumber_NoGoers : xNoNumber ≠ xNoGoers)
    (su_NoNumber_NoName : PySem.W.subIn K (.ref xNoNumber) (.ref xNoName) = some false)
    (ne_NoNumber_NoName : xNoNumber ≠ xNoName)
    (su_NoNumber_NoPair : PySem.W.subIn K (.ref xNoNumber) (.ref xNoPair) = some false)
    (ne_NoNumber_NoPair : xNoNumber ≠ xNoPair)
    (su_NoNumber_NoPlace : PySem.W.subIn K (.ref xNoNumber) (.ref xNoPlace) = some false)
    (ne_NoNumber_NoPlace : xNoNumber ≠ xNoPlace)
    (su_NoNumber_NoWishes : PySem.W.subIn K (.ref xNoNumber) (.ref xNoWishes) = some false)
    (ne_NoNumber_NoWishes : xNoNumber ≠ xNoWishes)
    (su_NoNumber_NoRow : PySem.W.subIn K (.ref xNoNumber) (.ref xNoRow) = some false)
    (ne_NoNumber_NoRow : xNoNumber ≠ xNoRow)
    (su_NoNumber_NoStanding : PySem.W.subIn K (.ref xNoNumber) (.ref xNoStanding) = some false)
    (ne_NoNumber_NoStanding : xNoNumber ≠ xNoStanding)
    (su_NoNumber_NoTown : PySem.W.subIn K (.ref xNoNumber) (.ref xNoTown) = some false)
    (ne_NoNumber_NoTown : xNoNumber ≠ xNoTown)
    (su_NoPair_NoChoice : PySem.W.subIn K (.ref xNoPair) (.ref xNoChoice) = some false)
    (ne_NoPair_NoChoice : xNoPair ≠ xNoChoice)
    (su_NoPair_NoEnd : PySem.W.subIn K (.ref xNoPair) (.ref xNoEnd) = some false)
    (ne_NoPair_NoEnd : xNoPair ≠ xNoEnd)
    (su_NoPair_NoGoers : PySem.W.subIn K (.ref xNoPair) (.ref xNoGoers) = some false)
    (ne_NoPair_NoGoers : xNoPair ≠ xNoGoers)
    (su_NoPair_NoName : PySem.W.subIn K (.ref xNoPair) (.ref xNoName) = some false)
    (ne_NoPair_NoName : xNoPair ≠ xNoName)
    (su_NoPair_NoNumber : PySem.W.subIn K (.ref xNoPair) (.ref xNoNumber) = some false)
    (ne_NoPair_NoNumber : xNoPair ≠ xNoNumber)
    (su_NoPair_NoPlace : PySem.W.subIn K (.ref xNoPair) (.ref xNoPlace) = some false)
    (ne_NoPair_NoPlace : xNoPair ≠ xNoPlace)
    (su_NoPair_NoWishes : PySem.W.subIn K (.ref xNoPair) (.ref xNoWishes) = some false)
    (ne_NoPair_NoWishes : xNoPair ≠ xNoWishes)
    (su_NoPair_NoRow : PySem.W.subIn K (.ref xNoPair) (.ref xNoRow) = some false)
    (ne_NoPair_NoRow : xNoPair ≠ xNoRow)
    (su_NoPair_NoStanding : PySem.W.subIn K (.ref xNoPair) (.ref xNoStanding) = some false)
    (ne_NoPair_NoStanding : xNoPair ≠ xNoStanding)
    (su_NoPair_NoTown : PySem.W.subIn K (.ref xNoPair) (.ref xNoTown) = some false)
    (ne_NoPair_NoTown : xNoPair ≠ xNoTown)
    (su_NoPlace_NoChoice : PySem.W.subIn K (.ref xNoPlace) (.ref xNoChoice) = some false)
    (ne_NoPlace_NoChoice : xNoPlace ≠ xNoChoice)
    (su_NoPlace_NoEnd : PySem.W.subIn K (.ref xNoPlace) (.ref xNoEnd) = some false)
    (ne_NoPlace_NoEnd : xNoPlace ≠ xNoEnd)
    (su_NoPlace_NoGoers : PySem.W.subIn K (.ref xNoPlace) (.ref xNoGoers) = some false)
    (ne_NoPlace_NoGoers : xNoPlace ≠ xNoGoers)
    (su_NoPlace_NoName : PySem.W.subIn K (.ref xNoPlace) (.ref xNoName) = some false)
    (ne_NoPlace_NoName : xNoPlace ≠ xNoName)
    (su_NoPlace_NoNumber : PySem.W.subIn K (.ref xNoPlace) (.ref xNoNumber) = some false)
    (ne_NoPlace_NoNumber : xNoPlace ≠ xNoNumber)
    (su_NoPlace_NoPair : PySem.W.subIn K (.ref xNoPlace) (.ref xNoPair) = some false)
    (ne_NoPlace_NoPair : xNoPlace ≠ xNoPair)
    (su_NoPlace_NoWishes : PySem.W.subIn K (.ref xNoPlace) (.ref xNoWishes) = some false)
    (ne_NoPlace_NoWishes : xNoPlace ≠ xNoWishes)
    (su_NoPlace_NoRow : PySem.W.subIn K (.ref xNoPlace) (.ref xNoRow) = some false)
    (ne_NoPlace_NoRow : xNoPlace ≠ xNoRow)
    (su_NoPlace_NoStanding : PySem.W.subIn K (.ref xNoPlace) (.ref xNoStanding) = some false)
    (ne_NoPlace_NoStanding : xNoPlace ≠ xNoStanding)
    (su_NoPlace_NoTown : PySem.W.subIn K (.ref xNoPlace) (.ref xNoTown) = some false)
    (ne_NoPlace_NoTown : xNoPlace ≠ xNoTown)
    (su_NoWishes_NoChoice : PySem.W.subIn K (.ref xNoWishes) (.ref xNoChoice) = some false)
    (ne_NoWishes_NoChoice : xNoWishes ≠ xNoChoice)
    (su_NoWishes_NoEnd : PySem.W.subIn K (.ref xNoWishes) (.ref xNoEnd) = some false)
    (ne_NoWishes_NoEnd : xNoWishes ≠ xNoEnd)
    (su_NoWishes_NoGoers : PySem.W.subIn K (.ref xNoWishes) (.ref xNoGoers) = some false)
    (ne_NoWishes_NoGoers : xNoWishes ≠ xNoGoers)
    (su_NoWishes_NoName : PySem.W.subIn K (.ref xNoWishes) (.ref xNoName) = some false)
    (ne_NoWishes_NoName : xNoWishes ≠ xNoName)
    (su_NoWishes_NoNumber : PySem.W.subIn K (.ref xNoWishes) (.ref xNoNumber) = some false)
    (ne_NoWishes_NoNumber : xNoWishes ≠ xNoNumber)
    (su_NoWishes_NoPair : PySem.W.subIn K (.ref xNoWishes) (.ref xNoPair) = some false)
    (ne_NoWishes_NoPair : xNoWishes ≠ xNoPair)
    (su_NoWishes_NoPlace : PySem.W.subIn K (.ref xNoWishes) (.ref xNoPlace) = some false)
    (ne_NoWishes_NoPlace : xNoWishes ≠ xNoPlace)
    (su_NoWishes_NoRow : PySem.W.subIn K (.ref xNoWishes) (.ref xNoRow) = some false)
    (ne_NoWishes_NoRow : xNoWishes ≠ xNoRow)
    (su_NoWishes_NoStanding : PySem.W.subIn K (.ref xNoWishes) (.ref xNoStanding) = some false)
    (ne_NoWishes_NoStanding : xNoWishes ≠ xNoStanding)
    (su_NoWishes_NoTown : PySem.W.subIn K (.ref xNoWishes) (.ref xNoTown) = some false)
    (ne_NoWishes_NoTown : xNoWishes ≠ xNoTown)
    (su_NoRow_NoChoice : PySem.W.subIn K (.ref xNoRow) (.ref xNoChoice) = some false)
    (ne_NoRow_NoChoice : xNoRow ≠ xNoChoice)
    (su_NoRow_NoEnd : PySem.W.subIn K (.ref xNoRow) (.ref xNoEnd) = some false)
    (ne_NoRow_NoEnd : xNoRow ≠ xNoEnd)
    (su_NoRow_NoGoers : PySem.W.subIn K (.ref xNoRow) (.ref xNoGoers) = some false)
    (ne_NoRow_NoGoers : xNoRow ≠ xNoGoers)
    (su_NoRow_NoName : PySem.W.subIn K (.ref xNoRow) (.ref xNoName) = some false)
    (ne_NoRow_NoName : xNoRow ≠ xNoName)
    (su_NoRow_NoNumber : PySem.W.subIn K (.ref xNoRow) (.ref xNoNumber) = some false)
    (ne_NoRow_NoNumber : xNoRow ≠ xNoNumber)
    (su_NoRow_NoPair : PySem.W.subIn K (.ref xNoRow) (.ref xNoPair) = some false)
    (ne_NoRow_NoPair : xNoRow ≠ xNoPair)
    (su_NoRow_NoPlace : PySem.W.subIn K (.ref xNoRow) (.ref xNoPlace) = some false)
    (ne_NoRow_NoPlace : xNoRow ≠ xNoPlace)
    (su_NoRow_NoWishes : PySem.W.subIn K (.ref xNoRow) (.ref xNoWishes) = some false)
    (ne_NoRow_NoWishes : xNoRow ≠ xNoWishes)
    (su_NoRow_NoStanding : PySem.W.subIn K (.ref xNoRow) (.ref xNoStanding) = some false)
    (ne_NoRow_NoStanding : xNoRow ≠ xNoStanding)
    (su_NoRow_NoTown : PySem.W.subIn K (.ref xNoRow) (.ref xNoTown) = some false)
    (ne_NoRow_NoTown : xNoRow ≠ xNoTown)
    (su_NoStanding_NoChoice : PySem.W.subIn K (.ref xNoStanding) (.ref xNoChoice) = some false)
    (ne_NoStanding_NoChoice : xNoStanding ≠ xNoChoice)
    (su_NoStanding_NoEnd : PySem.W.subIn K (.ref xNoStanding) (.ref xNoEnd) = some false)
    (ne_NoStanding_NoEnd : xNoStanding ≠ xNoEnd)
    (su_NoStanding_NoGoers : PySem.W.subIn K (.ref xNoStanding) (.ref xNoGoers) = some false)
    (ne_NoStanding_NoGoers : xNoStanding ≠ xNoGoers)
    (su_NoStanding_NoName : PySem.W.subIn K (.ref xNoStanding) (.ref xNoName) = some false)
    (ne_NoStanding_NoName : xNoStanding ≠ xNoName)
    (su_NoStanding_NoNumber : PySem.W.subIn K (.ref xNoStanding) (.ref xNoNumber) = some false)
    (ne_NoStanding_NoNumber : xNoStanding ≠ xNoNumber)
    (su_NoStanding_NoPair : PySem.W.subIn K (.ref xNoStanding) (.ref xNoPair) = some false)
    (ne_NoStanding_NoPair : xNoStanding ≠ xNoPair)
    (su_NoStanding_NoPlace : PySem.W.subIn K (.ref xNoStanding) (.ref xNoPlace) = some false)
    (ne_NoStanding_NoPlace : xNoStanding ≠ xNoPlace)
    (su_NoStanding_NoWishes : PySem.W.subIn K (.ref xNoStanding) (.ref xNoWishes) = some false)
    (ne_NoStanding_NoWishes : xNoStanding ≠ xNoWishes)
    (su_NoStanding_NoRow : PySem.W.subIn K (.ref xNoStanding) (.ref xNoRow) = some false)
    (ne_NoStanding_NoRow : xNoStanding ≠ xNoRow)
    (su_NoStanding_NoTown : PySem.W.subIn K (.ref xNoStanding) (.ref xNoTown) = some false)
    (ne_NoStanding_NoTown : xNoStanding ≠ xNoTown)
    (su_NoTown_NoChoice : PySem.W.subIn K (.ref xNoTown) (.ref xNoChoice) = some false)
    (ne_NoTown_NoChoice : xNoTown ≠ xNoChoice)
    (su_NoTown_NoEnd : PySem.W.subIn K (.ref xNoTown) (.ref xNoEnd) = some false)
    (ne_NoTown_NoEnd : xNoTown ≠ xNoEnd)
    (su_NoTown_NoGoers : PySem.W.subIn K (.ref xNoTown) (.ref xNoGoers) = some false)
    (ne_NoTown_NoGoers : xNoTown ≠ xNoGoers)
    (su_NoTown_NoName : PySem.W.subIn K (.ref xNoTown) (.ref xNoName) = some false)
    (ne_NoTown_NoName : xNoTown ≠ xNoName)
    (su_NoTown_NoNumber : PySem.W.subIn K (.ref xNoTown) (.ref xNoNumber) = some false)
    (ne_NoTown_NoNumber : xNoTown ≠ xNoNumber)
    (su_NoTown_NoPair : PySem.W.subIn K (.ref xNoTown) (.ref xNoPair) = some false)
    (ne_NoTown_NoPair : xNoTown ≠ xNoPair)
    (su_NoTown_NoPlace : PySem.W.subIn K (.ref xNoTown) (.ref xNoPlace) = some false)
    (ne_NoTown_NoPlace : xNoTown ≠ xNoPlace)
    (su_NoTown_NoWishes : PySem.W.subIn K (.ref xNoTown) (.ref xNoWishes) = some false)
    (ne_NoTown_NoWishes : xNoTown ≠ xNoWishes)
    (su_NoTown_NoRow : PySem.W.subIn K (.ref xNoTown) (.ref xNoRow) = some false)
    (ne_NoTown_NoRow : xNoTown ≠ xNoRow)
    (su_NoTown_NoStanding : PySem.W.subIn K (.ref xNoTown) (.ref xNoStanding) = some false)
    (ne_NoTown_NoStanding : xNoTown ≠ xNoStanding)
    (su_NoChoice_PostError : PySem.W.subIn K (.ref xNoChoice) (.ref xPostError) = some true)
    (su_NoEnd_PostError : PySem.W.subIn K (.ref xNoEnd) (.ref xPostError) = some true)
    (su_NoGoers_PostError : PySem.W.subIn K (.ref xNoGoers) (.ref xPostError) = some true)
    (su_NoName_PostError : PySem.W.subIn K (.ref xNoName) (.ref xPostError) = some true)
    (su_NoNumber_PostError : PySem.W.subIn K (.ref xNoNumber) (.ref xPostError) = some true)
    (su_NoPair_PostError : PySem.W.subIn K (.ref xNoPair) (.ref xPostError) = some true)
    (su_NoPlace_PostError : PySem.W.subIn K (.ref xNoPlace) (.ref xPostError) = some true)
    (su_NoWishes_PostError : PySem.W.subIn K (.ref xNoWishes) (.ref xPostError) = some true)
    (su_NoRow_PostError : PySem.W.subIn K (.ref xNoRow) (.ref xPostError) = some true)
    (su_NoStanding_PostError : PySem.W.subIn K (.ref xNoStanding) (.ref xPostError) = some true)
    (su_NoTown_PostError : PySem.W.subIn K (.ref xNoTown) (.ref xPostError) = some true)
    : ∃ fd : FuncData, (∀ (s : Shared) (u : Value), BindsTo s fd ⟨[u], []⟩ [("script", u)]) ∧ ∀ b : Heap, K.In b → b.Ns mainGlobals mg → GOk prg w K mg b CX0 5 fa fd ["script"] (spLaw K) := by
  have e : xlaw = fa := by
    have z := (PySem.W.mg_of X G alaw).symm.trans hfa
    cases z
    rfl
  subst e
  let A : Ad := { a_law_purse := xlaw_purse, a_law_draw := xlaw_draw, a_law_thing := xlaw_thing, a_law_marks := xlaw_marks, a_law_bare := xlaw_bare, a_law_texted := xlaw_texted, a_law_valued := xlaw_valued, a_law_caught := xlaw_caught, a_law := xlaw, PostError := xPostError, NoChoice := xNoChoice, NoEnd := xNoEnd, NoGoers := xNoGoers, NoName := xNoName, NoNumber := xNoNumber, NoPair := xNoPair, NoPlace := xNoPlace, NoWishes := xNoWishes, NoRow := xNoRow, NoStanding := xNoStanding, NoTown := xNoTown, i_NoRow := xiNoRow, cc_NoRow := xcNoRow, cda_NoRow := xdNoRow, fd_NoRow := ksFn "__init__" "NoRow.__init__" (supArgs (zOf (inClass (topS 10) 0))) (supBody "this is no row" (zOf (inClass (topS 10) 0))) supScope .none kVNoRow dcNoRow pmNoRow anNoRow (.ref xdNoRow) ctNoRow xcNoRow, i_NoStanding := xiNoStanding, cc_NoStanding := xcNoStanding, cda_NoStanding := xdNoStanding, fd_NoStanding := ksFn "__init__" "NoStanding.__init__" (supArgs (zOf (inClass (topS 11) 0))) (supBody "this is no standing" (zOf (inClass (topS 11) 0))) supScope .none kVNoStanding dcNoStanding pmNoStanding anNoStanding (.ref xdNoStanding) ctNoStanding xcNoStanding, i_NoTown := xiNoTown, cc_NoTown := xcNoTown, cda_NoTown := xdNoTown, fd_NoTown := ksFn "__init__" "NoTown.__init__" (supArgs (zOf (inClass (topS 12) 0))) (supBody "this is no town" (zOf (inClass (topS 12) 0))) supScope .none kVNoTown dcNoTown pmNoTown anNoTown (.ref xdNoTown) ctNoTown xcNoTown }
  have T : Txt K mg A := {
    g_law_purse := PySem.W.mg_of X G alaw_purse,
    k_law_purse := klaw_purse,
    g_law_draw := PySem.W.mg_of X G alaw_draw,
    k_law_draw := klaw_draw,
    g_law_thing := PySem.W.mg_of X G alaw_thing,
    k_law_thing := klaw_thing,
    g_law_marks := PySem.W.mg_of X G alaw_marks,
    k_law_marks := klaw_marks,
    g_law_bare := PySem.W.mg_of X G alaw_bare,
    k_law_bare := klaw_bare,
    g_law_texted := PySem.W.mg_of X G alaw_texted,
    k_law_texted := klaw_texted,
    g_law_valued := PySem.W.mg_of X G alaw_valued,
    k_law_valued := klaw_valued,
    g_law_caught := PySem.W.mg_of X G alaw_caught,
    k_law_caught := klaw_caught,
    g_law := PySem.W.mg_of X G alaw,
    k_law := klaw,
    n_ValueError := PySem.W.mg_none_of X G n_ValueError,
    n_abs := PySem.W.mg_none_of X G n_abs,
    n_isinstance := PySem.W.mg_none_of X G n_isinstance,
    n_len := PySem.W.mg_none_of X G n_len,
    n_range := PySem.W.mg_none_of X G n_range,
    n_repr := PySem.W.mg_none_of X G n_repr,
    n_str := PySem.W.mg_none_of X G n_str,
    n_super := PySem.W.mg_none_of X G n_super,
    g_PostError := PySem.W.mg_of X G gPostError,
    g_NoChoice := PySem.W.mg_of X G gNoChoice,
    g_NoEnd := PySem.W.mg_of X G gNoEnd,
    g_NoGoers := PySem.W.mg_of X G gNoGoers,
    g_NoName := PySem.W.mg_of X G gNoName,
    g_NoNumber := PySem.W.mg_of X G gNoNumber,
    g_NoPair := PySem.W.mg_of X G gNoPair,
    g_NoPlace := PySem.W.mg_of X G gNoPlace,
    g_NoWishes := PySem.W.mg_of X G gNoWishes,
    g_NoRow := PySem.W.mg_of X G gNoRow,
    g_NoStanding := PySem.W.mg_of X G gNoStanding,
    g_NoTown := PySem.W.mg_of X G gNoTown,
    s_NoRow := { oex := ⟨⟨_, _, _, _, _, _, _, _, _, _, _, _, _, _, _, plNoRow, prNoRow⟩, paNoRow, osNoRow, otNoRow, okNoRow⟩, iC := piNoRow, tI := ptNoRow, kI := pkNoRow, noW := pwNoRow, fn := ⟨_, _, _, _, _, _, _, _, rfl, pfNoRow⟩, ev := fun L => ⟨_, rfl⟩, sw := fun L => rfl, sw2 := fun L => rfl, code := pcNoRow, codeO := ⟨_, _, _, _, _, _, poNoRow, p2NoRow, p3NoRow⟩, cell := ⟨_, _, _, peNoRow⟩, sub1 := p1NoRow, sup0 := n_super, opq := pq, up := puNoRow, subV := pvNoRow, top0 := by decide +kernel },
    s_NoStanding := { oex := ⟨⟨_, _, _, _, _, _, _, _, _, _, _, _, _, _, _, plNoStanding, prNoStanding⟩, paNoStanding, osNoStanding, otNoStanding, okNoStanding⟩, iC := piNoStanding, tI := ptNoStanding, kI := pkNoStanding, noW := pwNoStanding, fn := ⟨_, _, _, _, _, _, _, _, rfl, pfNoStanding⟩, ev := fun L => ⟨_, rfl⟩, sw := fun L => rfl, sw2 := fun L => rfl, code := pcNoStanding, codeO := ⟨_, _, _, _, _, _, poNoStanding, p2NoStanding, p3NoStanding⟩, cell := ⟨_, _, _, peNoStanding⟩, sub1 := p1NoStanding, sup0 := n_super, opq := pq, up := puNoStanding, subV := pvNoStanding, top0 := by decide +kernel },
    s_NoTown := { oex := ⟨⟨_, _, _, _, _, _, _, _, _, _, _, _, _, _, _, plNoTown, prNoTown⟩, paNoTown, osNoTown, otNoTown, okNoTown⟩, iC := piNoTown, tI := ptNoTown, kI := pkNoTown, noW := pwNoTown, fn := ⟨_, _, _, _, _, _, _, _, rfl, pfNoTown⟩, ev := fun L => ⟨_, rfl⟩, sw := fun L => rfl, sw2 := fun L => rfl, code := pcNoTown, codeO := ⟨_, _, _, _, _, _, poNoTown, p2NoTown, p3NoTown⟩, cell := ⟨_, _, _, peNoTown⟩, sub1 := p1NoTown, sup0 := n_super, opq := pq, up := puNoTown, subV := pvNoTown, top0 := by decide +kernel },
    o_NoChoice := ⟨oxNoChoice, okNoChoice, osNoChoice, otNoChoice⟩,
    o_NoEnd := ⟨oxNoEnd, okNoEnd, osNoEnd, otNoEnd⟩,
    o_NoGoers := ⟨oxNoGoers, okNoGoers, osNoGoers, otNoGoers⟩,
    o_NoName := ⟨oxNoName, okNoName, osNoName, otNoName⟩,
    o_NoNumber := ⟨oxNoNumber, okNoNumber, osNoNumber, otNoNumber⟩,
    o_NoPair := ⟨oxNoPair, okNoPair, osNoPair, otNoPair⟩,
    o_NoPlace := ⟨oxNoPlace, okNoPlace, osNoPlace, otNoPlace⟩,
    o_NoWishes := ⟨oxNoWishes, okNoWishes, osNoWishes, otNoWishes⟩,
    e_NoChoice := ⟨egNoChoice, ekNoChoice, osNoChoice, edNoChoice, eaNoChoice, en, et, emNoChoice⟩,
    f_NoChoice := ⟨egNoChoice, ekNoChoice, osNoChoice, edNoChoice⟩,
    e_NoEnd := ⟨egNoEnd, ekNoEnd, osNoEnd, edNoEnd, eaNoEnd, en, et, emNoEnd⟩,
    f_NoEnd := ⟨egNoEnd, ekNoEnd, osNoEnd, edNoEnd⟩,
    e_NoGoers := ⟨egNoGoers, ekNoGoers, osNoGoers, edNoGoers, eaNoGoers, en, et, emNoGoers⟩,
    f_NoGoers := ⟨egNoGoers, ekNoGoers, osNoGoers, edNoGoers⟩,
    e_NoName := ⟨egNoName, ekNoName, osNoName, edNoName, eaNoName, en, et, emNoName⟩,
    f_NoName := ⟨egNoName, ekNoName, osNoName, edNoName⟩,
    e_NoNumber := ⟨egNoNumber, ekNoNumber, osNoNumber, edNoNumber, eaNoNumber, en, et, emNoNumber⟩,
    f_NoNumber := ⟨egNoNumber, ekNoNumber, osNoNumber, edNoNumber⟩,
    e_NoPair := ⟨egNoPair, ekNoPair, osNoPair, edNoPair, eaNoPair, en, et, emNoPair⟩,
    f_NoPair := ⟨egNoPair, ekNoPair, osNoPair, edNoPair⟩,
    e_NoPlace := ⟨egNoPlace, ekNoPlace, osNoPlace, edNoPlace, eaNoPlace, en, et, emNoPlace⟩,
    f_NoPlace := ⟨egNoPlace, ekNoPlace, osNoPlace, edNoPlace⟩,
    e_NoWishes := ⟨egNoWishes, ekNoWishes, osNoWishes, edNoWishes, eaNoWishes, en, et, emNoWishes⟩,
    f_NoWishes := ⟨egNoWishes, ekNoWishes, osNoWishes, edNoWishes⟩,
    e_NoRow := ⟨egNoRow, ekNoRow, osNoRow, edNoRow, eaNoRow, en, et, emNoRow⟩,
    f_NoRow := ⟨egNoRow, ekNoRow, osNoRow, edNoRow⟩,
    e_NoStanding := ⟨egNoStanding, ekNoStanding, osNoStanding, edNoStanding, eaNoStanding, en, et, emNoStanding⟩,
    f_NoStanding := ⟨egNoStanding, ekNoStanding, osNoStanding, edNoStanding⟩,
    e_NoTown := ⟨egNoTown, ekNoTown, osNoTown, edNoTown, eaNoTown, en, et, emNoTown⟩,
    f_NoTown := ⟨egNoTown, ekNoTown, osNoTown, edNoTown⟩,
    t_NoChoice_ValueError := kit_type su_NoChoice_ValueError (by decide +kernel),
    t_NoEnd_ValueError := kit_type su_NoEnd_ValueError (by decide +kernel),
    t_NoGoers_ValueError := kit_type su_NoGoers_ValueError (by decide +kernel),
    t_NoName_ValueError := kit_type su_NoName_ValueError (by decide +kernel),
    t_NoNumber_ValueError := kit_type su_NoNumber_ValueError (by decide +kernel),
    t_NoPair_ValueError := kit_type su_NoPair_ValueError (by decide +kernel),
    t_NoPlace_ValueError := kit_type su_NoPlace_ValueError (by decide +kernel),
    t_NoWishes_ValueError := kit_type su_NoWishes_ValueError (by decide +kernel),
    t_NoRow_ValueError := kit_type su_NoRow_ValueError (by decide +kernel),
    t_NoStanding_ValueError := kit_type su_NoStanding_ValueError (by decide +kernel),
    t_NoTown_ValueError := kit_type su_NoTown_ValueError (by decide +kernel),
    t_NoChoice_NoChoice := kit_same,
    t_NoChoice_NoEnd := kit_own su_NoChoice_NoEnd isNoEnd itNoEnd ne_NoChoice_NoEnd,
    t_NoChoice_NoGoers := kit_own su_NoChoice_NoGoers isNoGoers itNoGoers ne_NoChoice_NoGoers,
    t_NoChoice_NoName := kit_own su_NoChoice_NoName isNoName itNoName ne_NoChoice_NoName,
    t_NoChoice_NoNumber := kit_own su_NoChoice_NoNumber isNoNumber itNoNumber ne_NoChoice_NoNumber,
    t_NoChoice_NoPair := kit_own su_NoChoice_NoPair isNoPair itNoPair ne_NoChoice_NoPair,
    t_NoChoice_NoPlace := kit_own su_NoChoice_NoPlace isNoPlace itNoPlace ne_NoChoice_NoPlace,
    t_NoChoice_NoWishes := kit_own su_NoChoice_NoWishes isNoWishes itNoWishes ne_NoChoice_NoWishes,
    t_NoChoice_NoRow := kit_own su_NoChoice_NoRow isNoRow itNoRow ne_NoChoice_NoRow,
    t_NoChoice_NoStanding := kit_own su_NoChoice_NoStanding isNoStanding itNoStanding ne_NoChoice_NoStanding,
    t_NoChoice_NoTown := kit_own su_NoChoice_NoTown isNoTown itNoTown ne_NoChoice_NoTown,
    t_NoEnd_NoChoice := kit_own su_NoEnd_NoChoice isNoChoice itNoChoice ne_NoEnd_NoChoice,
    t_NoEnd_NoEnd := kit_same,
    t_NoEnd_NoGoers := kit_own su_NoEnd_NoGoers isNoGoers itNoGoers ne_NoEnd_NoGoers,
    t_NoEnd_NoName := kit_own su_NoEnd_NoName isNoName itNoName ne_NoEnd_NoName,
    t_NoEnd_NoNumber := kit_own su_NoEnd_NoNumber isNoNumber itNoNumber ne_NoEnd_NoNumber,
    t_NoEnd_NoPair := kit_own su_NoEnd_NoPair isNoPair itNoPair ne_NoEnd_NoPair,
    t_NoEnd_NoPlace := kit_own su_NoEnd_NoPlace isNoPlace itNoPlace ne_NoEnd_NoPlace,
    t_NoEnd_NoWishes := kit_own su_NoEnd_NoWishes isNoWishes itNoWishes ne_NoEnd_NoWishes,
    t_NoEnd_NoRow := kit_own su_NoEnd_NoRow isNoRow itNoRow ne_NoEnd_NoRow,
    t_NoEnd_NoStanding := kit_own su_NoEnd_NoStanding isNoStanding itNoStanding ne_NoEnd_NoStanding,
    t_NoEnd_NoTown := kit_own su_NoEnd_NoTown isNoTown itNoTown ne_NoEnd_NoTown,
    t_NoGoers_NoChoice := kit_own su_NoGoers_NoChoice isNoChoice itNoChoice ne_NoGoers_NoChoice,
    t_NoGoers_NoEnd := kit_own su_NoGoers_NoEnd isNoEnd itNoEnd ne_NoGoers_NoEnd,
    t_NoGoers_NoGoers := kit_same,
    t_NoGoers_NoName := kit_own su_NoGoers_NoName isNoName itNoName ne_NoGoers_NoName,
    t_NoGoers_NoNumber := kit_own su_NoGoers_NoNumber isNoNumber itNoNumber ne_NoGoers_NoNumber,
    t_NoGoers_NoPair := kit_own su_NoGoers_NoPair isNoPair itNoPair ne_NoGoers_NoPair,
    t_NoGoers_NoPlace := kit_own su_NoGoers_NoPlace isNoPlace itNoPlace ne_NoGoers_NoPlace,
    t_NoGoers_NoWishes := kit_own su_NoGoers_NoWishes isNoWishes itNoWishes ne_NoGoers_NoWishes,
    t_NoGoers_NoRow := kit_own su_NoGoers_NoRow isNoRow itNoRow ne_NoGoers_NoRow,
    t_NoGoers_NoStanding := kit_own su_NoGoers_NoStanding isNoStanding itNoStanding ne_NoGoers_NoStanding,
    t_NoGoers_NoTown := kit_own su_NoGoers_NoTown isNoTown itNoTown ne_NoGoers_NoTown,
    t_NoName_NoChoice := kit_own su_NoName_NoChoice isNoChoice itNoChoice ne_NoName_NoChoice,
    t_NoName_NoEnd := kit_own su_NoName_NoEnd isNoEnd itNoEnd ne_NoName_NoEnd,
    t_NoName_NoGoers := kit_own su_NoName_NoGoers isNoGoers itNoGoers ne_NoName_NoGoers,
    t_NoName_NoName := kit_same,
    t_NoName_NoNumber := kit_own su_NoName_NoNumber isNoNumber itNoNumber ne_NoName_NoNumber,
    t_NoName_NoPair := kit_own su_NoName_NoPair isNoPair itNoPair ne_NoName_NoPair,
    t_NoName_NoPlace := kit_own su_NoName_NoPlace isNoPlace itNoPlace ne_NoName_NoPlace,
    t_NoName_NoWishes := kit_own su_NoName_NoWishes isNoWishes itNoWishes ne_NoName_NoWishes,
    t_NoName_NoRow := kit_own su_NoName_NoRow isNoRow itNoRow ne_NoName_NoRow,
    t_NoName_NoStanding := kit_own su_NoName_NoStanding isNoStanding itNoStanding ne_NoName_NoStanding,
    t_NoName_NoTown := kit_own su_NoName_NoTown isNoTown itNoTown ne_NoName_NoTown,
    t_NoNumber_NoChoice := kit_own su_NoNumber_NoChoice isNoChoice itNoChoice ne_NoNumber_NoChoice,
    t_NoNumber_NoEnd := kit_own su_NoNumber_NoEnd isNoEnd itNoEnd ne_NoNumber_NoEnd,
    t_NoNumber_NoGoers := kit_own su_NoNumber_NoGoers isNoGoers itNoGoers ne_NoNumber_NoGoers,
    t_NoNumber_NoName := kit_own su_NoNumber_NoName isNoName itNoName ne_NoNumber_NoName,
    t_NoNumber_NoNumber := kit_same,
    t_NoNumber_NoPair := kit_own su_NoNumber_NoPair isNoPair itNoPair ne_NoNumber_NoPair,
    t_NoNumber_NoPlace := kit_own su_NoNumber_NoPlace isNoPlace itNoPlace ne_NoNumber_NoPlace,
    t_NoNumber_NoWishes := kit_own su_NoNumber_NoWishes isNoWishes itNoWishes ne_NoNumber_NoWishes,
    t_NoNumber_NoRow := kit_own su_NoNumber_NoRow isNoRow itNoRow ne_NoNumber_NoRow,
    t_NoNumber_NoStanding := kit_own su_NoNumber_NoStanding isNoStanding itNoStanding ne_NoNumber_NoStanding,
    t_NoNumber_NoTown := kit_own su_NoNumber_NoTown isNoTown itNoTown ne_NoNumber_NoTown,
    t_NoPair_NoChoice := kit_own su_NoPair_NoChoice isNoChoice itNoChoice ne_NoPair_NoChoice,
    t_NoPair_NoEnd := kit_own su_NoPair_NoEnd isNoEnd itNoEnd ne_NoPair_NoEnd,
    t_NoPair_NoGoers := kit_own su_NoPair_NoGoers isNoGoers itNoGoers ne_NoPair_NoGoers,
    t_NoPair_NoName := kit_own su_NoPair_NoName isNoName itNoName ne_NoPair_NoName,
    t_NoPair_NoNumber := kit_own su_NoPair_NoNumber isNoNumber itNoNumber ne_NoPair_NoNumber,
    t_NoPair_NoPair := kit_same,
    t_NoPair_NoPlace := kit_own su_NoPair_NoPlace isNoPlace itNoPlace ne_NoPair_NoPlace,
    t_NoPair_NoWishes := kit_own su_NoPair_NoWishes isNoWishes itNoWishes ne_NoPair_NoWishes,
    t_NoPair_NoRow := kit_own su_NoPair_NoRow isNoRow itNoRow ne_NoPair_NoRow,
    t_NoPair_NoStanding := kit_own su_NoPair_NoStanding isNoStanding itNoStanding ne_NoPair_NoStanding,
    t_NoPair_NoTown := kit_own su_NoPair_NoTown isNoTown itNoTown ne_NoPair_NoTown,
    t_NoPlace_NoChoice := kit_own su_NoPlace_NoChoice isNoChoice itNoChoice ne_NoPlace_NoChoice,
    t_NoPlace_NoEnd := kit_own su_NoPlace_NoEnd isNoEnd itNoEnd ne_NoPlace_NoEnd,
    t_NoPlace_NoGoers := kit_own su_NoPlace_NoGoers isNoGoers itNoGoers ne_NoPlace_NoGoers,
    t_NoPlace_NoName := kit_own su_NoPlace_NoName isNoName itNoName ne_NoPlace_NoName,
    t_NoPlace_NoNumber := kit_own su_NoPlace_NoNumber isNoNumber itNoNumber ne_NoPlace_NoNumber,
    t_NoPlace_NoPair := kit_own su_NoPlace_NoPair isNoPair itNoPair ne_NoPlace_NoPair,
    t_NoPlace_NoPlace := kit_same,
    t_NoPlace_NoWishes := kit_own su_NoPlace_NoWishes isNoWishes itNoWishes ne_NoPlace_NoWishes,
    t_NoPlace_NoRow := kit_own su_NoPlace_NoRow isNoRow itNoRow ne_NoPlace_NoRow,
    t_NoPlace_NoStanding := kit_own su_NoPlace_NoStanding isNoStanding itNoStanding ne_NoPlace_NoStanding,
    t_NoPlace_NoTown := kit_own su_NoPlace_NoTown isNoTown itNoTown ne_NoPlace_NoTown,
    t_NoWishes_NoChoice := kit_own su_NoWishes_NoChoice isNoChoice itNoChoice ne_NoWishes_NoChoice,
    t_NoWishes_NoEnd := kit_own su_NoWishes_NoEnd isNoEnd itNoEnd ne_NoWishes_NoEnd,
    t_NoWishes_NoGoers := kit_own su_NoWishes_NoGoers isNoGoers itNoGoers ne_NoWishes_NoGoers,
    t_NoWishes_NoName := kit_own su_NoWishes_NoName isNoName itNoName ne_NoWishes_NoName,
    t_NoWishes_NoNumber := kit_own su_NoWishes_NoNumber isNoNumber itNoNumber ne_NoWishes_NoNumber,
    t_NoWishes_NoPair := kit_own su_NoWishes_NoPair isNoPair itNoPair ne_NoWishes_NoPair,
    t_NoWishes_NoPlace := kit_own su_NoWishes_NoPlace isNoPlace itNoPlace ne_NoWishes_NoPlace,
    t_NoWishes_NoWishes := kit_same,
    t_NoWishes_NoRow := kit_own su_NoWishes_NoRow isNoRow itNoRow ne_NoWishes_NoRow,
    t_NoWishes_NoStanding := kit_own su_NoWishes_NoStanding isNoStanding itNoStanding ne_NoWishes_NoStanding,
    t_NoWishes_NoTown := kit_own su_NoWishes_NoTown isNoTown itNoTown ne_NoWishes_NoTown,
    t_NoRow_NoChoice := kit_own su_NoRow_NoChoice isNoChoice itNoChoice ne_NoRow_NoChoice,
    t_NoRow_NoEnd := kit_own su_NoRow_NoEnd isNoEnd itNoEnd ne_NoRow_NoEnd,
    t_NoRow_NoGoers := kit_own su_NoRow_NoGoers isNoGoers itNoGoers ne_NoRow_NoGoers,
    t_NoRow_NoName := kit_own su_NoRow_NoName isNoName itNoName ne_NoRow_NoName,
    t_NoRow_NoNumber := kit_own su_NoRow_NoNumber isNoNumber itNoNumber ne_NoRow_NoNumber,
    t_NoRow_NoPair := kit_own su_NoRow_NoPair isNoPair itNoPair ne_NoRow_NoPair,
    t_NoRow_NoPlace := kit_own su_NoRow_NoPlace isNoPlace itNoPlace ne_NoRow_NoPlace,
    t_NoRow_NoWishes := kit_own su_NoRow_NoWishes isNoWishes itNoWishes ne_NoRow_NoWishes,
    t_NoRow_NoRow := kit_same,
    t_NoRow_NoStanding := kit_own su_NoRow_NoStanding isNoStanding itNoStanding ne_NoRow_NoStanding,
    t_NoRow_NoTown := kit_own su_NoRow_NoTown isNoTown itNoTown ne_NoRow_NoTown,
    t_NoStanding_NoChoice := kit_own su_NoStanding_NoChoice isNoChoice itNoChoice ne_NoStanding_NoChoice,
    t_NoStanding_NoEnd := kit_own su_NoStanding_NoEnd isNoEnd itNoEnd ne_NoStanding_NoEnd,
    t_NoStanding_NoGoers := kit_own su_NoStanding_NoGoers isNoGoers itNoGoers ne_NoStanding_NoGoers,
    t_NoStanding_NoName := kit_own su_NoStanding_NoName isNoName itNoName ne_NoStanding_NoName,
    t_NoStanding_NoNumber := kit_own su_NoStanding_NoNumber isNoNumber itNoNumber ne_NoStanding_NoNumber,
    t_NoStanding_NoPair := kit_own su_NoStanding_NoPair isNoPair itNoPair ne_NoStanding_NoPair,
    t_NoStanding_NoPlace := kit_own su_NoStanding_NoPlace isNoPlace itNoPlace ne_NoStanding_NoPlace,
    t_NoStanding_NoWishes := kit_own su_NoStanding_NoWishes isNoWishes itNoWishes ne_NoStanding_NoWishes,
    t_NoStanding_NoRow := kit_own su_NoStanding_NoRow isNoRow itNoRow ne_NoStanding_NoRow,
    t_NoStanding_NoStanding := kit_same,
    t_NoStanding_NoTown := kit_own su_NoStanding_NoTown isNoTown itNoTown ne_NoStanding_NoTown,
    t_NoTown_NoChoice := kit_own su_NoTown_NoChoice isNoChoice itNoChoice ne_NoTown_NoChoice,
    t_NoTown_NoEnd := kit_own su_NoTown_NoEnd isNoEnd itNoEnd ne_NoTown_NoEnd,
    t_NoTown_NoGoers := kit_own su_NoTown_NoGoers isNoGoers itNoGoers ne_NoTown_NoGoers,
    t_NoTown_NoName := kit_own su_NoTown_NoName isNoName itNoName ne_NoTown_NoName,
    t_NoTown_NoNumber := kit_own su_NoTown_NoNumber isNoNumber itNoNumber ne_NoTown_NoNumber,
    t_NoTown_NoPair := kit_own su_NoTown_NoPair isNoPair itNoPair ne_NoTown_NoPair,
    t_NoTown_NoPlace := kit_own su_NoTown_NoPlace isNoPlace itNoPlace ne_NoTown_NoPlace,
    t_NoTown_NoWishes := kit_own su_NoTown_NoWishes isNoWishes itNoWishes ne_NoTown_NoWishes,
    t_NoTown_NoRow := kit_own su_NoTown_NoRow isNoRow itNoRow ne_NoTown_NoRow,
    t_NoTown_NoStanding := kit_own su_NoTown_NoStanding isNoStanding itNoStanding ne_NoTown_NoStanding,
    t_NoTown_NoTown := kit_same,
    m_NoChoice_PostError := exm_own iePostError isPostError itPostError su_NoChoice_PostError,
    m_NoEnd_PostError := exm_own iePostError isPostError itPostError su_NoEnd_PostError,
    m_NoGoers_PostError := exm_own iePostError isPostError itPostError su_NoGoers_PostError,
    m_NoName_PostError := exm_own iePostError isPostError itPostError su_NoName_PostError,
    m_NoNumber_PostError := exm_own iePostError isPostError itPostError su_NoNumber_PostError,
    m_NoPair_PostError := exm_own iePostError isPostError itPostError su_NoPair_PostError,
    m_NoPlace_PostError := exm_own iePostError isPostError itPostError su_NoPlace_PostError,
    m_NoWishes_PostError := exm_own iePostError isPostError itPostError su_NoWishes_PostError,
    m_NoRow_PostError := exm_own iePostError isPostError itPostError su_NoRow_PostError,
    m_NoStanding_PostError := exm_own iePostError isPostError itPostError su_NoStanding_PostError,
    m_NoTown_PostError := exm_own iePostError isPostError itPostError su_NoTown_PostError }
  have F_law_purse : Fun K "_law_purse" "_law_purse" s_law_purse xlaw_purse (PySem.W.fnOf "_law_purse" "_law_purse" (defArgs s_law_purse) (defBody s_law_purse) (defScope s_law_purse) .none kVlaw_purse dclaw_purse pmlaw_purse anlaw_purse cdlaw_purse ctlaw_purse) := fun_mk llaw_purse claw_purse klaw_purse
  have B_law_purse := F_law_purse.binds (ps := ["script"]) fun _ _ _ _ _ _ us hl => match us, hl with | [_], _ => rfl
  have F_law_draw : Fun K "_law_draw" "_law_draw" s_law_draw xlaw_draw (PySem.W.fnOf "_law_draw" "_law_draw" (defArgs s_law_draw) (defBody s_law_draw) (defScope s_law_draw) .none kVlaw_draw dclaw_draw pmlaw_draw anlaw_draw cdlaw_draw ctlaw_draw) := fun_mk llaw_draw claw_draw klaw_draw
  have B_law_draw := F_law_draw.binds (ps := ["purse", "out_of"]) fun _ _ _ _ _ _ us hl => match us, hl with | [_, _], _ => rfl
  have F_law_thing : Fun K "_law_thing" "_law_thing" s_law_thing xlaw_thing (PySem.W.fnOf "_law_thing" "_law_thing" (defArgs s_law_thing) (defBody s_law_thing) (defScope s_law_thing) .none kVlaw_thing dclaw_thing pmlaw_thing anlaw_thing cdlaw_thing ctlaw_thing) := fun_mk llaw_thing claw_thing klaw_thing
  have B_law_thing := F_law_thing.binds (ps := ["purse"]) fun _ _ _ _ _ _ us hl => match us, hl with | [_], _ => rfl
  have F_law_marks : Fun K "_law_marks" "_law_marks" s_law_marks xlaw_marks (PySem.W.fnOf "_law_marks" "_law_marks" (defArgs s_law_marks) (defBody s_law_marks) (defScope s_law_marks) .none kVlaw_marks dclaw_marks pmlaw_marks anlaw_marks cdlaw_marks ctlaw_marks) := fun_mk llaw_marks claw_marks klaw_marks
  have B_law_marks := F_law_marks.binds (ps := ["caught"]) fun _ _ _ _ _ _ us hl => match us, hl with | [_], _ => rfl
  have F_law_bare : Fun K "_law_bare" "_law_bare" s_law_bare xlaw_bare (PySem.W.fnOf "_law_bare" "_law_bare" (defArgs s_law_bare) (defBody s_law_bare) (defScope s_law_bare) .none kVlaw_bare dclaw_bare pmlaw_bare anlaw_bare cdlaw_bare ctlaw_bare) := fun_mk llaw_bare claw_bare klaw_bare
  have B_law_bare := F_law_bare.binds (ps := ["which"]) fun _ _ _ _ _ _ us hl => match us, hl with | [_], _ => rfl
  have F_law_texted : Fun K "_law_texted" "_law_texted" s_law_texted xlaw_texted (PySem.W.fnOf "_law_texted" "_law_texted" (defArgs s_law_texted) (defBody s_law_texted) (defScope s_law_texted) .none kVlaw_texted dclaw_texted pmlaw_texted anlaw_texted cdlaw_texted ctlaw_texted) := fun_mk llaw_texted claw_texted klaw_texted
  have B_law_texted := F_law_texted.binds (ps := ["which", "line"]) fun _ _ _ _ _ _ us hl => match us, hl with | [_, _], _ => rfl
  have F_law_valued : Fun K "_law_valued" "_law_valued" s_law_valued xlaw_valued (PySem.W.fnOf "_law_valued" "_law_valued" (defArgs s_law_valued) (defBody s_law_valued) (defScope s_law_valued) .none kVlaw_valued dclaw_valued pmlaw_valued anlaw_valued cdlaw_valued ctlaw_valued) := fun_mk llaw_valued claw_valued klaw_valued
  have B_law_valued := F_law_valued.binds (ps := ["which", "way", "value"]) fun _ _ _ _ _ _ us hl => match us, hl with | [_, _, _], _ => rfl
  have F_law_caught : Fun K "_law_caught" "_law_caught" s_law_caught xlaw_caught (PySem.W.fnOf "_law_caught" "_law_caught" (defArgs s_law_caught) (defBody s_law_caught) (defScope s_law_caught) .none kVlaw_caught dclaw_caught pmlaw_caught anlaw_caught cdlaw_caught ctlaw_caught) := fun_mk llaw_caught claw_caught klaw_caught
  have B_law_caught := F_law_caught.binds (ps := ["which", "way", "value"]) fun _ _ _ _ _ _ us hl => match us, hl with | [_, _, _], _ => rfl
  have F_law : Fun K "law" "law" s_law xlaw (PySem.W.fnOf "law" "law" (defArgs s_law) (defBody s_law) (defScope s_law) .none kVlaw dclaw pmlaw anlaw cdlaw ctlaw) := fun_mk llaw claw klaw
  have B_law := F_law.binds (ps := ["script"]) fun _ _ _ _ _ _ us hl => match us, hl with | [_], _ => rfl
  let Z : Fns K A := {
    fd_law_purse := _, F_law_purse := F_law_purse, b_law_purse := B_law_purse,
    fd_law_draw := _, F_law_draw := F_law_draw, b_law_draw := B_law_draw,
    fd_law_thing := _, F_law_thing := F_law_thing, b_law_thing := B_law_thing,
    fd_law_marks := _, F_law_marks := F_law_marks, b_law_marks := B_law_marks,
    fd_law_bare := _, F_law_bare := F_law_bare, b_law_bare := B_law_bare,
    fd_law_texted := _, F_law_texted := F_law_texted, b_law_texted := B_law_texted,
    fd_law_valued := _, F_law_valued := F_law_valued, b_law_valued := B_law_valued,
    fd_law_caught := _, F_law_caught := F_law_caught, b_law_caught := B_law_caught,
    fd_law := _, F_law := F_law, b_law := B_law }
  exact ⟨_, fun s u => .of_eq rfl, fun b _ _ => G_law T Z⟩
theorem walk {l : PySem.W.OpenLaw} {q : Program} {lo : List Str} {XP : (Str → Option Value) → Heap → Prop} {YP : World → Heap → Prop} {d : DefRec} {K : Params → PySem.W.Frag} (hn : l.most = some 63) (hdf : d.params.defaults = [])
    (hY : ∀ (w : World) (h : Heap), YP w h → (K w.params).In h)
    (F : ∀ (w : World) (mg : Str → Option Value) (f : Addr) (h : Heap), (K w.params).In h → h.Ns mainGlobals mg → mg d.name = some (.ref f) →
      ∃ fd : FuncData, (∀ (s : Shared) (u : Value), BindsTo s fd ⟨[u], []⟩ [("script", u)]) ∧ ∀ b : Heap, (K w.params).In b → b.Ns mainGlobals mg → GOk l.prog w (K w.params) mg b CX0 5 f fd ["script"] (spLaw (K w.params))) :
    PySem.W.WalkO q lo XP YP l.row.toRowW d [] (fun f vs => PySem.call f vs) :=
  gwalk (n := 63) (k := 5) (x := "script") (sp := fun w => spLaw (K w.params)) hn (by decide) hdf ⟨rfl, by decide, by decide⟩ hY F fun _ _ a ns hl hS => ⟨a, ns, rfl, hS, hl, fun _ => rfl⟩
end K75
open PySem PySem.W PyProof.Rows
set_option maxRecDepth 100000 in
set_option maxHeartbeats 0 in
theorem PySem.Challenge.cw_cameposts_k75_refusals_made_holds : PySem.Challenge.rw_cameposts_k75_refusals_made.Holds := by
  w_on; o_law; k_head; (case hw => w_witness2)
  k_fill
  refine K75.walk (l := PySem.Challenge.rw_cameposts_k75_refusals_made) rfl rfl (fun w h Y => PySem.W.kIn_of Y) ?F
  case F =>
    intro w mg fa h KX G hmg
    refine' K75.fin KX G hmg ?gPostError ?gNoChoice ?gNoEnd ?gNoGoers ?gNoName ?gNoNumber ?gNoPair ?gNoPlace ?gNoWishes ?gNoRow ?gNoStanding ?gNoTown ?alaw_purse ?llaw_purse ?claw_purse ?klaw_purse ?alaw_draw ?llaw_draw ?claw_draw ?klaw_draw ?alaw_thing ?llaw_thing ?claw_thing ?klaw_thing ?alaw_marks ?llaw_marks ?claw_marks ?klaw_marks ?alaw_bare ?llaw_bare ?claw_bare ?klaw_bare ?alaw_texted ?llaw_texted ?claw_texted ?klaw_texted ?alaw_valued ?llaw_valued ?claw_valued ?klaw_valued ?alaw_caught ?llaw_caught ?claw_caught ?klaw_caught ?alaw ?llaw ?claw ?klaw ?n_ValueError ?n_abs ?n_isinstance ?n_len ?n_range ?n_repr ?n_str ?n_super ?oxNoChoice ?oxNoEnd ?oxNoGoers ?oxNoName ?oxNoNumber ?oxNoPair ?oxNoPlace ?oxNoWishes ?okNoChoice ?osNoChoice ?otNoChoice ?egNoChoice ?ekNoChoice ?edNoChoice ?eaNoChoice ?emNoChoice ?okNoEnd ?osNoEnd ?otNoEnd ?egNoEnd ?ekNoEnd ?edNoEnd ?eaNoEnd ?emNoEnd ?okNoGoers ?osNoGoers ?otNoGoers ?egNoGoers ?ekNoGoers ?edNoGoers ?eaNoGoers ?emNoGoers ?okNoName ?osNoName ?otNoName ?egNoName ?ekNoName ?edNoName ?eaNoName ?emNoName ?okNoNumber ?osNoNumber ?otNoNumber ?egNoNumber ?ekNoNumber ?edNoNumber ?eaNoNumber ?emNoNumber ?okNoPair ?osNoPair ?otNoPair ?egNoPair ?ekNoPair ?edNoPair ?eaNoPair ?emNoPair ?okNoPlace ?osNoPlace ?otNoPlace ?egNoPlace ?ekNoPlace ?edNoPlace ?eaNoPlace ?emNoPlace ?okNoRow ?osNoRow ?otNoRow ?egNoRow ?ekNoRow ?edNoRow ?eaNoRow ?emNoRow ?okNoStanding ?osNoStanding ?otNoStanding ?egNoStanding ?ekNoStanding ?edNoStanding ?eaNoStanding ?emNoStanding ?okNoTown ?osNoTown ?otNoTown ?egNoTown ?ekNoTown ?edNoTown ?eaNoTown ?emNoTown ?okNoWishes ?osNoWishes ?otNoWishes ?egNoWishes ?ekNoWishes ?edNoWishes ?eaNoWishes ?emNoWishes ?en ?et ?plNoRow ?prNoRow ?paNoRow ?piNoRow ?ptNoRow ?pkNoRow ?pwNoRow ?pfNoRow ?pcNoRow ?poNoRow ?p2NoRow ?p3NoRow ?peNoRow ?p1NoRow ?puNoRow ?pvNoRow ?plNoStanding ?prNoStanding ?paNoStanding ?piNoStanding ?ptNoStanding ?pkNoStanding ?pwNoStanding ?pfNoStanding ?pcNoStanding ?poNoStanding ?p2NoStanding ?p3NoStanding ?peNoStanding ?p1NoStanding ?puNoStanding ?pvNoStanding ?plNoTown ?prNoTown ?paNoTown ?piNoTown ?ptNoTown ?pkNoTown ?pwNoTown ?pfNoTown ?pcNoTown ?poNoTown ?p2NoTown ?p3NoTown ?peNoTown ?p1NoTown ?puNoTown ?pvNoTown ?pq ?isPostError ?itPostError ?iePostError ?isNoChoice ?itNoChoice ?ieNoChoice ?isNoEnd ?itNoEnd ?ieNoEnd ?isNoGoers ?itNoGoers ?ieNoGoers ?isNoName ?itNoName ?ieNoName ?isNoNumber ?itNoNumber ?ieNoNumber ?isNoPair ?itNoPair ?ieNoPair ?isNoPlace ?itNoPlace ?ieNoPlace ?isNoWishes ?itNoWishes ?ieNoWishes ?isNoRow ?itNoRow ?ieNoRow ?isNoStanding ?itNoStanding ?ieNoStanding ?isNoTown ?itNoTown ?ieNoTown ?su_NoChoice_ValueError ?su_NoEnd_ValueError ?su_NoGoers_ValueError ?su_NoName_ValueError ?su_NoNumber_ValueError ?su_NoPair_ValueError ?su_NoPlace_ValueError ?su_NoWishes_ValueError ?su_NoRow_ValueError ?su_NoStanding_ValueError ?su_NoTown_ValueError ?su_NoChoice_NoEnd ?ne_NoChoice_NoEnd ?su_NoChoice_NoGoers ?ne_NoChoice_NoGoers ?su_NoChoice_NoName ?ne_NoChoice_NoName ?su_NoChoice_NoNumber ?ne_NoChoice_NoNumber ?su_NoChoice_NoPair ?ne_NoChoice_NoPair ?su_NoChoice_NoPlace ?ne_NoChoice_NoPlace ?su_NoChoice_NoWishes ?ne_NoChoice_NoWishes ?su_NoChoice_NoRow ?ne_NoChoice_NoRow ?su_NoChoice_NoStanding ?ne_NoChoice_NoStanding ?su_NoChoice_NoTown ?ne_NoChoice_NoTown ?su_NoEnd_NoChoice ?ne_NoEnd_NoChoice ?su_NoEnd_NoGoers ?ne_NoEnd_NoGoers ?su_NoEnd_NoName ?ne_NoEnd_NoName ?su_NoEnd_NoNumber ?ne_NoEnd_NoNumber ?su_NoEnd_NoPair ?ne_NoEnd_NoPair ?su_NoEnd_NoPlace ?ne_NoEnd_NoPlace ?su_NoEnd_NoWishes ?ne_NoEnd_NoWishes ?su_NoEnd_NoRow ?ne_NoEnd_NoRow ?su_NoEnd_NoStanding ?ne_NoEnd_NoStanding ?su_NoEnd_NoTown ?ne_NoEnd_NoTown ?su_NoGoers_NoChoice ?ne_NoGoers_NoChoice ?su_NoGoers_NoEnd ?ne_NoGoers_NoEnd ?su_NoGoers_NoName ?ne_NoGoers_NoName ?su_NoGoers_NoNumber ?ne_NoGoers_NoNumber ?su_NoGoers_NoPair ?ne_NoGoers_NoPair ?su_NoGoers_NoPlace ?ne_NoGoers_NoPlace ?su_NoGoers_NoWishes ?ne_NoGoers_NoWishes ?su_NoGoers_NoRow ?ne_NoGoers_NoRow ?su_NoGoers_NoStanding ?ne_NoGoers_NoStanding ?su_NoGoers_NoTown ?ne_NoGoers_NoTown ?su_NoName_NoChoice ?ne_NoName_NoChoice ?su_NoName_NoEnd ?ne_NoName_NoEnd ?su_NoName_NoGoers ?ne_NoName_NoGoers ?su_NoName_NoNumber ?ne_NoName_NoNumber ?su_NoName_NoPair ?ne_NoName_NoPair ?su_NoName_NoPlace ?ne_NoName_NoPlace ?su_NoName_NoWishes ?ne_NoName_NoWishes ?su_NoName_NoRow ?ne_NoName_NoRow ?su_NoName_NoStanding ?ne_NoName_NoStanding ?su_NoName_NoTown ?ne_NoName_NoTown ?su_NoNumber_NoChoice ?ne_NoNumber_NoChoice ?su_NoNumber_NoEnd ?ne_NoNumber_NoEnd ?su_NoNumber_NoGoers ?ne_NoNumber_NoGoers ?su_NoNumber_NoName ?ne_NoNumber_NoName ?su_NoNumber_NoPair ?ne_NoNumber_NoPair ?su_NoNumber_NoPlace ?ne_NoNumber_NoPlace ?su_NoNumber_NoWishes ?ne_NoNumber_NoWishes ?su_NoNumber_NoRow ?ne_NoNumber_NoRow ?su_NoNumber_NoStanding ?ne_NoNumber_NoStanding ?su_NoNumber_NoTown ?ne_NoNumber_NoTown ?su_NoPair_NoChoice ?ne_NoPair_NoChoice ?su_NoPair_NoEnd ?ne_NoPair_NoEnd ?su_NoPair_NoGoers ?ne_NoPair_NoGoers ?su_NoPair_NoName ?ne_NoPair_NoName ?su_NoPair_NoNumber ?ne_NoPair_NoNumber ?su_NoPair_NoPlace ?ne_NoPair_NoPlace ?su_NoPair_NoWishes ?ne_NoPair_NoWishes ?su_NoPair_NoRow ?ne_NoPair_NoRow ?su_NoPair_NoStanding ?ne_NoPair_NoStanding ?su_NoPair_NoTown ?ne_NoPair_NoTown ?su_NoPlace_NoChoice ?ne_NoPlace_NoChoice ?su_NoPlace_NoEnd ?ne_NoPlace_NoEnd ?su_NoPlace_NoGoers ?ne_NoPlace_NoGoers ?su_NoPlace_NoName ?ne_NoPlace_NoName ?su_NoPlace_NoNumber ?ne_NoPlace_NoNumber ?su_NoPlace_NoPair ?ne_NoPlace_NoPair ?su_NoPlace_NoWishes ?ne_NoPlace_NoWishes ?su_NoPlace_NoRow ?ne_NoPlace_NoRow ?su_NoPlace_NoStanding ?ne_NoPlace_NoStanding ?su_NoPlace_NoTown ?ne_NoPlace_NoTown ?su_NoWishes_NoChoice ?ne_NoWishes_NoChoice ?su_NoWishes_NoEnd ?ne_NoWishes_NoEnd ?su_NoWishes_NoGoers ?ne_NoWishes_NoGoers ?su_NoWishes_NoName ?ne_NoWishes_NoName ?su_NoWishes_NoNumber ?ne_NoWishes_NoNumber ?su_NoWishes_NoPair ?ne_NoWishes_NoPair ?su_NoWishes_NoPlace ?ne_NoWishes_NoPlace ?su_NoWishes_NoRow ?ne_NoWishes_NoRow ?su_NoWishes_NoStanding ?ne_NoWishes_NoStanding ?su_NoWishes_NoTown ?ne_NoWishes_NoTown ?su_NoRow_NoChoice ?ne_NoRow_NoChoice ?su_NoRow_NoEnd ?ne_NoRow_NoEnd ?su_NoRow_NoGoers ?ne_NoRow_NoGoers ?su_NoRow_NoName ?ne_NoRow_NoName ?su_NoRow_NoNumber ?ne_NoRow_NoNumber ?su_NoRow_NoPair ?ne_NoRow_NoPair ?su_NoRow_NoPlace ?ne_NoRow_NoPlace ?su_NoRow_NoWishes ?ne_NoRow_NoWishes ?su_NoRow_NoStanding ?ne_NoRow_NoStanding ?su_NoRow_NoTown ?ne_NoRow_NoTown ?su_NoStanding_NoChoice ?ne_NoStanding_NoChoice ?su_NoStanding_NoEnd ?ne_NoStanding_NoEnd ?su_NoStanding_NoGoers ?ne_NoStanding_NoGoers ?su_NoStanding_NoName ?ne_NoStanding_NoName ?su_NoStanding_NoNumber ?ne_NoStanding_NoNumber ?su_NoStanding_NoPair ?ne_NoStanding_NoPair ?su_NoStanding_NoPlace ?ne_NoStanding_NoPlace ?su_NoStanding_NoWishes ?ne_NoStanding_NoWishes ?su_NoStanding_NoRow ?ne_NoStanding_NoRow ?su_NoStanding_NoTown ?ne_NoStanding_NoTown ?su_NoTown_NoChoice ?ne_NoTown_NoChoice ?su_NoTown_NoEnd ?ne_NoTown_NoEnd ?su_NoTown_NoGoers ?ne_NoTown_NoGoers ?su_NoTown_NoName ?ne_NoTown_NoName ?su_NoTown_NoNumber ?ne_NoTown_NoNumber ?su_NoTown_NoPair ?ne_NoTown_NoPair ?su_NoTown_NoPlace ?ne_NoTown_NoPlace ?su_NoTown_NoWishes ?ne_NoTown_NoWishes ?su_NoTown_NoRow ?ne_NoTown_NoRow ?su_NoTown_NoStanding ?ne_NoTown_NoStanding ?su_NoChoice_PostError ?su_NoEnd_PostError ?su_NoGoers_PostError ?su_NoName_PostError ?su_NoNumber_PostError ?su_NoPair_PostError ?su_NoPlace_PostError ?su_NoWishes_PostError ?su_NoRow_PostError ?su_NoStanding_PostError ?su_NoTown_PostError
    (case gPostError => k_is)
    (case gNoChoice => k_is)
    (case gNoEnd => k_is)
    (case gNoGoers => k_is)
    (case gNoName => k_is)
    (case gNoNumber => k_is)
    (case gNoPair => k_is)
    (case gNoPlace => k_is)
    (case gNoWishes => k_is)
    (case gNoRow => k_is)
    (case gNoStanding => k_is)
    (case gNoTown => k_is)
    (case alaw_purse => k_is)
    (case llaw_purse => k_is)
    (case claw_purse => k_is)
    (case klaw_purse => k_is)
    (case alaw_draw => k_is)
    (case llaw_draw => k_is)
    (case claw_draw => k_is)
    (case klaw_draw => k_is)
    (case alaw_thing => k_is)
    (case llaw_thing => k_is)
    (case claw_thing => k_is)
    (case klaw_thing => k_is)
    (case alaw_marks => k_is)
    (case llaw_marks => k_is)
    (case claw_marks => k_is)
    (case klaw_marks => k_is)
    (case alaw_bare => k_is)
    (case llaw_bare => k_is)
    (case claw_bare => k_is)
    (case klaw_bare => k_is)
    (case alaw_texted => k_is)
    (case llaw_texted => k_is)
    (case claw_texted => k_is)
    (case klaw_texted => k_is)
    (case alaw_valued => k_is)
    (case llaw_valued => k_is)
    (case claw_valued => k_is)
    (case klaw_valued => k_is)
    (case alaw_caught => k_is)
    (case llaw_caught => k_is)
    (case claw_caught => k_is)
    (case klaw_caught => k_is)
    (case alaw => k_is)
    (case llaw => k_is)
    (case claw => k_is)
    (case klaw => k_is)
    (case n_ValueError => k_is)
    (case n_abs => k_is)
    (case n_isinstance => k_is)
    (case n_len => k_is)
    (case n_range => k_is)
    (case n_repr => k_is)
    (case n_str => k_is)
    (case n_super => k_is)
    (case oxNoChoice => k_exc)
    (case oxNoEnd => k_exc)
    (case oxNoGoers => k_exc)
    (case oxNoName => k_exc)
    (case oxNoNumber => k_exc)
    (case oxNoPair => k_exc)
    (case oxNoPlace => k_exc)
    (case oxNoWishes => k_exc)
    (case okNoChoice => k_is)
    (case osNoChoice => k_is)
    (case otNoChoice => k_is)
    (case egNoChoice => k_is)
    (case ekNoChoice => k_is)
    (case edNoChoice => k_is)
    (case eaNoChoice => k_is)
    (case emNoChoice => k_is)
    (case okNoEnd => k_is)
    (case osNoEnd => k_is)
    (case otNoEnd => k_is)
    (case egNoEnd => k_is)
    (case ekNoEnd => k_is)
    (case edNoEnd => k_is)
    (case eaNoEnd => k_is)
    (case emNoEnd => k_is)
    (case okNoGoers => k_is)
    (case osNoGoers => k_is)
    (case otNoGoers => k_is)
    (case egNoGoers => k_is)
    (case ekNoGoers => k_is)
    (case edNoGoers => k_is)
    (case eaNoGoers => k_is)
    (case emNoGoers => k_is)
    (case okNoName => k_is)
    (case osNoName => k_is)
    (case otNoName => k_is)
    (case egNoName => k_is)
    (case ekNoName => k_is)
    (case edNoName => k_is)
    (case eaNoName => k_is)
    (case emNoName => k_is)
    (case okNoNumber => k_is)
    (case osNoNumber => k_is)
    (case otNoNumber => k_is)
    (case egNoNumber => k_is)
    (case ekNoNumber => k_is)
    (case edNoNumber => k_is)
    (case eaNoNumber => k_is)
    (case emNoNumber => k_is)
    (case okNoPair => k_is)
    (case osNoPair => k_is)
    (case otNoPair => k_is)
    (case egNoPair => k_is)
    (case ekNoPair => k_is)
    (case edNoPair => k_is)
    (case eaNoPair => k_is)
    (case emNoPair => k_is)
    (case okNoPlace => k_is)
    (case osNoPlace => k_is)
    (case otNoPlace => k_is)
    (case egNoPlace => k_is)
    (case ekNoPlace => k_is)
    (case edNoPlace => k_is)
    (case eaNoPlace => k_is)
    (case emNoPlace => k_is)
    (case okNoRow => k_is)
    (case osNoRow => k_is)
    (case otNoRow => k_is)
    (case egNoRow => k_is)
    (case ekNoRow => k_is)
    (case edNoRow => k_is)
    (case eaNoRow => k_is)
    (case emNoRow => k_is)
    (case okNoStanding => k_is)
    (case osNoStanding => k_is)
    (case otNoStanding => k_is)
    (case egNoStanding => k_is)
    (case ekNoStanding => k_is)
    (case edNoStanding => k_is)
    (case eaNoStanding => k_is)
    (case emNoStanding => k_is)
    (case okNoTown => k_is)
    (case osNoTown => k_is)
    (case otNoTown => k_is)
    (case egNoTown => k_is)
    (case ekNoTown => k_is)
    (case edNoTown => k_is)
    (case eaNoTown => k_is)
    (case emNoTown => k_is)
    (case okNoWishes => k_is)
    (case osNoWishes => k_is)
    (case otNoWishes => k_is)
    (case egNoWishes => k_is)
    (case ekNoWishes => k_is)
    (case edNoWishes => k_is)
    (case eaNoWishes => k_is)
    (case emNoWishes => k_is)
    (case en => k_is)
    (case et => k_is)
    (case plNoRow => k_is)
    (case prNoRow => decide +kernel)
    (case paNoRow => k_is)
    (case piNoRow => k_is)
    (case ptNoRow => k_is)
    (case pkNoRow => k_is)
    (case pwNoRow => k_is)
    (case pfNoRow => k_is)
    (case pcNoRow => k_is)
    (case poNoRow => k_is)
    (case p2NoRow => first | rfl | decide +kernel)
    (case p3NoRow => first | rfl | decide +kernel)
    (case peNoRow => k_is)
    (case p1NoRow => k_is)
    (case puNoRow => ks_is)
    (case pvNoRow => k_is)
    (case plNoStanding => k_is)
    (case prNoStanding => decide +kernel)
    (case paNoStanding => k_is)
    (case piNoStanding => k_is)
    (case ptNoStanding => k_is)
    (case pkNoStanding => k_is)
    (case pwNoStanding => k_is)
    (case pfNoStanding => k_is)
    (case pcNoStanding => k_is)
    (case poNoStanding => k_is)
    (case p2NoStanding => first | rfl | decide +kernel)
    (case p3NoStanding => first | rfl | decide +kernel)
    (case peNoStanding => k_is)
    (case p1NoStanding => k_is)
    (case puNoStanding => ks_is)
    (case pvNoStanding => k_is)
    (case plNoTown => k_is)
    (case prNoTown => decide +kernel)
    (case paNoTown => k_is)
    (case piNoTown => k_is)
    (case ptNoTown => k_is)
    (case pkNoTown => k_is)
    (case pwNoTown => k_is)
    (case pfNoTown => k_is)
    (case pcNoTown => k_is)
    (case poNoTown => k_is)
    (case p2NoTown => first | rfl | decide +kernel)
    (case p3NoTown => first | rfl | decide +kernel)
    (case peNoTown => k_is)
    (case p1NoTown => k_is)
    (case puNoTown => ks_is)
    (case pvNoTown => k_is)
    (case pq => k_is)
    (case isPostError => k_is)
    (case itPostError => k_is)
    (case iePostError => k_is)
    (case isNoChoice => k_is)
    (case itNoChoice => k_is)
    (case ieNoChoice => k_is)
    (case isNoEnd => k_is)
    (case itNoEnd => k_is)
    (case ieNoEnd => k_is)
    (case isNoGoers => k_is)
    (case itNoGoers => k_is)
    (case ieNoGoers => k_is)
    (case isNoName => k_is)
    (case itNoName => k_is)
    (case ieNoName => k_is)
    (case isNoNumber => k_is)
    (case itNoNumber => k_is)
    (case ieNoNumber => k_is)
    (case isNoPair => k_is)
    (case itNoPair => k_is)
    (case ieNoPair => k_is)
    (case isNoPlace => k_is)
    (case itNoPlace => k_is)
    (case ieNoPlace => k_is)
    (case isNoWishes => k_is)
    (case itNoWishes => k_is)
    (case ieNoWishes => k_is)
    (case isNoRow => k_is)
    (case itNoRow => k_is)
    (case ieNoRow => k_is)
    (case isNoStanding => k_is)
    (case itNoStanding => k_is)
    (case ieNoStanding => k_is)
    (case isNoTown => k_is)
    (case itNoTown => k_is)
    (case ieNoTown => k_is)
    (case su_NoChoice_ValueError => k_is)
    (case su_NoEnd_ValueError => k_is)
    (case su_NoGoers_ValueError => k_is)
    (case su_NoName_ValueError => k_is)
    (case su_NoNumber_ValueError => k_is)
    (case su_NoPair_ValueError => k_is)
    (case su_NoPlace_ValueError => k_is)
    (case su_NoWishes_ValueError => k_is)
    (case su_NoRow_ValueError => k_is)
    (case su_NoStanding_ValueError => k_is)
    (case su_NoTown_ValueError => k_is)
    (case su_NoChoice_NoEnd => k_is)
    (case ne_NoChoice_NoEnd => decide)
    (case su_NoChoice_NoGoers => k_is)
    (case ne_NoChoice_NoGoers => decide)
    (case su_NoChoice_NoName => k_is)
    (case ne_NoChoice_NoName => decide)
    (case su_NoChoice_NoNumber => k_is)
    (case ne_NoChoice_NoNumber => decide)
    (case su_NoChoice_NoPair => k_is)
    (case ne_NoChoice_NoPair => decide)
    (case su_NoChoice_NoPlace => k_is)
    (case ne_NoChoice_NoPlace => decide)
    (case su_NoChoice_NoWishes => k_is)
    (case ne_NoChoice_NoWishes => decide)
    (case su_NoChoice_NoRow => k_is)
    (case ne_NoChoice_NoRow => decide)
    (case su_NoChoice_NoStanding => k_is)
    (case ne_NoChoice_NoStanding => decide)
    (case su_NoChoice_NoTown => k_is)
    (case ne_NoChoice_NoTown => decide)
    (case su_NoEnd_NoChoice => k_is)
    (case ne_NoEnd_NoChoice => decide)
    (case su_NoEnd_NoGoers => k_is)
    (case ne_NoEnd_NoGoers => decide)
    (case su_NoEnd_NoName => k_is)
    (case ne_NoEnd_NoName => decide)
    (case su_NoEnd_NoNumber => k_is)
    (case ne_NoEnd_NoNumber => decide)
    (case su_NoEnd_NoPair => k_is)
    (case ne_NoEnd_NoPair => decide)
    (case su_NoEnd_NoPlace => k_is)
    (case ne_NoEnd_NoPlace => decide)
    (case su_NoEnd_NoWishes => k_is)
    (case ne_NoEnd_NoWishes => decide)
    (case su_NoEnd_NoRow => k_is)
    (case ne_NoEnd_NoRow => decide)
    (case su_NoEnd_NoStanding => k_is)
    (case ne_NoEnd_NoStanding => decide)
    (case su_NoEnd_NoTown => k_is)
    (case ne_NoEnd_NoTown => decide)
    (case su_NoGoers_NoChoice => k_is)
    (case ne_NoGoers_NoChoice => decide)
    (case su_NoGoers_NoEnd => k_is)
    (case ne_NoGoers_NoEnd => decide)
    (case su_NoGoers_NoName => k_is)
    (case ne_NoGoers_NoName => decide)
    (case su_NoGoers_NoNumber => k_is)
    (case ne_NoGoers_NoNumber => decide)
    (case su_NoGoers_NoPair => k_is)
    (case ne_NoGoers_NoPair => decide)
    (case su_NoGoers_NoPlace => k_is)
    (case ne_NoGoers_NoPlace => decide)
    (case su_NoGoers_NoWishes => k_is)
    (case ne_NoGoers_NoWishes => decide)
    (case su_NoGoers_NoRow => k_is)
    (case ne_NoGoers_NoRow => decide)
    (case su_NoGoers_NoStanding => k_is)
    (case ne_NoGoers_NoStanding => decide)
    (case su_NoGoers_NoTown => k_is)
    (case ne_NoGoers_NoTown => decide)
    (case su_NoName_NoChoice => k_is)
    (case ne_NoName_NoChoice => decide)
    (case su_NoName_NoEnd => k_is)
    (case ne_NoName_NoEnd => decide)
    (case su_NoName_NoGoers => k_is)
    (case ne_NoName_NoGoers => decide)
    (case su_NoName_NoNumber => k_is)
    (case ne_NoName_NoNumber => decide)
    (case su_NoName_NoPair => k_is)
    (case ne_NoName_NoPair => decide)
    (case su_NoName_NoPlace => k_is)
    (case ne_NoName_NoPlace => decide)
    (case su_NoName_NoWishes => k_is)
    (case ne_NoName_NoWishes => decide)
    (case su_NoName_NoRow => k_is)
    (case ne_NoName_NoRow => decide)
    (case su_NoName_NoStanding => k_is)
    (case ne_NoName_NoStanding => decide)
    (case su_NoName_NoTown => k_is)
    (case ne_NoName_NoTown => decide)
    (case su_NoNumber_NoChoice => k_is)
    (case ne_NoNumber_NoChoice => decide)
    (case su_NoNumber_NoEnd => k_is)
    (case ne_NoNumber_NoEnd => decide)
    (case su_NoNumber_NoGoers => k_is)
    (case ne_NoNumber_NoGoers => decide)
    (case su_NoNumber_NoName => k_is)
    (case ne_NoNumber_NoName => decide)
    (case su_NoNumber_NoPair => k_is)
    (case ne_NoNumber_NoPair => decide)
    (case su_NoNumber_NoPlace => k_is)
    (case ne_NoNumber_NoPlace => decide)
    (case su_NoNumber_NoWishes => k_is)
    (case ne_NoNumber_NoWishes => decide)
    (case su_NoNumber_NoRow => k_is)
    (case ne_NoNumber_NoRow => decide)
    (case su_NoNumber_NoStanding => k_is)
    (case ne_NoNumber_NoStanding => decide)
    (case su_NoNumber_NoTown => k_is)
    (case ne_NoNumber_NoTown => decide)
    (case su_NoPair_NoChoice => k_is)
    (case ne_NoPair_NoChoice => decide)
    (case su_NoPair_NoEnd => k_is)
    (case ne_NoPair_NoEnd => decide)
    (case su_NoPair_NoGoers => k_is)
    (case ne_NoPair_NoGoers => decide)
    (case su_NoPair_NoName => k_is)
    (case ne_NoPair_NoName => decide)
    (case su_NoPair_NoNumber => k_is)
    (case ne_NoPair_NoNumber => decide)
    (case su_NoPair_NoPlace => k_is)
    (case ne_NoPair_NoPlace => decide)
    (case su_NoPair_NoWishes => k_is)
    (case ne_NoPair_NoWishes => decide)
    (case su_NoPair_NoRow => k_is)
    (case ne_NoPair_NoRow => decide)
    (case su_NoPair_NoStanding => k_is)
    (case ne_NoPair_NoStanding => decide)
    (case su_NoPair_NoTown => k_is)
    (case ne_NoPair_NoTown => decide)
    (case su_NoPlace_NoChoice => k_is)
    (case ne_NoPlace_NoChoice => decide)
    (case su_NoPlace_NoEnd => k_is)
    (case ne_NoPlace_NoEnd => decide)
    (case su_NoPlace_NoGoers => k_is)
    (case ne_NoPlace_NoGoers => decide)
    (case su_NoPlace_NoName => k_is)
    (case ne_NoPlace_NoName => decide)
    (case su_NoPlace_NoNumber => k_is)
    (case ne_NoPlace_NoNumber => decide)
    (case su_NoPlace_NoPair => k_is)
    (case ne_NoPlace_NoPair => decide)
    (case su_NoPlace_NoWishes => k_is)
    (case ne_NoPlace_NoWishes => decide)
    (case su_NoPlace_NoRow => k_is)
    (case ne_NoPlace_NoRow => decide)
    (case su_NoPlace_NoStanding => k_is)
    (case ne_NoPlace_NoStanding => decide)
    (case su_NoPlace_NoTown => k_is)
    (case ne_NoPlace_NoTown => decide)
    (case su_NoWishes_NoChoice => k_is)
    (case ne_NoWishes_NoChoice => decide)
    (case su_NoWishes_NoEnd => k_is)
    (case ne_NoWishes_NoEnd => decide)
    (case su_NoWishes_NoGoers => k_is)
    (case ne_NoWishes_NoGoers => decide)
    (case su_NoWishes_NoName => k_is)
    (case ne_NoWishes_NoName => decide)
    (case su_NoWishes_NoNumber => k_is)
    (case ne_NoWishes_NoNumber => decide)
    (case su_NoWishes_NoPair => k_is)
    (case ne_NoWishes_NoPair => decide)
    (case su_NoWishes_NoPlace => k_is)
    (case ne_NoWishes_NoPlace => decide)
    (case su_NoWishes_NoRow => k_is)
    (case ne_NoWishes_NoRow => decide)
    (case su_NoWishes_NoStanding => k_is)
    (case ne_NoWishes_NoStanding => decide)
    (case su_NoWishes_NoTown => k_is)
    (case ne_NoWishes_NoTown => decide)
    (case su_NoRow_NoChoice => k_is)
    (case ne_NoRow_NoChoice => decide)
    (case su_NoRow_NoEnd => k_is)
    (case ne_NoRow_NoEnd => decide)
    (case su_NoRow_NoGoers => k_is)
    (case ne_NoRow_NoGoers => decide)
    (case su_NoRow_NoName => k_is)
    (case ne_NoRow_NoName => decide)
    (case su_NoRow_NoNumber => k_is)
    (case ne_NoRow_NoNumber => decide)
    (case su_NoRow_NoPair => k_is)
    (case ne_NoRow_NoPair => decide)
    (case su_NoRow_NoPlace => k_is)
    (case ne_NoRow_NoPlace => decide)
    (case su_NoRow_NoWishes => k_is)
    (case ne_NoRow_NoWishes => decide)
    (case su_NoRow_NoStanding => k_is)
    (case ne_NoRow_NoStanding => decide)
    (case su_NoRow_NoTown => k_is)
    (case ne_NoRow_NoTown => decide)
    (case su_NoStanding_NoChoice => k_is)
    (case ne_NoStanding_NoChoice => decide)
    (case su_NoStanding_NoEnd => k_is)
    (case ne_NoStanding_NoEnd => decide)
    (case su_NoStanding_NoGoers => k_is)
    (case ne_NoStanding_NoGoers => decide)
    (case su_NoStanding_NoName => k_is)
    (case ne_NoStanding_NoName => decide)
    (case su_NoStanding_NoNumber => k_is)
    (case ne_NoStanding_NoNumber => decide)
    (case su_NoStanding_NoPair => k_is)
    (case ne_NoStanding_NoPair => decide)
    (case su_NoStanding_NoPlace => k_is)
    (case ne_NoStanding_NoPlace => decide)
    (case su_NoStanding_NoWishes => k_is)
    (case ne_NoStanding_NoWishes => decide)
    (case su_NoStanding_NoRow => k_is)
    (case ne_NoStanding_NoRow => decide)
    (case su_NoStanding_NoTown => k_is)
    (case ne_NoStanding_NoTown => decide)
    (case su_NoTown_NoChoice => k_is)
    (case ne_NoTown_NoChoice => decide)
    (case su_NoTown_NoEnd => k_is)
    (case ne_NoTown_NoEnd => decide)
    (case su_NoTown_NoGoers => k_is)
    (case ne_NoTown_NoGoers => decide)
    (case su_NoTown_NoName => k_is)
    (case ne_NoTown_NoName => decide)
    (case su_NoTown_NoNumber => k_is)
    (case ne_NoTown_NoNumber => decide)
    (case su_NoTown_NoPair => k_is)
    (case ne_NoTown_NoPair => decide)
    (case su_NoTown_NoPlace => k_is)
    (case ne_NoTown_NoPlace => decide)
    (case su_NoTown_NoWishes => k_is)
    (case ne_NoTown_NoWishes => decide)
    (case su_NoTown_NoRow => k_is)
    (case ne_NoTown_NoRow => decide)
    (case su_NoTown_NoStanding => k_is)
    (case ne_NoTown_NoStanding => decide)
    (case su_NoChoice_PostError => k_is)
    (case su_NoEnd_PostError => k_is)
    (case su_NoGoers_PostError => k_is)
    (case su_NoName_PostError => k_is)
    (case su_NoNumber_PostError => k_is)
    (case su_NoPair_PostError => k_is)
    (case su_NoPlace_PostError => k_is)
    (case su_NoWishes_PostError => k_is)
    (case su_NoRow_PostError => k_is)
    (case su_NoStanding_PostError => k_is)
    (case su_NoTown_PostError => k_is)

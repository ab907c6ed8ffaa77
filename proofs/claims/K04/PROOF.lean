import PyProof.Rows.All
import Wide.All
import OpenK.AllK
import Wide.FinOn
import HandS.ForMost
import HandS.ForExc
import HandS.Evl
import HandS.Walk
import HandS.IsInst
import HandS.Wide
import PyProof.ReprReads
import PyProof.EqLayable
import PyProof.ReprRoads
import PyProof.WalksMore
import HandS.NoneIn
import HandS.ExcInit
import HandS.ExcValue
import KE.KExcSuper
import HandS.ExcIs
import HandS.ExcField
import HandS.Deep
import HandS.More
import HandS.Strs
import HandS.SetBool
import HandS.Text
import HandS.StrMore
import HandS.List
import KE.KRevSl
import PySem.Challenge.RW_cameposts_k04_rows_looked_at_and_refused
import HandS.DictComp
import HandS.Sort
import HandS.Ends
import KE.RegKSuper
set_option Elab.async false
set_option linter.all false
set_option maxRecDepth 100000
set_option maxHeartbeats 4000000
/-! Cameposts: readings upon data. A value is told by its data (PyData); the heap within is plain, and what is owned (O) may change -/
namespace Cp
open PySem L2
open Evl (Ex)

/-! ### data in the abstract heap -/
/-- a key as data -/
def kD : Key → PyData
  | .inl i => .int i
  | .inr s => .str s
mutual
def Dt (H : Hp) : PyData → V → Prop
  | .none, v => v = .non
  | .bool b, v => v = .bl b
  | .int i, v => v = .int i
  | .str s, v => v = .str s
  | .list ds, v => ∃ a xs, v = .ref a ∧ H a = some (.lst xs) ∧ DtAll H ds xs
  | .tuple ds, v => ∃ a xs, v = .ref a ∧ H a = some (.tup xs) ∧ DtAll H ds xs
  | .dict kvs, v => ∃ a l, v = .ref a ∧ H a = some (.dK l) ∧ DtKV H kvs l
def DtAll (H : Hp) : List PyData → List V → Prop
  | [], vs => vs = []
  | d :: ds, vs => ∃ v r, vs = v :: r ∧ Dt H d v ∧ DtAll H ds r
def DtKV (H : Hp) : List (PyData × PyData) → List (Key × V) → Prop
  | [], l => l = []
  | (k, d) :: r, l => ∃ q v m, l = (q, v) :: m ∧ k = kD q ∧ Dt H d v ∧ DtKV H r m
end
mutual
theorem Dt.mono {H H' : Hp} (e : Ex H H') : ∀ (d : PyData) (v : V), Dt H d v → Dt H' d v
  | .none, v, h => h
  | .bool b, v, h => h
  | .int i, v, h => h
  | .str s, v, h => h
  | .list ds, v, ⟨a, xs, h1, h2, h3⟩ => ⟨a, xs, h1, e _ _ h2, DtAll.mono e ds xs h3⟩
  | .tuple ds, v, ⟨a, xs, h1, h2, h3⟩ => ⟨a, xs, h1, e _ _ h2, DtAll.mono e ds xs h3⟩
  | .dict kvs, v, ⟨a, l, h1, h2, h3⟩ => ⟨a, l, h1, e _ _ h2, DtKV.mono e kvs l h3⟩
theorem DtAll.mono {H H' : Hp} (e : Ex H H') : ∀ (ds : List PyData) (vs : List V), DtAll H ds vs → DtAll H' ds vs
  | [], vs, h => h
  | d :: ds, vs, ⟨v, r, h1, h2, h3⟩ => ⟨v, r, h1, Dt.mono e d v h2, DtAll.mono e ds r h3⟩
theorem DtKV.mono {H H' : Hp} (e : Ex H H') : ∀ (kvs : List (PyData × PyData)) (l : List (Key × V)), DtKV H kvs l → DtKV H' kvs l
  | [], l, h => h
  | (k, d) :: r, l, ⟨q, v, m, h1, h2, h3, h4⟩ => ⟨q, v, m, h1, h2, Dt.mono e d v h3, DtKV.mono e r m h4⟩
end
mutual
theorem Dt.dp {K : PySem.W.Frag} {H : Hp} : ∀ (d : PyData) (v : V), d.hasDict = false → Dt H d v → Dp K H v d
  | .none, v, _, h => by cases h; exact .non
  | .bool b, v, _, h => by cases h; exact .bl b
  | .int i, v, _, h => by cases h; exact .int i
  | .str s, v, _, h => by cases h; exact .str s
  | .list ds, v, n, ⟨a, xs, h1, h2, h3⟩ => by
    cases h1
    exact .lst (SqL.of h2) (DtAll.dp ds xs (by simpa only [PyData.hasDict] using n) h3)
  | .tuple ds, v, n, ⟨a, xs, h1, h2, h3⟩ => by
    cases h1
    exact .tup (SqT.of h2) (DtAll.dp ds xs (by simpa only [PyData.hasDict] using n) h3)
  | .dict _, _, n, _ => by simp only [PyData.hasDict] at n; cases n
theorem DtAll.dp {K : PySem.W.Frag} {H : Hp} : ∀ (ds : List PyData) (vs : List V), PyData.hasDictAll ds = false → DtAll H ds vs → DpAll K H vs ds
  | [], vs, _, h => by cases h; exact .nil
  | d :: ds, vs, n, ⟨v, r, h1, h2, h3⟩ => by
    cases h1
    simp only [PyData.hasDictAll, Bool.or_eq_false_iff] at n
    exact .cons (Dt.dp d v n.1 h2) (DtAll.dp ds r n.2 h3)
end
theorem noDict_shaped {d : PyData} (h : SeqAt.shaped d = true) : d.hasDict = false := PyData.hasDict_of_canLay d (SeqAt.canLay_of_shaped h)
theorem DtKV.length {H : Hp} : ∀ {kvs : List (PyData × PyData)} {l : List (Key × V)}, DtKV H kvs l → l.length = kvs.length
  | [], l, h => by cases h; rfl
  | (k, d) :: r, l, ⟨q, v, m, h1, h2, h3, h4⟩ => by cases h1; simp [DtKV.length h4]
theorem DtAll.length {H : Hp} : ∀ {ds : List PyData} {vs : List V}, DtAll H ds vs → vs.length = ds.length
  | [], vs, h => by cases h; rfl
  | d :: ds, vs, ⟨v, r, h1, h2, h3⟩ => by cases h1; simp [DtAll.length h3]
theorem DtAll.get {H : Hp} : ∀ {ds : List PyData} {vs : List V} {i : Nat} {d : PyData}, DtAll H ds vs → ds[i]? = some d → ∃ v, vs[i]? = some v ∧ Dt H d v
  | [], vs, i, d, h, e => by simp at e
  | x :: ds, vs, 0, d, ⟨v, r, h1, h2, h3⟩, e => by cases h1; simp at e; subst e; exact ⟨v, rfl, h2⟩
  | x :: ds, vs, i + 1, d, ⟨v, r, h1, h2, h3⟩, e => by
    cases h1
    obtain ⟨u, q1, q2⟩ := DtAll.get (i := i) (d := d) h3 (by simpa using e)
    exact ⟨u, by simpa using q1, q2⟩
theorem DtAll.got {H : Hp} {ds : List PyData} {vs : List V} {i : Nat} {v : V} (h : DtAll H ds vs) (e : vs[i]? = some v) : ∃ d, ds[i]? = some d ∧ Dt H d v := by
  have hl := h.length
  obtain ⟨hi, _⟩ := List.getElem?_eq_some_iff.mp e
  have hi2 : i < ds.length := by omega
  obtain ⟨u, q1, q2⟩ := h.get (List.getElem?_eq_getElem hi2)
  rw [e] at q1
  cases q1
  exact ⟨_, List.getElem?_eq_getElem hi2, q2⟩
theorem DtAll.append {H : Hp} : ∀ {ds es : List PyData} {vs ws : List V}, DtAll H ds vs → DtAll H es ws → DtAll H (ds ++ es) (vs ++ ws)
  | [], es, vs, ws, h, k => by cases h; exact k
  | d :: ds, es, vs, ws, ⟨v, r, h1, h2, h3⟩, k => by cases h1; exact ⟨v, r ++ ws, rfl, h2, h3.append k⟩
theorem DtAll.take {H : Hp} : ∀ (n : Nat) {ds : List PyData} {vs : List V}, DtAll H ds vs → DtAll H (ds.take n) (vs.take n)
  | 0, _, _, _ => by simp [DtAll]
  | n + 1, [], vs, h => by cases h; simp [DtAll]
  | n + 1, d :: ds, vs, ⟨v, r, h1, h2, h3⟩ => by cases h1; exact ⟨v, r.take n, rfl, h2, DtAll.take n h3⟩
theorem DtAll.drop {H : Hp} : ∀ (n : Nat) {ds : List PyData} {vs : List V}, DtAll H ds vs → DtAll H (ds.drop n) (vs.drop n)
  | 0, _, _, h => h
  | n + 1, [], vs, h => by cases h; simp [DtAll]
  | n + 1, d :: ds, vs, ⟨v, r, h1, h2, h3⟩ => by cases h1; exact DtAll.drop n h3
theorem DtAll.set {H : Hp} {d : PyData} {v : V} (hd : Dt H d v) : ∀ (n : Nat) {ds : List PyData} {vs : List V}, DtAll H ds vs → DtAll H (ds.set n d) (vs.set n v)
  | n, [], vs, h => by cases h; simp [DtAll]
  | 0, x :: ds, vs, ⟨w, r, h1, h2, h3⟩ => by cases h1; exact ⟨v, r, rfl, hd, h3⟩
  | n + 1, x :: ds, vs, ⟨w, r, h1, h2, h3⟩ => by cases h1; exact ⟨w, r.set n v, rfl, h2, DtAll.set hd n h3⟩
theorem DtAll.one {H : Hp} {d : PyData} {v : V} (h : Dt H d v) : DtAll H [d] [v] := ⟨v, [], rfl, h, rfl⟩
theorem DtAll.ints {H : Hp} : ∀ (ns : List Int), DtAll H (ns.map PyData.int) (ns.map V.int)
  | [] => rfl
  | n :: ns => ⟨.int n, ns.map V.int, rfl, rfl, DtAll.ints ns⟩

/-! ### what is owned -/
def hid (O : List Addr) (H : Hp) : Hp := fun a => if a ∈ O then none else H a
theorem hid_out {O : List Addr} {H : Hp} {a : Addr} (h : a ∉ O) : hid O H a = H a := if_neg h
theorem hid_in {O : List Addr} {H : Hp} {a : Addr} (h : a ∈ O) : hid O H a = none := if_pos h
theorem hid_some {O : List Addr} {H : Hp} {a : Addr} {o : HO} (h : hid O H a = some o) : a ∉ O ∧ H a = some o := by
  unfold hid at h
  split at h
  · cases h
  · exact ⟨by assumption, h⟩
theorem hid_ex {O : List Addr} {H H' : Hp} (e : Ex H H') : Ex (hid O H) (hid O H') := fun a o h => by
  obtain ⟨h1, h2⟩ := hid_some h
  rw [hid_out h1]
  exact e a o h2
theorem hid_le {O : List Addr} {H : Hp} : Ex (hid O H) H := fun a o h => (hid_some h).2
def Dom (O : List Addr) (H : Hp) : Prop := ∀ a ∈ O, H a ≠ none
theorem Dom.ex {O : List Addr} {H H' : Hp} (d : Dom O H) (e : Ex H H') : Dom O H' := fun a ha => by
  cases q : H a with
  | none => exact absurd q (d a ha)
  | some o =>
    rw [e a o q]
    simp
theorem Dom.fresh {O : List Addr} {H : Hp} {a : Addr} (d : Dom O H) (h : H a = none) : a ∉ O := fun z => d a z h
theorem Dom.same {O : List Addr} {H H' : Hp} (d : Dom O H) (e : Ex H H') : ∀ a ∈ O, H' a = H a := fun a ha => by
  cases q : H a with
  | none => exact absurd q (d a ha)
  | some o => exact e a o q

/-! ### slots upon data -/
inductive Sl where
  | no
  | d (x : PyData)
  | at (a : Addr)
  | ob (f : Addr → HO)
def SlOk (H : Hp) : Sl → Option V → Prop
  | .no, _ => True
  | .d x, o => ∃ v, o = some v ∧ Dt H x v
  | .at a, o => o = some (.ref a)
  | .ob f, o => ∃ a, o = some (.ref a) ∧ H a = some (f a)
theorem SlOk.mono {H H' : Hp} (e : Ex H H') : ∀ {s : Sl} {o : Option V}, SlOk H s o → SlOk H' s o
  | .no, _, _ => trivial
  | .d x, o, ⟨v, h1, h2⟩ => ⟨v, h1, Dt.mono e x v h2⟩
  | .at a, o, h => h
  | .ob f, o, ⟨a, h1, h2⟩ => ⟨a, h1, e _ _ h2⟩
/-- the slots σ hold what δ tells -/
def SD (H : Hp) (δ : List Sl) (σ : L2.St) : Prop := σ.length = δ.length ∧ ∀ i, SlOk H (δ.getD i .no) (σ.getD i none)
theorem SD.mono {H H' : Hp} {δ : List Sl} {σ : L2.St} (e : Ex H H') (h : SD H δ σ) : SD H' δ σ := ⟨h.1, fun i => (h.2 i).mono e⟩
theorem SD.set {H : Hp} {δ : List Sl} {σ : L2.St} {s : Sl} {o : Option V} (i : Nat) (h : SD H δ σ) (k : SlOk H s o) : SD H (δ.set i s) (σ.set i o) := by
  refine ⟨by simp [h.1], fun j => ?_⟩
  have hj := h.2 j
  simp only [List.getD_eq_getElem?_getD, List.getElem?_set] at *
  by_cases e : i = j
  · subst e
    rw [if_pos rfl, if_pos rfl, h.1]
    by_cases hl : i < δ.length
    · rw [if_pos hl, if_pos hl]
      exact k
    · rw [if_neg hl, if_neg hl]
      trivial
  · rw [if_neg e, if_neg e]
    exact hj
theorem SD.var {H : Hp} {δ : List Sl} {σ : L2.St} {i : Nat} {x : PyData} (h : SD H δ σ) (e : δ.getD i .no = .d x) : ∃ v, σ[i]? = some (some v) ∧ Dt H x v := by
  have q := h.2 i
  rw [e] at q
  obtain ⟨v, h1, h2⟩ := q
  rw [List.getD_eq_getElem?_getD] at h1
  cases z : σ[i]? with
  | none => rw [z] at h1; cases h1
  | some o => rw [z] at h1; simp at h1; subst h1; exact ⟨v, rfl, h2⟩
theorem SD.loc {H : Hp} {δ : List Sl} {σ : L2.St} {i : Nat} {a : Addr} (h : SD H δ σ) (e : δ.getD i .no = .at a) : σ[i]? = some (some (.ref a)) := by
  have q := h.2 i
  rw [e] at q
  have h1 : σ.getD i none = some (.ref a) := q
  rw [List.getD_eq_getElem?_getD] at h1
  cases z : σ[i]? with
  | none => rw [z] at h1; cases h1
  | some o => rw [z] at h1; simp at h1; subst h1; rfl
theorem SD.obj {H : Hp} {δ : List Sl} {σ : L2.St} {i : Nat} {f : Addr → HO} (h : SD H δ σ) (e : δ.getD i .no = .ob f) : ∃ a, σ[i]? = some (some (.ref a)) ∧ H a = some (f a) := by
  have q := h.2 i
  rw [e] at q
  obtain ⟨a, h1, h2⟩ := q
  rw [List.getD_eq_getElem?_getD] at h1
  cases z : σ[i]? with
  | none => rw [z] at h1; cases h1
  | some o => rw [z] at h1; simp at h1; subst h1; exact ⟨a, rfl, h2⟩
/-- a slot's word may be forgotten -/
theorem SD.forget {H : Hp} {δ : List Sl} {σ : L2.St} (i : Nat) (h : SD H δ σ) : SD H (δ.set i .no) σ := by
  refine ⟨by simp [h.1], fun j => ?_⟩
  have hj := h.2 j
  simp only [List.getD_eq_getElem?_getD, List.getElem?_set] at *
  by_cases e : i = j
  · subst e
    rw [if_pos rfl]
    by_cases hl : i < δ.length
    · rw [if_pos hl]
      trivial
    · rw [if_neg hl]
      trivial
  · rw [if_neg e]
    exact hj

/-! ### judgements: expressions, tests, arguments -/
/-- from J, te gives some data of which P tells, with the heap behind -/
def EM (O : List Addr) (J : Hp → Prop) (te : TE) (δ : List Sl) (P : PyData → Hp → Prop) : Prop :=
  ∀ σ H, J H → Dom O H → SD (hid O H) δ σ → ∀ Q : VK, (∀ d v H', P d H' → Dom O H' → Ex (hid O H) (hid O H') → Dt (hid O H') d v → Q v H') → te σ H Q
/-- te gives the data d, and changes nothing -/
def EP (O : List Addr) (te : TE) (δ : List Sl) (d : PyData) : Prop :=
  ∀ σ H, Dom O H → SD (hid O H) δ σ → ∀ Q : VK, (∀ v H', Ex H H' → Dt (hid O H') d v → Q v H') → te σ H Q
def TM (O : List Addr) (J : Hp → Prop) (tt : TT) (δ : List Sl) (P : Bool → Hp → Prop) : Prop :=
  ∀ σ H, J H → Dom O H → SD (hid O H) δ σ → ∀ Q : Bool → Hp → Prop, (∀ b H', P b H' → Dom O H' → Ex (hid O H) (hid O H') → Q b H') → tt σ H Q
def TP (O : List Addr) (tt : TT) (δ : List Sl) (b : Bool) : Prop :=
  ∀ σ H, Dom O H → SD (hid O H) δ σ → ∀ Q : Bool → Hp → Prop, (∀ H', Ex H H' → Q b H') → tt σ H Q
def AM (O : List Addr) (J : Hp → Prop) (ta : TA) (δ : List Sl) (P : List PyData → Hp → Prop) : Prop :=
  ∀ σ H, J H → Dom O H → SD (hid O H) δ σ → ∀ Q : List V → Hp → Prop, (∀ ds vs H', P ds H' → Dom O H' → Ex (hid O H) (hid O H') → DtAll (hid O H') ds vs → Q vs H') → ta σ H Q
def AP (O : List Addr) (ta : TA) (δ : List Sl) (ds : List PyData) : Prop :=
  ∀ σ H, Dom O H → SD (hid O H) δ σ → ∀ Q : List V → Hp → Prop, (∀ vs H', Ex H H' → DtAll (hid O H') ds vs → Q vs H') → ta σ H Q
/-- a wish about what is owned: kept while the owned objects are -/
def Jok (O : List Addr) (J : Hp → Prop) : Prop := ∀ H H', (∀ a ∈ O, H' a = H a) → Ex (hid O H) (hid O H') → J H → J H'
theorem Jok.ex {O : List Addr} {J : Hp → Prop} (j : Jok O J) {H H' : Hp} (d : Dom O H) (e : Ex H H') (h : J H) : J H' := j H H' (d.same e) (hid_ex e) h
theorem jok_true {O : List Addr} : Jok O (fun _ => True) := fun _ _ _ _ _ => trivial
theorem EP.em {O : List Addr} {J : Hp → Prop} {te : TE} {δ : List Sl} {d : PyData} (j : Jok O J) (h : EP O te δ d) : EM O J te δ (fun x H => x = d ∧ J H) := fun σ H hJ hD hS Q k =>
  h σ H hD hS Q fun v H' e hv => k d v H' ⟨rfl, j.ex hD e hJ⟩ (hD.ex e) (hid_ex e) hv
theorem EP.emP {O : List Addr} {J : Hp → Prop} {te : TE} {δ : List Sl} {d : PyData} {P : PyData → Hp → Prop} (j : Jok O J) (h : EP O te δ d) (k : ∀ H, J H → P d H) : EM O J te δ P :=
  fun σ H hJ hD hS Q q => h σ H hD hS Q fun v H' e hv => q d v H' (k H' (j.ex hD e hJ)) (hD.ex e) (hid_ex e) hv
theorem EM.imp {O : List Addr} {J : Hp → Prop} {te : TE} {δ : List Sl} {P P' : PyData → Hp → Prop} (h : EM O J te δ P) (k : ∀ d H, P d H → P' d H) : EM O J te δ P' :=
  fun σ H hJ hD hS Q q => h σ H hJ hD hS Q fun d v H' p => q d v H' (k d H' p)
theorem EM.pre {O : List Addr} {J J' : Hp → Prop} {te : TE} {δ : List Sl} {P : PyData → Hp → Prop} (h : EM O J te δ P) (k : ∀ H, J' H → J H) : EM O J' te δ P :=
  fun σ H hJ hD hS Q q => h σ H (k H hJ) hD hS Q q
theorem TP.tm {O : List Addr} {J : Hp → Prop} {tt : TT} {δ : List Sl} {b : Bool} (j : Jok O J) (h : TP O tt δ b) : TM O J tt δ (fun x H => x = b ∧ J H) := fun σ H hJ hD hS Q k =>
  h σ H hD hS Q fun H' e => k b H' ⟨rfl, j.ex hD e hJ⟩ (hD.ex e) (hid_ex e)
theorem AP.am {O : List Addr} {J : Hp → Prop} {ta : TA} {δ : List Sl} {ds : List PyData} (j : Jok O J) (h : AP O ta δ ds) : AM O J ta δ (fun x H => x = ds ∧ J H) := fun σ H hJ hD hS Q k =>
  h σ H hD hS Q fun vs H' e hv => k ds vs H' ⟨rfl, j.ex hD e hJ⟩ (hD.ex e) (hid_ex e) hv
theorem EP.is {O : List Addr} {te : TE} {δ : List Sl} {d e : PyData} (h : EP O te δ d) (q : d = e) : EP O te δ e := q ▸ h
theorem TP.is {O : List Addr} {tt : TT} {δ : List Sl} {d e : Bool} (h : TP O tt δ d) (q : d = e) : TP O tt δ e := q ▸ h

section
variable {O : List Addr} {K : PySem.W.Frag} {δ : List Sl} {ta tb te tc : TE} {x y z d : PyData}
theorem ep_var {i : Nat} (h : δ.getD i .no = .d x) : EP O (tVar i) δ x := fun σ H hD hS Q k => by
  obtain ⟨v, h1, h2⟩ := hS.var h
  exact ⟨v, h1, k v H (Ex.refl H) h2⟩
theorem ep_non : EP O (tC .non) δ .none := fun σ H hD hS Q k => k _ H (Ex.refl H) rfl
theorem ep_bl {b : Bool} : EP O (tC (.bl b)) δ (.bool b) := fun σ H hD hS Q k => k _ H (Ex.refl H) rfl
theorem ep_int {i : Int} : EP O (tC (.int i)) δ (.int i) := fun σ H hD hS Q k => k _ H (Ex.refl H) rfl
theorem ep_str {s : Str} : EP O (tC (.str s)) δ (.str s) := fun σ H hD hS Q k => k _ H (Ex.refl H) rfl
theorem ap_nil : AP O tNil δ [] := fun σ H hD hS Q k => k [] H (Ex.refl H) rfl
theorem ap_cons {tr : TA} {ds : List PyData} (h : EP O te δ d) (hr : AP O tr δ ds) : AP O (tCons te tr) δ (d :: ds) := fun σ H hD hS Q k =>
  h σ H hD hS _ fun v H1 e1 hv => hr σ H1 (hD.ex e1) (hS.mono (hid_ex e1)) _ fun vs H2 e2 hvs => k (v :: vs) H2 (e1.trans e2) ⟨v, vs, rfl, Dt.mono (hid_ex e2) d v hv, hvs⟩
theorem ep_tup {t : TA} {ds : List PyData} (h : AP O t δ ds) (hl : ds.length ≤ 100000) : EP O (tTup t) δ (.tuple ds) := fun σ H hD hS Q k =>
  h σ H hD hS _ fun vs H1 e1 hv => ⟨by rw [hv.length]; exact Evl.sz_of hl, fun p hp => k (.ref p) _ (e1.trans (Ex.new hp))
    ⟨p, vs, rfl, by rw [hid_out ((hD.ex e1).fresh hp)]; exact upd_same, DtAll.mono (hid_ex (Ex.new hp)) ds vs hv⟩⟩
theorem ep_lst {t : TA} {ds : List PyData} (h : AP O t δ ds) (hl : ds.length ≤ 100000) : EP O (tLst t) δ (.list ds) := fun σ H hD hS Q k =>
  h σ H hD hS _ fun vs H1 e1 hv => ⟨by rw [hv.length]; exact Evl.sz_of hl, fun p hp => k (.ref p) _ (e1.trans (Ex.new hp))
    ⟨p, vs, rfl, by rw [hid_out ((hD.ex e1).fresh hp)]; exact upd_same, DtAll.mono (hid_ex (Ex.new hp)) ds vs hv⟩⟩
/-- an operation on data that changes nothing -/
def RP (O : List Addr) (r : R2) (x y z : PyData) : Prop := ∀ (v w : V) (H : Hp), Dom O H → Dt (hid O H) x v → Dt (hid O H) y w → ∀ Q : VK, (∀ u H', Ex H H' → Dt (hid O H') z u → Q u H') → r v w H Q
theorem ep_op {r : R2} (ha : EP O ta δ x) (hb : EP O tb δ y) (hr : RP O r x y z) : EP O (tOp r ta tb) δ z := fun σ H hD hS Q k =>
  ha σ H hD hS _ fun v H1 e1 hv => hb σ H1 (hD.ex e1) (hS.mono (hid_ex e1)) _ fun w H2 e2 hw =>
    hr v w H2 ((hD.ex e1).ex e2) (Dt.mono (hid_ex e2) x v hv) hw Q fun u H3 e3 hu => k u H3 ((e1.trans e2).trans e3) hu
theorem em_op {r : R2} {J : Hp → Prop} {Pa : PyData → Hp → Prop} {Pb : PyData → PyData → Hp → Prop} {Pz : PyData → Hp → Prop} (ha : EM O J ta δ Pa) (hb : ∀ x, EM O (Pa x) tb δ (Pb x))
    (hr : ∀ x y H, Pb x y H → ∃ z, RP O r x y z ∧ ∀ H', Dom O H → Ex H H' → Pz z H') : EM O J (tOp r ta tb) δ Pz := fun σ H hJ hD hS Q k =>
  ha σ H hJ hD hS _ fun x v H1 p1 d1 e1 hv => hb x σ H1 p1 d1 (hS.mono e1) _ fun y w H2 p2 d2 e2 hw => by
    obtain ⟨z, hz, hq⟩ := hr x y H2 p2
    exact hz v w H2 d2 (Dt.mono e2 x v hv) hw Q fun u H3 e3 hu => k z u H3 (hq H3 d2 e3) (d2.ex e3) ((e1.trans e2).trans (hid_ex e3)) hu
/-- ints -/
theorem rp_rI {C : Int → Int → Prop} {g : Int → Int → V} {i j : Int} (hc : C i j) (hz : ∀ H, Dt H z (g i j)) : RP O (rI C g) (.int i) (.int j) z := fun v w H hD hv hw Q k => by
  cases hv; cases hw
  exact ⟨i, j, rfl, rfl, hc, k _ H (Ex.refl H) (hz _)⟩
theorem rp_rI0 {g : Int → Int → V} {i j : Int} (hz : ∀ H, Dt H z (g i j)) : RP O (rI0 g) (.int i) (.int j) z := fun v w H hD hv hw Q k => by
  cases hv; cases hw
  exact ⟨i, j, rfl, rfl, k _ H (Ex.refl H) (hz _)⟩
theorem rp_eqD (h1 : SeqAt.shaped x = true) (h2 : SeqAt.shaped y = true) : RP O (rEqD K) x y (.bool (PyData.eqv x y)) := fun v w H hD hv hw Q k =>
  ⟨x, y, Dt.dp x v (noDict_shaped h1) (Dt.mono hid_le x v hv), Dt.dp y w (noDict_shaped h2) (Dt.mono hid_le y w hw), h1, h2, k _ H (Ex.refl H) rfl⟩
theorem rp_neD (h1 : SeqAt.shaped x = true) (h2 : SeqAt.shaped y = true) : RP O (rNeD K) x y (.bool (!PyData.eqv x y)) := fun v w H hD hv hw Q k =>
  ⟨x, y, Dt.dp x v (noDict_shaped h1) (Dt.mono hid_le x v hv), Dt.dp y w (noDict_shaped h2) (Dt.mono hid_le y w hw), h1, h2, k _ H (Ex.refl H) rfl⟩
theorem rp_ixL {ds : List PyData} {i : Int} {j : Nat} (hj : ixN ds.length i = some j) (hz : ds[j]? = some z) : RP O (rIxL K) (.list ds) (.int i) z := fun v w H hD hv hw Q k => by
  obtain ⟨a, xs, rfl, h1, h2⟩ := hv
  cases hw
  obtain ⟨u, q1, q2⟩ := h2.get hz
  refine ⟨a, xs, i, u, rfl, rfl, SqL.of (hid_some h1).2, ?_, k u H (Ex.refl H) q2⟩
  unfold atI
  rw [h2.length, hj]
  exact q1
theorem rp_ixT {ds : List PyData} {i : Int} {j : Nat} (hj : ixN ds.length i = some j) (hz : ds[j]? = some z) : RP O (rIxT K) (.tuple ds) (.int i) z := fun v w H hD hv hw Q k => by
  obtain ⟨a, xs, rfl, h1, h2⟩ := hv
  cases hw
  obtain ⟨u, q1, q2⟩ := h2.get hz
  refine ⟨a, xs, i, u, rfl, rfl, SqT.of (hid_some h1).2, ?_, k u H (Ex.refl H) q2⟩
  unfold atI
  rw [h2.length, hj]
  exact q1
theorem rp_ix1 {i : PyData} (h : RP O (rIxL K) x i z) : RP O (rIx K) x i z := fun v w H hD hv hw Q k => Or.inl (h v w H hD hv hw Q k)
theorem rp_ix2 {i : PyData} (h : RP O (rIxT K) x i z) : RP O (rIx K) x i z := fun v w H hD hv hw Q k => Or.inr (Or.inl (h v w H hD hv hw Q k))
theorem rp_cat {ds es : List PyData} (hl : ds.length + es.length ≤ 100000) : RP O rCat (.list ds) (.list es) (.list (ds ++ es)) := fun v w H hD hv hw Q k => by
  obtain ⟨a, xs, rfl, h1, h2⟩ := hv
  obtain ⟨b, ys, rfl, h3, h4⟩ := hw
  refine ⟨a, b, xs, ys, rfl, rfl, (hid_some h1).2, (hid_some h3).2, by rw [h2.length, h4.length]; exact Evl.sz_of hl, fun p hp => k _ _ (Ex.new hp) ⟨p, xs ++ ys, rfl, ?_, ?_⟩⟩
  · rw [hid_out (hD.fresh hp)]
    exact upd_same
  · exact (h2.append h4).mono (hid_ex (Ex.new hp))
/-- isinstance upon data -/
def tyN : PyData → String
  | .none => "NoneType"
  | .bool _ => "bool"
  | .int _ => "int"
  | .str _ => "str"
  | .list _ => "list"
  | .tuple _ => "tuple"
  | .dict _ => "dict"
theorem dt_ty {H : Hp} : ∀ {x : PyData} {v : V}, Dt H x v → TyX K H v (.type (tyN x))
  | .none, v, h => by cases h; exact .base .non
  | .bool b, v, h => by cases h; exact .base (.bl b)
  | .int i, v, h => by cases h; exact .base (.int i)
  | .str s, v, h => by cases h; exact .base (.str s)
  | .list ds, v, ⟨a, xs, h1, h2, h3⟩ => by cases h1; exact .base (.lst h2)
  | .tuple ds, v, ⟨a, xs, h1, h2, h3⟩ => by cases h1; exact .base (.tup h2)
  | .dict kvs, v, ⟨a, l, h1, h2, h3⟩ => by cases h1; exact .base (.dK h2)
theorem ep_isi {T : String} {b : Bool} (h : EP O te δ x) (hb : kitB (tyN x) T = some b) : EP O (tCB (rIsi K) (tCons te (tCons (tC (.ty T)) tNil))) δ (.bool b) := fun σ H hD hS Q k =>
  h σ H hD hS _ fun v H1 e1 hv => ⟨v, .ty T, _, _, b, rfl, .ty T, dt_ty (Dt.mono hid_le x v hv), kit_ty hb, k _ H1 e1 rfl⟩
theorem ep_len {n : Nat} (h : EP O te δ x) (hn : (∃ ds, x = .list ds ∧ n = ds.length) ∨ (∃ ds, x = .tuple ds ∧ n = ds.length)) :
    EP O (tCB (fun xs H Q => ∃ x n, xs = [x] ∧ LenV K x H n ∧ Q (V.int ↑n) H) (tCons te tNil)) δ (.int n) := fun σ H hD hS Q k =>
  h σ H hD hS _ fun v H1 e1 hv => by
    rcases hn with ⟨ds, rfl, rfl⟩ | ⟨ds, rfl, rfl⟩
    · obtain ⟨a, xs, rfl, h1, h2⟩ := hv
      exact ⟨_, _, rfl, Or.inl ⟨xs, SqL.of (hid_some h1).2, h2.length.symm⟩, k _ H1 e1 rfl⟩
    · obtain ⟨a, xs, rfl, h1, h2⟩ := hv
      exact ⟨_, _, rfl, Or.inr ⟨xs, SqT.of (hid_some h1).2, h2.length.symm⟩, k _ H1 e1 rfl⟩
/-! tests -/
theorem tp_test {b : Bool} (h : EP O te δ (.bool b)) : TP O (tTest te) δ b := fun σ H hD hS Q k => h σ H hD hS _ fun v H1 e1 hv => ⟨b, hv, k H1 e1⟩
theorem tp_B {b : Bool} (h : EP O te δ (.bool b)) : TP O (tB te) δ b := fun σ H hD hS Q k => h σ H hD hS _ fun v H1 e1 hv => ⟨b, hv, k H1 e1⟩
theorem tp_not {t : TT} {a : Bool} (h : TP O t δ a) : TP O (tNot t) δ (!a) := fun σ H hD hS Q k => h σ H hD hS _ fun H1 e1 => k H1 e1
theorem tp_and {t u : TT} {a b : Bool} (h1 : TP O t δ a) (h2 : a = true → TP O u δ b) : TP O (tAnd t u) δ (a && b) := fun σ H hD hS Q k => h1 σ H hD hS _ fun H1 e1 => by
  cases a with
  | true => exact h2 rfl σ H1 (hD.ex e1) (hS.mono (hid_ex e1)) Q fun H2 e2 => k H2 (e1.trans e2)
  | false => exact k H1 e1
theorem tp_or {t u : TT} {a b : Bool} (h1 : TP O t δ a) (h2 : a = false → TP O u δ b) : TP O (tOr t u) δ (a || b) := fun σ H hD hS Q k => h1 σ H hD hS _ fun H1 e1 => by
  cases a with
  | false => exact h2 rfl σ H1 (hD.ex e1) (hS.mono (hid_ex e1)) Q fun H2 e2 => k H2 (e1.trans e2)
  | true => exact k H1 e1
theorem ep_and {a b : Bool} (h1 : EP O ta δ (.bool a)) (h2 : a = true → EP O tb δ (.bool b)) : EP O (tAndV ta tb) δ (.bool (a && b)) := fun σ H hD hS Q k => h1 σ H hD hS _ fun v H1 e1 hv => ⟨a, hv, by
  cases a with
  | true => exact h2 rfl σ H1 (hD.ex e1) (hS.mono (hid_ex e1)) Q fun u H2 e2 hu => k u H2 (e1.trans e2) hu
  | false => exact k _ H1 e1 rfl⟩
theorem ep_or {a b : Bool} (h1 : EP O ta δ (.bool a)) (h2 : a = false → EP O tb δ (.bool b)) : EP O (tOrV ta tb) δ (.bool (a || b)) := fun σ H hD hS Q k => h1 σ H hD hS _ fun v H1 e1 hv => ⟨a, hv, by
  cases a with
  | false => exact h2 rfl σ H1 (hD.ex e1) (hS.mono (hid_ex e1)) Q fun u H2 e2 hu => k u H2 (e1.trans e2) hu
  | true => exact k _ H1 e1 rfl⟩
theorem ep_not {a : Bool} (h : EP O te δ (.bool a)) : EP O (tNotV te) δ (.bool (!a)) := fun σ H hD hS Q k => h σ H hD hS _ fun v H1 e1 hv => ⟨a, hv, k _ H1 e1 rfl⟩
theorem ep_chain {r r' : R2} {a b : Bool} (ha : EP O ta δ x) (hb : EP O tb δ y) (hc : EP O tc δ z) (h1 : RP O r x y (.bool a)) (h2 : a = true → RP O r' y z (.bool b)) :
    EP O (tChain r r' ta tb tc) δ (.bool (a && b)) := fun σ H hD hS Q k =>
  ha σ H hD hS _ fun v H1 e1 hv => hb σ H1 (hD.ex e1) (hS.mono (hid_ex e1)) _ fun w H2 e2 hw =>
    h1 v w H2 ((hD.ex e1).ex e2) (Dt.mono (hid_ex e2) x v hv) hw _ fun u H3 e3 hu => ⟨a, hu, by
      have d3 := (((hD.ex e1).ex e2).ex e3)
      have e13 := (e1.trans e2).trans e3
      cases a with
      | true => exact hc σ H3 d3 (hS.mono (hid_ex e13)) _ fun t H4 e4 ht => h2 rfl w t H4 (d3.ex e4) (Dt.mono (hid_ex (e3.trans e4)) y w hw) ht _ fun s H5 e5 hs => k s H5 ((e13.trans e4).trans e5) hs
      | false => exact k _ H3 e13 rfl⟩
end
end Cp
/-! Cameposts: readings upon data, the statements, loops, comprehensions, calls -/
namespace Cp
open PySem L2
open Evl (Ex)

/-- a statement: from J it goes on with slots and heap of which N tells, or hands back what R tells -/
def DM (O : List Addr) (J : Hp → Prop) (t : TS) (δ : List Sl) (N : List Sl → Hp → Prop) (R : V → Hp → Prop) : Prop :=
  ∀ σ H (D : Ends), J H → Dom O H → SD (hid O H) δ σ → (∀ δ' σ' H', N δ' H' → Dom O H' → Ex (hid O H) (hid O H') → SD (hid O H') δ' σ' → D.nx σ' H') →
    (∀ v H', R v H' → Dom O H' → Ex (hid O H) (hid O H') → D.rt v H') → t D σ H
/-- data handed back -/
def RD (O : List Addr) (P : PyData → Hp → Prop) : V → Hp → Prop := fun v H => ∃ d, Dt (hid O H) d v ∧ P d H
/-- a statement that changes nothing -/
def DS (O : List Addr) (t : TS) (δ : List Sl) (N : List Sl → Prop) (R : PyData → Prop) : Prop :=
  ∀ J, Jok O J → DM O J t δ (fun δ' H => N δ' ∧ J H) (RD O fun d H => R d ∧ J H)

section
variable {O : List Addr} {K : PySem.W.Frag} {δ : List Sl} {te ta : TE} {tt : TT} {t u tb : TS} {J : Hp → Prop} {N N1 : List Sl → Hp → Prop} {R : V → Hp → Prop} {x y d : PyData}
theorem slok_d {H : Hp} {v : V} (h : Dt H x v) : SlOk H (.d x) (some v) := ⟨v, rfl, h⟩
theorem dm_imp {N' : List Sl → Hp → Prop} {R' : V → Hp → Prop} (h : DM O J t δ N R) (hN : ∀ δ H, N δ H → N' δ H) (hR : ∀ v H, R v H → R' v H) : DM O J t δ N' R' :=
  fun σ H D hJ hD hS kn kr => h σ H D hJ hD hS (fun δ' σ' H' n => kn δ' σ' H' (hN _ _ n)) fun v H' r => kr v H' (hR _ _ r)
theorem dm_pre {J' : Hp → Prop} (h : DM O J t δ N R) (k : ∀ H, J' H → J H) : DM O J' t δ N R := fun σ H D hJ => h σ H D (k H hJ)
theorem dm_seq (h : DM O J t δ N1 R) (k : ∀ δ1, DM O (N1 δ1) u δ1 N R) : DM O J (tSeq t u) δ N R := fun σ H D hJ hD hS kn kr =>
  h σ H _ hJ hD hS (fun δ1 σ1 H1 n1 d1 e1 s1 => k δ1 σ1 H1 D n1 d1 s1 (fun δ2 σ2 H2 n2 d2 e2 s2 => kn δ2 σ2 H2 n2 d2 (e1.trans e2) s2) fun v H2 r2 d2 e2 => kr v H2 r2 d2 (e1.trans e2)) kr
theorem dm_next (h : ∀ H, J H → N δ H) : DM O J tNext δ N R := fun σ H D hJ hD hS kn kr => kn δ σ H (h H hJ) hD (Ex.refl _) hS
theorem dm_asg {P : PyData → Hp → Prop} {i : Nat} (h : EM O J te δ P) (k : ∀ d H, P d H → N (δ.set i (.d d)) H) : DM O J (tAsg te (gName i)) δ N R := fun σ H D hJ hD hS kn kr =>
  h σ H hJ hD hS _ fun d v H' p d' e' hv => kn _ _ H' (k d H' p) d' e' ((hS.mono e').set i (slok_d hv))
theorem dm_drop {P : PyData → Hp → Prop} (h : EM O J te δ P) (k : ∀ d H, P d H → N δ H) : DM O J (tDrop te) δ N R := fun σ H D hJ hD hS kn kr =>
  h σ H hJ hD hS _ fun d v H' p d' e' hv => kn _ _ H' (k d H' p) d' e' (hS.mono e')
theorem dm_ret {P : PyData → Hp → Prop} (h : EM O J te δ P) : DM O J (tRet te) δ N (RD O P) := fun σ H D hJ hD hS kn kr =>
  h σ H hJ hD hS _ fun d v H' p d' e' hv => kr v H' ⟨d, hv, p⟩ d' e'
theorem dm_if {P : Bool → Hp → Prop} (h : TM O J tt δ P) (h1 : DM O (P true) t δ N R) (h2 : DM O (P false) u δ N R) : DM O J (tIfS tt t u) δ N R := fun σ H D hJ hD hS kn kr =>
  h σ H hJ hD hS _ fun b H1 p d1 e1 => by
    cases b with
    | true => exact h1 σ H1 D p d1 (hS.mono e1) (fun δ2 σ2 H2 n2 d2 e2 s2 => kn δ2 σ2 H2 n2 d2 (e1.trans e2) s2) fun v H2 r2 d2 e2 => kr v H2 r2 d2 (e1.trans e2)
    | false => exact h2 σ H1 D p d1 (hS.mono e1) (fun δ2 σ2 H2 n2 d2 e2 s2 => kn δ2 σ2 H2 n2 d2 (e1.trans e2) s2) fun v H2 r2 d2 e2 => kr v H2 r2 d2 (e1.trans e2)
/-! ### targets -/
def GB (O : List Addr) (g : TG) (d : PyData) (δ δ' : List Sl) (ix : List Nat) : Prop := ∀ σ H v, Dom O H → SD (hid O H) δ σ → Dt (hid O H) d v → ∀ Q : L2.St → Hp → Prop,
  (∀ σ', SD (hid O H) δ' σ' → σ'.length = σ.length → (∀ j, j ∉ ix → σ'[j]? = σ[j]?) → Q σ' H) → g v σ H Q
theorem gb_name {i : Nat} : GB O (gName i) d δ (δ.set i (.d d)) [i] := fun σ H v hD hS hv Q k =>
  k _ (hS.set i (slok_d hv)) (by simp) fun j hj => by
    rw [List.getElem?_set_ne]
    intro e
    exact hj (by simp [e])
theorem gb_tup2 {i j : Nat} : GB O (gTup K 2 (gCons (gName i) (gCons (gName j) gNil))) (.tuple [x, y]) δ ((δ.set i (.d x)).set j (.d y)) [i, j] := fun σ H v hD hS hv Q k => by
  obtain ⟨a, xs, rfl, h1, v1, r1, rfl, q1, v2, r2, rfl, q2, q3⟩ := hv
  cases q3
  refine ⟨a, _, rfl, SqT.of (hid_some h1).2, rfl, v1, [v2], rfl, v2, [], rfl, rfl, ?_⟩
  refine k _ ((hS.set i (slok_d q1)).set j (slok_d q2)) (by simp) fun m hm => ?_
  simp only [List.mem_cons, List.not_mem_nil, or_false, not_or] at hm
  rw [List.getElem?_set_ne (fun e => hm.2 e.symm), List.getElem?_set_ne (fun e => hm.1 e.symm)]
theorem dm_unpack {P : PyData → Hp → Prop} {g : TG} {ix : List Nat} (h : EM O J te δ P) (k : ∀ d H, P d H → ∃ δ', GB O g d δ δ' ix ∧ N δ' H) : DM O J (tAsg te g) δ N R := fun σ H D hJ hD hS kn kr =>
  h σ H hJ hD hS _ fun d v H' p d' e' hv => by
    obtain ⟨δ', hg, n⟩ := k d H' p
    exact hg σ H' v d' (hS.mono e') hv _ fun σ' s' _ _ => kn δ' σ' H' n d' e' s'

/-! ### walks -/
def WP (O : List Addr) (wi : TI) (δ : List Sl) (n : Nat) (item : Nat → PyData) : Prop := ∀ σ H, Dom O H → SD (hid O H) δ σ → ∀ R : It → Hp → Prop,
  (∀ Ji H1, Ex H H1 → Walk Ji n (fun H' => Ex (hid O H1) H') (fun i H' v H'' => Ex H' H'' ∧ ∀ O', Ex (hid O H1) (hid O' H') → Dom O' H' → Dt (hid O' H'') (item i) v) → R Ji H1) → wi σ H R
theorem wp_list {ds : List PyData} (h : EP O te δ (.list ds)) : WP O (iList K te) δ ds.length (fun i => ds.getD i .none) := fun σ H hD hS R k =>
  h σ H hD hS _ fun v H1 e1 hv => by
    obtain ⟨a, xs, rfl, h1, h2⟩ := hv
    refine ⟨a, rfl, ⟨xs, SqL.of (hid_some h1).2⟩, k _ H1 e1 ?_⟩
    rw [← h2.length]
    refine walk_list.mono (fun H' g => SqL.of (g _ _ h1)) (fun i H' v H'' hi g y => ?_)
    obtain ⟨rfl, hy⟩ := y
    obtain ⟨d, q1, q2⟩ := h2.got hy
    exact ⟨Ex.refl _, fun O' eo _ => by
      show Dt _ (ds.getD i .none) v
      rw [List.getD_eq_getElem?_getD, q1]
      exact Dt.mono eo d v q2⟩
theorem wp_tup {ds : List PyData} (h : EP O te δ (.tuple ds)) : WP O (iTup K te) δ ds.length (fun i => ds.getD i .none) := fun σ H hD hS R k =>
  h σ H hD hS _ fun v H1 e1 hv => by
    obtain ⟨a, xs, rfl, h1, h2⟩ := hv
    refine ⟨a, rfl, ⟨xs, SqT.of (hid_some h1).2⟩, k _ H1 e1 ?_⟩
    rw [← h2.length]
    refine walk_tup.mono (fun H' g => SqT.of (g _ _ h1)) (fun i H' v H'' hi g y => ?_)
    obtain ⟨rfl, hy⟩ := y
    obtain ⟨d, q1, q2⟩ := h2.got hy
    exact ⟨Ex.refl _, fun O' eo _ => by
      show Dt _ (ds.getD i .none) v
      rw [List.getD_eq_getElem?_getD, q1]
      exact Dt.mono eo d v q2⟩
theorem walk_rng {lo : Int} {n : Nat} : Walk (Itr lo n) n (fun _ => True) (YFn fun i => .int (lo + i)) :=
  ⟨fun i _ hi _ => hi, fun _ _ => Nat.le_refl _, fun _ _ _ _ _ _ y => y⟩
theorem wp_rng1 {ta : TA} {n : Int} (h : AP O ta δ [.int n]) (hb : 0 ≤ n ∧ n ≤ 100000) : WP O (iRng1 ta) δ n.toNat (fun i => .int i) := fun σ H hD hS R k =>
  h σ H hD hS _ fun vs H1 e1 hv => by
    obtain ⟨v, r, rfl, q1, q2⟩ := hv
    cases q1; cases q2
    refine ⟨n, rfl, by omega, by omega, k _ H1 e1 (walk_rng.mono (fun _ _ => trivial) fun i H' v H'' hi g y => ?_)⟩
    obtain ⟨rfl, rfl⟩ := y
    exact ⟨Ex.refl _, fun _ _ _ => by show V.int ((0 : Int) + i) = V.int i; rw [Int.zero_add]⟩
theorem wp_rng2 {ta : TA} {lo n : Int} (h : AP O ta δ [.int lo, .int n]) (hb : -100000 ≤ lo ∧ lo ≤ 100000 ∧ -100000 ≤ n ∧ n ≤ 100000) : WP O (iRng2 ta) δ (n - lo).toNat (fun i => .int (lo + i)) := fun σ H hD hS R k =>
  h σ H hD hS _ fun vs H1 e1 hv => by
    obtain ⟨v, r, rfl, q1, v2, r2, rfl, q2, q3⟩ := hv
    cases q1; cases q2; cases q3
    refine ⟨lo, n, rfl, ⟨by omega, by omega, by omega, by omega⟩, k _ H1 e1 (walk_rng.mono (fun _ _ => trivial) fun i H' v H'' hi g y => ?_)⟩
    obtain ⟨rfl, rfl⟩ := y
    exact ⟨Ex.refl _, fun _ _ _ => rfl⟩
theorem walk_enm {a : Addr} {xs : List V} : Walk (Ite K a) xs.length (fun H => SqL K H a xs) (fun i H v H' => ∃ T x, v = .ref T ∧ H T = none ∧ H' = upd H T (.tup [.int (i : Nat), x]) ∧ xs[i]? = some x) :=
  ⟨fun i _ hi q => ⟨xs, xs[i], q, by simp [hi]⟩, fun _ q => ⟨xs, q, Nat.le_refl _⟩, fun i H v H' _ q y => by
    obtain ⟨T, x, h1, h2, h3, h4⟩ := y
    exact ⟨T, x, h1, h2, h3, h4 xs q⟩⟩
theorem wp_enum {ta : TA} {ds : List PyData} (h : AP O ta δ [.list ds]) : WP O (iEnum K ta) δ ds.length (fun i => .tuple [.int i, ds.getD i .none]) := fun σ H hD hS R k =>
  h σ H hD hS _ fun vs H1 e1 hv => by
    obtain ⟨v, r, rfl, q1, q2⟩ := hv
    cases q2
    obtain ⟨a, xs, rfl, h1, h2⟩ := q1
    refine ⟨a, xs, rfl, SqL.of (hid_some h1).2, k _ H1 e1 ?_⟩
    rw [← h2.length]
    refine walk_enm.mono (fun H' g => SqL.of (g _ _ h1)) (fun i H' v H'' hi g y => ?_)
    obtain ⟨T, x, rfl, hT, rfl, hy⟩ := y
    obtain ⟨d, p1, p2⟩ := h2.got hy
    refine ⟨Ex.new hT, fun O' eo dd => ⟨T, _, rfl, by rw [hid_out (dd.fresh hT)]; exact upd_same, _, _, rfl, rfl, _, _, rfl, ?_, rfl⟩⟩
    show Dt _ (ds.getD i .none) x
    rw [List.getD_eq_getElem?_getD, p1]
    exact Dt.mono (eo.trans (hid_ex (Ex.new hT))) d x p2
theorem dm_for {wi : TI} {g : TG} {n : Nat} {item : Nat → PyData} {ix : List Nat} (hw : WP O wi δ n item) (hJ : Jok O J) (Iv : Nat → List Sl → Hp → Prop) (h0 : ∀ H, J H → Iv 0 δ H)
    (hs : ∀ i δ1 H1, i < n → Iv i δ1 H1 → ∃ δ2 J1, GB O g (item i) δ1 δ2 ix ∧ J1 H1 ∧ Jok O J1 ∧ DM O J1 tb δ2 (Iv (i + 1)) R) (hd : ∀ δ1 H1, Iv n δ1 H1 → N δ1 H1) : DM O J (tFor wi g tb) δ N R := fun σ H D hJ0 hD hS kn kr =>
  hw σ H hD hS _ fun Ji H1 e1 w => by
    refine for_it w (fun i σ' H' => ∃ δ1, Iv i δ1 H' ∧ SD (hid O H') δ1 σ' ∧ Ex (hid O H1) (hid O H') ∧ Dom O H') ⟨δ, h0 H1 (hJ.ex hD e1 hJ0), hS.mono (hid_ex e1), Ex.refl _, hD.ex e1⟩
      (fun i σ' H' _ p => by obtain ⟨δ1, _, _, e, dd⟩ := p; exact e.trans hid_le) (fun i v σ' H' H2 hi p y => ?_) fun σ' H' p => ?_
    · obtain ⟨δ1, hI, hs1, e2, d2⟩ := p
      obtain ⟨e3, hv⟩ := y
      obtain ⟨δ2, J1, hg, j1, jk, hb⟩ := hs i δ1 H' hi hI
      refine hg σ' H2 v (d2.ex e3) (hs1.mono (hid_ex e3)) (hv O e2 d2) _ fun σ2 s2 _ _ => ?_
      refine hb σ2 H2 _ (jk.ex d2 e3 j1) (d2.ex e3) s2 (fun δ3 σ3 H3 n3 d3 e4 s3 => ⟨δ3, n3, s3, (e2.trans (hid_ex e3)).trans e4, d3⟩) fun v' H3 r3 d3 e4 => kr v' H3 r3 d3 ((((hid_ex e1).trans e2).trans (hid_ex e3)).trans e4)
    · obtain ⟨δ1, hI, hs1, e2, d2⟩ := p
      exact kn δ1 σ' H' (hd δ1 H' hI) d2 ((hid_ex e1).trans e2) hs1

/-! ### the same where nothing changes -/
theorem ds_imp {N0 N0' : List Sl → Prop} {R0 R0' : PyData → Prop} (h : DS O t δ N0 R0) (hN : ∀ δ, N0 δ → N0' δ) (hR : ∀ d, R0 d → R0' d) : DS O t δ N0' R0' := fun J j =>
  dm_imp (h J j) (fun δ H n => ⟨hN δ n.1, n.2⟩) fun v H ⟨d, h1, h2⟩ => ⟨d, h1, hR d h2.1, h2.2⟩
theorem dm_fact {p : Prop} (h : p → DM O J t δ N R) : DM O (fun H => p ∧ J H) t δ N R := fun σ H D hJ => h hJ.1 σ H D hJ.2
theorem ds_seq {N0 N1 : List Sl → Prop} {R0 : PyData → Prop} (h : DS O t δ N1 R0) (k : ∀ δ1, N1 δ1 → DS O u δ1 N0 R0) : DS O (tSeq t u) δ N0 R0 := fun J j =>
  dm_seq (h J j) fun δ1 => dm_fact fun n => k δ1 n J j
theorem ds_next {N0 : List Sl → Prop} {R0 : PyData → Prop} (h : N0 δ) : DS O tNext δ N0 R0 := fun J j => dm_next fun H hJ => ⟨h, hJ⟩
theorem ds_asg {N0 : List Sl → Prop} {R0 : PyData → Prop} {i : Nat} (h : EP O te δ d) (k : N0 (δ.set i (.d d))) : DS O (tAsg te (gName i)) δ N0 R0 := fun J j =>
  dm_asg (h.em j) fun x H p => ⟨by rw [p.1]; exact k, p.2⟩
theorem ds_unpack {N0 : List Sl → Prop} {R0 : PyData → Prop} {g : TG} {ix : List Nat} {δ' : List Sl} (h : EP O te δ d) (hg : GB O g d δ δ' ix) (k : N0 δ') : DS O (tAsg te g) δ N0 R0 := fun J j =>
  dm_unpack (h.em j) fun x H p => ⟨δ', by rw [p.1]; exact hg, k, p.2⟩
theorem ds_ret {N0 : List Sl → Prop} {R0 : PyData → Prop} (h : EP O te δ d) (k : R0 d) : DS O (tRet te) δ N0 R0 := fun J j =>
  dm_imp (dm_ret (h.em j)) (fun _ _ n => n) fun v H ⟨x, h1, h2⟩ => ⟨x, h1, by rw [h2.1]; exact k, h2.2⟩
theorem ds_drop {N0 : List Sl → Prop} {R0 : PyData → Prop} (h : EP O te δ d) (k : N0 δ) : DS O (tDrop te) δ N0 R0 := fun J j =>
  dm_drop (h.em j) fun x H p => ⟨k, p.2⟩
theorem ds_if {N0 : List Sl → Prop} {R0 : PyData → Prop} {b : Bool} (h : TP O tt δ b) (h1 : b = true → DS O t δ N0 R0) (h2 : b = false → DS O u δ N0 R0) : DS O (tIfS tt t u) δ N0 R0 := fun J j =>
  dm_if (h.tm j) (fun σ H D hJ => h1 hJ.1.symm J j σ H D hJ.2) (fun σ H D hJ => h2 hJ.1.symm J j σ H D hJ.2)
theorem ds_for {N0 : List Sl → Prop} {R0 : PyData → Prop} {wi : TI} {g : TG} {n : Nat} {item : Nat → PyData} {ix : List Nat} (hw : WP O wi δ n item) (Iv : Nat → List Sl → Prop) (h0 : Iv 0 δ)
    (hs : ∀ i δ1, i < n → Iv i δ1 → ∃ δ2, GB O g (item i) δ1 δ2 ix ∧ DS O tb δ2 (Iv (i + 1)) R0) (hd : ∀ δ1, Iv n δ1 → N0 δ1) : DS O (tFor wi g tb) δ N0 R0 := fun J j =>
  dm_for hw j (fun i δ1 H => Iv i δ1 ∧ J H) (fun H hJ => ⟨h0, hJ⟩) (fun i δ1 H1 hi hI => by
    obtain ⟨δ2, hg, hb⟩ := hs i δ1 hi hI.1
    exact ⟨δ2, J, hg, hI.2, j, hb J j⟩) fun δ1 H1 hI => ⟨hd δ1 hI.1, hI.2⟩

/-! ### comprehensions -/
theorem wipe_same {σ σ' : L2.St} {vs ix : List Nat} (hl : σ'.length = σ.length) (h : ∀ j, j ∉ ix → σ'[j]? = σ[j]?) (hi : ∀ j ∈ ix, j ∈ vs) : wipe σ' vs = wipe σ vs := by
  refine List.ext_getElem? fun j => ?_
  by_cases hj : j ∈ vs
  · have q : ∀ (ρ : L2.St) (ws : List Nat), j ∈ ws → (wipe ρ ws)[j]? = if j < ρ.length then some none else none := by
      intro ρ ws
      induction ws with
      | nil => intro h; simp at h
      | cons w ws ih =>
        intro hm
        unfold wipe
        by_cases e : w = j
        · subst e
          rw [List.getElem?_set_self']
          by_cases hl2 : w < ρ.length
          · rw [if_pos hl2, List.getElem?_eq_getElem (by rw [wipe_length]; exact hl2)]
            rfl
          · rw [if_neg hl2, List.getElem?_eq_none (by rw [wipe_length]; omega)]
            rfl
        · rw [List.getElem?_set_ne e]
          exact ih (by
            rcases List.mem_cons.mp hm with z | z
            · exact absurd z.symm e
            · exact z)
    rw [q σ' vs hj, q σ vs hj, hl]
  · rw [wipe_out hj, wipe_out hj]
    exact h j fun z => hj (hi j z)
theorem SD.wipe {H : Hp} {δ : List Sl} {σ : L2.St} (h : SD H δ σ) : ∀ (vs : List Nat), SD H (vs.foldr (fun v ρ => ρ.set v .no) δ) (L2.wipe σ vs)
  | [] => h
  | v :: vs => by
    unfold L2.wipe
    exact SD.set (s := .no) (o := none) v (SD.wipe h vs) trivial
def wipeS (δ : List Sl) (vs : List Nat) : List Sl := vs.foldr (fun v ρ => ρ.set v .no) δ
theorem sd_more {O : List Addr} {H : Hp} {δ : List Sl} {σ : L2.St} {a : Addr} (h : H a = none) (s : SD (hid O H) δ σ) : ∀ {H' : Hp}, (∀ b, b ≠ a → H' b = H b) → SD (hid (a :: O) H') δ σ := fun {H'} k =>
  s.mono fun b o q => by
    obtain ⟨h1, h2⟩ := hid_some q
    have hb : b ≠ a := fun z => by rw [z, h] at h2; cases h2
    rw [hid_out (by simp [hb, h1]), k b hb]
    exact h2
theorem filterMap_range_succ {f : Nat → Option PyData} {i : Nat} : (List.range (i + 1)).filterMap f = (List.range i).filterMap f ++ (f i).toList := by
  rw [List.range_succ, List.filterMap_append]
  cases h : f i <;> simp [h]
theorem filterMap_le {f : Nat → Option PyData} {i : Nat} : ((List.range i).filterMap f).length ≤ i := by
  have := List.length_filterMap_le f (List.range i)
  simpa using this
/-- what is built at D within: the accumulated data, all else kept -/
def Acc (O : List Addr) (H1 : Hp) (D : Addr) (ds : List PyData) (H : Hp) : Prop :=
  (∃ acc, H D = some (.lst acc) ∧ DtAll (hid (D :: O) H) ds acc) ∧ ∀ a o, a ≠ D → H1 a = some o → H a = some o
theorem Acc.ex {O : List Addr} {H1 H H' : Hp} {D : Addr} {ds : List PyData} (h : Acc O H1 D ds H) (e : Ex H H') : Acc O H1 D ds H' := by
  obtain ⟨⟨acc, h1, h2⟩, h3⟩ := h
  exact ⟨⟨acc, e _ _ h1, h2.mono (hid_ex e)⟩, fun a o ha q => e _ _ (h3 a o ha q)⟩
theorem Acc.dom {O : List Addr} {H1 H : Hp} {D : Addr} {ds : List PyData} (h : Acc O H1 D ds H) (d : Dom O H1) (hn : H1 D = none) : Dom (D :: O) H := by
  obtain ⟨⟨acc, h1, h2⟩, h3⟩ := h
  intro a ha
  rcases List.mem_cons.mp ha with rfl | ha
  · rw [h1]; simp
  · cases q : H1 a with
    | none => exact absurd q (d a ha)
    | some o => rw [h3 a o (fun z => by rw [z, hn] at q; cases q) q]; simp
theorem Acc.hid {O : List Addr} {H1 H : Hp} {D : Addr} {ds : List PyData} (h : Acc O H1 D ds H) (hn : H1 D = none) : Ex (hid O H1) (Cp.hid (D :: O) H) := fun a o q => by
  obtain ⟨h1, h2⟩ := hid_some q
  have ha : a ≠ D := fun z => by rw [z, hn] at h2; cases h2
  rw [hid_out (by simp [ha, h1])]
  exact h.2 a o ha h2
theorem Acc.push {O : List Addr} {H1 H : Hp} {D : Addr} {ds : List PyData} {y : PyData} {v : V} {acc : List V} (h : Acc O H1 D ds H) (hD : H D = some (.lst acc)) (hv : Dt (Cp.hid (D :: O) H) y v) :
    Acc O H1 D (ds ++ [y]) (upd H D (.lst (acc ++ [v]))) := by
  obtain ⟨⟨acc', h1, h2⟩, h3⟩ := h
  rw [hD] at h1
  cases h1
  have e : Ex (Cp.hid (D :: O) H) (Cp.hid (D :: O) (upd H D (.lst (acc ++ [v])))) := fun a o q => by
    obtain ⟨q1, q2⟩ := hid_some q
    rw [hid_out q1, upd_ne (fun z => q1 (by simp [z]))]
    exact q2
  exact ⟨⟨_, upd_same, (h2.mono e).append (DtAll.one (Dt.mono e y v hv))⟩, fun a o ha q => by rw [upd_ne ha]; exact h3 a o ha q⟩
theorem ep_lc {wi : TI} {g : TG} {n : Nat} {item : Nat → PyData} {ix vs : List Nat} {f : Nat → Option PyData} (hw : ∀ O, WP O wi δ n item) (hn : n ≤ 100000) (hi : ∀ j ∈ ix, j ∈ vs)
    (hs : ∀ O i, i < n → ∃ δ2, GB O g (item i) (wipeS δ vs) δ2 ix ∧ TP O tt δ2 (f i).isSome ∧ ∀ y, f i = some y → EP O te δ2 y) : EP O (tLc wi g tt te vs) δ (.list ((List.range n).filterMap f)) := fun σ H hD hS Q k => by
  refine hw O σ H hD hS _ fun Ji H1 e1 w => ?_
  intro D hDn
  have d1 := hD.ex e1
  have s1 := hS.mono (hid_ex e1)
  have dfr : D ∉ O := d1.fresh hDn
  refine lc_it w (fun i H' => Acc O H1 D ((List.range i).filterMap f) H') ⟨⟨[], upd_same, rfl⟩, fun a o ha q => by rw [upd_ne ha]; exact q⟩ (fun i H' _ p => ?_) (fun i v H' H2 hi' p y => ?_) fun H' p => ?_
  · exact (p.hid hDn).trans hid_le
  · obtain ⟨e2, hv⟩ := y
    have p2 := p.ex e2
    have d2 := p2.dom d1 hDn
    obtain ⟨δ2, hg, ht, he⟩ := hs (D :: O) i hi'
    have s2 : SD (Cp.hid (D :: O) H2) (wipeS δ vs) (L2.wipe σ vs) := (s1.wipe vs).mono (p2.hid hDn)
    refine hg _ H2 v d2 s2 (hv (D :: O) (p.hid hDn) (p.dom d1 hDn)) _ fun σ2 s3 hl hj => ⟨?_, ?_⟩
    · have z := wipe_same (vs := vs) hl hj hi
      have zz : ∀ (ρ : L2.St) (ws : List Nat), (∀ j ∈ ws, j ∈ vs) → L2.wipe (L2.wipe ρ vs) ws = L2.wipe ρ vs := by
        intro ρ ws
        induction ws with
        | nil => intro _; rfl
        | cons w ws ih =>
          intro hm
          show (L2.wipe (L2.wipe ρ vs) ws).set w none = L2.wipe ρ vs
          rw [ih fun j hj => hm j (by simp [hj])]
          refine List.ext_getElem? fun j => ?_
          by_cases e : w = j
          · subst e
            have hwv : w ∈ vs := hm w (by simp)
            cases q : (L2.wipe ρ vs)[w]? with
            | none => rw [List.getElem?_set_self', q]; rfl
            | some o =>
              rw [List.getElem?_set_self', q]
              cases o with
              | none => rfl
              | some x => exact absurd hwv (wipe_some q).2
          · rw [List.getElem?_set_ne e]
      rw [z]
      exact zz σ vs fun _ h => h
    · refine ht σ2 H2 d2 s3 _ fun H3 e3 => ?_
      have p3 := p2.ex e3
      cases hf : f i with
      | none =>
        rw [if_neg (by simp)]
        show Acc O H1 D _ H3
        rw [filterMap_range_succ, hf]
        simpa using p3
      | some y =>
        rw [if_pos (by rfl)]
        refine he y hf σ2 H3 (d2.ex e3) (s3.mono (hid_ex e3)) _ fun u H4 e4 hu => ?_
        have p4 := p3.ex e4
        obtain ⟨⟨acc, q1, q2⟩, q3⟩ := id p4
        refine ⟨acc, q1, ?_, ?_⟩
        · rw [q2.length]
          exact Evl.sz_lt (Nat.lt_of_le_of_lt filterMap_le (by omega))
        · show Acc O H1 D _ _
          rw [filterMap_range_succ, hf]
          exact p4.push q1 hu
  · obtain ⟨⟨acc, q1, q2⟩, q3⟩ := id p
    refine k (.ref D) H' (e1.trans fun a o q => q3 a o (fun z => by rw [z, hDn] at q; cases q) q) ⟨D, acc, rfl, by rw [hid_out dfr]; exact q1, q2.mono fun a o q => ?_⟩
    obtain ⟨h1, h2⟩ := hid_some q
    rw [hid_out (fun z => h1 (by simp [z]))]
    exact h2
end
end Cp
/-! Cameposts: rules that the hand layer lacks: repr and str of data, min and max of tuples, calls where the guards are known -/
namespace Cp
open PySem L2 PySem.Spec PyProof.Rows
open Evl (Ex)

/-! ### repr and str of data -/
/-- what repr says of data, and that it can be said -/
def Shows (d : PyData) : Prop := d.showable = true ∧ d.hasDict = false ∧ d.depth ≤ 60 ∧ d.shown.length ≤ sizeLine
theorem dt_reads {X : Cx} {pins : List (Addr × Obj)} {σ : L2.St} {H : Hp} {s : Shared} {d : PyData} {v : V} {u : Value} (I : Inv X pins σ H s) (h : Dp X.K H v d) (r : RelV v u) :
    ∃ as, Reads s.heap u d as := Dp.reads I d v u h r
def rRepr (K : PySem.W.Frag) : List V → Hp → VK → Prop := fun xs H Q => ∃ v d, xs = [v] ∧ Dp K H v d ∧ Shows d ∧ Q (.str d.shown) H
theorem call_reprD {X : Cx} (hg : X.A.guards = some []) (hu : X.A.units + 200 < cLine) : CallR X (.builtin "repr") (rRepr X.K) := by
  intro pins s σ H xs us Q I r h
  obtain ⟨v, d, rfl, hd, ⟨h1, h2, h3, h4⟩, q⟩ := h
  obtain ⟨u, rfl, rv⟩ := vals1 r
  have fin : ∀ (h' : Heap) (uu : Tok) (tk : Nat), (∀ b o, s.heap.get? b = some o → h'.get? b = some o) → L2.EP X pins σ Q (.str d.shown uu) { s with heap := h', toks := tk } := fun h' uu tk k =>
    ⟨.str d.shown, H, I.kept k, ⟨uu, rfl⟩, q⟩
  obtain ⟨as, rd⟩ := Dp.reads I d v u hd rv
  cases d with
  | none =>
    cases hd
    cases rv
    exact PySem.P.repr_of_none (fin _ _ _ fun _ _ e => e)
  | bool b =>
    cases hd
    cases rv
    refine PySem.P.repr_of_bool ?_
    cases b
    · exact fin _ _ _ fun _ _ e => e
    · exact fin _ _ _ fun _ _ e => e
  | int i =>
    cases hd
    obtain ⟨t, rfl⟩ := rv
    have hz : i.natAbs.log2 < 1920 := by
      have z := h1
      simp only [PyData.showable] at z
      exact of_decide_eq_true z
    exact PySem.P.repr_of_int hz (fin _ _ _ fun _ _ e => e)
  | str y =>
    cases hd
    obtain ⟨t, rfl⟩ := rv
    exact PySem.P.repr_of_str (fin _ _ _ fun _ _ e => e) h4
  | list ds =>
    cases hd with
    | lst hs ha =>
      rename_i a xs
      obtain rfl : u = Value.ref a := rv
      exact PySem.repr_of_reads' rd h1 (fun z => by rw [h2] at z; cases z) hg (by omega) (fun _ _ e => e) (fun h' uu tk k => fin h' uu tk k) h4
  | tuple ds =>
    cases hd with
    | tup hs ha =>
      rename_i a xs
      obtain rfl : u = Value.ref a := rv
      exact PySem.repr_of_reads' rd h1 (fun z => by rw [h2] at z; cases z) hg (by omega) (fun _ _ e => e) (fun h' uu tk k => fin h' uu tk k) h4
  | dict kvs => cases hd

/-! ### powers of large numbers -/
def CPowW : Int → Int → Prop := fun i j => 0 ≤ j ∧ (Builtin.Int.intBits i : Int) * j ≤ 2 ^ 27
theorem op_powW {X : Cx} : OpR X (binaryOp .Pow) (rI CPowW fun i j => .int (i ^ j.toNat)) := opI fun _ _ _ _ _ _ _ hc q => PyProof.Rows.pow_int hc.1 hc.2 q

/-! ### min and max of a tuple of ints -/
section
open PyProof PyProof.Rows
variable {prog : Program} {w : World} {A : Around} {E : Value → Shared → Prop} {s : Shared} {t : Addr} {xs : Array (Int × Tok)}
theorem iter_intTuple {Q : Value → Shared → Prop} (ht : s.heap.IsTuple t (intItems xs))
    (h : ∀ s₂ : Shared, s₂ = { s with heap := s.heap.push { cls := .type "tuple_iterator", data := .fields #[.ref t, .int 0 0] } } →
      (s₂.heap.IsTupleIter s.heap.objs.size t 0 ∧ s₂.heap.IsTuple t (intItems xs)) → (∀ b ∈ [s.heap.objs.size, t], b < s₂.heap.objs.size) → t ≠ s.heap.objs.size → Q (.ref s.heap.objs.size) s₂) :
    wpAny (model prog w) A (pyIter (.ref t)) Q E s := by
  have hlt : t < s.heap.objs.size := by
    obtain ⟨_, e, _⟩ := id ht
    exact Heap.lt_size e
  refine wpAny_pyIter_tuple ht (h _ rfl ⟨⟨_, Heap.get?_push_size _ rfl, rfl, rfl⟩, (by
    obtain ⟨o, e, q⟩ := id ht
    exact ⟨o, Heap.get?_push_of_some _ e, q⟩)⟩ (fun b hb => ?_) (Nat.ne_of_lt hlt))
  simp only [List.mem_cons, List.not_mem_nil, or_false] at hb
  rw [Heap.size_push]
  rcases hb with rfl | rfl
  · exact Nat.lt_succ_self _
  · exact Nat.lt_succ_of_lt hlt
theorem min_intTuple {Q : Value → Shared → Prop} (hh : A.handled = none) (ht : s.heap.IsTuple t (intItems xs)) (hne : 0 < xs.size)
    (h : ∀ v h' tk, (intItems xs)[argBest (fun i j => decide (numAt xs i < numAt xs j)) (xs.size - 1)]? = some v → (∀ b o, s.heap.get? b = some o → h'.get? b = some o) → Q v { s with heap := h', toks := tk }) :
    wpAny (model prog w) A (call (.builtin "min") [.ref t]) Q E s := by
  refine call_min_walk (iter_intTuple ht fun s₂ e st hfp hlI => ?_)
  subst e
  refine ⟨_, _, _, _, _, _, _, rfl, Walks.tuple (A := A.in1) hh _ t hlI (intItems xs), st, hfp, by simpa [intItems] using hne, CmpOf.ints_lt (numAt xs) (fun _ _ => intItems_at), fun v h' tk hP hk => ?_⟩
  exact h v h' tk (by simpa [intItems] using hP) fun b o e => hk b o (by
    simp only [List.mem_cons, List.not_mem_nil, or_false]
    exact Nat.ne_of_lt (Heap.lt_size e)) (Heap.get?_push_of_some _ e)
theorem max_intTuple {Q : Value → Shared → Prop} (hh : A.handled = none) (ht : s.heap.IsTuple t (intItems xs)) (hne : 0 < xs.size)
    (h : ∀ v h' tk, (intItems xs)[argBest (fun i j => decide (numAt xs i > numAt xs j)) (xs.size - 1)]? = some v → (∀ b o, s.heap.get? b = some o → h'.get? b = some o) → Q v { s with heap := h', toks := tk }) :
    wpAny (model prog w) A (call (.builtin "max") [.ref t]) Q E s := by
  refine call_max_walk (iter_intTuple ht fun s₂ e st hfp hlI => ?_)
  subst e
  refine ⟨_, _, _, _, _, _, _, rfl, Walks.tuple (A := A.in1) hh _ t hlI (intItems xs), st, hfp, by simpa [intItems] using hne, CmpOf.ints_gt (numAt xs) (fun _ _ => intItems_at), fun v h' tk hP hk => ?_⟩
  exact h v h' tk (by simpa [intItems] using hP) fun b o e => hk b o (by
    simp only [List.mem_cons, List.not_mem_nil, or_false]
    exact Nat.ne_of_lt (Heap.lt_size e)) (Heap.get?_push_of_some _ e)
end
/-- min(t), max(t) of a pair of ints -/
def rMin2 (K : PySem.W.Frag) : List V → Hp → VK → Prop := fun vs H Q => ∃ (a : Addr) (i j : Int), vs = [V.ref a] ∧ SqT K H a [.int i, .int j] ∧ Q (.int (if j < i then j else i)) H
def rMax2 (K : PySem.W.Frag) : List V → Hp → VK → Prop := fun vs H Q => ∃ (a : Addr) (i j : Int), vs = [V.ref a] ∧ SqT K H a [.int i, .int j] ∧ Q (.int (if j > i then j else i)) H
theorem call_min2T {X : Cx} (hc : X.calm = true) : CallR X (.builtin "min") (rMin2 X.K) := by
  intro pins s σ H vs us Q I r h
  obtain ⟨a, i, j, rfl, hs, q⟩ := h
  obtain ⟨its, rv, hl, _⟩ := I.tuple hs
  rw [Vals.ref1 r]
  cases rv with
  | cons r1 rv =>
    cases rv with
    | cons r2 rv =>
      cases rv
      obtain ⟨t1, rfl⟩ := r1
      obtain ⟨t2, rfl⟩ := r2
      have ei : intItems #[(i, t1), (j, t2)] = #[Value.int i t1, Value.int j t2] := by simp [intItems]
      refine min_intTuple (xs := #[(i, t1), (j, t2)]) (I.ok.hd hc) (by rw [ei]; exact hl) (by show 0 < 2; decide) fun v h' tk hv hk => ?_
      rw [ei] at hv
      refine ⟨.int (if j < i then j else i), H, I.kept hk, ?_, q⟩
      have e : argBest (fun i_1 j_1 => decide (numAt #[(i, t1), (j, t2)] i_1 < numAt #[(i, t1), (j, t2)] j_1)) ((#[(i, t1), (j, t2)] : Array (Int × Tok)).size - 1) = if j < i then 1 else 0 := by
        show (if decide (j < i) = true then 1 else 0) = _
        by_cases c : j < i <;> simp [c]
      rw [e] at hv
      by_cases c : j < i
      · rw [if_pos c] at hv
        rw [if_pos c]
        exact ⟨t2, (Option.some.inj hv).symm⟩
      · rw [if_neg c] at hv
        rw [if_neg c]
        exact ⟨t1, (Option.some.inj hv).symm⟩
theorem call_max2T {X : Cx} (hc : X.calm = true) : CallR X (.builtin "max") (rMax2 X.K) := by
  intro pins s σ H vs us Q I r h
  obtain ⟨a, i, j, rfl, hs, q⟩ := h
  obtain ⟨its, rv, hl, _⟩ := I.tuple hs
  rw [Vals.ref1 r]
  cases rv with
  | cons r1 rv =>
    cases rv with
    | cons r2 rv =>
      cases rv
      obtain ⟨t1, rfl⟩ := r1
      obtain ⟨t2, rfl⟩ := r2
      have ei : intItems #[(i, t1), (j, t2)] = #[Value.int i t1, Value.int j t2] := by simp [intItems]
      refine max_intTuple (xs := #[(i, t1), (j, t2)]) (I.ok.hd hc) (by rw [ei]; exact hl) (by show 0 < 2; decide) fun v h' tk hv hk => ?_
      rw [ei] at hv
      refine ⟨.int (if j > i then j else i), H, I.kept hk, ?_, q⟩
      have e : argBest (fun i_1 j_1 => decide (numAt #[(i, t1), (j, t2)] i_1 > numAt #[(i, t1), (j, t2)] j_1)) ((#[(i, t1), (j, t2)] : Array (Int × Tok)).size - 1) = if j > i then 1 else 0 := by
        show (if decide (j > i) = true then 1 else 0) = _
        by_cases c : j > i <;> simp [c]
      rw [e] at hv
      by_cases c : j > i
      · rw [if_pos c] at hv
        rw [if_pos c]
        exact ⟨t2, (Option.some.inj hv).symm⟩
      · rw [if_neg c] at hv
        rw [if_neg c]
        exact ⟨t1, (Option.some.inj hv).symm⟩

/-! ### defs that want to know the guards (repr) -/
def GOk (P : Program) (w : World) (K : PySem.W.Frag) (mg : Str → Option Value) (base : Heap) (CX : CXT) (k : Nat) (f : Addr) (fd : FuncData) (ps : List Str) (sp : Sp) : Prop :=
  (∀ vs H Q E, sp vs H Q E → vs.length = ps.length) ∧
  ∀ (A : Around) (outer : List Env) (s : Shared) (H : Hp) (args : Args) (us : List Value) (vs : List V) (Q : VK) (E : XK), A.guards = some [] → Room k A → Env0 P w K mg base A outer s H → BindsTo s fd args (ps.zip us) → Vals vs us → sp vs H Q E →
    codeAny (model P w) A (.call (.ref f) args) (CR CX outer P w H s Q E) s
section
variable {P : Program} {w : World} {K : PySem.W.Frag} {mg : Str → Option Value} {base : Heap}
theorem Fun.okG {x qual : Str} {st : Stmt} {f : Addr} {fd : FuncData} {N ps : List Str} {k : Nat} {sp : Sp} (F : Fun K x qual st f fd) (S : FnScope N ps (defScope st)) (len : ∀ vs H Q E, sp vs H Q E → vs.length = ps.length)
    (hbody : ∀ (cdv : Value) (A : Around) (outer : List Env) (s : Shared) (H : Hp) (vs : List V) (Q : VK) (E : XK), A.guards = some [] → Room k (A.deeper (envOfC qual (defScope st) s.heap.objs.size f cdv)) → sp vs H Q E →
      ∃ t, PSs (cxOf CX0 P w K mg base N qual (defScope st) f cdv A outer s H E).nox (defBody st) t ∧ t { nx := fun _ H' => Q .non H', rt := Q } (start N vs) H) : GOk P w K mg base CX0 (k + 1) f fd ps sp := by
  obtain ⟨oc, od, kV, doc, pm, an, cdv, ct, osl, rfl, lk, hcd⟩ := F.ex
  refine ⟨len, fun A outer s H args us vs Q E hg hr ev hb rv hsp => ?_⟩
  have hlen := len _ _ _ _ hsp
  have inK : K.In s.heap := ev.mod.kin.keeps fun b o q => (ev.bs b o q).1
  have noLim : s.heap.NoLimit := ev.mod.nolimit.keeps fun b o q => (ev.bs b o q).1
  refine PySem.codeAny_call_function hr.depth (inK _ _ lk) rfl S.co S.gen rfl (PySem.W.codeRec_of inK hcd) (hb _ _ _ _ ?_)
  refine PySem.wpAny_newFunctionEnv_cells S.kind (fun ⟨n, v⟩ hy => by
    rcases S.par n (List.of_mem_zip hy).1 with q | q
    · exact .inl q
    · exact .inr ⟨q, PySem.W.cellsFrom_some _ _ _ (.inl q)⟩) fun env hev s1 x => ?_
  subst hev
  refine ⟨noLim.keeps x.toInCall.keep, PySem.codeAny_func ?_⟩
  obtain ⟨t, ht, hq⟩ := hbody cdv A outer s H vs Q E hg (hr.deeper _) hsp
  have I := inv_start (CX := CX0) (E := E) S hr.hd ev hlen rv x
  refine PySem.wpAny_mono (ht.nox.run [] s1 (start N vs) H _ I hq) (fun fl s' hs => ?_) fun e s' hs => hs
  cases fl with
  | ret u =>
    obtain ⟨v, σ', H', Jv, r2, q⟩ := hs
    exact ⟨v, H', Jv.os, Jv.bare, Jv.base, Jv.hok, r2, q⟩
  | next =>
    obtain ⟨σ', H', Jv, q⟩ := hs
    exact ⟨V.non, H', Jv.os, Jv.bare, Jv.base, Jv.hok, rfl, q⟩
  | brk =>
    obtain ⟨_, _, _, q⟩ := hs
    exact False.elim q
  | cont =>
    obtain ⟨_, _, _, q⟩ := hs
    exact False.elim q
end
/-- a call of such a def -/
theorem pe_callG {X : Cx} {CX : CXT} {k : Nat} {f : Addr} {fd : FuncData} {ps : List Str} {sp : Sp} {E : XK} {x : Str} {p pos : Pos} {e : Expr} {es : List Expr} {t : TA}
    (F : GOk X.prog X.w X.K X.mg X.base CX k f fd ps sp) (hgd : X.A.guards = some []) (hr : Room k X.A) (hg : Gl X x) (hm : X.mg x = some (.ref f)) (hk : PySem.W.keepIn X.K (.ref f) = true) (hb : L2.Binds X.K fd ps []) (hx : Passes CX X E)
    (ha : PA X (e :: es) t) (hdb : (x == ("__debug__" : Str)) = false := by decide) (he : starEach (e :: es) X.env = (false, eval e X.env) :: starEach es X.env := by rfl) (hpl : (backTo pos (starEach es X.env)).any (·.1) = false := by rfl) :
    PE X (.Call (.Name x p) (e :: es) [] pos) (tCall sp [] E t) := by
  refine ⟨fun pins s σ H Q I h => ?_⟩
  refine wpAny_Call_Name_kw (ld_glob I hg hm ?_ hdb)
  refine PySem.W.callWith_K (h₀ := X.base) I.ok.mod.kin hk (thn (ha.run pos pins s σ H _ I h) fun us s1 ⟨vs, H1, I1, r, q⟩ => ⟨I1.kIn, ?_⟩) he hpl
  have q : sp vs H1 Q E := by
    have z : sp (vs ++ []) H1 Q E := q
    rw [List.append_nil] at z
    exact z
  have hl : (us ++ []).length = ps.length := by
    rw [List.append_nil, ← r.length]
    exact F.1 _ _ _ _ q
  refine wpAny_call (codeAny_mono (F.2 X.A X.stack s1 H1 ⟨us, []⟩ us vs Q E hgd hr I1.env0 (by have z := hb s1 us I1.kIn hl; rw [List.append_nil] at z; exact z) r q) fun r s' hq => ?_)
  cases r with
  | error er => exact hx pins σ H1 s1 er s' I1 hq
  | ok fl =>
    cases fl with
    | ret u => exact I1.after hq
    | next => exact False.elim hq
    | brk => exact False.elim hq
    | cont => exact False.elim hq
end Cp
/-! Cameposts, refusals: an own error whose __init__ says super().__init__(text) and self.wrong = wrong -/
namespace Cp
open PySem PySem.W PySem.Calls PyProof.Rows L2
/-- the places of such an __init__ in its text -/
structure SupP where
  j : Nat
  a1 : Pos
  a2 : Pos
  p0 : Pos
  p1 : Pos
  p2 : Pos
  p3 : Pos
  p4 : Pos
  p5 : Pos
  q1 : Pos
  q2 : Pos
  q3 : Pos
  q4 : Pos
/-- its two statements -/
abbrev supCall (txt : Str) (z : SupP) : PySem.Expr := .Call (.Attribute (.Call (.Name "super" z.p0) [] [] z.p1) "__init__" z.p2) [.Constant (.str txt) z.j z.p3] [] z.p4
abbrev supBody (txt : Str) (z : SupP) : List Stmt :=
  [.Expr (supCall txt z) z.p5, .Assign [.Attribute (.Name "self" z.q1) "wrong" z.q2] (.Name "wrong" z.q3) z.q4]
abbrev supArgs (z : SupP) : Arguments :=
  { posonlyargs := [], args := [{ arg := "self", annotation := none, pos := z.a1 }, { arg := "wrong", annotation := none, pos := z.a2 }],
    vararg := none, kwonlyargs := [], kw_defaults := [], kwarg := none, defaults := [] }
abbrev supScope : Scope :=
  { kind := .function, names := [(PySem.Str.ofString "self", .local), (PySem.Str.ofString "wrong", .local),
      (PySem.Str.ofString "__class__", .free), (PySem.Str.ofString "super", .globalImplicit)],
    isGenerator := false, isCoroutine := false, more := [] }

/-- what stands in the written part of such a class at C, of its __init__ at fI (cc: the cell of the class, cda: the code) -/
structure SupC (P : Program) (K : Frag) (C fI cc cda : Addr) (qual txt : Str) (z : SupP) (fd : FuncData) : Prop where
  oex : OexC K C
  iC : findIn K (.ref C) "__init__" = some (some (.ref fI))
  tI : typeIn K (.ref fI) = some (.type "function")
  kI : keepIn K (.ref fI) = true
  noW : findIn K (.ref C) "wrong" = some none
  fn : ∃ (oc : Value) (od : Option Addr) (kV doc pm : Value) (an : Option Addr) (ct : Value) (osl : Array (Option Value)),
    fd = ksFn "__init__" qual (supArgs z) (supBody txt z) supScope .none kV doc pm an (.ref cda) ct cc ∧ K.lookup fI = some ⟨oc, od, .func fd, osl⟩
  ev : ∀ (L : Addr), ∃ pl : Sem Bool, eval (supCall txt z) (ksEnv qual supScope L fI (.ref cda) cc) = (do
      let ov ← attributeBase (.Call (.Name "super" z.p0) [] [] z.p1) "__init__" (ksEnv qual supScope L fI (.ref cda) cc) (eval (.Call (.Name "super" z.p0) [] [] z.p1) (ksEnv qual supScope L fI (.ref cda) cc))
      standAt z.p2.atName
      let (f, first) ← holding [ov] (getMethod ov "__init__" pl)
      callWith z.p4 f first (backTo z.p4 (starEach [.Constant (.str txt) z.j z.p3] (ksEnv qual supScope L fI (.ref cda) cc))) [])
  sw : ∀ (L : Addr), swapsWith (supCall txt z) none z.p5.line (ksEnv qual supScope L fI (.ref cda) cc) = pure false
  sw2 : ∀ (L : Addr), swapsWith (.Name "wrong" z.q3) (some (.Attribute (.Name "self" z.q1) "wrong" z.q2)) z.q4.line (ksEnv qual supScope L fI (.ref cda) cc) = pure false
  code : codeIn K (.ref cda) qual = true
  codeO : ∃ (ccl : Value) (cdd : Option Addr) (vs : Array Value) (ccs : Array (Option Value)) (file : Str) (tf : Tok),
    K.lookup cda = some ⟨ccl, cdd, .fields vs, ccs⟩ ∧ vs[2]? = some (.str file tf) ∧ ((P.main.file : Str) == file) = true
  cell : ∃ (cl : Value) (cld : Option Addr) (csl : Array (Option Value)), K.lookup cc = some ⟨cl, cld, .cell (some (.ref C)), csl⟩
  sub1 : mroIn K C (.ref C) = some true
  sup0 : nsIn K mainGlobals "super" = some none
  opq : nsIn K cStatics "thirdparty.any" = some none
  up : ks_superIn K C C "__init__" = some (some (.builtin "ValueError.__init__"))
  subV : subIn K (.ref C) (.type "ValueError") = some true
  top0 : (P.main.scope.names.lookup ("super" : Str)).isSome = false

section
variable {prog : Program} {w : World} {A : Around} {E : Value → Shared → Prop} {h : Heap} {g : Array GenState} {d : Drawn} {t : Nat} {os : OsState}
/-- the bound ValueError.__init__ is called -/
theorem mw_call {K : Frag} {u x C t0 : Addr} {rest : List Value} {Q : Value → Shared → Prop} (T : OexC K C) (X : K.In h)
    (hx : h.get? x = some (HandSPX.excO C t0)) (hu : h.get? u = some (kxs_mw "ValueError.__init__" x)) (hz : rest.length ≤ sizeLine)
    (hq : ∀ h' t1, (∀ b o, b ≠ x → h.get? b = some o → h'.get? b = some o) → h'.get? x = some (HandSPX.excO C t1) → Q .none ⟨h', g, d, t, os⟩) :
    wpAny (model prog w) A (call (.ref u) rest) Q E ⟨h, g, d, t, os⟩ := by
  obtain ⟨nm, q, N, bs, bm, sn, sub, ab, col, dd, k0, k1, k2, k3, k5, hC, hbm⟩ := T.cls
  have hCh := X _ _ hC
  refine wpAny_call (codeAny_of_tree ?_)
  show wpAny _ A.in1 (callAny (.ref u) ⟨rest, []⟩) _ _ _
  simp only [callAny]
  refine wpAny_bind (wpAny_load hu ?_)
  simp only [kxs_mw, show (Value.type "method-wrapper" == Value.type "method" ||
    Value.type "method-wrapper" == Value.type "builtin_function_or_method" || Value.type "method-wrapper" == Value.type "method-wrapper") = true
      by decide, if_true]
  refine KFB.if_so (by decide) ?_
  refine wpAny_bind (check_bound_init F.excBase_ValueError.toExcCallFacts hCh hx rfl ?_)
  refine wpAny_bind (wpAny_pure (wpAny_pure ?_))
  refine ⟨plainId_quiet F.excBase_ValueError.init.plain _, codeAny_builtin F.excBase_ValueError.initEntry ?_⟩
  refine exc_init_tree (cls := .ref C) (t0 := t0) (dv := none) (c2 := .none) (c3 := .none) (b4 := .bool false) hx hz fun h' k e' _ => ?_
  exact hq h' _ k e'
end

section
variable {P : Program} {w : World} {K : Frag} {mg : Str → Option Value} {base : Heap} {C fI cc cda : Addr} {qual txt : Str}
/-- what such an __init__ keeps: the new error gets its dict, with wrong in it -/
def spSup (C : Addr) : Sp := fun vs H Q _ => ∃ (a : Addr) (v : V), vs = [.ref a, v] ∧ H a = some (exo a C none) ∧
  ∀ dx, H dx = none → dx ≠ a → Q .non (upd (upd H a (exo a C (some dx))) dx (exd dx [("wrong", v)]))

theorem sup_ok {fd : FuncData} {z : SupP} (T : SupC P K C fI cc cda qual txt z fd) (mgS : mg "super" = none) (CX : CXT) (k : Nat) :
    FnOk P w K mg base CX (k + 1) fI fd ["self", "wrong"] (spSup C) := by
  obtain ⟨oc, od, kV, doc, pm, an, ct, osl, rfl, lk⟩ := id T.fn
  refine ⟨fun vs H Q E h => ?_, fun A outer s H args us vs Q E hr e0 hb r hsp => ?_⟩
  rotate_left
  · obtain ⟨a, v, rfl, hA, hk⟩ := hsp
    cases r with
    | @cons _ u0 _ ur ra rw' =>
    obtain rfl : u0 = Value.ref a := ra
    cases rw' with
    | @cons _ u _ ur2 rv rn =>
    cases rn
    have bk : ∀ b o, base.get? b = some o → s.heap.get? b = some o := fun b o e => (e0.bs b o e).1
    have KX : K.In s.heap := e0.mod.kin.keeps bk
    have lim : s.heap.NoLimit := e0.mod.nolimit.keeps bk
    obtain ⟨mb, hnb, hbb⟩ := e0.mod.blt
    have GL := e0.mod.glob.keeps bk
    have BL := hnb.keeps bk
    obtain ⟨nm, q, N, bs, bm, sn, sub, ab, col, dd, k0, k1, k2, k3, k5, hC, hbm⟩ := id T.oex.cls
    have hcl : clsIn K C = some { name := nm, bases := bs, mro := .ref C :: bm, ns := N, qualname := q, hasDict := true, slotNames := sn, subclasses := sub, abstract := ab, collection := col, hasDel := false } := by
      unfold clsIn; rw [hC] <;> rfl
    obtain ⟨ccl, cdd, cvs, ccs, file, tf, hco, hcvs, hfile⟩ := T.codeO
    obtain ⟨cl, cld, csl, hcell⟩ := T.cell
    obtain ⟨t0, hxa⟩ := exo_at e0.hok hA
    have hxa : s.heap.get? a = some (HandSPX.excO C t0) := hxa
    refine ks_codeAny_call_defAt (fd := ksFn "__init__" qual (supArgs z) (supBody txt z) supScope .none kV doc pm an (.ref cda) ct cc)
      (body := supBody txt z) hr.depth (KX _ _ lk) rfl lim (codeRec_of KX T.code) rfl hb (show ∀ x ∈ supScope.names, x.2 ≠ .cell by decide) (fun x hx => by
        simp only [List.zip_cons_cons, List.zip_nil_right, List.zip_nil_left, List.mem_cons, List.not_mem_nil, or_false] at hx
        rcases hx with rfl | rfl <;> rfl) (fun h₁ hns hk₁ => ?_) rfl rfl rfl
    have X₁ : K.In h₁ := KX.keeps hk₁
    have hx₁ := hk₁ _ _ hxa
    have I₁ : W.InstAt h₁ a (HandSPX.excO C t0) C none := ⟨hx₁, rfl, rfl, trivial⟩
    have hCh := X₁ _ _ hC
    obtain ⟨pl, hev⟩ := T.ev s.heap.objs.size
    refine ks_wpAt_execs_cons (ks_wpAt_Expr_any (ks_wpAt_MethodCall ?_ hev) (by rfl) (T.sw _))
    refine ks_wpAt_super_base (f := fI) (cc := cda) (ar := { arg := "self", annotation := none, pos := z.a1 }) (by rfl) (by rfl) (by decide) (by rfl) (X₁ _ _ lk) (by rfl) (by rfl) (by rfl) (X₁ _ _ hco) (by rfl) hcvs hfile T.top0 ?_
    refine ks_loadName_global (by rfl) (by rfl) (loadGlobal_builtin (GL.keeps hk₁) mgS (BL.keeps hk₁) ((hbb _ (by decide +kernel)).trans (by first | boot_by_name | rfl | kernel_rfl)) ⟨rfl, ?_⟩)
    refine wpAny_loadName_free (c := cc) (by rfl) (by rfl) (by rfl) ⟨_, X₁ _ _ hcell, rfl⟩ ?_
    refine wpAny_loadName_local (v := .ref a) (by rfl) (by rfl) hns (by rfl) ?_
    refine ks_wpAny_isType_cls hCh (by rfl) ⟨rfl, ?_⟩
    refine ks_wpAny_call_super hCh (by rfl) hx₁ rfl (fun c e => by cases e) (looks_mroIn X₁ T.sub1) (fun h₂ hso hk₂ => ?_)
    have X₂ : K.In h₂ := X₁.keeps hk₂
    have hx₂ := hk₂ _ _ hx₁
    have I₂ : W.InstAt h₂ a (HandSPX.excO C t0) C none := ⟨hx₂, rfl, rfl, trivial⟩
    have hup := T.up
    unfold ks_superIn at hup
    rw [hcl] at hup
    refine kxs_getMethod kxs_ValueError hso (looks_opaque X₂ T.opq) (l₀ := .ref C :: bm) ?_ rfl X₂ hup (I₂.type.andThen (looks_subIn X₂ T.subV)) (ks_ne X₂ I₂ hcl) (by decide) ?_
    · exact fun A Q E s k q => wpAny_bind ((looks_clsIn X₂ hcl) A _ E s k (wpAny_pure q))
    have hk₃ : ∀ b o, h₂.get? b = some o → (h₂.push (kxs_mw "ValueError.__init__" a)).get? b = some o := fun b o e => Heap.get?_push_of_some _ e
    refine kxs_callWith (i := "ValueError.__init__") (x := a) (by rfl) ?_
    show wpAny _ _ (evalArgs _ true [(false, eval (.Constant (.str txt) z.j z.p3) _)] []) _ _ _
    refine evalArgs_plain (spliced_cons (wpAny_Constant_str (spliced_nil ⟨Heap.get?_push_at rfl rfl, ?_⟩)))
    refine mw_call (K := K) T.oex (X₂.keeps hk₃) (hk₃ _ _ hx₂) (Heap.get?_push_at rfl rfl) (by show 1 ≤ sizeLine; rw [sizeLine_eq]; decide) (fun h₄ t4 hk₄ hx₄ => ?_)
    have hk14 : ∀ b o, b ≠ a → h₁.get? b = some o → h₄.get? b = some o := fun b o hb e => hk₄ b o hb (hk₃ b o (hk₂ b o e))
    have hns4 : h₄.Ns s.heap.objs.size _ := hns.at fun o e => hk14 _ o (fun z => by
      have := Heap.lt_size hxa
      rw [← z] at this
      exact absurd this (Nat.lt_irrefl _)) e
    have X₄ : K.In h₄ := fun b o e => hk14 b o (fun z => by
      have := ks_ne X₁ I₁ hcl
      have e2 := X₁ _ _ e
      rw [z, hx₁] at e2
      cases e2
      rw [z] at e
      have q1 := KX _ _ e
      exact absurd (e0.mod.kin _ _ e) (fun q2 => by
        have q3 := (e0.bs _ _ q2).2
        rw [hA] at q3
        cases q3)) (X₁ _ _ e)
    refine wpAt_of_wpAny (wpAny_execs_cons (plainObj_wpAny_Assign_Attribute ?_ (T.sw2 _)))
    refine wpAny_Name (wpAny_loadName_local (v := u) (by rfl) (by rfl) hns4 (by rfl) ?_) (by decide)
    refine wpAny_Name (wpAny_loadName_local (v := .ref a) (by rfl) (by rfl) hns4 (by rfl) ?_) (by decide)
    refine set_plain X₄ (ox := HandSPX.excO C t4) (od := none) ⟨hx₄, rfl, rfl, trivial⟩ T.oex.sa ?_
    refine HandSPX.exc_osa X₄ hx₄ hcl (show HandSPX.refsVE (.ref C :: bm) = true from hbm) rfl T.noW (fun h₅ tk₅ dx hk₅ dn dne hx₅ hn₅ => ?_)
    refine wpAny_execs_nil ?_
    have old : ∀ b o, b ≠ a → s.heap.get? b = some o → h₅.get? b = some o := fun b o hb e => hk₅ b o hb (hk14 b o hb (hk₁ b o e))
    have hlt : s.heap.objs.size ≤ dx := by
      exact Nat.le_of_lt (Nat.lt_of_lt_of_le hns4.lt dn)
    have hdx : H dx = none := e0.hok.fresh hlt
    have w1 : HOk P w (upd H a (exo a C (some dx))) h₅ := e0.hok.write (e := a) (by rw [hA]; exact True.intro) (.inl rfl) old ⟨_, hx₅⟩ (exo_ok hx₅)
    have n1 : upd H a (exo a C (some dx)) dx = none := by rw [upd_ne dne]; exact hdx
    refine ⟨.non, upd (upd H a (exo a C (some dx))) dx (exd dx [("wrong", v)]), rfl, e0.bare, ?_, ?_, rfl, hk dx hdx dne⟩
    · have U1 : Un (frs outer) [] H (upd H a (exo a C (some dx))) s.heap h₅ := Un.write (e := a) (by rw [hA]; exact True.intro) (.inl rfl) old ⟨_, hx₅⟩
      refine ⟨U1.keep, U1.slot, fun b o e n hx => ?_, U1.there, fun b xs e => ?_, fun b o u e => ?_, fun b ps e => ?_⟩
      · rw [upd_ne (Nat.ne_of_lt (Nat.lt_of_lt_of_le (Heap.lt_size e) hlt))]
        exact U1.free b o e n hx
      · rw [upd_ne (ne_of_none e hdx)]
        exact U1.tups b xs e
      · rw [upd_ne (ne_of_none e hdx)]
        exact U1.frzs b o u e
      · rw [upd_ne (ne_of_none e hdx)]
        exact U1.tbls b ps e
    · exact w1.laidN (fun _ _ e => e) n1 (exd_ok hn₅ (relO_put rv (fun f => by simp [List.lookup, RelO])))
  · obtain ⟨a, v, rfl, _⟩ := h
    rfl
end
end Cp
/-! Cameposts: a caught error that is kept behind its suite -/
namespace Cp
open PySem PySem.W PySem.Calls PyProof.Rows L2
/-- an error of the class cls, its own dict at d, stands at a -/
def ExcAt (a : Addr) (cls : Value) (d : Option Addr) : HO :=
  .ext fun h => ∃ (oe : Obj) (vs : Array Value), h.get? a = some oe ∧ Zc cls d oe ∧ oe.data = .fields vs
theorem excAt_ok {P : Program} {w : World} {H : Hp} {h : Heap} {a : Addr} {cls : Value} {d : Option Addr} {oe : Obj} {vs : Array Value}
    (e : h.get? a = some oe) (q : Zc cls d oe) (f : oe.data = .fields vs) : ObjOk P w H h a (ExcAt a cls d) :=
  ⟨⟨oe, vs, e, q, f⟩, ⟨oe, e⟩, fun _ _ ⟨o, v, r1, r2⟩ k => ⟨o, v, k o r1, r2⟩⟩
theorem excAt_of {P : Program} {w : World} {H : Hp} {h : Heap} {a : Addr} {cls : Value} {d : Option Addr} (x : HOk P w H h) (e : H a = some (ExcAt a cls d)) :
    ∃ (oe : Obj) (vs : Array Value), h.get? a = some oe ∧ Zc cls d oe ∧ oe.data = .fields vs := (x a _ e).1
/-- an untracked object that came behind the entry is tracked from now on -/
theorem inv_track {X : Cx} {pins : List (Addr × Obj)} {σ : L2.St} {H : Hp} {s : Shared} {a : Addr} {oe : Obj} {vs : Array Value} {o : HO} (I : Inv X pins σ H s)
    (e : s.heap.get? a = some oe) (f : oe.data = .fields vs) (n : H a = none) (nl : a ≠ X.env.locals) (np : ∀ p ∈ X.pn ++ pins, p.1 ≠ a) (n0 : X.s_0.heap.get? a = none)
    (new : ObjOk X.prog X.w (upd H a o) s.heap a o) : Inv X pins σ (upd H a o) s where
  ok := I.ok
  os := I.os
  bare := I.bare
  base := {
    keep := I.base.keep
    slot := I.base.slot
    free := fun b u q m hx => by
      rw [upd_ne (fun z => by rw [z, n0] at q; cases q)]
      exact I.base.free b u q m hx
    there := I.base.there
    tups := fun b xs q => by
      have y := I.base.tups b xs q
      rw [upd_ne (ne_of_none y n)]
      exact y
    frzs := fun b u xs q => by
      have y := I.base.frzs b u xs q
      rw [upd_ne (ne_of_none y n)]
      exact y
    tbls := fun b ps q => by
      obtain ⟨more, y⟩ := I.base.tbls b ps q
      exact ⟨more, by rw [upd_ne (ne_of_none y n)]; exact y⟩ }
  loc := I.loc
  cell := I.cell
  free := by
    rw [upd_ne (Ne.symm nl)]
    exact I.free
  freeC := fun x c q => by
    obtain ⟨v, u, hu, hd⟩ := I.cell x c q
    rw [upd_ne (fun z => by rw [z, e] at hu; cases hu; rw [f] at hd; cases hd)]
    exact I.freeC x c q
  pin := fun p hp => by
    obtain ⟨r1, r2, r3, r4, r5⟩ := I.pin p hp
    exact ⟨r1, by rw [upd_ne (np p hp)]; exact r2, r3, r4, r5⟩
  hok := I.hok.laidN (fun _ _ q => q) n new
  len := I.len

/-- what the clause 'except x as n' wishes, the error kept: the suite's end sees it tracked -/
def wKeep (K : Frag) (c : Value) (i : Nat) (ts : Addr → Value → Option Addr → TS) (Wout : WX) (D : Ends) : WX := fun cls d σ H =>
  ∃ b, exmOne K cls c = some b ∧
    (b = true → ∀ a, H a = none → ts a cls d
      { nx := fun σ' H' => H' a = none → D.nx (σ'.set i none) (upd H' a (ExcAt a cls d))
        rt := fun v H' => H' a = none → D.rt v (upd H' a (ExcAt a cls d))
        bk := fun σ' H' => H' a = none → D.bk (σ'.set i none) (upd H' a (ExcAt a cls d))
        ct := fun σ' H' => H' a = none → D.ct (σ'.set i none) (upd H' a (ExcAt a cls d)) } (σ.set i (some (.ref a))) H) ∧
    (b = false → Wout cls d σ H)

section
variable {X : Cx} {x n : Str} {c : Value} {i : Nat} {body suite : List Stmt} {b₀ : Stmt} {np pos pos' : Pos} {tb : WX → TS} {ts : Addr → Value → Option Addr → TS} {Wout : WX}
theorem ps_try_keep (hst : X.stack = X.env :: X.outer) (hfm : X.env.frame = some X.env.locals) (hnd : X.N.Nodup) (hin : X.N[i]? = some n) (hlo : X.env.kindOf n = some .local)
    (hnm : Names X x c) (tko : Takes X Wout) (hex : X.ex = [])
    (hbo : ∀ (W : WX) (pn : List (Addr × Obj)) (xe : Value → Shared → Prop), Takes (X.tr pn xe) W → PassesOwn (model X.prog X.w) X.A X.env xe → PSs (X.tr pn xe) body (tb W))
    (hsu : ∀ (a : Addr) (oe : Obj) (cls : Value) (d : Option Addr) (pn : List (Addr × Obj)), Zc cls d oe → (∃ vs, oe.data = .fields vs) → PSs (X.suite a ((a, oe) :: pn)) (b₀ :: suite) (ts a cls d)) :
    PS X (.Try body [.ExceptHandler (some (.Name x np)) (some n) (b₀ :: suite) pos'] [] [] pos) (fun D σ H => tb (wKeep X.K c i ts Wout D) D σ H) := by
  refine ⟨fun pins s σ H D I hh => ?_⟩
  have okX := I.ok
  have hfrm : X.A.frames = some (X.env :: X.outer) := by
    rw [okX.frames, hst]
  refine wpAny_Try_except ?_
  refine wpAny_mono ((hbo (wKeep X.K c i ts Wout D) (X.pn ++ pins)
    (fun er s₁ => wpAny (model X.prog X.w) X.A (noteFrame er X.env)
      (fun _ s₂ => wpAny (model X.prog X.w) X.A (setFlight er none)
        (fun _ s₃ => wpAny (model X.prog X.w) X.A (handleBy er X.env [.ExceptHandler (some (.Name x np)) (some n) (b₀ :: suite) pos']) (SP X pins D) X.xe s₃) X.xe s₂) X.xe s₁)
    (fun u s' xx => ?_) PassesOwn.looking).run [] s σ H D (I.toTry _) hh) (fun f s1 hsp => ?_) (fun er s1 hx => hx)
  · obtain ⟨a, B, sI, pinz, σ', H', cls, d, rfl, Jt, nob, upp, skyy, nas, oss, agg, b, hb1, hyes, hno⟩ := xx
    have Jv : Inv X pins σ' H' sI := Jt.ofTry okX
    have sky2 : Sky B (X.env :: X.outer) a (Zc cls d) X.env.locals s'.heap := by
      rw [← hst]
      exact skyy
    show wpAny (model X.prog X.w) X.A (noteFrame (.ref a) X.env) _ _ _
    refine Sky.land Zc.steady hfrm hfm sky2 fun h3 fly3 upp3 => ?_
    have Jv3 : Inv X pins σ' H' { s' with heap := h3 } := Jv.landed nob fly3.1 (upp.trans upp3) oss agg
    obtain ⟨oe3, vs3, het3, hz3, hdt3⟩ := fly3.there
    have offF : a ∉ frs (X.env :: X.outer) := fun hm => by
      obtain ⟨_, oo, eo, hnf⟩ := fly3.2.2.1.mem hm
      rw [het3] at eo
      cases eo
      exact hnf _ hdt3
    have offL : a ≠ X.env.locals := fun z => offF (List.mem_filterMap.mpr ⟨X.env, List.mem_cons_self, by
      rw [hfm, z]⟩)
    have offO : a ∉ X.fs := fun hm => by
      obtain ⟨ev, hev, q⟩ := List.mem_filterMap.mp hm
      exact offF (List.mem_filterMap.mpr ⟨ev, List.mem_cons_of_mem _ hev, q⟩)
    have offI : sI.heap.get? a = none := by
      cases hq : sI.heap.get? a with
      | none => rfl
      | some oo =>
        have hB := nob a oo hq (by rw [hst]; exact offF)
        rw [fly3.2.1] at hB
        cases hB
    have off0 : X.s_0.heap.get? a = none := by
      cases hq : X.s_0.heap.get? a with
      | none => rfl
      | some oo =>
        obtain ⟨o2, hB⟩ := Jv.base.there a oo hq (by rw [hex]; simp)
        rw [offI] at hB
        cases hB
    have offP : ∀ p ∈ X.pn ++ pins, p.1 ≠ a := fun p hp z => by
      have y := (Jv.pin p hp).1
      rw [z, offI] at y
      cases y
    have Sv3 := Jv3.suite het3 hdt3 nas offL offO
    refine wpAny_handleBy_cons (codeAny_handlers_test ?_) (by intro q; cases q)
    have lkT : PySem.W.Looks (model X.prog X.w) h3 (typeOf (.ref a)) cls := fun A Q E s k q => wpAny_typeOf_ref (k _ _ het3) (by
      rw [hz3.1]
      exact q)
    have lkM := PySem.W.exm_one (M := model X.prog X.w) (Jv3.kIn) lkT hb1
    have tst : ∀ {Q : Value → Shared → Prop} {E : Value → Shared → Prop}, Q c { s' with heap := h3 } →
        wpAny (model X.prog X.w) (X.A.mark (some (.ref a))) (eval (.Name x np) X.env) Q E { s' with heap := h3 } := fun {Q E} q => by
      obtain ⟨hgl, hdb, hmm | ⟨hmm, hbv, hnn⟩⟩ := hnm
      · exact ld_glob (X := X.suite a ((a, oe3) :: (X.pn ++ pins))) Sv3 hgl hmm q hdb
      · exact ld_blt (X := X.suite a ((a, oe3) :: (X.pn ++ pins))) Sv3 hgl hmm hbv q hnn hdb
    refine tst (lkM.here ?_)
    cases b with
    | true =>
      refine codeAny_handlers_suite_as ?_
      refine HandSPX.lands_againZ fly3 fun h4 fly4 upp4 => ?_
      have Jv4 : Inv X pins σ' H' { s' with heap := h4 } := Jv.landed nob fly4.1 ((upp.trans upp3).trans upp4) oss agg
      obtain ⟨oe4, vs4, het4, hz4, hdt4⟩ := fly4.there
      have Sv4 := Jv4.suite het4 hdt4 nas offL offO
      refine store_ok (X := X.suite a ((a, oe4) :: (X.pn ++ pins))) (v := .ref a) Sv4 hnd hin (.inl hlo) rfl (fun s5 S5 => ?_) (.inr hlo)
      refine wpAny_mono ((hsu a oe4 cls d (X.pn ++ pins) hz4 ⟨_, hdt4⟩).run [] s5 _ H' _ S5 (hyes rfl a nas)) (fun f s6 hsp => ?_) (fun _ _ z => False.elim z)
      have fin6 : ∀ {σ6 : L2.St} {H6 : Hp} {Q : Shared → Prop}, Inv (X.suite a ((a, oe4) :: (X.pn ++ pins))) [] σ6 H6 s6 →
          (H6 a = none → ∀ s7, Inv X pins (σ6.set i none) (upd H6 a (ExcAt a cls d)) s7 → Q s7) →
          wpAny (model X.prog X.w) X.A (do bindName X.env n .none; unbindBehindTheSuite X.env n pos') (fun _ s7 => Q s7) X.xe s6 := fun {σ6 H6 Q} S6 hq => by
        obtain ⟨e6, n6, _⟩ := S6.pin (a, oe4) (List.mem_append_left _ List.mem_cons_self)
        exact gone_ok (inv_track (S6.unsuite okX) e6 hdt4 n6 offL offP off0 (excAt_ok e6 hz4 hdt4)) hnd hin hlo (hq n6)
      cases f with
      | next =>
        obtain ⟨σ6, H6, S6, q6⟩ := hsp
        exact fin6 S6 fun n6 s7 J7 => ⟨_, _, J7, q6 n6⟩
      | brk =>
        obtain ⟨σ6, H6, S6, q6⟩ := hsp
        exact fin6 S6 fun n6 s7 J7 => ⟨_, _, J7, q6 n6⟩
      | cont =>
        obtain ⟨σ6, H6, S6, q6⟩ := hsp
        exact fin6 S6 fun n6 s7 J7 => ⟨_, _, J7, q6 n6⟩
      | ret u =>
        obtain ⟨v6, σ6, H6, S6, r6, q6⟩ := hsp
        exact fin6 S6 fun n6 s7 J7 => ⟨_, _, _, J7, r6, q6 n6⟩
    | false =>
      show wpAny _ X.A (handleBy (.ref a) X.env []) _ _ _
      refine wpAny_handleBy_nil ?_
      obtain ⟨k1, k2, k3, oeF, vsF, Tb, oTb, tbs, heF, hzF, hdF, hF1, hrF⟩ := id fly3
      unfold PySem.passOn
      refine wpAny_bind (wpAny_field heF hdF hF1 ?_)
      rw [if_neg (show ¬ ((Value.ref Tb == Value.none) = true) from by simp)]
      have fin : wpAny (model X.prog X.w) X.A (setFlight (.ref a) X.env.frame) (fun _ s4 => wpAny (model X.prog X.w) X.A (throw (.ref a) : Sem Flow) (SP X pins D) X.xe s4) X.xe
          { s' with heap := h3 } := by
        rw [hfm]
        refine HandSPX.setFlight_upZ fly3 fun h4 hh4 upp4 => wpAny_throw (tko _ _ ?_)
        exact ⟨a, B, sI, pins, σ', H', cls, d, rfl, Jv, nob, (upp.trans upp3).trans upp4, .inr (.inr (by rw [hst]; exact hh4)), nas, oss, agg, hno rfl⟩
      first
        | exact wpAny_bind (wpAny_pure (wpAny_bind fin))
        | exact wpAny_bind fin
  · cases f with
    | next =>
      obtain ⟨σ2, H2, J2, q⟩ := hsp
      exact wpAny_execs_nil ⟨σ2, H2, J2.ofTry okX, q⟩
    | brk =>
      obtain ⟨σ2, H2, J2, q⟩ := hsp
      exact ⟨σ2, H2, J2.ofTry okX, q⟩
    | cont =>
      obtain ⟨σ2, H2, J2, q⟩ := hsp
      exact ⟨σ2, H2, J2.ofTry okX, q⟩
    | ret u =>
      obtain ⟨v, σ2, H2, J2, r2, q⟩ := hsp
      exact ⟨v, σ2, H2, J2.ofTry okX, r2, q⟩
end
end Cp
/-! Cameposts: a kept error is asked for its class and its field -/
namespace Cp
open PySem PySem.W PySem.Calls PyProof.Rows L2
section
variable {prog : Program} {w : World} {A : Around} {E : Value → Shared → Prop} {s : Shared} {K : Frag} {x D : Addr} {ox : Obj} {od : Option Obj}
theorem findObj_cls {C : Addr} {name : Str} {a g : Value} (hc : (clsIn K C).isSome = true) (ha : findIn K (.ref C) name = some (some a)) (hg : specialIn K a "__get__" = some (some g))
    (ht : takesIn K a = some true) : findObj K C od name = some (.bind g a) := by
  obtain ⟨cd, hcd⟩ := Option.isSome_iff_exists.mp hc
  unfold findObj
  rw [hcd, Option.bind_some, ha, Option.bind_some]
  simp [hg, ht]
theorem class_of_exc {Q : Option Value → Shared → Prop} (T : ExcC K D) (X : K.In s.heap) (I : W.InstAt s.heap x ox D od) (h : Q (some (.ref D)) { s with toks := s.toks + 1 }) :
    wpAny (model prog w) A (getAttr? (.ref x) "__class__") Q E s := by
  have hf : findObj K D od "__class__" = some (.bind (.builtin "getset_descriptor.__get__") (.builtin "object.__class__")) := findObj_cls (by
    obtain ⟨cd, hc, _⟩ := any_some T.hd
    rw [hc]
    rfl) T.ha T.hn T.ht
  obtain ⟨hp, g, d, t, os⟩ := s
  have k0 := I.type (M := model prog w)
  have k1 := looks_findIn (M := model prog w) X T.hg
  have k2 := looks_findIn (M := model prog w) X T.hk
  have k3 := looks_find (M := model prog w) X I hf
  have ksub : Looks (model prog w) hp (isInstance (.ref x) (.type "BaseException")) true := k0.andThen (looks_subIn X T.hs)
  have n0 : (false && onTheHeap (Value.builtin "BaseException.__getattribute__")) = false := rfl
  have n2 : (Value.builtin "BaseException.__getattribute__" == Value.builtin "object.__getattribute__") = false := by decide +kernel
  have n1 : (onTheHeap (Value.ref D) && Value.builtin "BaseException.__getattribute__" == Value.builtin "object.__getattribute__") = false := by
    rw [n2]
    rfl
  unfold getAttr? getAttrBy? getAttrBy
  refine wpAny_bind (wpAny_mkText (wpAny_bind (wpAny_attempt (wpAny_holding (wpAny_bind (k0.at (wpAny_bind (k1.at ?_))))))))
  show wpAny _ _ (if (onTheHeap (Value.ref D) && Value.builtin "BaseException.__getattribute__" == Value.builtin "object.__getattribute__") = true then _ else _)
    _ _ _
  rw [n1, if_neg Bool.false_ne_true]
  unfold getAttrByItsOwn hookBefore
  refine wpAny_bind ?_
  rw [if_pos (show onTheHeap (Value.ref D) = true from rfl)]
  refine k2.at ?_
  refine wpAny_bind (wpAny_attempt (wpAny_holding ?_))
  unfold callGetattribute
  rw [n0, if_neg Bool.false_ne_true]
  unfold boundAndCalled
  rw [PySem.F.excAttr_ValueError.ga.bind (.ref x)]
  refine wpAny_bind (wpAny_pure ?_)
  show wpAny _ _ (call (.builtin "BaseException.__getattribute__") [.ref x, .str "__class__" t]) _ _ _
  refine wpAny_call (codeAny_call_builtin PySem.F.excAttr_ValueError.ga.plain PySem.F.entry_bexc_ga ?_)
  refine @check_slot (model prog w) _ _ ⟨hp, g, d, t + 1, os⟩ "BaseException.__getattribute__" "BaseException" "__getattribute__" (.ref x) [.str "__class__" t] []
    _ (by decide +kernel) (by decide +kernel) ksub (PySem.F.args_bexc_ga (.ref x) (.str "__class__" t)) ?_
  unfold Builtin.«object.__getattribute__»
  refine wpAny_bind (wpAny_of_eq (a := ((Value.ref x : Value), [Value.str "__class__" t])) (by first | rfl | (simp only [slotArgs]; rfl)) ?_)
  refine wpAny_bind (wpAny_pure (wpAny_bind (k0.at (wpAny_bind (k3.at ?_)))))
  show wpAny _ _ (holding [Value.builtin "object.__class__"] (call (.builtin "getset_descriptor.__get__") [.builtin "object.__class__", .ref x, .ref D]) >>= ret)
    _ _ _
  refine wpAny_bind (wpAny_holding (wpAny_call (class_get (s := ⟨hp, g, d, t + 1, os⟩) (ox := ox) (od := od) X I T.hm ?_)))
  refine wpAny_pure ?_
  show wpAny _ _ (handedOut (.ref D)) _ _ _
  rw [handedOut_of (v := .ref D) rfl]
  first
    | exact wpAny_pure (wpAny_pure h)
    | exact wpAny_pure h
    | exact wpAny_pure (wpAny_bind (wpAny_pure (wpAny_pure h)))
theorem kit_of_exc (T : ExcC K D) : KitX K (.ref x) (.ref D) (fun h => W.InstAt h x ox D od) where
  ty := fun _ _ _ I => I.type
  it := fun _ _ X _ => by
    obtain ⟨cdD, hcD, _⟩ := any_some T.hd
    unfold clsIn at hcD
    split at hcD
    · rename_i c' d' cd' sl' ho
      intro A' Q' E' s' k q
      unfold isType loadHead
      exact wpAny_bind (wpAny_loadPart (k _ _ (X _ _ ho)) (wpAny_pure q))
    · cases hcD
  ne := fun h tp dd its n sl X htp => by
    obtain ⟨cdD, hcD, _⟩ := any_some T.hd
    refine Bool.eq_false_iff.mpr fun q => ?_
    have e : D = tp := Value.ref.inj (beq_iff_eq.mp q)
    subst e
    unfold clsIn at hcD
    split at hcD
    · rename_i c' d' cd' sl' ho
      have z := (X _ _ ho).symm.trans htp
      cases z
    · cases hcD
  ca := fun X I k => class_of_exc T X I k
end

/-- an error of the class at D, kept at a -/
def Kept (K : Frag) (H : Hp) (a D : Addr) : Prop := ∃ d, H a = some (ExcAt a (.ref D) d) ∧ (∀ dd, d = some dd → ∃ fs, H dd = some (.xd fs)) ∧ ExcC K D
theorem kept_inst {X : Cx} {pins : List (Addr × Obj)} {σ : L2.St} {H : Hp} {s : Shared} {a D : Addr} (I : Inv X pins σ H s) (k : Kept X.K H a D) :
    ∃ ox od, W.InstAt s.heap a ox D od := by
  obtain ⟨d, hA, hD, T⟩ := k
  obtain ⟨oe, vs, e, hz, hf⟩ := excAt_of I.hok hA
  cases d with
  | none => exact ⟨oe, none, e, hz.1, by unfold PySem.W.notCls; rw [hf] <;> rfl, by rw [hz.2]; trivial⟩
  | some dd =>
    obtain ⟨fs, hx⟩ := hD dd rfl
    have hx : ObjOk X.prog X.w H s.heap dd (.xd fs) := I.hok dd _ hx
    obtain ⟨mA, hns, hr⟩ := hx
    obtain ⟨od, ho, hl⟩ := lookIn_ns hns
    exact ⟨oe, some od, e, hz.1, by unfold PySem.W.notCls; rw [hf] <;> rfl, by rw [hz.2]; exact ho⟩
/-- isinstance(x, c), x a kept error or a value of a known type -/
def rIsU (K : Frag) : List V → Hp → VK → Prop := fun xs H Q => rIsi K xs H Q ∨
  ∃ (a D : Addr) (c : V) (cv : Value) (b : Bool), xs = [.ref a, c] ∧ Kept K H a D ∧ ClsV c cv ∧ kitOne K (.ref D) cv = some b ∧ Q (.bl b) H
theorem call_isU {X : Cx} : CallR X (.builtin "isinstance") (rIsU X.K) := by
  intro pins s σ H xs us Q I r h
  rcases h with h | ⟨a, D, c, cv, b, rfl, hk, hc, e, q⟩
  · exact call_isi pins s σ H xs us Q I r h
  · cases r with
    | cons rx rr =>
      cases rr with
      | cons rt rr =>
        cases rr
        cases rx
        have ec := ClsV.eq hc rt
        subst ec
        obtain ⟨ox, od, J⟩ := kept_inst I hk
        obtain ⟨d, _, _, T⟩ := hk
        exact kia_one (kit_of_exc T) I.kIn J e (fun z => nomatch z) fun tk => ⟨.bl b, H, I.kept (t' := tk) fun _ _ z => z, rfl, q⟩
/-- e.n, e a kept error -/
def tKf (K : Frag) (n : Str) (te : TE) : TE := fun σ H Q => te σ H fun x H1 => ∃ (a C dd : Addr) (fs : List (Str × V)) (v : V), x = .ref a ∧ H1 a = some (ExcAt a (.ref C) (some dd)) ∧
  XfC K C ∧ findIn K (.ref C) n = some none ∧ H1 dd = some (.xd fs) ∧ fs.lookup n = some v ∧ Q v H1
theorem pe_kf {X : Cx} {e : PySem.Expr} {te : TE} {pos : Pos} {n : Str} (he : PE X e te) (hb : attributeBase e n X.env (eval e X.env) = eval e X.env := by rfl) :
    PE X (.Attribute e n pos) (tKf X.K n te) := by
  refine ⟨fun pins s σ H Q I h => ?_⟩
  refine attr_of hb (thn (he.run pins s σ H _ I h) fun u s1 hh => ?_)
  obtain ⟨x, H1, I1, rx, a, C, dd, fs, v, ex, eA, T, hno, eD, l, q⟩ := hh
  subst ex
  obtain rfl : u = Value.ref a := rx
  obtain ⟨oe, vs, ha, hz, hf⟩ := excAt_of I1.hok eA
  have hx : ObjOk X.prog X.w H1 s1.heap dd (.xd fs) := I1.hok dd _ eD
  obtain ⟨mA, hns, hr⟩ := hx
  obtain ⟨od, ho, hl⟩ := lookIn_ns hns
  obtain ⟨u, hu, ru⟩ := RelO.some_of (v := v) (o := mA n) (by rw [← l]; exact hr n)
  have J : W.InstAt s1.heap a oe C (some od) := ⟨ha, hz.1, by unfold PySem.W.notCls; rw [hf] <;> rfl, by
    rw [hz.2]
    exact ho⟩
  exact HandSPX.exc_get I1.kIn J T.ga T.gg T.exC (PySem.W.findObj_own T.hdC hno rfl (by
    rw [hl, hu])) (handed_of ru) ⟨v, H1, I1.tok _, ru, q⟩
end Cp
/-! Cameposts: more readings upon data; pure defs -/
namespace Cp
open PySem L2 PySem.Spec PyProof.Rows
open Evl (Ex)

def isNoneB : PyData → Bool
  | .none => true
  | _ => false
theorem isNoneB_iff {v : PyData} : isNoneB v = true ↔ v = .none := by cases v <;> simp [isNoneB]
theorem isNoneB_not {v : PyData} : isNoneB v = false ↔ v ≠ .none := by cases v <;> simp [isNoneB]
/-! ### one rule for several kinds -/
def rOr (r1 r2 : R2) : R2 := fun x y H Q => r1 x y H Q ∨ r2 x y H Q
theorem op_or2 {X : Cx} {f : Value → Value → Sem Value} {r1 r2 : R2} (h1 : OpR X f r1) (h2 : OpR X f r2) : OpR X f (rOr r1 r2) := fun pins s σ H x y v u Q I rx ry h =>
  h.elim (h1 pins s σ H x y v u Q I rx ry) (h2 pins s σ H x y v u Q I rx ry)
def cOr (r1 r2 : List V → Hp → VK → Prop) : List V → Hp → VK → Prop := fun xs H Q => r1 xs H Q ∨ r2 xs H Q
theorem call_or {X : Cx} {f : Value} {r1 r2 : List V → Hp → VK → Prop} (h1 : CallR X f r1) (h2 : CallR X f r2) : CallR X f (cOr r1 r2) := fun pins s σ H xs us Q I r h =>
  h.elim (h1 pins s σ H xs us Q I r) (h2 pins s σ H xs us Q I r)
abbrev rAddU : R2 := rOr (rI0 fun i j => .int (i + j)) rCat
abbrev rMulU : R2 := rOr (rI CMulW fun i j => .int (i * j)) rRep
theorem op_addU {X : Cx} : OpR X (binaryOp .Add) rAddU := op_or2 op_add op_cat
theorem op_mulU {X : Cx} : OpR X (binaryOp .Mult) rMulU := op_or2 op_mulW op_rep
abbrev rSubI : R2 := rI0 fun i j => .int (i - j)
abbrev rModI : R2 := rI (fun _ j => j ≠ 0) fun i j => .int (i.fmod j)
abbrev rDivI : R2 := rI CDivW fun i j => .int (i / j)
abbrev rPowI : R2 := rI CPowW fun i j => .int (i ^ j.toNat)

section
variable {O : List Addr} {K : PySem.W.Frag} {δ : List Sl} {ta tb te tc : TE} {x y z d : PyData} {r1 r2 : R2}
theorem rp_l (h : RP O r1 x y z) : RP O (rOr r1 r2) x y z := fun v w H hD hv hw Q k => Or.inl (h v w H hD hv hw Q k)
theorem rp_r (h : RP O r2 x y z) : RP O (rOr r1 r2) x y z := fun v w H hD hv hw Q k => Or.inr (h v w H hD hv hw Q k)
theorem rp_int {g : Int → Int → Int} {i j : Int} : RP O (rI0 fun i j => .int (g i j)) (.int i) (.int j) (.int (g i j)) := rp_rI0 fun _ => rfl
theorem rp_bl {g : Int → Int → Bool} {i j : Int} : RP O (rI0 fun i j => .bl (g i j)) (.int i) (.int j) (.bool (g i j)) := rp_rI0 fun _ => rfl
theorem rp_intC {C : Int → Int → Prop} {g : Int → Int → Int} {i j : Int} (hc : C i j) : RP O (rI C fun i j => .int (g i j)) (.int i) (.int j) (.int (g i j)) := rp_rI hc fun _ => rfl
theorem rp_rep {ds : List PyData} {k : Int} (h0 : 0 ≤ k) (hk : ds.length * k.toNat ≤ 100000) (h2 : k < 100000) : RP O rRep (.list ds) (.int k) (.list (List.replicate k.toNat ds).flatten) := fun v w H hD hv hw Q q => by
  obtain ⟨a, xs, rfl, h1, hx⟩ := hv
  cases hw
  refine ⟨a, k, xs, rfl, rfl, (hid_some h1).2, by omega, by omega, by rw [hx.length]; exact Evl.sz_of hk, fun p hp => q _ _ (Ex.new hp) ⟨p, (List.replicate k.toNat xs).flatten, rfl, ?_, ?_⟩⟩
  · rw [hid_out (hD.fresh hp)]
    exact upd_same
  · have e := hx.mono (hid_ex (O := O) (Ex.new hp (o := .lst (List.replicate k.toNat xs).flatten)))
    generalize hQ : hid O (upd H p (.lst (List.replicate k.toNat xs).flatten)) = G at e ⊢
    clear hQ
    induction k.toNat with
    | zero => exact rfl
    | succ n ih =>
      rw [List.replicate_succ, List.replicate_succ, List.flatten_cons, List.flatten_cons]
      exact e.append ih
theorem rp_isN0 {v : PyData} : RP O (fun x y H Q => y = .non ∧ Q (.bl (decide (x = .non))) H) v .none (.bool (match v with | .none => true | _ => false)) := fun a b H hD hv hw Q k => by
  cases hw
  refine ⟨rfl, k _ H (Ex.refl H) ?_⟩
  cases v with
  | none => cases hv; rfl
  | bool _ => cases hv; rfl
  | int _ => cases hv; rfl
  | str _ => cases hv; rfl
  | list _ => obtain ⟨a, xs, rfl, _⟩ := hv; rfl
  | tuple _ => obtain ⟨a, xs, rfl, _⟩ := hv; rfl
  | dict _ => obtain ⟨a, l, rfl, _⟩ := hv; rfl
theorem rp_notN0 {v : PyData} : RP O (fun x y H Q => y = .non ∧ Q (.bl (!decide (x = .non))) H) v .none (.bool (match v with | .none => false | _ => true)) := fun a b H hD hv hw Q k => by
  cases hw
  refine ⟨rfl, k _ H (Ex.refl H) ?_⟩
  cases v with
  | none => cases hv; rfl
  | bool _ => cases hv; rfl
  | int _ => cases hv; rfl
  | str _ => cases hv; rfl
  | list _ => obtain ⟨a, xs, rfl, _⟩ := hv; rfl
  | tuple _ => obtain ⟨a, xs, rfl, _⟩ := hv; rfl
  | dict _ => obtain ⟨a, l, rfl, _⟩ := hv; rfl
theorem isNone_eq : ∀ (v : PyData), (match v with | .none => true | _ => false) = isNoneB v
  | .none => rfl
  | .bool _ => rfl
  | .int _ => rfl
  | .str _ => rfl
  | .list _ => rfl
  | .tuple _ => rfl
  | .dict _ => rfl
theorem notNone_eq : ∀ (v : PyData), (match v with | .none => false | _ => true) = !isNoneB v
  | .none => rfl
  | .bool _ => rfl
  | .int _ => rfl
  | .str _ => rfl
  | .list _ => rfl
  | .tuple _ => rfl
  | .dict _ => rfl
theorem rp_isN {v : PyData} : RP O (fun x y H Q => y = .non ∧ Q (.bl (decide (x = .non))) H) v .none (.bool (isNoneB v)) := by
  have h := rp_isN0 (O := O) (v := v)
  rw [isNone_eq] at h
  exact h
theorem rp_notN {v : PyData} : RP O (fun x y H Q => y = .non ∧ Q (.bl (!decide (x = .non))) H) v .none (.bool (!isNoneB v)) := by
  have h := rp_notN0 (O := O) (v := v)
  rw [notNone_eq] at h
  exact h
/-- isinstance by the wider rule -/
theorem ep_isU {T : String} {b : Bool} (h : EP O te δ x) (hb : kitB (tyN x) T = some b) : EP O (tCB (rIsU K) (tCons te (tCons (tC (.ty T)) tNil))) δ (.bool b) := fun σ H hD hS Q k =>
  h σ H hD hS _ fun v H1 e1 hv => Or.inl ⟨v, .ty T, _, _, b, rfl, .ty T, dt_ty (Dt.mono hid_le x v hv), kit_ty hb, k _ H1 e1 rfl⟩
theorem tp_truthL {ds : List PyData} (h : EP O te δ (.list ds)) : TP O (fun σ H Q => te σ H fun x H' => ∃ k, TruV K x H' k ∧ Q k H') δ (!ds.isEmpty) := fun σ H hD hS Q k =>
  h σ H hD hS _ fun v H1 e1 hv => by
    obtain ⟨a, xs, rfl, h1, h2⟩ := hv
    refine ⟨_, Or.inl ⟨xs, SqL.of (hid_some h1).2, rfl⟩, ?_⟩
    have e : (!xs.isEmpty) = !ds.isEmpty := by
      have hl := h2.length
      cases xs <;> cases ds <;> simp_all
    rw [e]
    exact k H1 e1
/-! slices -/
def OD (O : List Addr) (t : TO) (δ : List Sl) (o : Option Int) : Prop := ∀ σ H, Dom O H → SD (hid O H) δ σ → ∀ Q : Option Int → Hp → Prop, (∀ H', Ex H H' → Q o H') → t σ H Q
theorem od_none : OD O tNoPart δ none := fun σ H hD hS Q k => k H (Ex.refl H)
theorem od_some {i : Int} (h : EP O te δ (.int i)) : OD O (tPart te) δ (some i) := fun σ H hD hS Q k => h σ H hD hS _ fun v H1 e1 hv => ⟨i, hv, k H1 e1⟩
def cutD (ds : List PyData) (lo hi : Option Int) : List PyData := (ds.drop (HT.sIx ds.length 0 lo)).take (HT.sIx ds.length ds.length hi - HT.sIx ds.length 0 lo)
theorem ep_sl {tl th : TO} {ds : List PyData} {lo hi : Option Int} (h : EP O te δ (.list ds)) (h1 : OD O tl δ lo) (h2 : OD O th δ hi) : EP O (tSl (rSlL K) te tl th) δ (.list (cutD ds lo hi)) := fun σ H hD hS Q k =>
  h σ H hD hS _ fun v H1 e1 hv => h1 σ H1 (hD.ex e1) (hS.mono (hid_ex e1)) _ fun H2 e2 => h2 σ H2 ((hD.ex e1).ex e2) (hS.mono (hid_ex (e1.trans e2))) _ fun H3 e3 => by
    obtain ⟨a, xs, rfl, q1, q2⟩ := hv
    have e23 := e2.trans e3
    have d3 := ((hD.ex e1).ex e2).ex e3
    refine ⟨a, xs, rfl, SqL.of (e23 _ _ (hid_some q1).2), fun p hp => k _ _ ((e1.trans e23).trans (Ex.new hp)) ⟨p, _, rfl, by rw [hid_out (d3.fresh hp)]; exact upd_same, ?_⟩⟩
    unfold cutV cutD
    rw [q2.length]
    exact ((q2.mono (hid_ex (e23.trans (Ex.new hp)))).drop _).take _
/-! list(), tuple(), int(), min(), max(), repr() -/
theorem ep_listOf {ds : List PyData} (h : EP O te δ (.list ds)) : EP O (tCB (fun xs H Q => ∃ p ys, xs = [.ref p] ∧ (SqL K H p ys ∨ SqT K H p ys) ∧ ∀ l, H l = none → Q (.ref l) (upd H l (.lst ys))) (tCons te tNil)) δ (.list ds) := fun σ H hD hS Q k =>
  h σ H hD hS _ fun v H1 e1 hv => by
    obtain ⟨a, xs, rfl, q1, q2⟩ := hv
    exact ⟨a, xs, rfl, Or.inl (SqL.of (hid_some q1).2), fun l hl => k _ _ (e1.trans (Ex.new hl)) ⟨l, xs, rfl, by rw [hid_out ((hD.ex e1).fresh hl)]; exact upd_same, q2.mono (hid_ex (Ex.new hl))⟩⟩
theorem ep_tupOf {ds : List PyData} (h : EP O te δ (.list ds)) : EP O (tCB (fun xs H Q => ∃ p ys, xs = [.ref p] ∧ ((SqL K H p ys ∧ ∀ l, H l = none → Q (.ref l) (upd H l (.tup ys))) ∨ (SqT K H p ys ∧ Q (.ref p) H))) (tCons te tNil)) δ (.tuple ds) := fun σ H hD hS Q k =>
  h σ H hD hS _ fun v H1 e1 hv => by
    obtain ⟨a, xs, rfl, q1, q2⟩ := hv
    exact ⟨a, xs, rfl, Or.inl ⟨SqL.of (hid_some q1).2, fun l hl => k _ _ (e1.trans (Ex.new hl)) ⟨l, xs, rfl, by rw [hid_out ((hD.ex e1).fresh hl)]; exact upd_same, q2.mono (hid_ex (Ex.new hl))⟩⟩⟩
theorem ep_intB {b : Bool} (h : EP O te δ (.bool b)) : EP O (tCB (fun xs H Q => (∃ i, xs = [.int i] ∧ Q (.int i) H) ∨ ∃ k, xs = [.bl k] ∧ Q (.int (if k then 1 else 0)) H) (tCons te tNil)) δ (.int (if b then 1 else 0)) := fun σ H hD hS Q k =>
  h σ H hD hS _ fun v H1 e1 hv => Or.inr ⟨b, by rw [show v = .bl b from hv], k _ H1 e1 rfl⟩
theorem ep_min2 {i j : Int} (h : EP O te δ (.tuple [.int i, .int j])) : EP O (tCB (rMin2 K) (tCons te tNil)) δ (.int (if j < i then j else i)) := fun σ H hD hS Q k =>
  h σ H hD hS _ fun v H1 e1 hv => by
    obtain ⟨a, xs, rfl, q1, v1, r1, rfl, p1, v2, r2, rfl, p2, p3⟩ := hv
    cases p1; cases p2; cases p3
    exact ⟨a, i, j, rfl, SqT.of (hid_some q1).2, k _ H1 e1 rfl⟩
theorem ep_max2 {i j : Int} (h : EP O te δ (.tuple [.int i, .int j])) : EP O (tCB (rMax2 K) (tCons te tNil)) δ (.int (if j > i then j else i)) := fun σ H hD hS Q k =>
  h σ H hD hS _ fun v H1 e1 hv => by
    obtain ⟨a, xs, rfl, q1, v1, r1, rfl, p1, v2, r2, rfl, p2, p3⟩ := hv
    cases p1; cases p2; cases p3
    exact ⟨a, i, j, rfl, SqT.of (hid_some q1).2, k _ H1 e1 rfl⟩
theorem ep_repr (h : EP O te δ x) (hs : Shows x) : EP O (tCB (rRepr K) (tCons te tNil)) δ (.str x.shown) := fun σ H hD hS Q k =>
  h σ H hD hS _ fun v H1 e1 hv => ⟨v, x, rfl, Dt.dp x v hs.2.1 (Dt.mono hid_le x v hv), hs, k _ H1 e1 rfl⟩
theorem ep_neg {i : Int} (h : EP O te δ (.int i)) : EP O (tUn (rU fun i => .int (-i)) te) δ (.int (-i)) := fun σ H hD hS Q k =>
  h σ H hD hS _ fun v H1 e1 hv => ⟨i, hv, k _ H1 e1 rfl⟩
theorem ep_abs {i : Int} (h : EP O te δ (.int i)) : EP O (tCB (fun xs H Q => ∃ i, xs = [.int i] ∧ Q (.int (if i < 0 then -i else i)) H) (tCons te tNil)) δ (.int (if i < 0 then -i else i)) := fun σ H hD hS Q k =>
  h σ H hD hS _ fun v H1 e1 hv => ⟨i, by rw [show v = .int i from hv], k _ H1 e1 rfl⟩

/-! ### pure defs -/
def spP (n : Nat) (pre : List PyData → Prop) (f : List PyData → PyData) : Sp := fun vs H Q _ => ∃ (O : List Addr) (ds : List PyData), Dom O H ∧ ds.length = n ∧ pre ds ∧ DtAll (hid O H) ds vs ∧
  ∀ v H', Ex H H' → Dt (hid O H') (f ds) v → Q v H'
theorem ep_call {n : Nat} {pre : List PyData → Prop} {f : List PyData → PyData} {E : XK} {t : TA} {ds : List PyData} (h : AP O t δ ds) (hn : ds.length = n) (hp : pre ds) : EP O (tCall (spP n pre f) [] E t) δ (f ds) := fun σ H hD hS Q k =>
  h σ H hD hS _ fun vs H1 e1 hv => ⟨O, ds, hD.ex e1, hn, hp, by rw [List.append_nil]; exact hv, fun v H2 e2 hd => k v H2 (e1.trans e2) hd⟩
theorem sd_start {H : Hp} {ds : List PyData} {vs : List V} (h : DtAll H ds vs) (N : List Str) (hn : ds.length ≤ N.length) : SD H (ds.map Sl.d ++ List.replicate (N.length - ds.length) .no) (L2.start N vs) := by
  have hl := h.length
  refine ⟨by unfold L2.start; simp [hl], fun i => ?_⟩
  unfold L2.start
  rw [List.getD_eq_getElem?_getD, List.getD_eq_getElem?_getD]
  by_cases hi : i < ds.length
  · rw [List.getElem?_append_left (by simpa using hi), List.getElem?_append_left (by simpa [hl] using hi), List.getElem?_map, List.getElem?_map]
    obtain ⟨v, q1, q2⟩ := h.get (List.getElem?_eq_getElem hi)
    rw [q1, List.getElem?_eq_getElem hi]
    exact ⟨v, rfl, q2⟩
  · rw [List.getElem?_append_right (by simpa using hi)]
    have : ((List.replicate (N.length - ds.length) Sl.no)[i - (ds.map Sl.d).length]?.getD .no) = .no := by
      rw [List.getElem?_replicate]
      split <;> rfl
    rw [this]
    trivial
theorem pure_body {t : TS} {N : List Str} {n : Nat} {pre : List PyData → Prop} {f : List PyData → PyData} (hn : n ≤ N.length)
    (h : ∀ O ds, ds.length = n → pre ds → DS O t (ds.map Sl.d ++ List.replicate (N.length - n) .no) (fun _ => f ds = .none) (fun d => d = f ds)) {vs : List V} {H : Hp} {Q : VK} {E : XK} (hs : spP n pre f vs H Q E) :
    t { nx := fun _ H' => Q .non H', rt := Q } (L2.start N vs) H := by
  obtain ⟨O, ds, hD, hl, hp, hv, k⟩ := hs
  have key := h O ds hl hp (fun H' => ∀ a ∈ O, H' a = H a) (fun H1 H2 e1 _ j a ha => (e1 a ha).trans (j a ha)) (L2.start N vs) H { nx := fun _ H' => Q .non H', rt := Q } (fun _ _ => rfl) hD (by
    have z := sd_start hv N (by omega)
    rw [hl] at z
    exact z)
  have ex : ∀ {H' : Hp}, (∀ a ∈ O, H' a = H a) → Ex (hid O H) (hid O H') → Ex H H' := fun {H'} j e a o q => by
    by_cases ha : a ∈ O
    · rw [j a ha]
      exact q
    · have z := e a o (by rw [hid_out ha]; exact q)
      rw [hid_out ha] at z
      exact z
  refine key (fun δ' σ' H' n' d' e' _ => ?_) fun v H' r d' e' => ?_
  · obtain ⟨e0, j⟩ := n'
    exact k .non H' (ex j e') (by rw [e0]; rfl)
  · obtain ⟨d, hd, rfl, j⟩ := r
    exact k v H' (ex j e') hd
theorem pure_len {n : Nat} {pre : List PyData → Prop} {f : List PyData → PyData} {vs : List V} {H : Hp} {Q : VK} {E : XK} (h : spP n pre f vs H Q E) : vs.length = n := by
  obtain ⟨O, ds, _, hl, _, hv, _⟩ := h
  rw [hv.length, hl]
end
end Cp
/-! Cameposts: a comprehension of two fors; the room for repr -/
namespace Cp
open PySem L2 PySem.Spec PyProof.Rows
open Evl (Ex)
theorem _root_.L2.Room.units200 {k : Nat} {A : Around} (r : Room k A) : A.units + 200 < cLine := by
  have := r.un
  omega
section
variable {O : List Addr} {K : PySem.W.Frag} {δ : List Sl} {ta tb te tc : TE} {x y z d : PyData}
theorem ep_is {e : PyData} (h : EP O te δ d) (q : d = e) : EP O te δ e := q ▸ h
theorem tp_is {tt : TT} {b c : Bool} (h : TP O tt δ b) (q : b = c) : TP O tt δ c := q ▸ h
def isIntB : PyData → Bool
  | .int _ => true
  | .bool _ => true
  | _ => false
def isBoolB : PyData → Bool
  | .bool _ => true
  | _ => false
def isTupB : PyData → Bool
  | .tuple _ => true
  | _ => false
def isListB : PyData → Bool
  | .list _ => true
  | _ => false
def isStrB : PyData → Bool
  | .str _ => true
  | _ => false
theorem ep_isInt (h : EP O te δ x) : EP O (tCB (rIsU K) (tCons te (tCons (tC (.ty "int")) tNil))) δ (.bool (isIntB x)) := by
  cases x <;> exact ep_isU h (by simp only [tyN, isIntB, isBoolB, isTupB, isListB, isStrB]; decide +kernel)
theorem ep_isBool (h : EP O te δ x) : EP O (tCB (rIsU K) (tCons te (tCons (tC (.ty "bool")) tNil))) δ (.bool (isBoolB x)) := by
  cases x <;> exact ep_isU h (by simp only [tyN, isIntB, isBoolB, isTupB, isListB, isStrB]; decide +kernel)
theorem ep_isTup (h : EP O te δ x) : EP O (tCB (rIsU K) (tCons te (tCons (tC (.ty "tuple")) tNil))) δ (.bool (isTupB x)) := by
  cases x <;> exact ep_isU h (by simp only [tyN, isIntB, isBoolB, isTupB, isListB, isStrB]; decide +kernel)
theorem ep_isList (h : EP O te δ x) : EP O (tCB (rIsU K) (tCons te (tCons (tC (.ty "list")) tNil))) δ (.bool (isListB x)) := by
  cases x <;> exact ep_isU h (by simp only [tyN, isIntB, isBoolB, isTupB, isListB, isStrB]; decide +kernel)
theorem ep_isStr (h : EP O te δ x) : EP O (tCB (rIsU K) (tCons te (tCons (tC (.ty "str")) tNil))) δ (.bool (isStrB x)) := by
  cases x <;> exact ep_isU h (by simp only [tyN, isIntB, isBoolB, isTupB, isListB, isStrB]; decide +kernel)
theorem wipeS_length : ∀ (vs : List Nat) (δ : List Sl), (wipeS δ vs).length = δ.length
  | [], _ => rfl
  | v :: vs, δ => by
    show ((wipeS δ vs).set v .no).length = δ.length
    rw [List.length_set]
    exact wipeS_length vs δ
theorem wipe_wipe (ρ : L2.St) (vs ws : List Nat) (h : ∀ j ∈ ws, j ∈ vs) : L2.wipe (L2.wipe ρ vs) ws = L2.wipe ρ vs := by
  induction ws with
  | nil => rfl
  | cons w ws ih =>
    show (L2.wipe (L2.wipe ρ vs) ws).set w none = L2.wipe ρ vs
    rw [ih fun j hj => h j (by simp [hj])]
    refine List.ext_getElem? fun j => ?_
    by_cases e : w = j
    · subst e
      have hwv : w ∈ vs := h w (by simp)
      cases q : (L2.wipe ρ vs)[w]? with
      | none => rw [List.getElem?_set_self', q]; rfl
      | some o =>
        rw [List.getElem?_set_self', q]
        cases o with
        | none => rfl
        | some x => exact absurd hwv (wipe_some q).2
    · rw [List.getElem?_set_ne e]
/-- the rows of a comprehension of two fors -/
def rows2 (n : Nat) (m : Nat → Nat) (f : Nat → Nat → Option PyData) : List PyData := (List.range n).flatMap fun i => (List.range (m i)).filterMap (f i)
theorem rows2_succ {n : Nat} {m : Nat → Nat} {f : Nat → Nat → Option PyData} : rows2 (n + 1) m f = rows2 n m f ++ (List.range (m n)).filterMap (f n) := by
  unfold rows2
  rw [List.range_succ, List.flatMap_append]
  simp
theorem rows2_le {m : Nat → Nat} {f : Nat → Nat → Option PyData} {b : Nat} : ∀ (n : Nat), (∀ i, i < n → m i ≤ b) → (rows2 n m f).length ≤ n * b
  | 0, _ => by simp [rows2]
  | n + 1, h => by
    rw [rows2_succ, List.length_append]
    have h1 := rows2_le (m := m) (f := f) (b := b) n fun i hi => h i (by omega)
    have h2 : ((List.range (m n)).filterMap (f n)).length ≤ m n := filterMap_le
    have h3 := h n (by omega)
    rw [Nat.add_mul, Nat.one_mul]
    omega
theorem ep_lc2 {wi wi1 : TI} {g g1 : TG} {tt1 : TT} {n b : Nat} {m : Nat → Nat} {item : Nat → PyData} {item1 : Nat → Nat → PyData} {ix ix1 vs vs1 : List Nat} {f : Nat → Nat → Option PyData}
    (hw : ∀ O, WP O wi δ n item) (hb : ∀ i, i < n → m i ≤ b) (hn : n * b ≤ 100000) (hn2 : b ≤ 100000) (hi : ∀ j ∈ ix, j ∈ vs) (hi1 : ∀ j ∈ ix1, j ∈ vs1) (hv : ∀ j ∈ vs1, j ∈ vs)
    (hs : ∀ O i, i < n → ∃ δ2, GB O g (item i) (wipeS δ vs) δ2 ix ∧ WP O wi1 δ2 (m i) (item1 i) ∧
      ∀ j, j < m i → ∃ δ3, GB O g1 (item1 i j) (wipeS δ2 vs1) δ3 ix1 ∧ TP O tt1 δ3 (f i j).isSome ∧ ∀ y, f i j = some y → EP O te δ3 y) :
    EP O (tLc2 wi g tYes wi1 g1 tt1 te vs vs1) δ (.list (rows2 n m f)) := fun σ H hD hS Q k => by
  refine hw O σ H hD hS _ fun Ji H1 e1 w => ?_
  intro D hDn
  have d1 := hD.ex e1
  have s1 := hS.mono (hid_ex e1)
  have dfr : D ∉ O := d1.fresh hDn
  have mono : ∀ {H' H'' : Hp}, Ex H' H'' → Ex (Cp.hid (D :: O) H') (Cp.hid (D :: O) H'') := fun e => hid_ex e
  refine ⟨fun i mm H' => mm = n - i ∧ i ≤ n ∧ Acc O H1 D (rows2 i m f) H', ⟨n, by simp, Nat.zero_le _, ⟨[], upd_same, rfl⟩, fun a o ha q => by rw [upd_ne ha]; exact q⟩, ?_⟩
  rintro i mm H' ⟨rfl, hin, p⟩
  have pG : Ex (Cp.hid O H1) H' := (p.hid hDn).trans hid_le
  by_cases hlt : i < n
  · refine .inr ⟨w.goes i H' hlt pG, fun H'' => Acc O H1 D (rows2 (i + 1) m f) H'', fun H'' p' => ⟨n - (i + 1), by omega, rfl, hlt, p'⟩, fun v H2 yy => ?_⟩
    obtain ⟨e2, hvv⟩ := w.yields i H' v H2 hlt pG yy
    have p2 := p.ex e2
    have d2 := p2.dom d1 hDn
    obtain ⟨δ2, hg, hw1, hin2⟩ := hs (D :: O) i hlt
    have s2 : SD (Cp.hid (D :: O) H2) (wipeS δ vs) (L2.wipe σ vs) := (s1.wipe vs).mono (p2.hid hDn)
    refine hg _ H2 v d2 s2 (hvv (D :: O) (p.hid hDn) (p.dom d1 hDn)) _ fun σ2 s3 hl hj => ⟨?_, ?_⟩
    · rw [wipe_same (vs := vs) hl hj hi]
      exact wipe_wipe σ vs vs fun _ h => h
    · unfold tYes
      dsimp only
      rw [if_pos rfl]
      refine hw1 σ2 H2 d2 s3 _ fun J1 H3 e3 w1 => ?_
      have p3 := p2.ex e3
      have d3 := p3.dom d1 hDn
      have s3' := s3.mono (mono e3)
      refine ⟨fun j kk H'' => kk = m i - j ∧ j ≤ m i ∧ (Acc O H1 D (rows2 i m f ++ (List.range j).filterMap (f i)) H'' ∧ Ex (Cp.hid (D :: O) H3) (Cp.hid (D :: O) H'')), ⟨m i, by simp, Nat.zero_le _, by simpa using p3, Ex.refl _⟩, ?_⟩
      rintro j kk H4 ⟨rfl, hjm, p4, e4⟩
      have q4 : Ex (Cp.hid (D :: O) H3) H4 := e4.trans hid_le
      by_cases hlt1 : j < m i
      · refine .inr ⟨w1.goes j H4 hlt1 q4, fun H'' => Acc O H1 D (rows2 i m f ++ (List.range (j + 1)).filterMap (f i)) H'' ∧ Ex (Cp.hid (D :: O) H3) (Cp.hid (D :: O) H''), fun H'' p' => ⟨m i - (j + 1), by omega, rfl, hlt1, p'.1, p'.2⟩, fun u H5 y1 => ?_⟩
        obtain ⟨e5, hu⟩ := w1.yields j H4 u H5 hlt1 q4 y1
        have p5 := p4.ex e5
        have d4 := p4.dom d1 hDn
        have d5 := p5.dom d1 hDn
        obtain ⟨δ3, hg1, ht1, he⟩ := hin2 j hlt1
        have e35 : Ex (Cp.hid (D :: O) H3) (Cp.hid (D :: O) H5) := e4.trans (mono e5)
        have s5 : SD (Cp.hid (D :: O) H5) (wipeS δ2 vs1) (L2.wipe σ2 vs1) := (s3'.mono e35).wipe vs1
        refine hg1 _ H5 u d5 s5 (hu (D :: O) e4 d4) _ fun σ3 s6 hl1 hj1 => ⟨?_, ?_⟩
        · rw [wipe_same (vs := vs1) hl1 hj1 hi1]
          exact wipe_wipe σ2 vs1 vs1 fun _ h => h
        · refine ht1 σ3 H5 d5 s6 _ fun H6 e6 => ?_
          have p6 := p5.ex e6
          cases hf : f i j with
          | none =>
            rw [if_neg (by simp)]
            refine ⟨?_, e35.trans (mono e6)⟩
            rw [filterMap_range_succ, hf]
            simpa using p6
          | some y =>
            rw [if_pos (by rfl)]
            refine he y hf σ3 H6 (d5.ex e6) (s6.mono (mono e6)) _ fun t H7 e7 ht => ?_
            have p7 := p6.ex e7
            obtain ⟨⟨acc, q1, q2⟩, q3⟩ := id p7
            refine ⟨acc, q1, ?_, ?_, ?_⟩
            · rw [q2.length, List.length_append]
              have z1 : (rows2 i m f).length ≤ i * b := rows2_le i fun i' hi' => hb i' (by omega)
              have z2 : ((List.range j).filterMap (f i)).length ≤ j := filterMap_le
              have z3 := hb i hlt
              have z4 : (i + 1) * b ≤ n * b := Nat.mul_le_mul_right b hlt
              rw [Nat.add_mul, Nat.one_mul] at z4
              exact Evl.sz_lt (by omega)
            · rw [filterMap_range_succ, hf]
              have z := p7.push q1 ht
              rw [List.append_assoc] at z
              exact z
            · refine (e35.trans ((mono e6).trans (mono e7))).trans fun a o q => ?_
              obtain ⟨h1, h2⟩ := hid_some q
              rw [hid_out h1, upd_ne (fun z => h1 (by simp [z]))]
              exact h2
      · have ej : j = m i := by omega
        subst ej
        refine .inl ⟨w1.stops H4 q4, ?_⟩
        show Acc O H1 D (rows2 (i + 1) m f) H4
        rw [rows2_succ]
        exact p4
  · have ei : i = n := by omega
    subst ei
    refine .inl ⟨w.stops H' pG, ?_⟩
    obtain ⟨⟨acc, q1, q2⟩, q3⟩ := id p
    refine k (.ref D) H' (e1.trans fun a o q => q3 a o (fun z => by rw [z, hDn] at q; cases q) q) ⟨D, acc, rfl, by rw [hid_out dfr]; exact q1, q2.mono fun a o q => ?_⟩
    obtain ⟨h1, h2⟩ := hid_some q
    rw [hid_out (fun z => h1 (by simp [z]))]
    exact h2
end
/-! ### rules whose reading names the written part: by a name of its own -/
section
variable {X : Cx} {K : PySem.W.Frag}
theorem kx_ix (h : X.K = K) : IxR X (rIx K) := h ▸ ix_seq
theorem kx_isi (h : X.K = K) : CallR X (.builtin "isinstance") (rIsU K) := h ▸ call_isU
theorem kx_len (h : X.K = K) : CallR X (.builtin "len") (fun xs H Q => ∃ x n, xs = [x] ∧ LenV K x H n ∧ Q (V.int ↑n) H) := h ▸ call_len
theorem kx_eq (h : X.K = K) (hu : X.A.units + 64 < cLine) : OpR X (compareOp .Eq) (rEqD K) := h ▸ op_eqD hu
theorem kx_ne (h : X.K = K) (hu : X.A.units + 64 < cLine) : OpR X (compareOp .NotEq) (rNeD K) := h ▸ op_neD hu
theorem kx_sl (h : X.K = K) : SlR X (rSlL K) := h ▸ sl_list
theorem kx_listOf (h : X.K = K) : CallR X (.type "list") (fun xs H Q => ∃ p ys, xs = [.ref p] ∧ (SqL K H p ys ∨ SqT K H p ys) ∧ ∀ l, H l = none → Q (.ref l) (upd H l (.lst ys))) := h ▸ call_list_of
theorem kx_tupOf (h : X.K = K) : CallR X (.type "tuple") (fun xs H Q => ∃ p ys, xs = [.ref p] ∧ ((SqL K H p ys ∧ ∀ l, H l = none → Q (.ref l) (upd H l (.tup ys))) ∨ (SqT K H p ys ∧ Q (.ref p) H))) := h ▸ call_tuple_of
theorem kx_min (h : X.K = K) (hc : X.calm = true) : CallR X (.builtin "min") (rMin2 K) := h ▸ call_min2T hc
theorem kx_max (h : X.K = K) (hc : X.calm = true) : CallR X (.builtin "max") (rMax2 K) := h ▸ call_max2T hc
theorem kx_repr (h : X.K = K) (hg : X.A.guards = some []) (hu : X.A.units + 200 < cLine) : CallR X (.builtin "repr") (rRepr K) := h ▸ call_reprD hg hu
theorem kx_list {tg l : Expr} {tl : TE} (h : X.K = K) (hl : PE X l tl) : PI X tg l (iList K tl) := h ▸ pi_list hl
theorem kx_tup {tg l : Expr} {tl : TE} (h : X.K = K) (hl : PE X l tl) : PI X tg l (iTup K tl) := h ▸ pi_tup hl
theorem kx_enum {e : Expr} {ta : TA} {p pos tpos : Pos} {elts : List Expr} {kk : Nat} (h : X.K = K) (hg : Gl X "enumerate") (hm : X.mg "enumerate" = none) (ha : PA X [e] ta) (hs : starEach [e] X.env = [(false, eval e X.env)] := by rfl) :
    PI X (.Tuple elts kk tpos) (.Call (.Name "enumerate" p) [e] [] pos) (iEnum K ta) := h ▸ pi_enum hg hm ha hs
theorem kx_gtup {es : List Expr} {k n : Nat} {t : TGs} {pos : Pos} (hK : X.K = K) (hc : X.calm = true) (h : PGs X es t) (hn : (assignEach es X.env).length = n := by rfl) (hst : (assignEach es X.env).findIdx? (·.1) = none := by rfl) :
    PG X (.Tuple es k pos) (gTup K n t) := hK ▸ pg_tup hc h hn hst
theorem kx_gunl {es : List Expr} {k n : Nat} {t : TGs} {pos : Pos} (hK : X.K = K) (hc : X.calm = true) (h : PGs X es t) (hn : (assignEach es X.env).length = n := by rfl) (hst : (assignEach es X.env).findIdx? (·.1) = none := by rfl) :
    PG X (.Tuple es k pos) (gUnl K n t) := hK ▸ pg_unl hc h hn hst
theorem kx_kf {e : PySem.Expr} {te : TE} {pos : Pos} {n : Str} (hK : X.K = K) (he : PE X e te) (hb : attributeBase e n X.env (eval e X.env) = eval e X.env := by rfl) : PE X (.Attribute e n pos) (tKf K n te) := hK ▸ pe_kf he hb
theorem kx_truth {a : PySem.Expr} {ta : TE} (hK : X.K = K) (h : PE X a ta) (hw : ∀ whole : Sem Value, PySem.isTrue a X.env whole = (do let v ← whole; standAt a.pos; holding [v] (truthy v))) :
    PT X a (fun σ H Q => ta σ H fun x H' => ∃ k, TruV K x H' k ∧ Q k H') := hK ▸ pt_truth h hw
theorem kx_bm {T id m : String} (h : X.K = K) : X.K = K := h
end
/-! ### the classes with their own __init__ -/
def zOf (st : Stmt) : SupP := match defBody st, (defArgs st).args with
  | [.Expr (.Call (.Attribute (.Call (.Name _ p0) _ _ p1) _ p2) [.Constant _ j p3] _ p4) p5, .Assign [.Attribute (.Name _ q1) _ q2] (.Name _ q3) q4], [a1, a2] =>
    ⟨j, a1.pos, a2.pos, p0, p1, p2, p3, p4, p5, q1, q2, q3, q4⟩
  | _, _ => ⟨0, ⟨0, 0, 0, 0⟩, ⟨0, 0, 0, 0⟩, ⟨0, 0, 0, 0⟩, ⟨0, 0, 0, 0⟩, ⟨0, 0, 0, 0⟩, ⟨0, 0, 0, 0⟩, ⟨0, 0, 0, 0⟩, ⟨0, 0, 0, 0⟩, ⟨0, 0, 0, 0⟩, ⟨0, 0, 0, 0⟩, ⟨0, 0, 0, 0⟩, ⟨0, 0, 0, 0⟩⟩
theorem sup_binds {P : Program} {K : PySem.W.Frag} {C fI cc cda : Addr} {qual txt : Str} {z : SupP} {fd : FuncData} (T : SupC P K C fI cc cda qual txt z fd) : L2.Binds K fd ["self", "wrong"] [] := by
  obtain ⟨oc, od, kV, doc, pm, an, ct, osl, rfl, lk⟩ := T.fn
  exact .all fun us hl => match us, hl with | [_, _], _ => rfl
/-- what the text says of a class without __init__ of its own -/
structure OwnC (K : PySem.W.Frag) (C : Addr) : Prop where
  x : PySem.W.excIn K C [.type "ValueError", .type "Exception", .type "BaseException", .type "object"] "ValueError.__new__" = true
  k : PySem.W.keepIn K (.ref C) = true
  s : PySem.W.subIn K (.ref C) (.type "BaseException") = some true
  t : PySem.W.typeIn K (.ref C) = some (.type "type")
/-! ### readings by hand, with what is known of the slots at hand -/
section
variable {O : List Addr} {δ : List Sl} {te : TE} {tt : TT} {t u : TS} {D : Ends} {σ : L2.St} {H : Hp} {d : PyData} {b : Bool} {i : Nat}
theorem ha_seq (h : t { D with nx := u D } σ H) : tSeq t u D σ H := h
theorem ha_if (h : Cp.TP O tt δ b) (hD : Dom O H) (hS : SD (hid O H) δ σ) (h1 : b = true → ∀ H', Ex H H' → t D σ H') (h2 : b = false → ∀ H', Ex H H' → u D σ H') : tIfS tt t u D σ H :=
  h σ H hD hS _ fun H1 e1 => by
    cases b with
    | true => exact h1 rfl H1 e1
    | false => exact h2 rfl H1 e1
theorem ha_asg (h : Cp.EP O te δ d) (hD : Dom O H) (hS : SD (hid O H) δ σ) (k : ∀ v H', Ex H H' → Dt (hid O H') d v → SD (hid O H') (δ.set i (.d d)) (σ.set i (some v)) → D.nx (σ.set i (some v)) H') : tAsg te (gName i) D σ H :=
  h σ H hD hS _ fun v H1 e1 hv => k v H1 e1 hv ((hS.mono (hid_ex e1)).set i (slok_d hv))
theorem ha_ret (h : Cp.EP O te δ d) (hD : Dom O H) (hS : SD (hid O H) δ σ) (k : ∀ v H', Ex H H' → Dt (hid O H') d v → D.rt v H') : tRet te D σ H := h σ H hD hS _ k
theorem ha_asgM {J : Hp → Prop} {P : PyData → Hp → Prop} (h : EM O J te δ P) (hJ : J H) (hD : Dom O H) (hS : SD (hid O H) δ σ)
    (k : ∀ d v H', P d H' → Dom O H' → Ex (hid O H) (hid O H') → Dt (hid O H') d v → SD (hid O H') (δ.set i (.d d)) (σ.set i (some v)) → D.nx (σ.set i (some v)) H') : tAsg te (gName i) D σ H :=
  h σ H hJ hD hS _ fun d v H1 p d1 e1 hv => k d v H1 p d1 e1 hv ((hS.mono e1).set i (slok_d hv))
end
end Cp
/-! Cameposts: readings where a list of one's own is read and changed -/
namespace Cp
open PySem L2 PySem.Spec PyProof.Rows
open Evl (Ex)
/-- from J, and J stays: te gives the data d -/
def ED (O : List Addr) (J : Hp → Prop) (te : TE) (δ : List Sl) (d : PyData) : Prop := EM O J te δ (fun x H => x = d ∧ J H)
def TD (O : List Addr) (J : Hp → Prop) (tt : TT) (δ : List Sl) (b : Bool) : Prop := TM O J tt δ (fun x H => x = b ∧ J H)
def AD (O : List Addr) (J : Hp → Prop) (ta : TA) (δ : List Sl) (ds : List PyData) : Prop := AM O J ta δ (fun x H => x = ds ∧ J H)
section
variable {O : List Addr} {J : Hp → Prop} {K : PySem.W.Frag} {δ : List Sl} {ta tb te ti : TE} {tt : TT} {t u : TS} {x y z d : PyData} {N : List Sl → Hp → Prop} {R : V → Hp → Prop} {l : Addr} {i : Nat}
theorem ed_of (j : Jok O J) (h : EP O te δ d) : ED O J te δ d := h.em j
theorem ed_is {e : PyData} (h : ED O J te δ d) (q : d = e) : ED O J te δ e := q ▸ h
theorem td_of {b : Bool} (j : Jok O J) (h : TP O tt δ b) : TD O J tt δ b := h.tm j
theorem ed_op {r : R2} (j : Jok O J) (ha : ED O J ta δ x) (hb : ED O J tb δ y) (hr : RP O r x y z) : ED O J (tOp r ta tb) δ z :=
  em_op (Pb := fun a b H => a = x ∧ b = y ∧ J H) ha (fun a => fun σ H hJ hD hS Q k => hb σ H hJ.2 hD hS Q fun e v H' p => k e v H' ⟨hJ.1, p.1, p.2⟩)
    fun a b H p => ⟨z, by rw [p.1, p.2.1]; exact hr, fun H' hD e => ⟨rfl, j.ex hD e p.2.2⟩⟩
/-- an item of the own list -/
theorem ed_ixO {vs : List V} {k : Int} {m : Nat} {v : V} (j : Jok O J) (hs : δ.getD i .no = .at l) (hl : ∀ H, J H → H l = some (.lst vs)) (hb : ED O J tb δ (.int k)) (hk : ixN vs.length k = some m) (hv : vs[m]? = some v) (hd : ∀ H, Dt H d v) :
    ED O J (tOp (rIx K) (tVar i) tb) δ d := fun σ H hJ hD hS Q q =>
  ⟨.ref l, hS.loc hs, hb σ H hJ hD hS _ fun e w H1 p d1 e1 hw => Or.inl ⟨l, vs, k, v, rfl, by rw [p.1] at hw; exact hw, SqL.of (hl H1 p.2), by unfold atI; rw [hk]; exact hv, q d v H1 ⟨rfl, p.2⟩ d1 e1 (hd _)⟩⟩
theorem ed_lenO {vs : List V} (hs : δ.getD i .no = .at l) (hl : ∀ H, J H → H l = some (.lst vs)) :
    ED O J (tCB (fun xs H Q => ∃ x n, xs = [x] ∧ LenV K x H n ∧ Q (V.int ↑n) H) (tCons (tVar i) tNil)) δ (.int vs.length) := fun σ H hJ hD hS Q q =>
  ⟨.ref l, hS.loc hs, .ref l, vs.length, rfl, Or.inl ⟨vs, SqL.of (hl H hJ), rfl⟩, q _ _ H ⟨rfl, hJ⟩ hD (Ex.refl _) rfl⟩
theorem ed_abs {n : Int} (h : ED O J te δ (.int n)) : ED O J (tCB (fun xs H Q => ∃ i, xs = [.int i] ∧ Q (.int (if i < 0 then -i else i)) H) (tCons te tNil)) δ (.int (if n < 0 then -n else n)) := fun σ H hJ hD hS Q q =>
  h σ H hJ hD hS _ fun e w H1 p d1 e1 hw => by
    rw [p.1] at hw
    exact ⟨n, by rw [show w = .int n from hw], q _ _ H1 ⟨rfl, p.2⟩ d1 e1 rfl⟩
theorem td_test {b : Bool} (h : ED O J te δ (.bool b)) : TD O J (tTest te) δ b := fun σ H hJ hD hS Q q =>
  h σ H hJ hD hS _ fun e w H1 p d1 e1 hw => by
    rw [p.1] at hw
    exact ⟨b, hw, q b H1 ⟨rfl, p.2⟩ d1 e1⟩
theorem dm_ifD {b : Bool} (h : TD O J tt δ b) (h1 : b = true → DM O J t δ N R) (h2 : b = false → DM O J u δ N R) : DM O J (tIfS tt t u) δ N R :=
  dm_if h (dm_fact fun q => h1 q.symm) (dm_fact fun q => h2 q.symm)
theorem dm_asgD (h : ED O J te δ d) (k : ∀ H, J H → N (δ.set i (.d d)) H) : DM O J (tAsg te (gName i)) δ N R := dm_asg h fun x H p => by rw [p.1]; exact k H p.2
/-- an own list's item is set -/
theorem dm_setO {vs : List V} {k : Int} {m : Nat} {v : V} (he : ED O J te δ x) (hs : δ.getD i .no = .at l) (hi : ED O J ti δ (.int k)) (hl : ∀ H, J H → H l = some (.lst vs)) (hO : l ∈ O) (hk : ixN vs.length k = some m) (hx : ∀ H w, Dt H x w → w = v)
    (q : ∀ H, J H → N δ (upd H l (.lst (vs.set m v)))) : DM O J (tAsg te (gSub (tVar i) ti rSetL)) δ N R := fun σ H D hJ hD hS kn kr =>
  he σ H hJ hD hS _ fun e w H1 p d1 e1 hw => ⟨.ref l, (hS.mono e1).loc hs, hi σ H1 p.2 d1 (hS.mono e1) _ fun e2 w2 H2 p2 d2 ex2 hw2 => by
    rw [p2.1] at hw2
    rw [p.1] at hw
    have hwv := hx _ _ hw
    subst hwv
    refine ⟨l, vs, k, m, rfl, hw2, hl H2 p2.2, hk, ?_⟩
    have ex3 : Ex (hid O H2) (hid O (upd H2 l (.lst (vs.set m w)))) := fun a o z => by
      obtain ⟨z1, z2⟩ := hid_some z
      rw [hid_out z1, upd_ne (fun q => z1 (by rw [q]; exact hO))]
      exact z2
    refine kn δ σ _ (q H2 p2.2) (fun a ha => ?_) ((e1.trans ex2).trans ex3) (hS.mono ((e1.trans ex2).trans ex3))
    by_cases c : a = l
    · rw [c, upd_same]; simp
    · rw [upd_ne c]; exact d2 a ha⟩
end
/-! ### the purse -/
structure Pu (p c : Addr) (B : Nat) (H : Hp) : Prop where
  ex : ∃ (ns : List Int) (t : Int), H p = some (.lst [.ref c, .int t]) ∧ H c = some (.lst (ns.map V.int)) ∧ 1 ≤ ns.length ∧ ns.length ≤ 63 ∧ 0 ≤ t ∧ t ≤ B ∧ ∀ n ∈ ns, n.natAbs < 2 ^ 4000
  ne : p ≠ c
theorem Pu.jok {p c : Addr} {B : Nat} {O : List Addr} (hp : p ∈ O) (hc : c ∈ O) : Jok O (Pu p c B) := fun H H' e _ ⟨⟨ns, t, h1, h2, h3⟩, ne⟩ => ⟨⟨ns, t, by rw [e p hp]; exact h1, by rw [e c hc]; exact h2, h3⟩, ne⟩
theorem Pu.mono {p c : Addr} {B B' : Nat} {H : Hp} (h : Pu p c B H) (k : B ≤ B') : Pu p c B' H := by
  obtain ⟨⟨ns, t, h1, h2, h3, h4, h5, h6, h7⟩, ne⟩ := h
  exact ⟨⟨ns, t, h1, h2, h3, h4, h5, by omega, h7⟩, ne⟩
theorem Pu.dom {p c : Addr} {B : Nat} {H : Hp} (h : Pu p c B H) : Dom [p, c] H := fun a ha => by
  obtain ⟨⟨ns, t, h1, h2, _⟩, ne⟩ := h
  simp only [List.mem_cons, List.not_mem_nil, or_false] at ha
  rcases ha with rfl | rfl
  · rw [h1]; simp
  · rw [h2]; simp
/-- a heap in which but the purse is kept -/
def Kp (p c : Addr) (H H' : Hp) : Prop := ∀ a o, a ≠ p → a ≠ c → H a = some o → H' a = some o
theorem Kp.refl (p c : Addr) (H : Hp) : Kp p c H H := fun _ _ _ _ h => h
theorem Kp.trans {p c : Addr} {H H1 H2 : Hp} (a : Kp p c H H1) (b : Kp p c H1 H2) : Kp p c H H2 := fun x o h1 h2 h => b x o h1 h2 (a x o h1 h2 h)
theorem Kp.of {p c : Addr} {H H' : Hp} (e : Ex H H') : Kp p c H H' := fun a o _ _ h => e a o h
theorem Kp.hid {p c : Addr} {O : List Addr} {H H' : Hp} (k : Kp p c H H') (hp : p ∈ O) (hc : c ∈ O) : Ex (Cp.hid O H) (Cp.hid O H') := fun a o q => by
  obtain ⟨h1, h2⟩ := hid_some q
  rw [hid_out h1]
  exact k a o (fun z => h1 (by rw [z]; exact hp)) (fun z => h1 (by rw [z]; exact hc)) h2
/-- _law_draw(purse, n) -/
def spDraw : Sp := fun vs H Q _ => ∃ (p c : Addr) (B : Nat) (n : Int), vs = [.ref p, .int n] ∧ Pu p c B H ∧ 1 ≤ n ∧ n.natAbs < 2 ^ 4000 ∧ B ≤ 1000000 ∧
  ∀ r H', 0 ≤ r → r < n → Kp p c H H' → Pu p c (B + 1) H' → Q (.int r) H'
section
variable {O : List Addr} {J : Hp → Prop} {K : PySem.W.Frag} {δ : List Sl} {te : TE} {p c : Addr} {B : Nat} {i : Nat} {E : XK}
/-- a draw, with what else is owned (J, which hangs not on the purse) -/
theorem em_draw {n : Int} (hp : p ∈ O) (hc : c ∈ O) (hs : δ.getD i .no = .at p) (hn : ED O (fun H => Pu p c B H ∧ J H) te δ (.int n)) (h1 : 1 ≤ n) (hz : n.natAbs < 2 ^ 4000) (hB : B ≤ 1000000)
    (hJ : ∀ H H', Kp p c H H' → J H → J H') : EM O (fun H => Pu p c B H ∧ J H) (tCall spDraw [] E (tCons (tVar i) (tCons te tNil))) δ (fun d H => (∃ r, d = .int r ∧ 0 ≤ r ∧ r < n) ∧ Pu p c (B + 1) H ∧ J H) := fun σ H hj hD hS Q k =>
  ⟨.ref p, hS.loc hs, hn σ H hj hD hS _ fun e w H1 q d1 e1 hw => by
    rw [q.1] at hw
    refine ⟨p, c, B, n, by rw [show w = .int n from hw]; rfl, q.2.1, h1, hz, hB, fun r H2 r0 r1 kp pu => ?_⟩
    refine k (.int r) _ H2 ⟨⟨r, rfl, r0, r1⟩, pu, hJ H1 H2 kp q.2.2⟩ (fun a ha => ?_) (e1.trans (kp.hid hp hc)) rfl
    by_cases e1 : a = p
    · obtain ⟨⟨_, _, z, _⟩, _⟩ := pu
      rw [e1, z]; simp
    by_cases e2 : a = c
    · obtain ⟨⟨_, _, _, z, _⟩, _⟩ := pu
      rw [e2, z]; simp
    cases z : H1 a with
    | none => exact absurd z (d1 a ha)
    | some o => rw [kp a o e1 e2 z]; simp⟩
end
/-! ### a for whose walk leans on what is owned -/
section
variable {O : List Addr} {J : Hp → Prop} {K : PySem.W.Frag} {δ : List Sl} {te : TE} {tb : TS} {N : List Sl → Hp → Prop} {R : V → Hp → Prop} {d : PyData}
def WJ (O : List Addr) (J : Hp → Prop) (wi : TI) (δ : List Sl) (n : Nat) (item : Nat → PyData) : Prop := ∀ σ H, J H → Dom O H → SD (hid O H) δ σ → ∀ R : It → Hp → Prop,
  (∀ Ji H1, J H1 → Dom O H1 → Ex (hid O H) (hid O H1) → Walk Ji n (fun H' => Ex (hid O H1) H') (fun i H' v H'' => Ex H' H'' ∧ ∀ O', Ex (hid O H1) (hid O' H') → Dom O' H' → Dt (hid O' H'') (item i) v) → R Ji H1) → wi σ H R
theorem WP.wj {wi : TI} {n : Nat} {item : Nat → PyData} (j : Jok O J) (h : WP O wi δ n item) : WJ O J wi δ n item := fun σ H hJ hD hS R k =>
  h σ H hD hS R fun Ji H1 e w => k Ji H1 (j.ex hD e hJ) (hD.ex e) (hid_ex e) w
theorem wj_rng1 {ta : TA} {n : Int} (h : AD O J ta δ [.int n]) (hb : 0 ≤ n ∧ n ≤ 100000) : WJ O J (iRng1 ta) δ n.toNat (fun i => .int i) := fun σ H hJ hD hS R k =>
  h σ H hJ hD hS _ fun ds vs H1 p d1 e1 hv => by
    rw [p.1] at hv
    obtain ⟨v, r, rfl, q1, q2⟩ := hv
    cases q1; cases q2
    refine ⟨n, rfl, by omega, by omega, k _ H1 p.2 d1 e1 (walk_rng.mono (fun _ _ => trivial) fun i H' v H'' hi g y => ?_)⟩
    obtain ⟨rfl, rfl⟩ := y
    exact ⟨Ex.refl _, fun _ _ _ => by show V.int ((0 : Int) + i) = V.int i; rw [Int.zero_add]⟩
theorem ad_one (h : ED O J te δ d) : AD O J (tCons te tNil) δ [d] := fun σ H hJ hD hS Q q =>
  h σ H hJ hD hS _ fun e w H1 p d1 e1 hw => q [d] [w] H1 ⟨rfl, p.2⟩ d1 e1 (DtAll.one (by
    have z := hw
    rw [p.1] at z
    exact z))
theorem dm_run {t : TS} {D : Ends} {σ : L2.St} {H : Hp} (h : DM O J t δ N R) (hJ : J H) (hD : Dom O H) (hS : SD (hid O H) δ σ) (kn : ∀ δ' σ' H', N δ' H' → Dom O H' → Ex (hid O H) (hid O H') → SD (hid O H') δ' σ' → D.nx σ' H')
    (kr : ∀ v H', R v H' → Dom O H' → Ex (hid O H) (hid O H') → D.rt v H') : t D σ H := h σ H D hJ hD hS kn kr
theorem dm_ex {α : Type} {J : α → Hp → Prop} {t : TS} (h : ∀ x, DM O (J x) t δ N R) : DM O (fun H => ∃ x, J x H) t δ N R := fun σ H D ⟨x, hJ⟩ hD hS kn kr => h x σ H D hJ hD hS kn kr
theorem dm_forJ {wi : TI} {g : TG} {n : Nat} {item : Nat → PyData} {ix : List Nat} (hw : WJ O J wi δ n item) (Iv : Nat → List Sl → Hp → Prop) (h0 : ∀ H, J H → Iv 0 δ H)
    (hs : ∀ i δ1 H1, i < n → Iv i δ1 H1 → ∃ δ2 J1, GB O g (item i) δ1 δ2 ix ∧ J1 H1 ∧ Jok O J1 ∧ DM O J1 tb δ2 (Iv (i + 1)) R) (hd : ∀ δ1 H1, Iv n δ1 H1 → N δ1 H1) : DM O J (tFor wi g tb) δ N R := fun σ H D hJ0 hD hS kn kr =>
  hw σ H hJ0 hD hS _ fun Ji H1 j1 dd1 e1 w => by
    refine for_it w (fun i σ' H' => ∃ δ1, Iv i δ1 H' ∧ SD (hid O H') δ1 σ' ∧ Ex (hid O H1) (hid O H') ∧ Dom O H') ⟨δ, h0 H1 j1, hS.mono e1, Ex.refl _, dd1⟩
      (fun i σ' H' _ p => by obtain ⟨δ1, _, _, e, dd⟩ := p; exact e.trans hid_le) (fun i v σ' H' H2 hi p y => ?_) fun σ' H' p => ?_
    · obtain ⟨δ1, hI, hs1, e2, d2⟩ := p
      obtain ⟨e3, hv⟩ := y
      obtain ⟨δ2, J1, hg, j1, jk, hb⟩ := hs i δ1 H' hi hI
      refine hg σ' H2 v (d2.ex e3) (hs1.mono (hid_ex e3)) (hv O e2 d2) _ fun σ2 s2 _ _ => ?_
      exact hb σ2 H2 _ (jk.ex d2 e3 j1) (d2.ex e3) s2 (fun δ3 σ3 H3 n3 d3 e4 s3 => ⟨δ3, n3, s3, (e2.trans (hid_ex e3)).trans e4, d3⟩) fun v' H3 r3 d3 e4 => kr v' H3 r3 d3 (((e1.trans e2).trans (hid_ex e3)).trans e4)
    · obtain ⟨δ1, hI, hs1, e2, d2⟩ := p
      exact kn δ1 σ' H' (hd δ1 H' hI) d2 (e1.trans e2) hs1
end
/-! ### numbers -/
theorem cmul {i j : Int} {a b : Nat} (ha : i.natAbs < 2 ^ a) (hb : j.natAbs < 2 ^ b) (h0 : 0 < a := by decide) (h1 : 0 < b := by decide) (h : a + b ≤ 1000000 := by decide) : CMulW i j := wide_mul ha hb h0 h1 h
theorem fmod_pos {a b : Int} (h : 0 < b) : 0 ≤ a.fmod b ∧ a.fmod b < b := by
  rw [Int.fmod_eq_emod_of_nonneg a (by omega)]
  exact ⟨Int.emod_nonneg a (by omega), Int.emod_lt_of_pos a h⟩
theorem nat_lt {a : Int} {n : Nat} (h0 : 0 ≤ a) (h : a < (2 ^ n : Nat)) : a.natAbs < 2 ^ n := by omega
theorem hid_nil {H : Hp} : hid [] H = H := by
  funext a
  exact hid_out (by simp)
theorem shaped_ints (ns : List Int) : SeqAt.shaped (.list (ns.map PyData.int)) = true := by
  have h1 : ∀ l : List Int, PyData.canLayAll0 (l.map PyData.int) = true := fun l => by
    induction l with
    | nil => simp [PyData.canLayAll0]
    | cons a l ih => simp [PyData.canLayAll0, PyData.canLay0, ih]
  have h2 : ∀ l : List Int, PyData.depthAll (l.map PyData.int) = 0 := fun l => by
    induction l with
    | nil => simp [PyData.depthAll]
    | cons a l ih => simp [PyData.depthAll, PyData.depth, ih]
  show (PyData.canLay0 (.list _) && decide (PyData.depth (.list _) ≤ 64)) = true
  simp [PyData.canLay0, PyData.depth, h1, h2]
theorem eqv_nil (ds : List PyData) : PyData.eqv (.list ds) (.list []) = ds.isEmpty := by
  cases ds <;> simp [PyData.eqv, PyData.eqvAll]
/-! ### own lists of data -/
def Own (O : List Addr) (l : Addr) (ds : List PyData) (H : Hp) : Prop := ∃ vs, H l = some (.lst vs) ∧ DtAll (hid O H) ds vs
theorem Own.jok {O : List Addr} {l : Addr} {ds : List PyData} (hl : l ∈ O) : Jok O (Own O l ds) := fun H H' e ex ⟨vs, h1, h2⟩ => ⟨vs, by rw [e l hl]; exact h1, h2.mono ex⟩
theorem Own.kp {O : List Addr} {l p c : Addr} {ds : List PyData} {H H' : Hp} (hp : p ∈ O) (hc : c ∈ O) (n1 : l ≠ p) (n2 : l ≠ c) (k : Kp p c H H') (h : Own O l ds H) : Own O l ds H' := by
  obtain ⟨vs, h1, h2⟩ := h
  exact ⟨vs, k l _ n1 n2 h1, h2.mono (k.hid hp hc)⟩
theorem jok_and {O : List Addr} {J1 J2 : Hp → Prop} (a : Jok O J1) (b : Jok O J2) : Jok O (fun H => J1 H ∧ J2 H) := fun H H' e ex h => ⟨a H H' e ex h.1, b H H' e ex h.2⟩
theorem jok_fact {O : List Addr} {p : Prop} {J1 : Hp → Prop} (b : Jok O J1) : Jok O (fun H => p ∧ J1 H) := fun H H' e ex h => ⟨h.1, b H H' e ex h.2⟩
theorem hid_set {O : List Addr} {l : Addr} {o : HO} {H : Hp} (h : l ∈ O) : hid O (upd H l o) = hid O H := by
  funext a
  by_cases ha : a ∈ O
  · rw [hid_in ha, hid_in ha]
  · rw [hid_out ha, hid_out ha, upd_ne (fun z => ha (by rw [z]; exact h))]
section
variable {O : List Addr} {J : Hp → Prop} {K : PySem.W.Frag} {δ : List Sl} {te ti ta : TE} {N : List Sl → Hp → Prop} {R : V → Hp → Prop} {l : Addr} {i : Nat} {ds : List PyData} {d : PyData}
theorem dom_upd {H : Hp} {o : HO} (h : Dom O H) : Dom O (upd H l o) := fun a ha => by
  by_cases c : a = l
  · rw [c, upd_same]; simp
  · rw [upd_ne c]; exact h a ha
/-- l.append(e) -/
theorem dm_append {P : PyData → Hp → Prop} (he : EM O J te δ P) (hs : δ.getD i .no = .at l) (hO : l ∈ O) (h0 : ∀ H, J H → ∃ vs, H l = some (.lst vs)) (hown : ∀ d H, P d H → Own O l ds H) (hz : ds.length < 100000)
    (k : ∀ d H H', P d H → (∀ a, a ≠ l → H' a = H a) → Own O l (ds ++ [d]) H' → N δ H') : DM O J (tDrop (tBM K "list" rAppend (tVar i) (tCons te tNil))) δ N R := fun σ H D hJ hD hS kn kr => by
  obtain ⟨vs0, q0⟩ := h0 H hJ
  refine ⟨.ref l, hS.loc hs, Or.inl ⟨rfl, vs0, SqL.of q0⟩, he σ H hJ hD hS _ fun d v H1 p d1 e1 hv => ?_⟩
  obtain ⟨vs, q1, q2⟩ := hown d H1 p
  refine ⟨l, vs, v, rfl, rfl, q1, by rw [q2.length]; exact Evl.sz_lt hz, ?_⟩
  have hh := hid_set (H := H1) (o := .lst (vs ++ [v])) hO
  refine kn δ σ _ (k d H1 _ p (fun a ha => upd_ne ha) ⟨vs ++ [v], upd_same, by rw [hh]; exact q2.append (DtAll.one hv)⟩) (dom_upd d1) (by rw [hh]; exact e1) (by rw [hh]; exact hS.mono e1)
/-- l.insert(draw, e) -/
theorem dm_insert {P : PyData → Hp → Prop} (hi : EM O J ti δ P) (he : EP O te δ d) (hs : δ.getD i .no = .at l) (hO : l ∈ O) (h0 : ∀ H, J H → ∃ vs, H l = some (.lst vs)) (hown : ∀ d H, P d H → (∃ r : Int, d = .int r ∧ 0 ≤ r ∧ r < 2 ^ 63) ∧ Own O l ds H) (hz : ds.length < 100000)
    (hP : ∀ d, Jok O (P d)) (k : ∀ r : Int, ∀ H H', P (.int r) H → (∀ a, a ≠ l → H' a = H a) → Own O l (ds.take r.toNat ++ [d] ++ ds.drop r.toNat) H' → N δ H') :
    DM O J (tDrop (tBM K "list" (fun x vs H Q => ∃ (l : Addr) (xs : List V) (i : Int) (y : V), x = .ref l ∧ vs = [.int i, y] ∧ H l = some (.lst xs) ∧ xs.length < sizeLine ∧ 0 ≤ i ∧ i < 2 ^ 63 ∧
      Q .non (upd H l (.lst (xs.take i.toNat ++ [y] ++ xs.drop i.toNat)))) (tVar i) (tCons ti (tCons te tNil)))) δ N R := fun σ H D hJ hD hS kn kr => by
  obtain ⟨vs0, q0⟩ := h0 H hJ
  refine ⟨.ref l, hS.loc hs, Or.inl ⟨rfl, vs0, SqL.of q0⟩, hi σ H hJ hD hS _ fun x w H1 p d1 e1 hw => he σ H1 d1 (hS.mono e1) _ fun v H2 e2 hv => ?_⟩
  obtain ⟨⟨r, rfl, r0, r1⟩, _⟩ := hown x H1 p
  have p2 := (hP _).ex d1 e2 p
  obtain ⟨_, vs, q1, q2⟩ := hown _ H2 p2
  cases hw
  refine ⟨l, vs, r, v, rfl, rfl, q1, by rw [q2.length]; exact Evl.sz_lt hz, r0, r1, ?_⟩
  have hh := hid_set (H := H2) (o := .lst (vs.take r.toNat ++ [v] ++ vs.drop r.toNat)) hO
  refine kn δ σ _ (k r H2 _ p2 (fun a ha => upd_ne ha) ⟨_, upd_same, by rw [hh]; exact ((q2.take _).append (DtAll.one hv)).append (q2.drop _)⟩) (dom_upd (d1.ex e2)) (by rw [hh]; exact e1.trans (hid_ex e2)) (by rw [hh]; exact hS.mono (e1.trans (hid_ex e2)))
/-- a list of data at a drawn place -/
theorem em_ixDraw {p c : Addr} {B : Nat} {n : Int} {E : XK} {te : TE} (hp : p ∈ O) (hc : c ∈ O) (hs : δ.getD i .no = .at p) (jk : Jok O J) (ha : ED O (fun H => Pu p c B H ∧ J H) ta δ (.list ds)) (hn : ED O (fun H => Pu p c B H ∧ J H) te δ (.int n)) (h1 : 1 ≤ n)
    (hz : n.natAbs < 2 ^ 4000) (hds : n ≤ ds.length) (hB : B ≤ 1000000) (hJ : ∀ H H', Kp p c H H' → J H → J H') :
    EM O (fun H => Pu p c B H ∧ J H) (tOp (rIx K) ta (tCall spDraw [] E (tCons (tVar i) (tCons te tNil)))) δ (fun d H => d ∈ ds ∧ Pu p c (B + 1) H ∧ J H) :=
  em_op (Pb := fun a b H => a = .list ds ∧ (∃ r, b = .int r ∧ 0 ≤ r ∧ r < n) ∧ Pu p c (B + 1) H ∧ J H) ha (fun a σ H hj hD hS Q k => em_draw hp hc hs hn h1 hz hB hJ σ H hj.2 hD hS Q fun d v H' q => k d v H' ⟨hj.1, q.1, q.2⟩) fun a b H q => by
    obtain ⟨rfl, ⟨r, rfl, r0, r1⟩, q2⟩ := q
    have hr : r.toNat < ds.length := by omega
    have er : ((r.toNat : Nat) : Int) = r := by omega
    refine ⟨ds[r.toNat], rp_ix1 (rp_ixL (j := r.toNat) (by rw [← er]; exact Evl.ixN_nat hr) (List.getElem?_eq_getElem hr)), fun H' hD e => ⟨List.getElem_mem hr, (jok_and (Pu.jok hp hc) jk).ex hD e q2⟩⟩
end
/-! ### shaped data -/
def Sh (d : PyData) : Prop := d.canLay0 = true ∧ d.depth ≤ 60
theorem Sh.shaped {d : PyData} (h : Sh d) : SeqAt.shaped d = true := by
  have z := h.2
  show (d.canLay0 && decide (d.depth ≤ 64)) = true
  rw [h.1, Bool.true_and]
  exact decide_eq_true (by omega)
theorem lay_mem : ∀ {ds : List PyData} {d : PyData}, PyData.canLayAll0 ds = true → d ∈ ds → d.canLay0 = true
  | x :: ds, d, h, hm => by
    simp only [PyData.canLayAll0, Bool.and_eq_true] at h
    rcases List.mem_cons.mp hm with rfl | hm
    · exact h.1
    · exact lay_mem h.2 hm
theorem depth_mem : ∀ {ds : List PyData} {d : PyData}, d ∈ ds → d.depth ≤ PyData.depthAll ds
  | x :: ds, d, hm => by
    simp only [PyData.depthAll]
    rcases List.mem_cons.mp hm with rfl | hm
    · omega
    · have := depth_mem hm
      omega
theorem sh_list_mem {ds : List PyData} {d : PyData} (h : Sh (.list ds)) (hm : d ∈ ds) : Sh d := by
  obtain ⟨h1, h2⟩ := h
  simp only [PyData.canLay0, PyData.depth] at h1 h2
  have := depth_mem hm
  exact ⟨lay_mem h1 hm, by omega⟩
theorem sh_tuple_mem {ds : List PyData} {d : PyData} (h : Sh (.tuple ds)) (hm : d ∈ ds) : Sh d := by
  obtain ⟨h1, h2⟩ := h
  simp only [PyData.canLay0, PyData.depth] at h1 h2
  have := depth_mem hm
  exact ⟨lay_mem h1 hm, by omega⟩
theorem lay_all : ∀ {ds : List PyData}, (∀ d ∈ ds, d.canLay0 = true) → PyData.canLayAll0 ds = true
  | [], _ => by simp [PyData.canLayAll0]
  | x :: ds, h => by
    simp only [PyData.canLayAll0, Bool.and_eq_true]
    exact ⟨h x (by simp), lay_all fun d hd => h d (by simp [hd])⟩
theorem depth_all {n : Nat} : ∀ {ds : List PyData}, (∀ d ∈ ds, d.depth ≤ n) → PyData.depthAll ds ≤ n
  | [], _ => by simp [PyData.depthAll]
  | x :: ds, h => by
    simp only [PyData.depthAll]
    have h1 := h x (by simp)
    have h2 := depth_all (ds := ds) fun d hd => h d (by simp [hd])
    omega
theorem shaped_list {ds : List PyData} (h : ∀ d ∈ ds, Sh d) : SeqAt.shaped (.list ds) = true := by
  show (PyData.canLay0 (.list ds) && decide (PyData.depth (.list ds) ≤ 64)) = true
  simp only [PyData.canLay0, PyData.depth]
  rw [lay_all fun d hd => (h d hd).1, Bool.true_and]
  have := depth_all (ds := ds) (n := 60) fun d hd => (h d hd).2
  exact decide_eq_true (by omega)
/-! ### more of draws -/
section
variable {O : List Addr} {J : Hp → Prop} {K : PySem.W.Frag} {δ : List Sl} {te ti ta tb : TE} {tb' : TS} {N : List Sl → Hp → Prop} {R : V → Hp → Prop} {l p c : Addr} {i B : Nat} {ds : List PyData} {d : PyData}
theorem am_nil {P : List PyData → Hp → Prop} (h : ∀ H, J H → P [] H) : AM O J tNil δ P := fun σ H hJ hD hS Q k => k [] [] H (h H hJ) hD (Ex.refl _) rfl
theorem am_cons {tr : TA} {P : PyData → Hp → Prop} {P2 : PyData → List PyData → Hp → Prop} (h : EM O J te δ P) (hr : ∀ d, AM O (P d) tr δ (P2 d)) : AM O J (tCons te tr) δ (fun xs H => ∃ d ds, xs = d :: ds ∧ P2 d ds H) := fun σ H hJ hD hS Q k =>
  h σ H hJ hD hS _ fun d v H1 p d1 e1 hv => hr d σ H1 p d1 (hS.mono e1) _ fun ds vs H2 p2 d2 e2 hvs => k (d :: ds) (v :: vs) H2 ⟨d, ds, rfl, p2⟩ d2 (e1.trans e2) ⟨v, vs, rfl, Dt.mono e2 d v hv, hvs⟩
theorem em_lst {t : TA} {P : List PyData → Hp → Prop} {P' : PyData → Hp → Prop} (h : AM O J t δ P) (hl : ∀ ds H, P ds H → ds.length ≤ 100000) (k : ∀ ds H H', P ds H → Dom O H → Ex H H' → P' (.list ds) H') : EM O J (tLst t) δ P' := fun σ H hJ hD hS Q q =>
  h σ H hJ hD hS _ fun ds vs H1 p d1 e1 hv => ⟨by rw [hv.length]; exact Evl.sz_of (hl ds H1 p), fun a ha => q (.list ds) (.ref a) _ (k ds H1 _ p d1 (Ex.new ha)) (d1.ex (Ex.new ha)) (e1.trans (hid_ex (Ex.new ha)))
    ⟨a, vs, rfl, by rw [hid_out (d1.fresh ha)]; exact upd_same, hv.mono (hid_ex (Ex.new ha))⟩⟩
theorem em_tup {t : TA} {P : List PyData → Hp → Prop} {P' : PyData → Hp → Prop} (h : AM O J t δ P) (hl : ∀ ds H, P ds H → ds.length ≤ 100000) (k : ∀ ds H H', P ds H → Dom O H → Ex H H' → P' (.tuple ds) H') : EM O J (tTup t) δ P' := fun σ H hJ hD hS Q q =>
  h σ H hJ hD hS _ fun ds vs H1 p d1 e1 hv => ⟨by rw [hv.length]; exact Evl.sz_of (hl ds H1 p), fun a ha => q (.tuple ds) (.ref a) _ (k ds H1 _ p d1 (Ex.new ha)) (d1.ex (Ex.new ha)) (e1.trans (hid_ex (Ex.new ha)))
    ⟨a, vs, rfl, by rw [hid_out (d1.fresh ha)]; exact upd_same, hv.mono (hid_ex (Ex.new ha))⟩⟩
/-- a drawn place of a list of which S tells -/
theorem em_ixDraw2 {J0 : Hp → Prop} {S : List PyData → Prop} {n : Int} {E : XK} (hp : p ∈ O) (hc : c ∈ O) (hs : δ.getD i .no = .at p) (jk : Jok O J) (ha : EM O J0 ta δ (fun d H => ∃ ds, d = .list ds ∧ S ds ∧ Pu p c B H ∧ J H)) (hn : ED O (fun H => Pu p c B H ∧ J H) te δ (.int n)) (h1 : 1 ≤ n)
    (hz : n.natAbs < 2 ^ 4000) (hds : ∀ ds, S ds → n ≤ ds.length) (hB : B ≤ 1000000) (hJ : ∀ H H', Kp p c H H' → J H → J H') :
    EM O J0 (tOp (rIx K) ta (tCall spDraw [] E (tCons (tVar i) (tCons te tNil)))) δ (fun d H => (∃ ds, S ds ∧ d ∈ ds) ∧ Pu p c (B + 1) H ∧ J H) :=
  em_op (Pb := fun a b H => ∃ ds, (a = .list ds ∧ S ds) ∧ (∃ r, b = .int r ∧ 0 ≤ r ∧ r < n) ∧ Pu p c (B + 1) H ∧ J H) ha (fun a σ H hj hD hS Q k => by
    obtain ⟨ds, h1', h2', h3'⟩ := hj
    exact em_draw hp hc hs hn h1 hz hB hJ σ H h3' hD hS Q fun d v H' q => k d v H' ⟨ds, ⟨h1', h2'⟩, q.1, q.2⟩) fun a b H q => by
    obtain ⟨ds, ⟨rfl, hS⟩, ⟨r, rfl, r0, r1⟩, q2⟩ := q
    have := hds ds hS
    have hr : r.toNat < ds.length := by omega
    have er : ((r.toNat : Nat) : Int) = r := by omega
    refine ⟨ds[r.toNat], rp_ix1 (rp_ixL (j := r.toNat) (by rw [← er]; exact Evl.ixN_nat hr) (List.getElem?_eq_getElem hr)), fun H' hD e => ⟨⟨ds, hS, List.getElem_mem hr⟩, (jok_and (Pu.jok hp hc) jk).ex hD e q2⟩⟩
/-- a drawn place of an own list -/
theorem em_ixOwnDraw {J2 : Hp → Prop} {i2 : Nat} {n : Int} {E : XK} (hp : p ∈ O) (hc : c ∈ O) (lO : l ∈ O) (n1 : l ≠ p) (n2 : l ≠ c) (hs : δ.getD i .no = .at p) (hs2 : δ.getD i2 .no = .at l) (jk : Jok O J2)
    (hn : ED O (fun H => Pu p c B H ∧ Own O l ds H ∧ J2 H) te δ (.int n)) (h1 : 1 ≤ n) (hz : n.natAbs < 2 ^ 4000) (hds : n ≤ ds.length) (hB : B ≤ 1000000) (hJ : ∀ H H', Kp p c H H' → J2 H → J2 H') :
    EM O (fun H => Pu p c B H ∧ Own O l ds H ∧ J2 H) (tOp (rIx K) (tVar i2) (tCall spDraw [] E (tCons (tVar i) (tCons te tNil)))) δ (fun d H => d ∈ ds ∧ Pu p c (B + 1) H ∧ Own O l ds H ∧ J2 H) := fun σ H hj hD hS Q k =>
  ⟨.ref l, hS.loc hs2, em_draw (J := fun H => Own O l ds H ∧ J2 H) hp hc hs hn h1 hz hB (fun H H' kp z => ⟨Own.kp hp hc n1 n2 kp z.1, hJ H H' kp z.2⟩) σ H hj hD hS _ fun x w H1 q d1 e1 hw => by
    obtain ⟨⟨r, rfl, r0, r1⟩, q2⟩ := q
    cases hw
    obtain ⟨vs, o1, o2⟩ := id q2.2.1
    have hr : r.toNat < ds.length := by omega
    have er : ((r.toNat : Nat) : Int) = r := by omega
    obtain ⟨u, u1, u2⟩ := o2.get (List.getElem?_eq_getElem hr)
    exact Or.inl ⟨l, vs, r, u, rfl, rfl, SqL.of o1, by unfold atI; rw [o2.length, ← er, Evl.ixN_nat hr]; exact u1, k _ u H1 ⟨List.getElem_mem hr, q2⟩ d1 e1 u2⟩⟩
theorem ed_lenOwn {J0 : Hp → Prop} (hs : δ.getD i .no = .at l) (hl : ∀ H, J H → Own O l ds H) :
    ED O J (tCB (fun xs H Q => ∃ x n, xs = [x] ∧ LenV K x H n ∧ Q (V.int ↑n) H) (tCons (tVar i) tNil)) δ (.int ds.length) := fun σ H hJ hD hS Q q => by
  obtain ⟨vs, o1, o2⟩ := hl H hJ
  exact ⟨.ref l, hS.loc hs, .ref l, vs.length, rfl, Or.inl ⟨vs, SqL.of o1, rfl⟩, q _ _ H ⟨rfl, hJ⟩ hD (Ex.refl _) (by rw [o2.length]; rfl)⟩
/-- a for whose number of turns is drawn -/
def WE (O : List Addr) (J : Hp → Prop) (wi : TI) (δ : List Sl) (P : Nat → Hp → Prop) (item : Nat → PyData) : Prop := ∀ σ H, J H → Dom O H → SD (hid O H) δ σ → ∀ R : It → Hp → Prop,
  (∀ n Ji H1, P n H1 → Dom O H1 → Ex (hid O H) (hid O H1) → Walk Ji n (fun H' => Ex (hid O H1) H') (fun i H' v H'' => Ex H' H'' ∧ ∀ O', Ex (hid O H1) (hid O' H') → Dom O' H' → Dt (hid O' H'') (item i) v) → R Ji H1) → wi σ H R
theorem we_rng {P : Nat → Hp → Prop} {P0 : PyData → Hp → Prop} (h : EM O J te δ P0) (hp : ∀ d H, P0 d H → ∃ n : Nat, d = .int n ∧ n ≤ 100000 ∧ P n H) : WE O J (iRng1 (tCons te tNil)) δ P (fun i => .int i) := fun σ H hJ hD hS R k =>
  h σ H hJ hD hS _ fun d v H1 p d1 e1 hv => by
    obtain ⟨n, rfl, hn, pn⟩ := hp d H1 p
    cases hv
    refine ⟨(n : Int), rfl, by omega, by omega, k n _ H1 pn d1 e1 (walk_rng.mono (fun _ _ => trivial) fun i H' v H'' hi g y => ?_)⟩
    obtain ⟨rfl, rfl⟩ := y
    exact ⟨Ex.refl _, fun _ _ _ => by show V.int ((0 : Int) + i) = V.int i; rw [Int.zero_add]⟩
theorem dm_forE {wi : TI} {g : TG} {P : Nat → Hp → Prop} {item : Nat → PyData} {ix : List Nat} (hw : WE O J wi δ P item) (Iv : Nat → Nat → List Sl → Hp → Prop) (h0 : ∀ n H, P n H → Iv n 0 δ H)
    (hs : ∀ n i δ1 H1, i < n → Iv n i δ1 H1 → ∃ δ2 J1, GB O g (item i) δ1 δ2 ix ∧ J1 H1 ∧ Jok O J1 ∧ DM O J1 tb' δ2 (Iv n (i + 1)) R) (hd : ∀ n δ1 H1, Iv n n δ1 H1 → N δ1 H1) : DM O J (tFor wi g tb') δ N R := fun σ H D hJ0 hD hS kn kr =>
  hw σ H hJ0 hD hS _ fun n Ji H1 j1 dd1 e1 w => by
    refine for_it w (fun i σ' H' => ∃ δ1, Iv n i δ1 H' ∧ SD (hid O H') δ1 σ' ∧ Ex (hid O H1) (hid O H') ∧ Dom O H') ⟨δ, h0 n H1 j1, hS.mono e1, Ex.refl _, dd1⟩
      (fun i σ' H' _ p => by obtain ⟨δ1, _, _, e, dd⟩ := p; exact e.trans hid_le) (fun i v σ' H' H2 hi p y => ?_) fun σ' H' p => ?_
    · obtain ⟨δ1, hI, hs1, e2, d2⟩ := p
      obtain ⟨e3, hv⟩ := y
      obtain ⟨δ2, J1, hg, j1, jk, hb⟩ := hs n i δ1 H' hi hI
      refine hg σ' H2 v (d2.ex e3) (hs1.mono (hid_ex e3)) (hv O e2 d2) _ fun σ2 s2 _ _ => ?_
      exact hb σ2 H2 _ (jk.ex d2 e3 j1) (d2.ex e3) s2 (fun δ3 σ3 H3 n3 d3 e4 s3 => ⟨δ3, n3, s3, (e2.trans (hid_ex e3)).trans e4, d3⟩) fun v' H3 r3 d3 e4 => kr v' H3 r3 d3 (((e1.trans e2).trans (hid_ex e3)).trans e4)
    · obtain ⟨δ1, hI, hs1, e2, d2⟩ := p
      exact kn δ1 σ' H' (hd n δ1 H' hI) d2 (e1.trans e2) hs1
theorem dm_run2 {t : TS} {D : Ends} {σ : L2.St} {H : Hp} (h : DM O J t δ N (fun _ _ => False)) (hJ : J H) (hD : Dom O H) (hS : SD (hid O H) δ σ) (kn : ∀ δ' σ' H', N δ' H' → Dom O H' → Ex (hid O H) (hid O H') → SD (hid O H') δ' σ' → D.nx σ' H') : t D σ H :=
  h σ H D hJ hD hS kn fun _ _ z => z.elim
theorem Pu.same {H H' : Hp} (h : Pu p c B H) (e : ∀ a, a ≠ l → H' a = H a) (n1 : l ≠ p) (n2 : l ≠ c) : Pu p c B H' := by
  obtain ⟨⟨ns, t, h1, h2, h3⟩, ne⟩ := h
  exact ⟨⟨ns, t, by rw [e p n1.symm]; exact h1, by rw [e c n2.symm]; exact h2, h3⟩, ne⟩
end
/-- slots told one by one -/
theorem sd_cons {H : Hp} {s : Sl} {o : Option V} {δ : List Sl} {σ : L2.St} (h : SlOk H s o) (k : SD H δ σ) : SD H (s :: δ) (o :: σ) := ⟨by simp [k.1], fun i => match i with
  | 0 => h
  | n + 1 => k.2 n⟩
theorem sd_nil {H : Hp} : SD H [] [] := ⟨rfl, fun _ => trivial⟩
/-- a new own list -/
theorem own_new {O : List Addr} {H : Hp} {l : Addr} (hD : Dom O H) (hl : H l = none) : Dom (l :: O) (upd H l (.lst [])) ∧ Ex (hid O H) (hid (l :: O) (upd H l (.lst []))) ∧ Own (l :: O) l [] (upd H l (.lst [])) ∧ l ∉ O := by
  have lO : l ∉ O := hD.fresh hl
  refine ⟨fun a ha => ?_, fun a o q => ?_, ⟨[], upd_same, rfl⟩, lO⟩
  · by_cases q : a = l
    · rw [q, upd_same]; simp
    · rw [upd_ne q]
      rcases List.mem_cons.mp ha with z | z
      · exact absurd z q
      · exact hD a z
  · obtain ⟨q1, q2⟩ := hid_some q
    have : a ≠ l := fun z => by rw [z, hl] at q2; cases q2
    rw [hid_out (by simp [this, q1]), upd_ne this]
    exact q2
/-- an own list is let go: it is data from now on -/
theorem own_data {O : List Addr} {H : Hp} {l : Addr} {ds : List PyData} (lO : l ∉ O) (h : Own (l :: O) l ds H) : Dt (hid O H) (.list ds) (.ref l) ∧ Ex (hid (l :: O) H) (hid O H) := by
  have e : Ex (hid (l :: O) H) (hid O H) := fun a o q => by
    obtain ⟨q1, q2⟩ := hid_some q
    rw [hid_out (fun z => q1 (by simp [z]))]
    exact q2
  obtain ⟨vs, h1, h2⟩ := h
  exact ⟨⟨l, vs, rfl, by rw [hid_out lO]; exact h1, h2.mono e⟩, e⟩
end Cp
/-! Cameposts: data of bounded size and depth, and draws among them -/
namespace Cp
open PySem L2 PySem.Spec PyProof.Rows
open Evl (Ex)
structure Bn (D W : Nat) (d : PyData) : Prop where
  lay : d.canLay0 = true
  sho : d.showable = true
  nod : d.hasDict = false
  lea : d.leavesShort 40 = true
  dep : d.depth ≤ D
  wei : d.weight ≤ W
theorem Bn.mono {D W D' W' : Nat} {d : PyData} (h : Bn D W d) (h1 : D ≤ D') (h2 : W ≤ W') : Bn D' W' d := ⟨h.lay, h.sho, h.nod, h.lea, Nat.le_trans h.dep h1, Nat.le_trans h.wei h2⟩
theorem Bn.sh {D W : Nat} {d : PyData} (h : Bn D W d) (h1 : D ≤ 60) : Sh d := ⟨h.lay, Nat.le_trans h.dep h1⟩
theorem Bn.shows {D W : Nat} {d : PyData} (h : Bn D W d) (h1 : D ≤ 60) (h2 : W ≤ 399000) : Shows d := by
  refine ⟨h.sho, h.nod, Nat.le_trans h.dep h1, ?_⟩
  have z := PyData.shown_le 40 (by decide) d h.lea
  have z2 : (40 + 2) * d.weight ≤ (40 + 2) * 399000 := Nat.mul_le_mul (Nat.le_refl _) (Nat.le_trans h.wei h2)
  have z3 : sizeLine = 16777216 := by decide
  omega
theorem bn_int {i : Int} (h : -1000000000000000000000000 ≤ i ∧ i ≤ 1000000000000000000000000) : Bn 0 84 (.int i) := by
  have h2 : i.natAbs < 2 ^ 84 := by
    have e : (2 : Nat) ^ 84 = 19342813113834066795298816 := by decide
    omega
  have h3 : i.natAbs.log2 < 84 := PySem.Flt.log2_lt_of (by decide) h2
  refine ⟨by simp [PyData.canLay0], ?_, by simp [PyData.hasDict], ?_, by simp [PyData.depth], ?_⟩
  · show decide (i.natAbs.log2 < 1920) = true
    exact decide_eq_true (by omega)
  · show decide ((PyData.shown (.int i)).length ≤ 40) = true
    have e := int_text_length_le10 (k := 25) (a := i) (by decide) (by
      have e : (10 : Nat) ^ 25 = 10000000000000000000000000 := by decide
      omega)
    refine decide_eq_true ?_
    show (Str.ofString (toString i)).length ≤ 40
    rw [PySem.ofString_length]
    omega
  · show (if i == 0 then 0 else i.natAbs.log2 + 1) ≤ 84
    split <;> omega
theorem bn_none : Bn 0 0 .none := ⟨by simp [PyData.canLay0], rfl, rfl, rfl, by simp [PyData.depth], by simp [PyData.weight]⟩
theorem bn_bool {b : Bool} : Bn 0 0 (.bool b) := ⟨by simp [PyData.canLay0], rfl, rfl, rfl, by simp [PyData.depth], by simp [PyData.weight]⟩
theorem bn_str {x : Str} {W : Nat} (h1 : (PyData.str x).canLay0 = true) (h2 : (PyData.str x).leavesShort 40 = true) (h3 : x.cps.size ≤ W) : Bn 0 W (.str x) := ⟨h1, rfl, rfl, h2, by simp [PyData.depth], h3⟩
def BnA (D W : Nat) (ds : List PyData) : Prop := ∀ d ∈ ds, Bn D W d
theorem bna_nil {D W : Nat} : BnA D W [] := fun d h => by cases h
theorem bna_cons {D W : Nat} {d : PyData} {ds : List PyData} {D0 W0 : Nat} (h : Bn D0 W0 d) (k : BnA D W ds) (h1 : D0 ≤ D := by decide) (h2 : W0 ≤ W := by decide) : BnA D W (d :: ds) := fun x hx => by
  rcases List.mem_cons.mp hx with rfl | hx
  · exact h.mono h1 h2
  · exact k x hx
theorem BnA.mono {D W D' W' : Nat} {ds : List PyData} (h : BnA D W ds) (h1 : D ≤ D') (h2 : W ≤ W') : BnA D' W' ds := fun x hx => (h x hx).mono h1 h2
theorem bna_app {D W : Nat} {ds es : List PyData} (h : BnA D W ds) (k : BnA D W es) : BnA D W (ds ++ es) := fun x hx => by
  rcases List.mem_append.mp hx with z | z
  · exact h x z
  · exact k x z
theorem bna_lay {D W : Nat} : ∀ {ds : List PyData}, BnA D W ds → PyData.canLayAll0 ds = true ∧ PyData.showableAll ds = true ∧ PyData.hasDictAll ds = false ∧ PyData.leavesShortAll 40 ds = true ∧ PyData.depthAll ds ≤ D ∧ PyData.weightAll ds ≤ ds.length * (W + 1)
  | [], _ => by simp [PyData.canLayAll0, PyData.showableAll, PyData.hasDictAll, PyData.leavesShortAll, PyData.depthAll, PyData.weightAll]
  | x :: ds, h => by
    have z := h x (by simp)
    obtain ⟨h1, h2, h3, h4, h5, h6⟩ := bna_lay (ds := ds) fun d hd => h d (by simp [hd])
    have z5 := z.dep
    have z6 := z.wei
    refine ⟨by simp [PyData.canLayAll0, z.lay, h1], by simp [PyData.showableAll, z.sho, h2], by simp [PyData.hasDictAll, z.nod, h3], by simp [PyData.leavesShortAll, z.lea, h4], ?_, ?_⟩
    · simp only [PyData.depthAll]; omega
    · simp only [PyData.weightAll, List.length_cons, Nat.add_mul]; omega
theorem bn_list {D W : Nat} {ds : List PyData} {n : Nat} (h : BnA D W ds) (hn : ds.length ≤ n) : Bn (D + 1) (n * (W + 1)) (.list ds) := by
  obtain ⟨h1, h2, h3, h4, h5, h6⟩ := bna_lay h
  refine ⟨by simpa [PyData.canLay0] using h1, by simpa [PyData.showable] using h2, by simpa [PyData.hasDict] using h3, by simpa [PyData.leavesShort] using h4, by simp only [PyData.depth]; omega, ?_⟩
  simp only [PyData.weight]
  exact Nat.le_trans h6 (Nat.mul_le_mul_right _ hn)
theorem bn_tuple {D W : Nat} {ds : List PyData} {n : Nat} (h : BnA D W ds) (hn : ds.length ≤ n) : Bn (D + 1) (n * (W + 1)) (.tuple ds) := by
  obtain ⟨h1, h2, h3, h4, h5, h6⟩ := bna_lay h
  refine ⟨by simpa [PyData.canLay0] using h1, by simpa [PyData.showable] using h2, by simpa [PyData.hasDict] using h3, by simpa [PyData.leavesShort] using h4, by simp only [PyData.depth]; omega, ?_⟩
  simp only [PyData.weight]
  exact Nat.le_trans h6 (Nat.mul_le_mul_right _ hn)
theorem cutD_mem {ds : List PyData} {lo hi : Option Int} {d : PyData} (h : d ∈ cutD ds lo hi) : d ∈ ds := List.mem_of_mem_drop (List.mem_of_mem_take h)
theorem cutD_len {ds : List PyData} {lo hi : Option Int} : (cutD ds lo hi).length ≤ ds.length := by
  unfold cutD
  rw [List.length_take, List.length_drop]
  omega
theorem bna_cut {D W : Nat} {ds : List PyData} {lo hi : Option Int} (h : BnA D W ds) : BnA D W (cutD ds lo hi) := fun d hd => h d (cutD_mem hd)
theorem bna_rep {D W : Nat} {ds : List PyData} {k : Nat} (h : BnA D W ds) : BnA D W (List.replicate k ds).flatten := fun d hd => by
  obtain ⟨l, hl, hm⟩ := List.mem_flatten.mp hd
  rw [List.eq_of_mem_replicate hl] at hm
  exact h d hm
theorem rep_len {ds : List PyData} {k : Nat} : (List.replicate k ds).flatten.length = k * ds.length := by simp
section
variable {O : List Addr} {J : Hp → Prop} {K : PySem.W.Frag} {δ : List Sl} {te ti ta tb : TE} {tt : TT} {t u : TS} {N : List Sl → Hp → Prop} {R : V → Hp → Prop} {l p c : Addr} {i j B : Nat} {ds : List PyData} {d x : PyData}
/-- if test: body, and the rest behind -/
theorem dm_branch {b : Bool} (jk : Jok O J) (h : TP O tt δ b) (h1 : DM O J t δ (fun _ _ => False) R) (h2 : DM O J u δ N R) : DM O J (tSeq (tIfS tt t tNext) u) δ N R :=
  dm_seq (N1 := fun δ' H => δ' = δ ∧ J H) (dm_ifD (td_of jk h) (fun _ => dm_imp h1 (fun _ _ z => z.elim) fun _ _ z => z) fun _ => dm_next fun H hJ => ⟨rfl, hJ⟩) fun δ1 => dm_fact fun e => e ▸ h2
theorem em_tup2 {Pa : PyData → Hp → Prop} {Pb : PyData → PyData → Hp → Prop} {P' : PyData → Hp → Prop} (ha : EM O J ta δ Pa) (hb : ∀ x, EM O (Pa x) tb δ (Pb x)) (k : ∀ x y H H', Pb x y H → Dom O H → Ex H H' → P' (.tuple [x, y]) H') :
    EM O J (tTup (tCons ta (tCons tb tNil))) δ P' := fun σ H hJ hD hS Q q =>
  ha σ H hJ hD hS _ fun x v H1 p1 d1 e1 hv => hb x σ H1 p1 d1 (hS.mono e1) _ fun y w H2 p2 d2 e2 hw => ⟨Evl.sz_of (n := 2) (by decide), fun a ha => q (.tuple [x, y]) (.ref a) _ (k x y H2 _ p2 d2 (Ex.new ha)) (d2.ex (Ex.new ha)) ((e1.trans e2).trans (hid_ex (Ex.new ha)))
    ⟨a, [v, w], rfl, by rw [hid_out (d2.fresh ha)]; exact upd_same, v, [w], rfl, Dt.mono (e2.trans (hid_ex (Ex.new ha))) _ _ hv, w, [], rfl, Dt.mono (hid_ex (Ex.new ha)) _ _ hw, rfl⟩⟩
theorem em_lst1 {Pa P' : PyData → Hp → Prop} (ha : EM O J ta δ Pa) (k : ∀ x H H', Pa x H → Dom O H → Ex H H' → P' (.list [x]) H') : EM O J (tLst (tCons ta tNil)) δ P' := fun σ H hJ hD hS Q q =>
  ha σ H hJ hD hS _ fun x v H1 p1 d1 e1 hv => ⟨Evl.sz_of (n := 1) (by decide), fun a ha => q (.list [x]) (.ref a) _ (k x H1 _ p1 d1 (Ex.new ha)) (d1.ex (Ex.new ha)) (e1.trans (hid_ex (Ex.new ha)))
    ⟨a, [v], rfl, by rw [hid_out (d1.fresh ha)]; exact upd_same, v, [], rfl, Dt.mono (hid_ex (Ex.new ha)) _ _ hv, rfl⟩⟩
/-- the first so many of a list, the number reckoned with draws -/
theorem em_slHi {P : PyData → Hp → Prop} {P' : PyData → Hp → Prop} (jk : Jok O J) (h : Cp.EP O te δ (.list ds)) (hi : EM O J ti δ P) (hP : ∀ x H, P x H → ∃ k, x = .int k) (k : ∀ x H H' o, P x H → Dom O H → Ex H H' → P' (.list (cutD ds none o)) H') :
    EM O J (tSl (rSlL K) te tNoPart (tPart ti)) δ P' := fun σ H hJ hD hS Q q =>
  h σ H hD hS _ fun v H1 e1 hv => hi σ H1 (jk.ex hD e1 hJ) (hD.ex e1) (hS.mono (hid_ex e1)) _ fun x w H2 p2 d2 e2 hw => by
    obtain ⟨m, rfl⟩ := hP x H2 p2
    obtain ⟨a, xs, rfl, q1, q2⟩ := hv
    refine ⟨m, hw, a, xs, rfl, SqL.of (hid_some (e2 _ _ q1)).2, fun z hz => ?_⟩
    have e3 := hid_ex (O := O) (Ex.new (o := .lst (cutV xs none (some m))) hz)
    refine q (.list (cutD ds none (some m))) _ _ (k _ H2 _ _ p2 d2 (Ex.new hz)) (d2.ex (Ex.new hz)) (((hid_ex e1).trans e2).trans e3) ⟨z, _, rfl, by rw [hid_out (d2.fresh hz)]; exact upd_same, ?_⟩
    unfold cutV cutD
    rw [q2.length]
    exact ((q2.mono (e2.trans (hid_ex (Ex.new hz)))).drop _).take _
/-- own[draw] = value -/
theorem dm_setOwn {P : PyData → PyData → Hp → Prop} {P1 : PyData → Hp → Prop} (he : EM O J te δ P1) (hs : δ.getD i .no = .at l) (hi : ∀ d, EM O (P1 d) ti δ (P d)) (hO : l ∈ O)
    (hown : ∀ d x H, P d x H → ∃ k : Int, x = .int k ∧ 0 ≤ k ∧ ∃ ds, k < ds.length ∧ Own O l ds H ∧ ∀ H', (∀ a, a ≠ l → H' a = H a) → Own O l (ds.set k.toNat d) H' → N δ H') : DM O J (tAsg te (gSub (tVar i) ti rSetL)) δ N R := fun σ H D hJ hD hS kn kr =>
  he σ H hJ hD hS _ fun d w H1 p1 d1 e1 hw => ⟨.ref l, (hS.mono e1).loc hs, hi d σ H1 p1 d1 (hS.mono e1) _ fun x w2 H2 p2 d2 ex2 hw2 => by
    obtain ⟨k, rfl, k0, ds, k1, ⟨vs, o1, o2⟩, kk⟩ := hown d x H2 p2
    cases hw2
    have hm : k.toNat < vs.length := by rw [o2.length]; omega
    have er : ((k.toNat : Nat) : Int) = k := by omega
    have hix : ixN vs.length k = some k.toNat := by rw [← er]; exact Evl.ixN_nat hm
    refine ⟨l, vs, k, k.toNat, rfl, rfl, o1, hix, ?_⟩
    have hh := hid_set (H := H2) (o := .lst (vs.set k.toNat w)) hO
    refine kn δ σ _ (kk _ (fun a ha => upd_ne ha) ⟨_, upd_same, by rw [hh]; exact o2.set (Dt.mono ex2 _ _ hw) _⟩) (dom_upd d2) (by rw [hh]; exact e1.trans ex2) (by rw [hh]; exact hS.mono (e1.trans ex2))⟩
end
/-- a new own list of data -/
theorem own_new2 {O : List Addr} {H : Hp} {l : Addr} {ds : List PyData} {vs : List V} (hD : Dom O H) (hl : H l = none) (hv : DtAll (hid O H) ds vs) : Dom (l :: O) (upd H l (.lst vs)) ∧ Ex (hid O H) (hid (l :: O) (upd H l (.lst vs))) ∧ Own (l :: O) l ds (upd H l (.lst vs)) ∧ l ∉ O := by
  have lO : l ∉ O := hD.fresh hl
  have e : Ex (hid O H) (hid (l :: O) (upd H l (.lst vs))) := fun a o q => by
    obtain ⟨q1, q2⟩ := hid_some q
    have : a ≠ l := fun z => by rw [z, hl] at q2; cases q2
    rw [hid_out (by simp [this, q1]), upd_ne this]
    exact q2
  refine ⟨fun a ha => ?_, e, ⟨vs, upd_same, hv.mono e⟩, lO⟩
  by_cases q : a = l
  · rw [q, upd_same]; simp
  · rw [upd_ne q]
    rcases List.mem_cons.mp ha with z | z
    · exact absurd z q
    · exact hD a z
theorem hid_less {O : List Addr} {l : Addr} {H : Hp} : Ex (hid (l :: O) H) (hid O H) := fun a o q => by
  obtain ⟨q1, q2⟩ := hid_some q
  rw [hid_out (fun z => q1 (by simp [z]))]
  exact q2
theorem bna_set {D W : Nat} {ds : List PyData} {d : PyData} {k : Nat} (h : BnA D W ds) (hd : Bn D W d) : BnA D W (ds.set k d) := fun x hx => by
  rcases List.mem_or_eq_of_mem_set hx with z | z
  · exact h x z
  · exact z ▸ hd
theorem ds_run {O : List Addr} {t : TS} {δ : List Sl} {N0 : List Sl → Prop} {D : Ends} {σ : L2.St} {H : Hp} {J : Hp → Prop} (h : DS O t δ N0 (fun _ => False)) (jk : Jok O J) (hJ : J H) (hD : Dom O H) (hS : SD (hid O H) δ σ)
    (k : ∀ δ' σ' H', N0 δ' → J H' → Dom O H' → Ex (hid O H) (hid O H') → SD (hid O H') δ' σ' → D.nx σ' H') : t D σ H :=
  h J jk σ H D hJ hD hS (fun δ' σ' H' n d e s => k δ' σ' H' n.1 n.2 d e s) fun v H' r _ _ => by
    obtain ⟨d, _, z, _⟩ := r
    exact z.elim
theorem em_and {O : List Addr} {J : Hp → Prop} {te : TE} {δ : List Sl} {f : Prop} {P : PyData → Hp → Prop} (h : EM O J te δ P) : EM O (fun H => f ∧ J H) te δ (fun d H => f ∧ P d H) := fun σ H hj hD hS Q k =>
  h σ H hj.2 hD hS Q fun d v H' q => k d v H' ⟨hj.1, q⟩
theorem bn_pair {x y : PyData} {D W : Nat} (hx : Bn D 84 x) (hy : Bn D W y) : Bn (D + 1) (W + 86) (.tuple [x, y]) := by
  obtain ⟨h1, h2, h3, h4, h5, h6⟩ := hx
  obtain ⟨g1, g2, g3, g4, g5, g6⟩ := hy
  refine ⟨by simp [PyData.canLay0, PyData.canLayAll0, h1, g1], by simp [PyData.showable, PyData.showableAll, h2, g2], by simp [PyData.hasDict, PyData.hasDictAll, h3, g3], by simp [PyData.leavesShort, PyData.leavesShortAll, h4, g4], ?_, ?_⟩
  · simp only [PyData.depth, PyData.depthAll]; omega
  · simp only [PyData.weight, PyData.weightAll]; omega
/-! ### a walk over a list of which but some facts are known -/
section
variable {O : List Addr} {J : Hp → Prop} {K : PySem.W.Frag} {δ : List Sl} {te : TE} {tb : TS} {N : List Sl → Hp → Prop} {R : V → Hp → Prop}
def WD (O : List Addr) (J : Hp → Prop) (wi : TI) (δ : List Sl) (P : List PyData → Hp → Prop) : Prop := ∀ σ H, J H → Dom O H → SD (hid O H) δ σ → ∀ R : It → Hp → Prop,
  (∀ ds Ji H1, P ds H1 → Dom O H1 → Ex (hid O H) (hid O H1) → Walk Ji ds.length (fun H' => Ex (hid O H1) H') (fun i H' v H'' => Ex H' H'' ∧ ∀ O', Ex (hid O H1) (hid O' H') → Dom O' H' → Dt (hid O' H'') (ds.getD i .none) v) → R Ji H1) → wi σ H R
theorem wd_list {P : List PyData → Hp → Prop} (h : EM O J te δ (fun d H => ∃ ds, d = .list ds ∧ P ds H)) : WD O J (iList K te) δ P := fun σ H hJ hD hS R k =>
  h σ H hJ hD hS _ fun d v H1 p d1 e1 hv => by
    obtain ⟨ds, rfl, p⟩ := p
    obtain ⟨a, xs, rfl, h1, h2⟩ := hv
    refine ⟨a, rfl, ⟨xs, SqL.of (hid_some h1).2⟩, k ds _ H1 p d1 e1 ?_⟩
    rw [← h2.length]
    refine walk_list.mono (fun H' g => SqL.of (g _ _ h1)) (fun i H' v H'' hi g y => ?_)
    obtain ⟨rfl, hy⟩ := y
    obtain ⟨d, q1, q2⟩ := h2.got hy
    exact ⟨Ex.refl _, fun O' eo _ => by
      show Dt _ (ds.getD i .none) v
      rw [List.getD_eq_getElem?_getD, q1]
      exact Dt.mono eo d v q2⟩
theorem dm_forD {wi : TI} {g : TG} {P : List PyData → Hp → Prop} {ix : List Nat} (hw : WD O J wi δ P) (Iv : List PyData → Nat → List Sl → Hp → Prop) (h0 : ∀ ds H, P ds H → Iv ds 0 δ H)
    (hs : ∀ ds i δ1 H1, i < ds.length → Iv ds i δ1 H1 → ∃ δ2 J1, GB O g (ds.getD i .none) δ1 δ2 ix ∧ J1 H1 ∧ Jok O J1 ∧ DM O J1 tb δ2 (Iv ds (i + 1)) R) (hd : ∀ ds δ1 H1, Iv ds ds.length δ1 H1 → N δ1 H1) : DM O J (tFor wi g tb) δ N R := fun σ H D hJ0 hD hS kn kr =>
  hw σ H hJ0 hD hS _ fun ds Ji H1 j1 dd1 e1 w => by
    refine for_it w (fun i σ' H' => ∃ δ1, Iv ds i δ1 H' ∧ SD (hid O H') δ1 σ' ∧ Ex (hid O H1) (hid O H') ∧ Dom O H') ⟨δ, h0 ds H1 j1, hS.mono e1, Ex.refl _, dd1⟩
      (fun i σ' H' _ p => by obtain ⟨δ1, _, _, e, dd⟩ := p; exact e.trans hid_le) (fun i v σ' H' H2 hi p y => ?_) fun σ' H' p => ?_
    · obtain ⟨δ1, hI, hs1, e2, d2⟩ := p
      obtain ⟨e3, hv⟩ := y
      obtain ⟨δ2, J1, hg, j1, jk, hb⟩ := hs ds i δ1 H' hi hI
      refine hg σ' H2 v (d2.ex e3) (hs1.mono (hid_ex e3)) (hv O e2 d2) _ fun σ2 s2 _ _ => ?_
      exact hb σ2 H2 _ (jk.ex d2 e3 j1) (d2.ex e3) s2 (fun δ3 σ3 H3 n3 d3 e4 s3 => ⟨δ3, n3, s3, (e2.trans (hid_ex e3)).trans e4, d3⟩) fun v' H3 r3 d3 e4 => kr v' H3 r3 d3 (((e1.trans e2).trans (hid_ex e3)).trans e4)
    · obtain ⟨δ1, hI, hs1, e2, d2⟩ := p
      exact kn δ1 σ' H' (hd ds δ1 H' hI) d2 (e1.trans e2) hs1
theorem am_and {ta : TA} {f : Prop} {P : List PyData → Hp → Prop} (h : AM O J ta δ P) : AM O (fun H => f ∧ J H) ta δ (fun d H => f ∧ P d H) := fun σ H hj hD hS Q k =>
  h σ H hj.2 hD hS Q fun d v H' q => k d v H' ⟨hj.1, q⟩
/-- a pure statement among others -/
theorem ds_dm {t : TS} {N0 : List Sl → Prop} (h : DS O t δ N0 (fun _ => False)) (jk : Jok O J) (k : ∀ δ' H, N0 δ' → J H → N δ' H) : DM O J t δ N R :=
  dm_imp (h J jk) (fun δ' H z => k δ' H z.1 z.2) fun v H ⟨d, _, z, _⟩ => z.elim
/-- a test that doesn't come true -/
theorem ds_pass {tt : TT} {t : TS} {N0 : List Sl → Prop} {R0 : PyData → Prop} (h : Cp.TP O tt δ false) (k : N0 δ) : DS O (tIfS tt t tNext) δ N0 R0 := ds_if h (fun z => by cases z) fun _ => ds_next k
end
theorem sh_refl {d : PyData} (h : Sh d) : PyData.eqv d d = true := SeqAt.eqv_refl d h.1
theorem sh_ne {O : List Addr} {K : PySem.W.Frag} {d : PyData} (h : Sh d) : RP O (rNeD K) d d (.bool false) := by
  have z := rp_neD (O := O) (K := K) h.shaped h.shaped
  rwa [sh_refl h] at z
end Cp
/-! Cameposts: {elt for a in x for b in y}, whole numbers: a set comprehension of two fors without ifs -/
namespace Cp
open PySem PySem.Spec PyProof.Rows L2
open Evl (Ex)
abbrev scTwo (elt ta ia tb ib : Expr) (scp : Scope) (ps : Pos) : Expr := .SetComp elt [⟨ta, ia, [], 0⟩, ⟨tb, ib, [], 0⟩] scp ps
theorem scTwo_eval (elt ta ia tb ib : Expr) (scp : Scope) (ps : Pos) (en : Env) : eval (scTwo elt ta ia tb ib scp ps) en =
    comprehension (scTwo elt ta ia tb ib scp ps) scp en (firstIterPos [⟨ta, ia, [], 0⟩, ⟨tb, ib, [], 0⟩] ps) (newSet (.type "set")) (firstAsync [⟨ta, ia, [], 0⟩, ⟨tb, ib, [], 0⟩]) (firstIter [⟨ta, ia, [], 0⟩, ⟨tb, ib, [], 0⟩] en) := rfl
theorem scTwo_turnA (elt ta ia tb ib : Expr) (scp : Scope) (ps : Pos) (ite acc : Value) (en : Env) :
    compTurn (scTwo elt ta ia tb ib scp ps) 0 ite acc en = (do
      standAt ia.pos
      match ← pyNext ite with
      | none => pure (.done .next)
      | some item =>
        letOwnedTupleGo ta ite item
        assign ta en item
        let mut kept := true
        for c in ([] : List Expr) do
          if kept then kept ← isTrue c en (eval c en)
        if kept then
          let src ← eval ib en
          standAt ib.pos
          let src ← foldedSetIterable ib en src
          let _ ← runOwn (.compStart (scTwo elt ta ia tb ib scp ps) 1 (← holding [src] (pyIter src)) acc en) en
        again (.compLoop (scTwo elt ta ia tb ib scp ps) 0 ite acc en)) := by rfl
theorem scTwo_turnB (elt ta ia tb ib : Expr) (scp : Scope) (ps : Pos) (ite acc : Value) (en : Env) :
    compTurn (scTwo elt ta ia tb ib scp ps) 1 ite acc en = (do
      standAt ib.pos
      match ← pyNext ite with
      | none => pure (.done .next)
      | some item =>
        letOwnedTupleGo tb ite item
        assign tb en item
        let mut kept := true
        for c in ([] : List Expr) do
          if kept then kept ← isTrue c en (eval c en)
        if kept then
          (do let item ← eval elt en; standAt elt.pos; let _ ← call (.builtin "set.add") [acc, item])
        again (.compLoop (scTwo elt ta ia tb ib scp ps) 1 ite acc en)) := by rfl
section
variable {P : Program} {wo : World} {Ar : Around} {Z : Result → Shared → Prop} {elt ta ia tb ib : Expr} {scp : Scope} {ps : Pos} {ite acc : Value} {en : Env}
/-- nothing is raised here -/
abbrev NoX : Value → Shared → Prop := fun _ _ => False
theorem wpF {α : Type} {M : Model} {Br : Around} {t : Sem α} {Q1 Q2 : α → Shared → Prop} {E2 : Value → Shared → Prop} {st : Shared} (h : wpAny M Br t Q1 NoX st) (k : ∀ x st', Q1 x st' → Q2 x st') : wpAny M Br t Q2 E2 st :=
  wpAny_mono h k fun _ _ z => z.elim
theorem scTwo_loopA (hf : ∀ x, foldedSetIterable ib en x = pure x) (Iv : Nat → Shared → Prop)
    (hstep : ∀ n st, Iv n st → wpAny (model P wo) Ar (pyNext ite) (fun r st1 => match r with
      | none => Z (.ok .next) st1
      | some item => wpAny (model P wo) Ar (letOwnedTupleGo ta ite item) (fun _ st2 => wpAny (model P wo) Ar (assign ta en item) (fun _ st3 =>
          wpAny (model P wo) Ar (eval ib en) (fun src st4 => wpAny (model P wo) Ar (pyIter src) (fun itb st5 =>
            codeAny (model P wo) Ar (.compStart (scTwo elt ta ia tb ib scp ps) 1 itb acc en) (fun r st6 => match r with
              | .ok _ => ∃ m, m < n ∧ Iv m st6
              | .error _ => False) st5) NoX st4) NoX st3) NoX st2) NoX st1) NoX st) (n : Nat) (st : Shared) (h : Iv n st) :
    codeAny (model P wo) Ar (.compLoop (scTwo elt ta ia tb ib scp ps) 0 ite acc en) Z st := by
  refine codeAny_loop rfl Iv (fun n st hI => ?_) n h
  show wpAny _ Ar ((compTurn (scTwo elt ta ia tb ib scp ps) 0 ite acc en).onRaise (fun x => do noteFrame x en; theTreesLotGoes x)) _ _ st
  refine wpAny_noted ?_
  rw [scTwo_turnA]
  refine wpAny_bind (wpAny_standAt (wpAny_bind (wpF (hstep n st hI) fun r st1 q1 => ?_)))
  match r, q1 with
  | none, q1 => exact wpAny_pure q1
  | some item, q1 =>
    refine wpAny_bind (wpF q1 fun _ st2 q2 => wpAny_bind (wpF q2 fun _ st3 q3 => ?_))
    show wpAny _ Ar (eval ib en >>= _) _ _ _
    refine wpAny_bind (wpF q3 fun src st4 q4 => ?_)
    refine wpAny_bind (wpAny_standAt (wpAny_bind (wpAny_of_eq (hf src) (wpAny_bind (wpAny_holding (wpF q4 fun itb st5 q5 => ?_))))))
    refine wpAny_bind (wpAny_runOwn ?_)
    rw [Around.mark_none]
    refine codeAny_mono q5 fun r st6 q6 => ?_
    match r, q6 with
    | .ok f, q6 => first | exact wpAny_pure ⟨rfl, q6⟩ | exact wpAny_bind (wpAny_pure (wpAny_pure ⟨rfl, q6⟩))
    | .error e, q6 => exact q6.elim
theorem scTwo_loopB (Iv : Nat → Shared → Prop)
    (hstep : ∀ n st, Iv n st → wpAny (model P wo) Ar (pyNext ite) (fun r st1 => match r with
      | none => Z (.ok .next) st1
      | some item => wpAny (model P wo) Ar (letOwnedTupleGo tb ite item) (fun _ st2 => wpAny (model P wo) Ar (assign tb en item) (fun _ st3 =>
          wpAny (model P wo) Ar (eval elt en) (fun x st4 => wpAny (model P wo) Ar (call (.builtin "set.add") [acc, x]) (fun _ st5 => ∃ m, m < n ∧ Iv m st5) NoX st4) NoX st3) NoX st2) NoX st1) NoX st) (n : Nat) (st : Shared) (h : Iv n st) :
    codeAny (model P wo) Ar (.compLoop (scTwo elt ta ia tb ib scp ps) 1 ite acc en) Z st := by
  refine codeAny_loop rfl Iv (fun n st hI => ?_) n h
  show wpAny _ Ar ((compTurn (scTwo elt ta ia tb ib scp ps) 1 ite acc en).onRaise (fun x => do noteFrame x en; theTreesLotGoes x)) _ _ st
  refine wpAny_noted ?_
  rw [scTwo_turnB]
  refine wpAny_bind (wpAny_standAt (wpAny_bind (wpF (hstep n st hI) fun r st1 q1 => ?_)))
  match r, q1 with
  | none, q1 => exact wpAny_pure q1
  | some item, q1 =>
    refine wpAny_bind (wpF q1 fun _ st2 q2 => wpAny_bind (wpF q2 fun _ st3 q3 => ?_))
    show wpAny _ Ar ((eval elt en >>= _) >>= _) _ _ _
    exact wpAny_bind (wpAny_bind (wpF q3 fun x st4 q4 => wpAny_bind (wpAny_standAt (wpAny_bind (wpF q4 fun _ st5 q5 => wpAny_pure (wpAny_pure ⟨rfl, q5⟩))))))
theorem scTwo_startB {st : Shared} (h0 : codeAny (model P wo) Ar (.compLoop (scTwo elt ta ia tb ib scp ps) 1 ite acc en) Z st)
    (h1 : wpAny (model P wo) Ar (pyIter ite) (fun jt st1 => codeAny (model P wo) Ar (.compLoop (scTwo elt ta ia tb ib scp ps) 1 jt acc en) Z st1) NoX st) :
    codeAny (model P wo) Ar (.compStart (scTwo elt ta ia tb ib scp ps) 1 ite acc en) Z st := by
  refine codeAny_of_tree ?_
  show wpAny _ _ ((compStart (scTwo elt ta ia tb ib scp ps) 1 ite acc en).onRaise (fun x => do noteFrame x en; standAt theWindowsPlace)) _ _ st
  refine wpAny_notedAt ?_
  unfold compStart
  show wpAny _ _ (ask >>= _) _ _ st
  refine wpAny_bind (wpAny_askSetting (wpAny_ite ?_))
  split
  · first
      | exact wpAny_pure (And.intro rfl h0)
      | exact wpAny_bind (wpAny_pure (wpAny_pure (And.intro rfl h0)))
  · refine wpAny_bind (wpAny_rule ?_)
    show wpAny _ _ (standAt ib.pos >>= _) _ _ st
    exact wpAny_bind (wpAny_standAt (wpAny_bind (wpF h1 fun jt st1 q => wpAny_pure (And.intro rfl q))))
theorem scTwo_startA {st : Shared} (h0 : codeAny (model P wo) Ar (.compLoop (scTwo elt ta ia tb ib scp ps) 0 ite acc en) Z st)
    (h1 : wpAny (model P wo) Ar (pyIter ite) (fun jt st1 => codeAny (model P wo) Ar (.compLoop (scTwo elt ta ia tb ib scp ps) 0 jt acc en) Z st1) NoX st) :
    codeAny (model P wo) Ar (.compStart (scTwo elt ta ia tb ib scp ps) 0 ite acc en) Z st := by
  refine codeAny_of_tree ?_
  show wpAny _ _ ((compStart (scTwo elt ta ia tb ib scp ps) 0 ite acc en).onRaise (fun x => do noteFrame x en; standAt theWindowsPlace)) _ _ st
  refine wpAny_notedAt ?_
  unfold compStart
  show wpAny _ _ (ask >>= _) _ _ st
  refine wpAny_bind (wpAny_askSetting (wpAny_ite ?_))
  split
  · first
      | exact wpAny_pure (And.intro rfl h0)
      | exact wpAny_bind (wpAny_pure (wpAny_pure (And.intro rfl h0)))
  · refine wpAny_bind (wpAny_rule ?_)
    show wpAny _ _ (standAt ia.pos >>= _) _ _ st
    exact wpAny_bind (wpAny_standAt (wpAny_bind (wpF h1 fun jt st1 q => wpAny_pure (And.intro rfl q))))
end
/-- what its reading asks: `got` is what is in the set so far, `wn` how it goes on -/
def tScTwo (wo : World) (wa : TI) (ga : TG) (wb : TI) (gb : TG) (te : TE) (vs vsb : List Nat) : TE := fun σ H Q => wa σ H fun J H1 => ∀ D, H1 D = none → ∃ Wa : Nat → Nat → Hp → Prop, (∃ m, Wa 0 m (upd H1 D (SetO wo D (fun _ => false) 0))) ∧ ∀ i m H, Wa i m H →
  (J.stop i H ∧ Q (.ref D) H) ∨ (J.go i H ∧ ∃ Nx : Hp → Prop, (∀ H', Nx H' → ∃ m', m' < m ∧ Wa (i + 1) m' H') ∧ ∀ x H', J.yld i H x H' → ga x (wipe σ vs) H' fun σ2 H2 => wipe σ2 vs = wipe σ vs ∧
    wb σ2 H2 fun J1 H4 => ∃ Wb : Nat → Nat → Hp → Prop, (∃ m, Wb 0 m H4) ∧ ∀ j k H, Wb j k H →
      (J1.stop j H ∧ Nx H) ∨ (J1.go j H ∧ ∃ Ny : Hp → Prop, (∀ H', Ny H' → ∃ k', k' < k ∧ Wb (j + 1) k' H') ∧ ∀ x H', J1.yld j H x H' → gb x (wipe σ2 vsb) H' fun σ3 H5 => wipe σ3 vsb = wipe σ2 vsb ∧
        te σ3 H5 fun y H7 => ∃ (c : Int) (S : Int → Bool) (n : Nat), y = .int c ∧ H7 D = some (SetO wo D S n) ∧ n + 1 < scanBound ∧ Ny (upd H7 D (SetO wo D (fun j => S j || decide (j = c)) (if S c = true then n else n + 1)))))
section
variable {X : Cx}
theorem scTwo_add {pins : List (Addr × Obj)} {σ : L2.St} {H : Hp} {st : Shared} {D : Addr} {S : Int → Bool} {n : Nat} {c : Int} {tk : Tok} {Q : Value → Shared → Prop} (I : Inv X pins σ H st) (hD : H D = some (SetO X.w D S n)) (hr : n + 1 < scanBound)
    (h : ∀ st', Inv X pins σ (upd H D (SetO X.w D (fun j => S j || decide (j = c)) (if S c = true then n else n + 1))) st' → Q .none st') : wpAny (model X.prog X.w) X.A (call (.builtin "set.add") [.ref D, .int c tk]) Q NoX st := by
  have R := setO_get I hD
  refine setR_add R hr fun hp' sb nw => ?_
  have he : ∃ o, hp'.get? D = some o := by
    have ⟨o, _, _, _, ho, _⟩ := nw
    exact ⟨o, ho⟩
  exact h _ (I.write (e := D) (t' := st.toks + 1) (by rw [hD]; trivial) (.inl rfl) (fun b o hb q => (sb.2 b hb).trans q) he (setO_new nw))
/-- the comprehension, handed to use -/
theorem scTwo_core {pins : List (Addr × Obj)} {σ : L2.St} {H : Hp} {st : Shared} {Q : VK} {use : Option (Value → Sem Unit)} {Qf : Value → Shared → Prop} {elt ta ia tb ib : Expr} {scp : Scope} {own : List (PySem.Str × Nat)} {vsb : List Nat} {ps pos' : Pos} {wa wb : TI} {ga gb : TG} {te : TE} (hcalm : X.calm = true) (hnd : X.N.Nodup) (hwa : PI X ta ia wa)
    (bo : BlkOk X.N X.env.scope scp own) (hsub : ∀ i ∈ vsb, i ∈ own.map (·.2))
    (hga : ∀ (st : Shared) (H : Hp) (C : Addr) (cl : List (PySem.Str × Addr)) (fp : List Addr), PG (X.blk st H scp (compEnvC scp cl C X.env) fp) ta ga)
    (hwb : ∀ (st : Shared) (H : Hp) (C : Addr) (cl : List (PySem.Str × Addr)) (fp : List Addr), PI (X.blk st H scp (compEnvC scp cl C X.env) fp) tb ib wb)
    (hgb : ∀ (st : Shared) (H : Hp) (C : Addr) (cl : List (PySem.Str × Addr)) (fp : List Addr), PG (X.blk st H scp (compEnvC scp cl C X.env) fp) tb gb)
    (hte : ∀ (st : Shared) (H : Hp) (C : Addr) (cl : List (PySem.Str × Addr)) (fp : List Addr), PE (X.blk st H scp (compEnvC scp cl C X.env) fp) elt te)
    (I : Inv X pins σ H st) (hq : tScTwo X.w wa ga wb gb te (own.map (·.2)) vsb σ H Q)
    (hdone : ∀ D C st' m H', Inv X pins σ H' st' → Q (.ref D) H' → st'.heap.Ns C m → FpOk X pins H' C → compPost (model X.prog X.w) X.A X.xe use Qf (.ref D) C (.ok .next) st')
    (hfa : ∀ x, foldedSetIterable ia X.env x = pure x := by intro _; rfl) (hfb : ∀ en x, foldedSetIterable ib en x = pure x := by intro _ _; rfl) :
    wpAny (model X.prog X.w) X.A (comprehension (scTwo elt ta ia tb ib scp ps) scp X.env pos' (newSet (.type "set")) false (eval ia X.env) use) Qf X.xe st := by
  have hfree : ∀ y ∈ scp.names, y.2 = .free → ∃ c, X.env.cells.lookup y.1 = some c := fun y hy e => (bo.free y hy e).elim (fun k => I.ok.has _ (.inl k)) fun k => I.ok.has _ (.inr k)
  refine wpAny_comprehension_free (use := use) rfl hfa (closure_ok hfree) bo.kind (fun y hy e => by rw [bo.uniq y hy, e])
    (thn (hwa.run pins st σ H _ I hq) fun src st1 hx => thn hx fun itv st2 h2 => ?_)
  obtain ⟨it, fp, tn, J, H2, e, I2, T, ts2, f2, q⟩ := h2
  subst e
  refine PpSet.newSet_ok (newEnv_comp ?_)
  generalize hD : st2.heap.objs.size = D
  have hDn : H2 D = none := I2.hok.fresh (Nat.le_of_eq hD)
  obtain ⟨Wa, ⟨m0, w0⟩, turn⟩ := q D hDn
  -- the new set stands at D
  generalize hst3 : ({ st2 with heap := st2.heap.push { cls := .type "set", dict := none, data := .set #[] 0 (.fresh 0 0 (!X.w.params.followText "set-order")) } } : Shared) = st3
  have hp3 : st3.heap = st2.heap.push { cls := .type "set", dict := none, data := .set #[] 0 (.fresh 0 0 (!X.w.params.followText "set-order")) } := by rw [← hst3]
  generalize hH3 : upd H2 D (SetO X.w D (fun _ => false) 0) = H3 at w0
  have I3 : Inv X pins σ H3 st3 := by
    rw [← hst3, ← hH3]
    refine I2.laid (t' := st2.toks) (fun b o e => Heap.get?_push_of_some _ e) (Nat.le_of_eq hD) ?_
    rw [← hD]
    exact setO_new (setR_fresh X.w)
  have lt2 : ∀ b ∈ fp, b < st2.heap.objs.size := fun b hb => by
    obtain ⟨o, e, _⟩ := T.obj _ _ ts2 b hb
    exact Heap.lt_size e
  have f3 : ∀ b ∈ fp, FpOk X pins H3 b ∧ b < st3.heap.objs.size := fun b hb => by
    have hlt := lt2 b hb
    refine ⟨⟨?_, (f2 b hb).2⟩, by rw [hp3, Heap.size_push]; exact Nat.lt_succ_of_lt hlt⟩
    rw [← hH3, upd_ne (by rw [← hD]; exact Nat.ne_of_lt hlt)]
    exact (f2 b hb).1
  have ts3 : tn 0 st3.heap := T.keep _ _ _ ts2 fun b _ o e => by rw [hp3]; exact Heap.get?_push_of_some _ e
  have nfp : ∀ b ∈ fp, H3 b = none := fun b hb => (f3 b hb).1.1
  have I4 := block_start I3 bo hnd f3
  have pga := hga st3 H3 st3.heap.objs.size (cellsFrom (st3.heap.objs.size + 1) scp.names (cloFrom X.env.cells scp.names [])) fp
  have pwb := hwb st3 H3 st3.heap.objs.size (cellsFrom (st3.heap.objs.size + 1) scp.names (cloFrom X.env.cells scp.names [])) fp
  have pgb := hgb st3 H3 st3.heap.objs.size (cellsFrom (st3.heap.objs.size + 1) scp.names (cloFrom X.env.cells scp.names [])) fp
  have pte := hte st3 H3 st3.heap.objs.size (cellsFrom (st3.heap.objs.size + 1) scp.names (cloFrom X.env.cells scp.names [])) fp
  show codeAny _ _ (.compStart (scTwo elt ta ia tb ib scp ps) 0 (.ref it) (.ref D) (compEnvC scp (cellsFrom (st3.heap.objs.size + 1) scp.names (cloFrom X.env.cells scp.names [])) st3.heap.objs.size X.env)) (compPost (model X.prog X.w) X.A X.xe use Qf (.ref D) st3.heap.objs.size) { st3 with heap := pushCells (st3.heap.push { cls := .type "dict", data := .dict #[] }) scp.names }
  generalize hce : compEnvC scp (cellsFrom (st3.heap.objs.size + 1) scp.names (cloFrom X.env.cells scp.names [])) st3.heap.objs.size X.env = ce at I4 pga pwb pgb pte ⊢
  have cL : ce.locals = st3.heap.objs.size := by subst hce; rfl
  generalize hst4 : ({ st3 with heap := pushCells (st3.heap.push { cls := .type "dict", data := .dict #[] }) scp.names } : Shared) = st4 at I4 ⊢
  have ts4 : tn 0 st4.heap := T.keep _ _ _ ts3 fun b _ o e => by rw [← hst4]; exact pushCells_keeps _ _ _ _ (Heap.get?_push_of_some _ e)
  -- a walk's own places, within the block
  have atF : ∀ {ρ : L2.St} {H' : Hp} {st' : Shared}, Inv (X.blk st3 H3 scp ce fp) [] ρ H' st' → (∀ b ∈ fp, H' b = none) → ∀ b ∈ fp, FpOk (X.blk st3 H3 scp ce fp) [] H' b := fun I' hn b hb =>
    ⟨hn b hb, (I'.ok.exf b hb).1, I'.ok.exfs b hb, .inl hb, fun x c e => (I'.ok.exf b hb).2 x c e, fun p hp => absurd (show p ∈ ([] : List (Addr × Obj)) ++ [] from hp) (by simp)⟩
  let Keep : Nat → Shared → Prop := fun n st' => ∃ i H', Inv (X.blk st3 H3 scp ce fp) [] (wipe σ (own.map (·.2))) H' st' ∧ tn i st'.heap ∧ (∀ b ∈ fp, H' b = none) ∧ Wa i n H'
  have loop : codeAny (model X.prog X.w) X.A (.compLoop (scTwo elt ta ia tb ib scp ps) 0 (.ref it) (.ref D) ce) (compPost (model X.prog X.w) X.A X.xe use Qf (.ref D) st3.heap.objs.size) st4 := by
    refine scTwo_loopA (hfb ce) Keep ?_ m0 st4 ⟨0, H3, I4, ts4, nfp, w0⟩
    rintro n st5 ⟨i, H5, I5, ts5, n5, w5⟩
    rcases turn i n H5 w5 with ⟨hstop, hQ⟩ | ⟨hgo, Nx, hNx, step⟩
    · have td := T.done (X.blk st3 H3 scp ce fp) rfl rfl rfl hcalm i [] st5 _ H5 (fun _ _ => False) I5 (atF I5 n5) ts5 hstop
      refine thnF td fun r st6 ⟨hr, I6⟩ => ?_
      subst hr
      have I7 : Inv X pins σ H5 st6 := I3.call' (ch := fp) I6.os I6.base I6.hok I6.bare fun b hb => ⟨(f3 b hb).1.2.2.2.1, (f3 b hb).1.2.1, (f3 b hb).1.2.2.2.2.1, (f3 b hb).1.2.2.2.2.2⟩
      have nC : H5 st3.heap.objs.size = none := cL ▸ (show H5 ce.locals = none from I6.free)
      obtain ⟨m, hm, _⟩ := I6.loc
      have hm : st6.heap.Ns ce.locals m := hm
      rw [cL] at hm
      exact hdone D st3.heap.objs.size st6 m H5 I7 hQ hm (I3.fpOk (Nat.le_refl _) nC)
    · have ti := T.item (X.blk st3 H3 scp ce fp) rfl rfl rfl hcalm i [] st5 _ H5 (fun _ _ => False) I5 (atF I5 n5) ts5 hgo
      refine thnF ti fun r st6 ⟨u, hr, h6⟩ => ?_
      subst hr
      refine thnF h6 fun _ st7 ⟨x, H7, I7, r7, y7, ts7, n7⟩ => ?_
      have I7p := I7.pinned (atF I7 n7) (T.obj _ _ ts7)
      refine thnF (pga.run _ st7 _ H7 x u _ I7p r7 (step x H7 y7)) fun _ st8 ⟨σ8, H8, I8, hw8, q8⟩ => ?_
      have len8 : (wipe σ (own.map (·.2))).length = σ8.length := by rw [← hw8, wipe_length]
      -- back to the outer walk, from slots that know what the block knew at first
      have back : ∀ {ρ : L2.St} {st' : Shared} {H' : Hp}, Inv (X.blk st3 H3 scp ce fp) ([] ++ pinsAt fp st7.heap) ρ H' st' → σ8.length = ρ.length → (∀ (j : Nat) v, (wipe σ (own.map (·.2)))[j]? = some (some v) → ρ[j]? = some (some v)) → Nx H' → ∃ m, m < n ∧ Keep m st' := fun {ρ st' H'} I' hl hk nx => by
        obtain ⟨m', hm, w'⟩ := hNx H' nx
        have pin' : ∀ b ∈ fp, ∀ o, st7.heap.get? b = some o → st'.heap.get? b = some o ∧ H' b = none := fun b hb o e =>
          let z := I'.pin (b, o) (List.mem_append_right _ (List.mem_append_right _ (mem_pinsAt hb e)))
          ⟨z.1, z.2.1⟩
        refine ⟨m', hm, i + 1, H', (I'.unpinned (pins := [])).weak (len8.trans hl) hk, T.keep _ _ _ ts7 fun b hb o e => (pin' b hb o e).1, fun b hb => ?_, w'⟩
        obtain ⟨o, e, _⟩ := T.obj _ _ ts7 b hb
        exact (pin' b hb o e).2
      have know : ∀ (j : Nat) v, (wipe σ (own.map (·.2)))[j]? = some (some v) → (wipe σ8 vsb)[j]? = some (some v) := fun j v e => by
        rw [← hw8] at e
        obtain ⟨e1, e2⟩ := wipe_some e
        rw [wipe_out fun z => e2 (hsub j z)]
        exact e1
      refine thnF (pwb.run _ st8 σ8 H8 _ I8 q8) fun src st9 hx => thnF hx fun itv st10 h10 => ?_
      obtain ⟨jt, fq, tm, J1, H10, e1, I10, T1, ts10, f10, Wb, ⟨m1, w1⟩, turn1⟩ := h10
      subst e1
      have atG : ∀ {H' : Hp}, (∀ b ∈ fq, H' b = none) → ∀ b ∈ fq, FpOk (X.blk st3 H3 scp ce fp) ([] ++ pinsAt fp st7.heap) H' b := fun hn b hb => ⟨hn b hb, (f10 b hb).2⟩
      let Inner : Nat → Shared → Prop := fun k st' => ∃ j H', Inv (X.blk st3 H3 scp ce fp) ([] ++ pinsAt fp st7.heap) (wipe σ8 vsb) H' st' ∧ tm j st'.heap ∧ (∀ b ∈ fq, H' b = none) ∧ Wb j k H'
      have inner : codeAny (model X.prog X.w) X.A (.compLoop (scTwo elt ta ia tb ib scp ps) 1 (.ref jt) (.ref D) ce) (fun r st' => match r with
          | .ok _ => ∃ m, m < n ∧ Keep m st'
          | .error _ => False) st10 := by
        refine scTwo_loopB Inner ?_ m1 st10 ⟨0, H10, I10.weak (wipe_length _ _) (fun j v e => (wipe_some e).1), ts10, fun b hb => (f10 b hb).1, w1⟩
        rintro k st11 ⟨j, H11, I11, ts11, n11, w11⟩
        rcases turn1 j k H11 w11 with ⟨stop1, nx1⟩ | ⟨go1, Ny, hNy, step1⟩
        · refine thnF (T1.done (X.blk st3 H3 scp ce fp) rfl rfl rfl hcalm j _ st11 (wipe σ8 vsb) H11 (fun _ _ => False) I11 (atG n11) ts11 stop1) fun r st12 ⟨hr, I12⟩ => ?_
          subst hr
          exact back I12 (wipe_length σ8 vsb).symm know nx1
        · refine thnF (T1.item (X.blk st3 H3 scp ce fp) rfl rfl rfl hcalm j _ st11 (wipe σ8 vsb) H11 (fun _ _ => False) I11 (atG n11) ts11 go1) fun r st12 ⟨u1, hr, h12⟩ => ?_
          subst hr
          refine thnF h12 fun _ st13 ⟨x1, H13, I13, r13, y13, ts13, n13⟩ => ?_
          have I13p := I13.pinned (atG n13) (T1.obj _ _ ts13)
          refine thnF (pgb.run _ st13 (wipe σ8 vsb) H13 x1 u1 _ I13p r13 (step1 x1 H13 y13)) fun _ st14 ⟨σ14, H14, I14, hw14, q14⟩ => ?_
          refine thnF (pte.run _ st14 σ14 H14 _ I14 q14) fun z st15 ⟨yv, H15, I15, r15, c0, S0, n0, ey, hD15, hz15, ny⟩ => ?_
          subst ey
          obtain ⟨tk, rfl⟩ := r15
          refine scTwo_add (X := X.blk st3 H3 scp ce fp) I15 hD15 hz15 fun st16 I16 => ?_
          obtain ⟨k', hk', w'⟩ := hNy _ ny
          have pin' : ∀ b ∈ fq, ∀ o, st13.heap.get? b = some o → st16.heap.get? b = some o ∧ (upd H15 D (SetO X.w D (fun j => S0 j || decide (j = c0)) (if S0 c0 = true then n0 else n0 + 1))) b = none := fun b hb o e =>
            let z := I16.pin (b, o) (List.mem_append_right _ (List.mem_append_right _ (mem_pinsAt hb e)))
            ⟨z.1, z.2.1⟩
          refine ⟨k', hk', j + 1, _, I16.unpinned.weak (by rw [← hw14, wipe_length]) (fun j v e => by rw [← hw14] at e; exact (wipe_some e).1), T1.keep _ _ _ ts13 fun b hb o e => (pin' b hb o e).1, fun b hb => ?_, w'⟩
          obtain ⟨o, e, _⟩ := T1.obj _ _ ts13 b hb
          exact (pin' b hb o e).2
      exact scTwo_startB inner (T1.self X.A 0 _ _ _ ts10 inner)
  exact scTwo_startA loop (T.self X.A 0 _ _ _ ts4 loop)
/-- as a value: {elt for ga in wa for gb in wb} -/
theorem pe_scTwo {elt ta ia tb ib : Expr} {scp : Scope} {own : List (PySem.Str × Nat)} {vsb : List Nat} {ps : Pos} {wa wb : TI} {ga gb : TG} {te : TE} (hcalm : X.calm = true) (hnd : X.N.Nodup) (hwa : PI X ta ia wa)
    (bo : BlkOk X.N X.env.scope scp own) (hsub : ∀ i ∈ vsb, i ∈ own.map (·.2))
    (hga : ∀ (st : Shared) (H : Hp) (C : Addr) (cl : List (PySem.Str × Addr)) (fp : List Addr), PG (X.blk st H scp (compEnvC scp cl C X.env) fp) ta ga)
    (hwb : ∀ (st : Shared) (H : Hp) (C : Addr) (cl : List (PySem.Str × Addr)) (fp : List Addr), PI (X.blk st H scp (compEnvC scp cl C X.env) fp) tb ib wb)
    (hgb : ∀ (st : Shared) (H : Hp) (C : Addr) (cl : List (PySem.Str × Addr)) (fp : List Addr), PG (X.blk st H scp (compEnvC scp cl C X.env) fp) tb gb)
    (hte : ∀ (st : Shared) (H : Hp) (C : Addr) (cl : List (PySem.Str × Addr)) (fp : List Addr), PE (X.blk st H scp (compEnvC scp cl C X.env) fp) elt te)
    (hfa : ∀ x, foldedSetIterable ia X.env x = pure x := by intro _; rfl) (hfb : ∀ en x, foldedSetIterable ib en x = pure x := by intro _ _; rfl) :
    PE X (scTwo elt ta ia tb ib scp ps) (tScTwo X.w wa ga wb gb te (own.map (·.2)) vsb) := by
  refine ⟨fun pins st σ H Q I hq => ?_⟩
  rw [scTwo_eval]
  refine scTwo_core hcalm hnd hwa bo hsub hga hwb hgb hte I hq (fun D C st' m H' I' q hn f => ⟨m, hn, fun h'' sb => ?_⟩) hfa hfb
  obtain ⟨f0, f1, f2, f3, f4, f5⟩ := f
  exact ⟨.ref D, H', I'.turned (t' := st'.toks) (fun b o hb e => (sb.2 b hb).trans e) f0 f1 f3 f4 f5, rfl, q⟩
/-- y = {..}, y a local of the def -/
theorem ps_setScTwo {i : Nat} {y : PySem.Str} {py spos : Pos} {elt ta ia tb ib : Expr} {scp : Scope} {own : List (PySem.Str × Nat)} {vsb : List Nat} {ps : Pos} {wa wb : TI} {ga gb : TG} {te : TE} (hcalm : X.calm = true) (hnd : X.N.Nodup) (hy : X.N[i]? = some y) (hyl : X.env.scope.names.lookup y = some .local) (hsw : swapsWith (scTwo elt ta ia tb ib scp ps) (some (.Name y py)) spos.line X.env = pure true) (hwa : PI X ta ia wa)
    (bo : BlkOk X.N X.env.scope scp own) (hsub : ∀ i ∈ vsb, i ∈ own.map (·.2))
    (hga : ∀ (st : Shared) (H : Hp) (C : Addr) (cl : List (PySem.Str × Addr)) (fp : List Addr), PG (X.blk st H scp (compEnvC scp cl C X.env) fp) ta ga)
    (hwb : ∀ (st : Shared) (H : Hp) (C : Addr) (cl : List (PySem.Str × Addr)) (fp : List Addr), PI (X.blk st H scp (compEnvC scp cl C X.env) fp) tb ib wb)
    (hgb : ∀ (st : Shared) (H : Hp) (C : Addr) (cl : List (PySem.Str × Addr)) (fp : List Addr), PG (X.blk st H scp (compEnvC scp cl C X.env) fp) tb gb)
    (hte : ∀ (st : Shared) (H : Hp) (C : Addr) (cl : List (PySem.Str × Addr)) (fp : List Addr), PE (X.blk st H scp (compEnvC scp cl C X.env) fp) elt te)
    (hfa : ∀ x, foldedSetIterable ia X.env x = pure x := by intro _; rfl) (hfb : ∀ en x, foldedSetIterable ib en x = pure x := by intro _ _; rfl) :
    PS X (.Assign [.Name y py] (scTwo elt ta ia tb ib scp ps) spos) (tAsg (tScTwo X.w wa ga wb gb te (own.map (·.2)) vsb) (gName i)) := by
  refine ⟨fun pins st σ H D I hq => ?_⟩
  rw [exec_Assign_Name_used _ _ _ _ hsw]
  refine wpAny_bind (wpAny_standAt (wpAny_bind ?_))
  show wpAny _ X.A (do let _ ← comprehension (scTwo elt ta ia tb ib scp ps) scp X.env (firstIterPos [⟨ta, ia, [], 0⟩, ⟨tb, ib, [], 0⟩] ps) (newSet (.type "set")) false (eval ia X.env) (some (assign (.Name y py) X.env))) _ _ st
  have hq : tScTwo X.w wa ga wb gb te (own.map (·.2)) vsb σ H (fun x H1 => gName i x σ H1 D.nx) := hq
  refine wpAny_bind (thn (scTwo_core (Qf := fun _ st' => SP X pins D .next st') hcalm hnd hwa bo hsub hga hwb hgb hte I hq (fun L C st' m H' I' q hn f => ?_) hfa hfb) fun _ st' z => wpAny_pure (wpAny_pure z))
  show wpAny _ _ (assign (.Name y py) X.env (.ref L)) _ _ _
  refine wpAny_assign_Name (store_ok2 (v := V.ref L) I' hnd hy (.inl hyl) rfl (fun st2 I2 ⟨a, sb, ha⟩ => ?_) (.inr hyl))
  obtain ⟨g0, g1, g2, g3, g4, g5⟩ := f
  have hne : C ≠ a := ha.elim (fun z => by rw [z]; exact g1) fun z e => g4 y a z e.symm
  exact ⟨m, hn.sameBut sb hne, fun h3 sb3 => ⟨_, H', I2.turned (t' := st2.toks) (fun b o hb e => (sb3.2 b hb).trans e) g0 g1 g3 g4 g5, q⟩⟩
theorem sw_set {elt : Expr} {gs : List Comprehension} {scp : Scope} {pos py : Pos} {y : PySem.Str} {ln : Nat} {en : Env} (kf : en.scope.kind = .function) (ky : en.scope.names.lookup y = some .local) (kl : (py.line == pos.line) = true)
    (ka : (scp.names.any fun (n, k) => n == y && (k == .local || k == .cell)) = false) : swapsWith (.SetComp elt gs scp pos) (some (.Name y py)) ln en = pure true := by
  have q1 : en.kindOf y = some .local := ky
  have q2 : en.blockKind = .function := by unfold Env.blockKind; rw [kf]; rfl
  unfold swapsWith
  simp only [q2, q1, ka, Expr.pos, kl]
  rfl
theorem sw_dict {kx vx : Expr} {gs : List Comprehension} {scp : Scope} {pos py : Pos} {y : PySem.Str} {ln : Nat} {en : Env} (kf : en.scope.kind = .function) (ky : en.scope.names.lookup y = some .local) (kl : (py.line == pos.line) = true)
    (ka : (scp.names.any fun (n, k) => n == y && (k == .local || k == .cell)) = false) : swapsWith (.DictComp kx vx gs scp pos) (some (.Name y py)) ln en = pure true := by
  have q1 : en.kindOf y = some .local := ky
  have q2 : en.blockKind = .function := by unfold Env.blockKind; rw [kf]; rfl
  unfold swapsWith
  simp only [q2, q1, ka, Expr.pos, kl]
  rfl
end
end Cp
/-! Cameposts: texts sign by sign -/
namespace Cp
open PySem L2 PySem.Spec PyProof.Rows
open Evl (Ex)
def leS (i j : Str) : Bool := !decide (j.cps.toList < i.cps.toList)
abbrev rLeU : R2 := rOr (rI0 fun i j => .bl (decide (i ≤ j))) (fun x y H Q => ∃ i j, x = .str i ∧ y = .str j ∧ Q (.bl (!decide (j.cps.toList < i.cps.toList))) H)
theorem op_leU {X : Cx} : OpR X (compareOp .LtE) rLeU := op_or2 op_le op_le_str
section
variable {O : List Addr} {K : PySem.W.Frag} {δ : List Sl} {te : TE} {x y d : PyData}
theorem rp_leS {i j : Str} : RP O rLeU (.str i) (.str j) (.bool (leS i j)) := rp_r fun v w H hD hv hw Q k => by
  cases hv
  cases hw
  exact ⟨i, j, rfl, rfl, k _ H (Ex.refl H) rfl⟩
theorem ep_lenS {z : Str} (h : Cp.EP O te δ (.str z)) (hz : z.length ≤ sizeLine) : Cp.EP O (tCB (fun xs H Q => ∃ x n, xs = [x] ∧ LenV K x H n ∧ Q (V.int ↑n) H) (tCons te tNil)) δ (.int (z.length : Int)) := fun σ H hD hS Q k =>
  h σ H hD hS _ fun v H1 e1 hv => by
    cases hv
    exact ⟨.str z, z.length, rfl, ⟨hz, rfl⟩, k _ H1 e1 rfl⟩
theorem wp_str {z : Str} (h : Cp.EP O te δ (.str z)) : WP O (iStr te) δ z.cps.size (fun i => .str ⟨#[z.cps.getD i 0]⟩) := fun σ H hD hS R k =>
  h σ H hD hS _ fun v H1 e1 hv => by
    cases hv
    refine ⟨z, rfl, k _ H1 e1 (walk_str.mono (fun _ _ => trivial) fun i H' v H'' hi g y => ?_)⟩
    obtain ⟨rfl, c, hc, rfl⟩ := y
    refine ⟨Ex.refl _, fun _ _ _ => ?_⟩
    show V.str ⟨#[c]⟩ = V.str ⟨#[z.cps.getD i 0]⟩
    rw [Array.getD_eq_getD_getElem?, hc]
    rfl
theorem bools_all : ∀ {H : Hp} {bs : List Bool} {vs : List V}, DtAll H (bs.map PyData.bool) vs → vs = bs.map V.bl
  | H, [], vs, h => h
  | H, b :: bs, vs, h => by
    obtain ⟨v, r, rfl, h1, h2⟩ := h
    have h1 : v = .bl b := h1
    rw [h1, bools_all h2]
    rfl
theorem ep_all {bs : List Bool} (h : Cp.EP O te δ (.list (bs.map PyData.bool))) : Cp.EP O (tCB (rAll K) (tCons te tNil)) δ (.bool (bs.all id)) := fun σ H hD hS Q k =>
  h σ H hD hS _ fun v H1 e1 hv => by
    obtain ⟨a, xs, rfl, q1, q2⟩ := hv
    have e := bools_all q2
    subst e
    exact ⟨a, bs, rfl, SqL.of (hid_some q1).2, k _ H1 e1 rfl⟩
end
theorem kx_all {X : Cx} {K : PySem.W.Frag} (h : X.K = K) (hc : X.calm = true) : CallR X (.builtin "all") (rAll K) := h ▸ cr_all hc
theorem jok_same {O : List Addr} (H0 : Hp) : Jok O (fun H => ∀ b ∈ O, H b = H0 b) := fun H H' s _ h b hb => (s b hb).trans (h b hb)
theorem ex_of {O : List Addr} {H H' : Hp} (e : Ex (hid O H) (hid O H')) (s : ∀ b ∈ O, H' b = H b) : Ex H H' := fun a o q => by
  by_cases c : a ∈ O
  · rw [s a c]; exact q
  · exact hid_le a o (e a o (by rw [hid_out c]; exact q))
/-- what is left of a body changes nothing and hands data back -/
theorem ds_finish {O : List Addr} {t : TS} {δ : List Sl} {r : PyData} {D : Ends} {σ : L2.St} {H : Hp} (h : DS O t δ (fun _ => False) (fun d => d = r)) (hD : Dom O H) (hS : SD (hid O H) δ σ) (k : ∀ v H', Ex H H' → Dt (hid O H') r v → D.rt v H') : t D σ H :=
  h (fun H' => ∀ b ∈ O, H' b = H b) (jok_same H) σ H D (fun _ _ => rfl) hD hS (fun _ _ _ n => n.1.elim) fun v H' hr _ e => by
    obtain ⟨d, hd, z, hs⟩ := hr
    rw [z] at hd
    exact k v H' (ex_of e hs) hd
theorem strs_of : ∀ {H : Hp} {xs : List Str} {vs : List V}, DtAll H (xs.map PyData.str) vs → vs = xs.map V.str
  | H, [], vs, h => h
  | H, b :: bs, vs, h => by
    obtain ⟨v, r, rfl, h1, h2⟩ := h
    have h1 : v = .str b := h1
    rw [h1, strs_of h2]
    rfl
theorem strs_to : ∀ {H : Hp} (xs : List Str), DtAll H (xs.map PyData.str) (xs.map V.str)
  | H, [] => rfl
  | H, b :: bs => ⟨V.str b, bs.map V.str, rfl, rfl, strs_to bs⟩
/-- sorted over texts -/
theorem em_sortedS {O : List Addr} {J : Hp → Prop} {K : PySem.W.Frag} {δ : List Sl} {te : TE} {xs : List Str} (jk : Jok O J) (h : Cp.EP O te δ (.list (xs.map PyData.str))) (hl : xs.length < 64) :
    EM O J (tCB (rSortedS K) (tCons te tNil)) δ (fun d H => (∃ ys : List Str, d = .list (ys.map PyData.str) ∧ ys.Perm xs ∧ sortedS ys = true) ∧ J H) := fun σ H hJ hD hS Q k =>
  h σ H hD hS _ fun v H1 e1 hv => by
    obtain ⟨a, vs, rfl, q1, q2⟩ := hv
    have e := strs_of q2
    subst e
    have d1 := hD.ex e1
    refine ⟨a, xs, rfl, SqL.of (hid_some q1).2, hl, fun ys p hp hs hn => ?_⟩
    exact k (.list (ys.map PyData.str)) (.ref p) _ ⟨⟨ys, rfl, hp, hs⟩, jk.ex hD (e1.trans (Ex.new hn)) hJ⟩ (d1.ex (Ex.new hn)) (hid_ex (e1.trans (Ex.new hn))) ⟨p, ys.map V.str, rfl, by rw [hid_out (d1.fresh hn)]; exact upd_same, strs_to ys⟩
theorem kx_sortedS {X : Cx} {K : PySem.W.Frag} (h : X.K = K) (hc : CallR X (.builtin "sorted") (rSortedS X.K)) : CallR X (.builtin "sorted") (rSortedS K) := h ▸ hc
end Cp
/-! Cameposts: new objects that are no data (sets), read by slots -/
namespace Cp
open PySem L2 PySem.Spec PyProof.Rows
open Evl (Ex)
/-- te gives a new object, of which P tells -/
def EO (O : List Addr) (te : TE) (δ : List Sl) (P : (Addr → HO) → Prop) : Prop :=
  ∀ σ H, Dom O H → SD (hid O H) δ σ → ∀ Q : VK, (∀ f a H', P f → Ex H H' → hid O H' a = some (f a) → Q (.ref a) H') → te σ H Q
section
variable {O : List Addr} {K : PySem.W.Frag} {δ : List Sl} {te tx : TE} {i : Nat} {N0 : List Sl → Prop} {R0 : PyData → Prop} {P : (Addr → HO) → Prop}
theorem ds_asgO (h : EO O te δ P) (k : ∀ f, P f → N0 (δ.set i (.ob f))) : DS O (tAsg te (gName i)) δ N0 R0 := fun J j σ H D hJ hD hS kn kr =>
  h σ H hD hS _ fun f a H' p e q => kn _ _ H' ⟨k f p, j.ex hD e hJ⟩ (hD.ex e) (hid_ex e) ((hS.mono (hid_ex e)).set i ⟨a, rfl, q⟩)
/-- the numbers of a comprehension of two fors -/
def ints2 (n : Nat) (m : Nat → Nat) (f : Nat → Nat → Int) : List Int := (List.range n).flatMap fun i => (List.range (m i)).map (f i)
theorem ints2_succ {n : Nat} {m : Nat → Nat} {f : Nat → Nat → Int} : ints2 (n + 1) m f = ints2 n m f ++ (List.range (m n)).map (f n) := by
  unfold ints2
  rw [List.range_succ, List.flatMap_append]
  simp
theorem ints2_le {m : Nat → Nat} {f : Nat → Nat → Int} {b : Nat} : ∀ (n : Nat), (∀ i, i < n → m i ≤ b) → (ints2 n m f).length ≤ n * b
  | 0, _ => by simp [ints2]
  | n + 1, h => by
    rw [ints2_succ, List.length_append, List.length_map, List.length_range]
    have h1 := ints2_le (m := m) (f := f) (b := b) n fun i hi => h i (by omega)
    have h3 := h n (by omega)
    rw [Nat.add_mul, Nat.one_mul]
    omega
theorem mem_ints2 {n : Nat} {m : Nat → Nat} {f : Nat → Nat → Int} {x : Int} : x ∈ ints2 n m f ↔ ∃ i j, i < n ∧ j < m i ∧ f i j = x := by
  simp only [ints2, List.mem_flatMap, List.mem_range, List.mem_map]
  constructor
  · rintro ⟨i, hi, j, hj, e⟩; exact ⟨i, j, hi, hj, e⟩
  · rintro ⟨i, j, hi, hj, e⟩; exact ⟨i, hi, j, hj, e⟩
/-- at D the set of l so far, all else kept -/
def AccS (w : World) (O : List Addr) (H1 : Hp) (D : Addr) (l : List Int) (H : Hp) : Prop :=
  (∃ n, n ≤ l.length ∧ H D = some (SetO w D (fun x => decide (x ∈ l)) n)) ∧ ∀ a o, a ≠ D → H1 a = some o → H a = some o
theorem AccS.ex {w : World} {H1 H H' : Hp} {D : Addr} {l : List Int} (h : AccS w O H1 D l H) (e : Ex H H') : AccS w O H1 D l H' := by
  obtain ⟨⟨n, h0, h1⟩, h3⟩ := h
  exact ⟨⟨n, h0, e _ _ h1⟩, fun a o ha q => e _ _ (h3 a o ha q)⟩
theorem AccS.dom {w : World} {H1 H : Hp} {D : Addr} {l : List Int} (h : AccS w O H1 D l H) (d : Dom O H1) (hn : H1 D = none) : Dom (D :: O) H := by
  obtain ⟨⟨n, h0, h1⟩, h3⟩ := h
  intro a ha
  rcases List.mem_cons.mp ha with rfl | ha
  · rw [h1]; simp
  · cases q : H1 a with
    | none => exact absurd q (d a ha)
    | some o => rw [h3 a o (fun z => by rw [z, hn] at q; cases q) q]; simp
theorem AccS.hid {w : World} {H1 H : Hp} {D : Addr} {l : List Int} (h : AccS w O H1 D l H) (hn : H1 D = none) : Ex (hid O H1) (Cp.hid (D :: O) H) := fun a o q => by
  obtain ⟨h1, h2⟩ := hid_some q
  have ha : a ≠ D := fun z => by rw [z, hn] at h2; cases h2
  rw [hid_out (by simp [ha, h1])]
  exact h.2 a o ha h2
theorem AccS.push {w : World} {H1 H : Hp} {D : Addr} {l : List Int} {c : Int} (h : AccS w O H1 D l H) : ∃ (S : Int → Bool) (n : Nat), H D = some (SetO w D S n) ∧ n ≤ l.length ∧ AccS w O H1 D (l ++ [c]) (upd H D (SetO w D (fun j => S j || decide (j = c)) (if S c = true then n else n + 1))) := by
  obtain ⟨⟨n, h0, h1⟩, h3⟩ := h
  have e : (fun j => decide (j ∈ l) || decide (j = c)) = fun x => decide (x ∈ l ++ [c]) := by
    funext j
    simp
  have hz : (if decide (c ∈ l) = true then n else n + 1) ≤ (l ++ [c]).length := by
    rw [List.length_append]
    show (if decide (c ∈ l) = true then n else n + 1) ≤ l.length + 1
    split <;> omega
  exact ⟨_, n, h1, h0, ⟨_, hz, by rw [upd_same, e]⟩, fun a o ha q => by rw [upd_ne ha]; exact h3 a o ha q⟩
theorem eo_scTwo {w : World} {wa wb : TI} {ga gb : TG} {n b : Nat} {m : Nat → Nat} {item : Nat → PyData} {item1 : Nat → Nat → PyData} {ix ix1 vs vs1 : List Nat} {f : Nat → Nat → Int}
    (hw : ∀ O, WP O wa δ n item) (hb : ∀ i, i < n → m i ≤ b) (hn : n * b ≤ 1000) (hi : ∀ j ∈ ix, j ∈ vs) (hi1 : ∀ j ∈ ix1, j ∈ vs1) (hv : ∀ j ∈ vs1, j ∈ vs)
    (hs : ∀ O i, i < n → ∃ δ2, GB O ga (item i) (wipeS δ vs) δ2 ix ∧ WP O wb δ2 (m i) (item1 i) ∧
      ∀ j, j < m i → ∃ δ3, GB O gb (item1 i j) (wipeS δ2 vs1) δ3 ix1 ∧ EP O te δ3 (.int (f i j))) :
    EO O (tScTwo w wa ga wb gb te vs vs1) δ (fun g => ∃ k, g = fun a => SetO w a (fun x => decide (x ∈ ints2 n m f)) k) := fun σ H hD hS Q k => by
  refine hw O σ H hD hS _ fun Ji H1 e1 wk => ?_
  intro D hDn
  have d1 := hD.ex e1
  have s1 := hS.mono (hid_ex e1)
  have dfr : D ∉ O := d1.fresh hDn
  have mono : ∀ {H' H'' : Hp}, Ex H' H'' → Ex (hid (D :: O) H') (hid (D :: O) H'') := fun e => hid_ex e
  refine ⟨fun i mm H' => mm = n - i ∧ i ≤ n ∧ AccS w O H1 D (ints2 i m f) H', ⟨n, by simp, Nat.zero_le _, ⟨0, Nat.le_refl _, by rw [upd_same]; simp [ints2]⟩, fun a o ha q => by rw [upd_ne ha]; exact q⟩, ?_⟩
  rintro i mm H' ⟨rfl, hin, p⟩
  have pG : Ex (hid O H1) H' := (p.hid hDn).trans hid_le
  by_cases hlt : i < n
  · refine .inr ⟨wk.goes i H' hlt pG, fun H'' => AccS w O H1 D (ints2 (i + 1) m f) H'', fun H'' p' => ⟨n - (i + 1), by omega, rfl, hlt, p'⟩, fun v H2 yy => ?_⟩
    obtain ⟨e2, hvv⟩ := wk.yields i H' v H2 hlt pG yy
    have p2 := p.ex e2
    have d2 := p2.dom d1 hDn
    obtain ⟨δ2, hg, hw1, hin2⟩ := hs (D :: O) i hlt
    have s2 : SD (hid (D :: O) H2) (wipeS δ vs) (L2.wipe σ vs) := (s1.wipe vs).mono (p2.hid hDn)
    refine hg _ H2 v d2 s2 (hvv (D :: O) (p.hid hDn) (p.dom d1 hDn)) _ fun σ2 s3 hl hj => ⟨?_, ?_⟩
    · rw [wipe_same (vs := vs) hl hj hi]
      exact wipe_wipe σ vs vs fun _ h => h
    · refine hw1 σ2 H2 d2 s3 _ fun J1 H3 e3 w1 => ?_
      have p3 := p2.ex e3
      have s3' := s3.mono (mono e3)
      refine ⟨fun j kk H'' => kk = m i - j ∧ j ≤ m i ∧ (AccS w O H1 D (ints2 i m f ++ (List.range j).map (f i)) H'' ∧ Ex (hid (D :: O) H3) (hid (D :: O) H'')), ⟨m i, by simp, Nat.zero_le _, by simpa using p3, Ex.refl _⟩, ?_⟩
      rintro j kk H4 ⟨rfl, hjm, p4, e4⟩
      have q4 : Ex (hid (D :: O) H3) H4 := e4.trans hid_le
      by_cases hlt1 : j < m i
      · refine .inr ⟨w1.goes j H4 hlt1 q4, fun H'' => AccS w O H1 D (ints2 i m f ++ (List.range (j + 1)).map (f i)) H'' ∧ Ex (hid (D :: O) H3) (hid (D :: O) H''), fun H'' p' => ⟨m i - (j + 1), by omega, rfl, hlt1, p'.1, p'.2⟩, fun u H5 y1 => ?_⟩
        obtain ⟨e5, hu⟩ := w1.yields j H4 u H5 hlt1 q4 y1
        have p5 := p4.ex e5
        have d4 := p4.dom d1 hDn
        have d5 := p5.dom d1 hDn
        obtain ⟨δ3, hg1, he⟩ := hin2 j hlt1
        have e35 : Ex (hid (D :: O) H3) (hid (D :: O) H5) := e4.trans (mono e5)
        have s5 : SD (hid (D :: O) H5) (wipeS δ2 vs1) (L2.wipe σ2 vs1) := (s3'.mono e35).wipe vs1
        refine hg1 _ H5 u d5 s5 (hu (D :: O) e4 d4) _ fun σ3 s6 hl1 hj1 => ⟨?_, ?_⟩
        · rw [wipe_same (vs := vs1) hl1 hj1 hi1]
          exact wipe_wipe σ2 vs1 vs1 fun _ h => h
        · refine he σ3 H5 d5 s6 _ fun t H7 e7 ht => ?_
          obtain rfl : t = .int (f i j) := ht
          have p7 := p5.ex e7
          obtain ⟨S, c, q1, q2, q3⟩ := p7.push (c := f i j)
          refine ⟨f i j, S, c, rfl, q1, ?_, ?_, ?_⟩
          · have z1 : (ints2 i m f).length ≤ i * b := ints2_le i fun i' hi' => hb i' (by omega)
            have z3 := hb i hlt
            have z4 : (i + 1) * b ≤ n * b := Nat.mul_le_mul_right b hlt
            rw [Nat.add_mul, Nat.one_mul] at z4
            rw [List.length_append, List.length_map, List.length_range] at q2
            show c + 1 < scanBound
            unfold scanBound
            omega
          · rw [List.range_succ, List.map_append, ← List.append_assoc]
            exact q3
          · refine (e35.trans (mono e7)).trans fun a o q => ?_
            obtain ⟨h1, h2⟩ := hid_some q
            rw [hid_out h1, upd_ne (fun z => h1 (by simp [z]))]
            exact h2
      · have ej : j = m i := by omega
        subst ej
        refine .inl ⟨w1.stops H4 q4, ?_⟩
        show AccS w O H1 D (ints2 (i + 1) m f) H4
        rw [ints2_succ]
        exact p4
  · have ei : i = n := by omega
    subst ei
    refine .inl ⟨wk.stops H' pG, ?_⟩
    obtain ⟨⟨c, q0, q1⟩, q3⟩ := id p
    exact k (fun a => SetO w a (fun x => decide (x ∈ ints2 i m f)) c) D H' ⟨c, rfl⟩ (e1.trans fun a o q => q3 a o (fun z => by rw [z, hDn] at q; cases q) q) (by rw [hid_out dfr]; exact q1)
/-- x not in a set that a slot holds -/
theorem ep_notInSet {w : World} {S : Int → Bool} {n : Nat} {x : Int} (hs : δ.getD i .no = .ob (fun a => SetO w a S n)) (h : EP O te δ (.int x)) : EP O (tOp (rSNotIn w) te (tVar i)) δ (.bool (!S x)) := fun σ H hD hS Q k =>
  h σ H hD hS _ fun v H1 e1 hv => by
    cases hv
    obtain ⟨a, h1, h2⟩ := (hS.mono (hid_ex e1)).obj hs
    exact ⟨.ref a, h1, x, a, S, n, rfl, rfl, (hid_some h2).2, k _ H1 e1 rfl⟩
theorem ep_inSet {w : World} {S : Int → Bool} {n : Nat} {x : Int} (hs : δ.getD i .no = .ob (fun a => SetO w a S n)) (h : EP O te δ (.int x)) : EP O (tOp (rSIn w) te (tVar i)) δ (.bool (S x)) := fun σ H hD hS Q k =>
  h σ H hD hS _ fun v H1 e1 hv => by
    cases hv
    obtain ⟨a, h1, h2⟩ := (hS.mono (hid_ex e1)).obj hs
    exact ⟨.ref a, h1, x, a, S, n, rfl, rfl, (hid_some h2).2, k _ H1 e1 rfl⟩
end
theorem kw_snotin {X : Cx} {w : World} (h : X.w = w) : OpR X (compareOp .NotIn) (rSNotIn w) := h ▸ or_snotin
theorem kw_sin {X : Cx} {w : World} (h : X.w = w) : OpR X (compareOp .In) (rSIn w) := h ▸ or_sin
end Cp
set_option maxHeartbeats 1000000
/-! Cameposts: a comprehension whose items are drawn -/
namespace Cp
open PySem L2 PySem.Spec PyProof.Rows
open Evl (Ex)
section
variable {O : List Addr} {K : PySem.W.Frag} {δ : List Sl} {te : TE} {tt : TT}
/-- Jv i: what is owned behind i items; P i: what is known of the i-th -/
theorem em_lcD {wi : TI} {g : TG} {n : Nat} {item : Nat → PyData} {ix vs : List Nat} {P : Nat → PyData → Prop} {Jv : Nat → Hp → Prop} (hw : ∀ O, WP O wi δ n item) (hn : n ≤ 10000) (hi : ∀ j ∈ ix, j ∈ vs) (htt : ∀ σ H Q, Q true H → tt σ H Q) (jk0 : Jok O (Jv 0))
    (hst : ∀ D, D ∉ O → ∀ i H H', (∀ a, a ≠ D → H' a = H a) → Jv i H → Jv i H')
    (hs : ∀ D, D ∉ O → ∀ ds : List PyData, ∀ i, i < n → ∃ δ2, GB (D :: O) g (item i) (wipeS δ vs) δ2 ix ∧ Jok (D :: O) (fun H => Jv i H ∧ Own (D :: O) D ds H) ∧ EM (D :: O) (fun H => Jv i H ∧ Own (D :: O) D ds H) te δ2 (fun d H => P i d ∧ Jv (i + 1) H ∧ Own (D :: O) D ds H)) :
    EM O (Jv 0) (tLc wi g tt te vs) δ (fun d H => ∃ ds, d = .list ds ∧ (ds.length = n ∧ ∀ i, i < n → P i (ds.getD i .none)) ∧ Jv n H) := fun σ H hJ hD hS Q k => by
  refine hw O σ H hD hS _ fun Ji H1 e1 w => ?_
  intro D hDn
  have d1 := hD.ex e1
  have s1 := hS.mono (hid_ex e1)
  have j1 : Jv 0 H1 := jk0.ex hD e1 hJ
  obtain ⟨n1, n2, n3, dfr⟩ := own_new d1 hDn
  have domD : ∀ {H' : Hp} {ds : List PyData}, Dom O H' → Own (D :: O) D ds H' → Dom (D :: O) H' := fun dm own a ha => by
    rcases List.mem_cons.mp ha with z | z
    · obtain ⟨xs, q, _⟩ := own
      rw [z, q]; simp
    · exact dm a z
  refine lc_it w (fun i H' => ∃ ds, (ds.length = i ∧ ∀ j, j < i → P j (ds.getD j .none)) ∧ Jv i H' ∧ Own (D :: O) D ds H' ∧ Ex (hid O H1) (hid (D :: O) H') ∧ Dom O H')
    ⟨[], ⟨rfl, fun j hj => by omega⟩, hst D dfr 0 H1 _ (fun a ha => upd_ne ha) j1, n3, n2, fun a ha => n1 a (by simp [ha])⟩ (fun i H' _ p => ?_) (fun i v H' H2 hi' p y => ?_) fun H' p => ?_
  · obtain ⟨ds, _, _, _, ex, _⟩ := p
    exact ex.trans hid_le
  · obtain ⟨ds, ⟨l1, l2⟩, jv, own, ex, dm⟩ := p
    obtain ⟨e2, hv⟩ := y
    obtain ⟨δ2, hg, jkD, hte⟩ := hs D dfr ds i hi'
    have dd := domD dm own
    have d2 := dd.ex e2
    have s2 : SD (hid (D :: O) H2) (wipeS δ vs) (L2.wipe σ vs) := (s1.wipe vs).mono (ex.trans (hid_ex e2))
    refine hg _ H2 v d2 s2 (hv (D :: O) ex dd) _ fun σ2 s3 hl hj => ⟨?_, ?_⟩
    · rw [wipe_same (vs := vs) hl hj hi]
      exact wipe_wipe σ vs vs fun _ h => h
    · refine htt _ _ _ ?_
      rw [if_pos rfl]
      refine hte σ2 H2 (jkD.ex dd e2 ⟨jv, own⟩) d2 s3 _ fun d y H4 p4 d4 e4 hy => ?_
      obtain ⟨pd, jv4, own4⟩ := p4
      obtain ⟨acc, q1, q2⟩ := id own4
      have hh := hid_set (O := D :: O) (l := D) (o := .lst (acc ++ [y])) (H := H4) (by simp)
      refine ⟨acc, q1, by rw [q2.length, l1]; exact Evl.sz_lt (by omega), ds ++ [d], ⟨by rw [List.length_append, l1]; rfl, fun j hj => ?_⟩, hst D dfr (i + 1) H4 _ (fun a ha => upd_ne ha) jv4, ⟨acc ++ [y], upd_same, by rw [hh]; exact q2.append (DtAll.one hy)⟩, by rw [hh]; exact (ex.trans (hid_ex e2)).trans e4, fun a ha => ?_⟩
      · by_cases c : j = i
        · subst c
          rw [List.getD_eq_getElem?_getD, List.getElem?_append_right (by omega), l1, Nat.sub_self]
          exact pd
        · rw [List.getD_eq_getElem?_getD, List.getElem?_append_left (by omega), ← List.getD_eq_getElem?_getD]
          exact l2 j (by omega)
      · by_cases c : a = D
        · rw [c, upd_same]; simp
        · rw [upd_ne c]
          exact d4 a (by simp [ha])
  · obtain ⟨ds, hds, jv, own, ex, dm⟩ := p
    obtain ⟨z1, z2⟩ := own_data dfr own
    exact k (.list ds) (.ref D) H' ⟨ds, rfl, hds, jv⟩ dm ((hid_ex e1).trans (ex.trans z2)) z1
end
end Cp
/-! Cameposts: a list the other way round; texts put together; draws by a short word -/
namespace Cp
open PySem L2 PySem.Spec PyProof.Rows PySem.W
open Evl (Ex)
/-- xs[::-1] -/
def tRevL (K : PySem.W.Frag) (te : TE) : TE := fun σ H Q => te σ H fun x H1 => ∃ a xs, x = .ref a ∧ SqL K H1 a xs ∧ ∀ p, H1 p = none → Q (.ref p) (upd H1 p (.lst xs.reverse))
theorem pe_revL {X : Cx} {e : Expr} {te : TE} {j : Nat} {p1 p2 p3 pos : Pos} (he : PE X e te) : PE X (.Subscript e (.Slice none none (some (.UnaryOp .USub (.Constant (.int 1) j p1) p2)) p3) pos) (tRevL X.K te) := by
  refine ⟨fun pins s σ H Q I h => ?_⟩
  refine Subscript_ (thn (he.run pins s σ H _ I h) fun v s1 ⟨x, H1, I1, r1, a, xs, q0, hx, q⟩ => ?_)
  subst q0
  cases r1
  refine wpAny_Slice ?_
  rw [evalPart_none]
  refine wpAny_pure (wpAny_pure ?_)
  rw [evalPart_some]
  have hone : PE X (.UnaryOp .USub (.Constant (.int 1) j p1) p2) (tUn (fun x H Q => ∃ i, x = V.int i ∧ Q (V.int (-i)) H) (tC (.int 1))) := pe_un un_neg pe_int
  refine thn (hone.run pins s1 σ H1 (fun x H' => x = .int (-1) ∧ H' = H1) I1 ⟨1, rfl, rfl, rfl⟩) fun vm s2 ⟨m, H2, I2, r2, q2⟩ => ?_
  obtain ⟨rfl, rfl⟩ := q2
  obtain ⟨tk, rfl⟩ := r2
  have I3 : Inv X pins σ H2 { s2 with heap := s2.heap.push { cls := .type "slice", data := .fields #[.none, .none, .int (-1) tk] } } := I2.kept (t' := s2.toks) fun b ob q => Heap.get?_push_of_some _ q
  obtain ⟨its, r, ht, hz⟩ := I3.list hx
  have hlen := r.length
  have hsl : ({ s2 with heap := s2.heap.push { cls := .type "slice", data := .fields #[.none, .none, .int (-1) tk] } } : Shared).heap.IsSliceOf s2.heap.objs.size .none .none (.int (-1) tk) := Heap.IsSliceOf.new ..
  show wpAny (model X.prog X.w) X.A (subscriptTail e (.Slice none none (some (.UnaryOp .USub (.Constant (.int 1) j p1) p2)) p3) (.ref a) (.ref s2.heap.objs.size)) (L2.EP X pins σ Q) X.xe _
  refine tail_any (ops := [.ref a, .ref s2.heap.objs.size]) ht.isList.typeIs slot_list_getitem.lookup ?_ (by with_unfolding_all rfl)
  refine wpAny_getItem_list_slice ht.isList hsl .none .none (.int (-1) tk) (by decide) ?_ (by rw [List.size_toArray]; omega)
  rw [krv_pick]
  refine ⟨.ref _, _, I3.laid (t' := s2.toks) (o := .lst xs.reverse) (fun b ob q => Heap.get?_push_of_some _ q) (Nat.le_refl _) ?_, rfl, q _ (I3.hok.fresh (Nat.le_refl _))⟩
  exact ⟨by rw [List.length_reverse]; exact hz, _, 0, r.reverse, Heap.get?_push_size _ rfl⟩
theorem DtAll.reverse {H : Hp} : ∀ {ds : List PyData} {vs : List V}, DtAll H ds vs → DtAll H ds.reverse vs.reverse
  | [], vs, h => by cases h; rfl
  | d :: ds, vs, ⟨v, r, h1, h2, h3⟩ => by
    cases h1
    rw [List.reverse_cons, List.reverse_cons]
    exact (DtAll.reverse h3).append (DtAll.one h2)
theorem ep_rev {O : List Addr} {K : PySem.W.Frag} {δ : List Sl} {te : TE} {ds : List PyData} (h : Cp.EP O te δ (.list ds)) : Cp.EP O (tRevL K te) δ (.list ds.reverse) := fun σ H hD hS Q k =>
  h σ H hD hS _ fun v H1 e1 hv => by
    obtain ⟨a, xs, rfl, h1, h2⟩ := hv
    refine ⟨a, xs, rfl, SqL.of (hid_some h1).2, fun p hp => k (.ref p) _ (e1.trans (Ex.new hp)) ⟨p, xs.reverse, rfl, by rw [hid_out ((hD.ex e1).fresh hp)]; exact upd_same, (h2.mono (hid_ex (Ex.new hp))).reverse⟩⟩
theorem kx_revL {X : Cx} {K : PySem.W.Frag} {e : Expr} {te : TE} {j : Nat} {p1 p2 p3 pos : Pos} (h : X.K = K) (he : PE X e te) : PE X (.Subscript e (.Slice none none (some (.UnaryOp .USub (.Constant (.int 1) j p1) p2)) p3) pos) (tRevL K te) := h ▸ pe_revL he
end Cp
/-! Cameposts: what is drawn, by a short word: ET b b' te δ P: from b draws to b' te gives data of which P tells -/
namespace Cp
open PySem L2 PySem.Spec PyProof.Rows
open Evl (Ex)
/-- what is owned beside the purse -/
structure Keep (O : List Addr) (p c : Addr) (JO : Hp → Prop) : Prop where
  hp : p ∈ O
  hc : c ∈ O
  jk : Jok O JO
  kp : ∀ H H', Kp p c H H' → JO H → JO H'
def PJ (p c : Addr) (JO : Hp → Prop) (b : Nat) : Hp → Prop := fun H => Pu p c b H ∧ JO H
theorem Keep.jok {O : List Addr} {p c : Addr} {JO : Hp → Prop} (V : Keep O p c JO) {b : Nat} : Jok O (PJ p c JO b) := jok_and (Pu.jok V.hp V.hc) V.jk
theorem keep0 {p c : Addr} : Keep [p, c] p c (fun _ => True) := ⟨by simp, by simp, jok_true, fun _ _ _ _ => trivial⟩
section
variable {O : List Addr} {p c : Addr} {JO : Hp → Prop} {K : PySem.W.Frag} {δ : List Sl} {te ti tb : TE} {ta : TA} {b b' b1 b2 : Nat} {P P1 P2 P3 : PyData → Prop} {i : Nat} {E : XK}
def ET (O : List Addr) (p c : Addr) (JO : Hp → Prop) (b b' : Nat) (te : TE) (δ : List Sl) (P : PyData → Prop) : Prop := EM O (PJ p c JO b) te δ (fun d H => P d ∧ PJ p c JO b' H)
def AT (O : List Addr) (p c : Addr) (JO : Hp → Prop) (b b' : Nat) (ta : TA) (δ : List Sl) (P : List PyData → Prop) : Prop := AM O (PJ p c JO b) ta δ (fun d H => P d ∧ PJ p c JO b' H)
theorem et_pure (V : Keep O p c JO) {d : PyData} (h : Cp.EP O te δ d) (k : P d) : ET O p c JO b b te δ P := EM.imp (h.em V.jok) fun x H q => ⟨by rw [q.1]; exact k, q.2⟩
theorem et_imp (h : ET O p c JO b b' te δ P1) (k : ∀ d, P1 d → P d) : ET O p c JO b b' te δ P := EM.imp h fun d H q => ⟨k d q.1, q.2⟩
theorem et_more (h : ET O p c JO b b' te δ P) (k : b' ≤ b1) : ET O p c JO b b1 te δ P := EM.imp h fun d H q => ⟨q.1, q.2.1.mono k, q.2.2⟩
theorem et_op (V : Keep O p c JO) {r : R2} (ha : ET O p c JO b b1 te δ P1) (hb : ET O p c JO b1 b' tb δ P2) (k : ∀ x y, P1 x → P2 y → ∃ z, RP O r x y z ∧ P z) : ET O p c JO b b' (tOp r te tb) δ P :=
  em_op (Pb := fun x y H => (P1 x ∧ P2 y) ∧ PJ p c JO b' H) ha (fun x => fun σ H hJ hD hS Q q => hb σ H hJ.2 hD hS Q fun d v H' z => q d v H' ⟨⟨hJ.1, z.1⟩, z.2⟩) fun x y H q => by
    obtain ⟨z, h1, h2⟩ := k x y q.1.1 q.1.2
    exact ⟨z, h1, fun H' hD e => ⟨h2, V.jok.ex hD e q.2⟩⟩
theorem et_draw (V : Keep O p c JO) {m : Int} (hs : δ.getD i .no = .at p) (h : ET O p c JO b b1 te δ (fun d => d = .int m)) (h1 : 1 ≤ m) (h2 : m ≤ 1000000) (hB : b1 ≤ 1000000) :
    ET O p c JO b (b1 + 1) (tCall spDraw [] E (tCons (tVar i) (tCons te tNil))) δ (fun d => ∃ r : Int, d = .int r ∧ 0 ≤ r ∧ r < m) := fun σ H hj hD hS Q k =>
  ⟨.ref p, hS.loc hs, h σ H hj hD hS _ fun e w H1 q d1 e1 hw => by
    rw [q.1] at hw
    refine ⟨p, c, b1, m, by rw [show w = .int m from hw]; rfl, q.2.1, h1, Nat.lt_of_lt_of_le (show m.natAbs < 2 ^ 20 by omega) (Nat.pow_le_pow_right (by decide) (by decide)), hB, fun r H2 r0 r1 kp pu => ?_⟩
    refine k (.int r) _ H2 ⟨⟨r, rfl, r0, r1⟩, pu, V.kp H1 H2 kp q.2.2⟩ (fun a ha => ?_) (e1.trans (kp.hid V.hp V.hc)) rfl
    by_cases z1 : a = p
    · obtain ⟨⟨_, _, z, _⟩, _⟩ := pu
      rw [z1, z]; simp
    by_cases z2 : a = c
    · obtain ⟨⟨_, _, _, z, _⟩, _⟩ := pu
      rw [z2, z]; simp
    cases z : H1 a with
    | none => exact absurd z (d1 a ha)
    | some o => rw [kp a o z1 z2 z]; simp⟩
/-- an item at a drawn place -/
theorem et_at (V : Keep O p c JO) {S : List PyData → Prop} {n : Nat} (ha : ET O p c JO b b1 te δ (fun d => ∃ ds, d = .list ds ∧ ds.length = n ∧ S ds)) (hi : ET O p c JO b1 b' ti δ (fun d => ∃ r : Int, d = .int r ∧ 0 ≤ r ∧ r < (n : Int))) :
    ET O p c JO b b' (tOp (rIx K) te ti) δ (fun d => ∃ ds, S ds ∧ d ∈ ds) :=
  et_op V ha hi fun x y h1 h2 => by
    obtain ⟨ds, rfl, hl, hS⟩ := h1
    obtain ⟨r, rfl, r0, r1⟩ := h2
    have hj : r.toNat < ds.length := by omega
    refine ⟨ds[r.toNat], rp_ix1 (rp_ixL (j := r.toNat) ?_ (List.getElem?_eq_getElem hj)), ds, hS, List.getElem_mem hj⟩
    have := Evl.ixN_nat hj
    rwa [show ((r.toNat : Nat) : Int) = r by omega] at this
theorem at_nil {Pl : List PyData → Prop} (V : Keep O p c JO) (k : Pl []) : AT O p c JO b b tNil δ Pl := am_nil fun H h => ⟨k, h⟩
theorem at_cons {Pl : List PyData → Prop} {P2l : PyData → List PyData → Prop} (h : ET O p c JO b b1 te δ P1) (hr : ∀ x, P1 x → AT O p c JO b1 b' ta δ (P2l x)) (k : ∀ x r, P1 x → P2l x r → Pl (x :: r)) : AT O p c JO b b' (tCons te ta) δ Pl := fun σ H hj hD hS Q q =>
  h σ H hj hD hS _ fun x v H1 p1 d1 e1 hv => hr x p1.1 σ H1 p1.2 d1 (hS.mono e1) _ fun ds vs H2 p2 d2 e2 hvs => q (x :: ds) (v :: vs) H2 ⟨k x ds p1.1 p2.1, p2.2⟩ d2 (e1.trans e2) ⟨v, vs, rfl, Dt.mono e2 x v hv, hvs⟩
/-- pure ones ahead of others -/
theorem at_ap {Pl : List PyData → Prop} (V : Keep O p c JO) {ds : List PyData} (h : AP O ta δ ds) (k : Pl ds) : AT O p c JO b b ta δ Pl := fun σ H hj hD hS Q q =>
  (h.am V.jok) σ H hj hD hS Q fun xs vs H' z => q xs vs H' ⟨by rw [z.1]; exact k, z.2⟩
/-- bounded things, so many -/
theorem at_bn {D W n : Nat} (h : ET O p c JO b b1 te δ (Bn D W)) (hr : AT O p c JO b1 b' ta δ (fun ds => BnA D W ds ∧ ds.length = n)) : AT O p c JO b b' (tCons te ta) δ (fun ds => BnA D W ds ∧ ds.length = n + 1) :=
  at_cons (P2l := fun _ ds => BnA D W ds ∧ ds.length = n) h (fun _ _ => hr) fun x r h1 h2 => ⟨bna_cons h1 h2.1 (Nat.le_refl _) (Nat.le_refl _), by simp [h2.2]⟩
theorem et_lst (V : Keep O p c JO) {Pl : List PyData → Prop} (h : AT O p c JO b b' ta δ Pl) (hl : ∀ ds, Pl ds → ds.length ≤ 100000) (k : ∀ ds, Pl ds → P (.list ds)) : ET O p c JO b b' (tLst ta) δ P :=
  em_lst h (fun ds H q => hl ds q.1) fun ds H H' q hD e => ⟨k ds q.1, V.jok.ex hD e q.2⟩
theorem et_tup (V : Keep O p c JO) {Pl : List PyData → Prop} (h : AT O p c JO b b' ta δ Pl) (hl : ∀ ds, Pl ds → ds.length ≤ 100000) (k : ∀ ds, Pl ds → P (.tuple ds)) : ET O p c JO b b' (tTup ta) δ P :=
  em_tup h (fun ds H q => hl ds q.1) fun ds H H' q hD e => ⟨k ds q.1, V.jok.ex hD e q.2⟩
/-- a pair -/
theorem et_pair (V : Keep O p c JO) (ha : ET O p c JO b b1 te δ P1) (hb : ET O p c JO b1 b' tb δ P2) (k : ∀ x y, P1 x → P2 y → P (.tuple [x, y])) : ET O p c JO b b' (tTup (tCons te (tCons tb tNil))) δ P :=
  et_tup V (at_cons (P2l := fun _ ds => ∃ y, ds = [y] ∧ P2 y) (Pl := fun ds => ∃ x y, ds = [x, y] ∧ P1 x ∧ P2 y) ha (fun _ _ => at_cons (P2l := fun _ ds => ds = []) hb (fun _ _ => at_nil V rfl) fun y r h1 h2 => by subst h2; exact ⟨y, rfl, h1⟩)
    fun x r h1 ⟨y, e, h2⟩ => by subst e; exact ⟨x, y, rfl, h1, h2⟩) (fun ds h => by obtain ⟨x, y, rfl, _⟩ := h; simp) fun ds h => by
      obtain ⟨x, y, rfl, h1, h2⟩ := h
      exact k x y h1 h2
theorem et_one (V : Keep O p c JO) (ha : ET O p c JO b b' te δ P1) (k : ∀ x, P1 x → P (.list [x])) : ET O p c JO b b' (tLst (tCons te tNil)) δ P :=
  et_lst V (at_cons (P2l := fun _ ds => ds = []) (Pl := fun ds => ∃ x, ds = [x] ∧ P1 x) ha (fun _ _ => at_nil V rfl) fun x r h1 h2 => by subst h2; exact ⟨x, rfl, h1⟩) (fun ds h => by obtain ⟨x, rfl, _⟩ := h; simp) fun ds h => by
    obtain ⟨x, rfl, h1⟩ := h
    exact k x h1
/-! statements -/
variable {N : List Sl → Hp → Prop} {R : V → Hp → Prop} {tt : TT} {t u : TS}
theorem dt_asg (h : ET O p c JO b b' te δ P) (hu : ∀ d, P d → DM O (PJ p c JO b') u (δ.set i (.d d)) N R) : DM O (PJ p c JO b) (tSeq (tAsg te (gName i)) u) δ N R :=
  dm_seq (N1 := fun δ' H => ∃ d, (P d ∧ δ' = δ.set i (.d d)) ∧ PJ p c JO b' H) (dm_asg h fun d H q => ⟨d, ⟨q.1, rfl⟩, q.2⟩) fun δ1 => dm_ex fun d => dm_fact fun z => by rw [z.2]; exact hu d z.1
theorem dt_ret (h : ET O p c JO b b' te δ P) : DM O (PJ p c JO b) (tRet te) δ N (fun v H => ∃ d, (P d ∧ PJ p c JO b' H) ∧ Dt (hid O H) d v) := dm_imp (dm_ret h) (fun _ _ z => z) fun v H ⟨d, h1, h2⟩ => ⟨d, h2, h1⟩
theorem dt_if {bb : Bool} (V : Keep O p c JO) (h : Cp.TP O tt δ bb) (h1 : bb = true → DM O (PJ p c JO b) t δ (fun _ _ => False) R) (h2 : bb = false → DM O (PJ p c JO b) u δ N R) : DM O (PJ p c JO b) (tSeq (tIfS tt t tNext) u) δ N R :=
  dm_seq (N1 := fun δ' H => (bb = false ∧ δ' = δ) ∧ PJ p c JO b H) (dm_if (h.tm V.jok) (fun σ H D hJ hD hS kn kr => h1 hJ.1.symm σ H D hJ.2 hD hS (fun _ _ _ z => z.elim) kr) (dm_next fun H hJ => ⟨⟨hJ.1.symm, rfl⟩, hJ.2⟩)) fun δ1 => dm_fact fun z => by rw [z.2]; exact h2 z.1
/-! slices whose ends are drawn -/
def OT (O : List Addr) (p c : Addr) (JO : Hp → Prop) (b b' : Nat) (to : TO) (δ : List Sl) (P : Option Int → Prop) : Prop :=
  ∀ σ H, PJ p c JO b H → Dom O H → SD (hid O H) δ σ → ∀ Q : Option Int → Hp → Prop, (∀ o H', P o → PJ p c JO b' H' → Dom O H' → Ex (hid O H) (hid O H') → Q o H') → to σ H Q
theorem ot_none : OT O p c JO b b tNoPart δ (fun o => o = none) := fun σ H hj hD hS Q k => k none H rfl hj hD (Ex.refl _)
theorem ot_some {Pi : Int → Prop} (h : ET O p c JO b b' te δ (fun d => ∃ k, d = .int k ∧ Pi k)) : OT O p c JO b b' (tPart te) δ (fun o => ∃ k, o = some k ∧ Pi k) := fun σ H hj hD hS Q k =>
  h σ H hj hD hS _ fun d v H' q d1 e1 hv => by
    obtain ⟨⟨m, rfl, hm⟩, hj'⟩ := q
    exact ⟨m, hv, k (some m) H' ⟨m, rfl, hm⟩ hj' d1 e1⟩
theorem et_sl (V : Keep O p c JO) {S : List PyData → Prop} {Pl Ph : Option Int → Prop} {tl th : TO} {b3 : Nat} (h : ET O p c JO b b1 te δ (fun d => ∃ ds, d = .list ds ∧ S ds)) (hl : OT O p c JO b1 b2 tl δ Pl) (hh : OT O p c JO b2 b3 th δ Ph) :
    ET O p c JO b b3 (tSl (rSlL K) te tl th) δ (fun d => ∃ ds lo hi, d = .list (cutD ds lo hi) ∧ S ds ∧ Pl lo ∧ Ph hi) := fun σ H hj hD hS Q k =>
  h σ H hj hD hS _ fun d v H1 q1 d1 e1 hv => hl σ H1 q1.2 d1 (hS.mono e1) _ fun lo H2 p2 j2 d2 e2 => hh σ H2 j2 d2 (hS.mono (e1.trans e2)) _ fun hi H3 p3 j3 d3 e3 => by
    obtain ⟨ds, rfl, hS1⟩ := q1.1
    obtain ⟨a, xs, rfl, z1, z2⟩ := hv
    have z1' := (e2.trans e3) _ _ z1
    refine ⟨a, xs, rfl, SqL.of (hid_some z1').2, fun r hr => ?_⟩
    have e4 := hid_ex (O := O) (Ex.new (o := .lst (cutV xs lo hi)) hr)
    refine k (.list (cutD ds lo hi)) _ _ ⟨⟨ds, lo, hi, rfl, hS1, p2, p3⟩, V.jok.ex d3 (Ex.new hr) j3⟩ (d3.ex (Ex.new hr)) (((e1.trans e2).trans e3).trans e4) ⟨r, _, rfl, by rw [hid_out (d3.fresh hr)]; exact upd_same, ?_⟩
    unfold cutV cutD
    rw [z2.length]
    exact ((z2.mono ((e2.trans e3).trans (hid_ex (Ex.new hr)))).drop _).take _
/-- a comprehension each of whose items is drawn, k draws each -/
theorem et_lcD (V : Keep O p c JO) {wi : TI} {g : TG} {tt : TT} {n k : Nat} {item : Nat → PyData} {ix vs : List Nat} {Pi : Nat → PyData → Prop} (hw : ∀ O, WP O wi δ n item) (hn : n ≤ 10000) (hi : ∀ j ∈ ix, j ∈ vs) (htt : ∀ σ H Q, Q true H → tt σ H Q)
    (hst : ∀ D, D ∉ O → ∀ H H', (∀ a, a ≠ D → H' a = H a) → JO H → JO H')
    (hs : ∀ D, D ∉ O → ∀ ds, ∀ i, i < n → ∃ δ2, GB (D :: O) g (item i) (wipeS δ vs) δ2 ix ∧ (Keep (D :: O) p c (fun H => JO H ∧ Own (D :: O) D ds H) → ET (D :: O) p c (fun H => JO H ∧ Own (D :: O) D ds H) (b + k * i) (b + k * (i + 1)) te δ2 (Pi i))) :
    ET O p c JO b (b + k * n) (tLc wi g tt te vs) δ (fun d => ∃ ds, d = .list ds ∧ ds.length = n ∧ ∀ i, i < n → Pi i (ds.getD i .none)) :=
  EM.imp (EM.pre (em_lcD (Jv := fun i => PJ p c JO (b + k * i)) (P := Pi) hw hn hi htt V.jok (fun D hDO i H H' he hj => ⟨hj.1.same he (fun z => hDO (z ▸ V.hp)) (fun z => hDO (z ▸ V.hc)), hst D hDO H H' he hj.2⟩) fun D hDO ds i hin => by
    obtain ⟨δ2, hg, het⟩ := hs D hDO ds i hin
    have lp : D ≠ p := fun z => hDO (z ▸ V.hp)
    have lc : D ≠ c := fun z => hDO (z ▸ V.hc)
    have jJ : Jok (D :: O) JO := fun Ha Hb he ex hj => V.jk Ha Hb (fun a ha => he a (by simp [ha])) (fun a o q => by
      obtain ⟨q1, q2⟩ := hid_some q
      rw [hid_out q1]
      by_cases c2 : a = D
      · rw [c2, he D (by simp), ← c2]; exact q2
      · have := ex a o (by rw [hid_out (by simp [c2, q1])]; exact q2)
        exact (hid_some this).2) hj
    have V2 : Keep (D :: O) p c (fun H => JO H ∧ Own (D :: O) D ds H) := ⟨by simp [V.hp], by simp [V.hc], jok_and jJ (Own.jok (by simp)), fun H H' kp z => ⟨V.kp H H' kp z.1, Own.kp (by simp [V.hp]) (by simp [V.hc]) lp lc kp z.2⟩⟩
    refine ⟨δ2, hg, ?_, ?_⟩
    · exact fun Ha Hb he ex hj => ⟨⟨(V2.jok (b := b + k * i) Ha Hb he ex ⟨hj.1.1, hj.1.2, hj.2⟩).1, (V2.jok (b := b + k * i) Ha Hb he ex ⟨hj.1.1, hj.1.2, hj.2⟩).2.1⟩, (V2.jok (b := b + k * i) Ha Hb he ex ⟨hj.1.1, hj.1.2, hj.2⟩).2.2⟩
    · exact EM.imp (EM.pre (het V2) fun H h => ⟨h.1.1, h.1.2, h.2⟩) fun d H q => ⟨q.1, ⟨q.2.1, q.2.2.1⟩, q.2.2.2⟩) fun H h => h) fun d H q => by
    obtain ⟨ds, rfl, hds, hj⟩ := q
    exact ⟨⟨ds, rfl, hds⟩, hj⟩
end
/-! x in, not in a list of numbers, of texts -/
theorem ints_of : ∀ {H : Hp} {ns : List Int} {vs : List V}, DtAll H (ns.map PyData.int) vs → vs = ns.map V.int
  | H, [], vs, h => h
  | H, n :: ns, vs, h => by
    obtain ⟨v, r, rfl, h1, h2⟩ := h
    have h1 : v = .int n := h1
    rw [h1, ints_of h2]
    rfl
theorem inV_ints (i : Int) : ∀ ns : List Int, inV (.int i) (ns.map V.int) = decide (i ∈ ns)
  | [] => rfl
  | n :: ns => by
    have ih := inV_ints i ns
    unfold inV at ih ⊢
    rw [List.map_cons, List.any_cons, ih]
    show (n == i || _) = _
    by_cases c : n = i
    · subst c; simp
    · have c' : ¬ i = n := fun z => c z.symm
      simp [c, c']
theorem inV_strs (i : Str) : ∀ ns : List Str, inV (.str i) (ns.map V.str) = decide (i ∈ ns)
  | [] => rfl
  | n :: ns => by
    have ih := inV_strs i ns
    unfold inV at ih ⊢
    rw [List.map_cons, List.any_cons, ih]
    show (n == i || _) = _
    by_cases c : n = i
    · subst c; simp
    · have c' : ¬ i = n := fun z => c z.symm
      simp [c, c']
theorem flat_ints (ns : List Int) : (ns.map V.int).all flatV = true := by
  rw [List.all_eq_true]
  intro x hx
  obtain ⟨n, _, rfl⟩ := List.mem_map.mp hx
  rfl
theorem flat_strs (ns : List Str) : (ns.map V.str).all flatV = true := by
  rw [List.all_eq_true]
  intro x hx
  obtain ⟨n, _, rfl⟩ := List.mem_map.mp hx
  rfl
section
variable {O : List Addr} {K : PySem.W.Frag}
theorem rp_inInts {i : Int} {ns : List Int} {neg : Bool} : RP O (rIn K neg) (.int i) (.list (ns.map PyData.int)) (.bool (if neg then !decide (i ∈ ns) else decide (i ∈ ns))) := fun v w H hD hv hw Q k => by
  cases hv
  obtain ⟨a, xs, rfl, h1, h2⟩ := hw
  rw [ints_of h2] at h1
  refine ⟨a, ns.map V.int, rfl, Or.inl (SqL.of (hid_some h1).2), rfl, flat_ints ns, ?_⟩
  rw [inV_ints]
  exact k _ H (Ex.refl H) rfl
theorem rp_inStrs {i : Str} {ns : List Str} {neg : Bool} : RP O (rIn K neg) (.str i) (.list (ns.map PyData.str)) (.bool (if neg then !decide (i ∈ ns) else decide (i ∈ ns))) := fun v w H hD hv hw Q k => by
  cases hv
  obtain ⟨a, xs, rfl, h1, h2⟩ := hw
  rw [strs_of h2] at h1
  refine ⟨a, ns.map V.str, rfl, Or.inl (SqL.of (hid_some h1).2), rfl, flat_strs ns, ?_⟩
  rw [inV_strs]
  exact k _ H (Ex.refl H) rfl
end
theorem kx_in {X : Cx} {K : PySem.W.Frag} (h : X.K = K) : OpR X (compareOp .In) (rIn K false) := h ▸ op_in_seq
theorem kx_notin {X : Cx} {K : PySem.W.Frag} (h : X.K = K) : OpR X (compareOp .NotIn) (rIn K true) := h ▸ op_notIn_seq
end Cp
/-! Cameposts: a list of one's own, filled by draws -/
namespace Cp
open PySem L2 PySem.Spec PyProof.Rows
open Evl (Ex)
section
variable {O : List Addr} {p c : Addr} {JO : Hp → Prop} {K : PySem.W.Frag} {δ : List Sl} {te ti tb : TE} {ta : TA} {b b' b1 b2 : Nat} {P P1 P2 P3 : PyData → Prop} {i : Nat} {E : XK} {l : Addr} {ds : List PyData}
variable {N : List Sl → Hp → Prop} {R : V → Hp → Prop} {tt : TT} {t u : TS}
/-- data handed back, with the purse behind -/
def RV (O : List Addr) (p c : Addr) (JO : Hp → Prop) (b : Nat) (P : PyData → Prop) : V → Hp → Prop := fun v H => ∃ d, (P d ∧ PJ p c JO b H) ∧ Dt (hid O H) d v
theorem rv_ret (h : ET O p c JO b b' te δ P) : DM O (PJ p c JO b) (tRet te) δ N (RV O p c JO b' P) := dt_ret h
/-- l is owned, too -/
def JL (O : List Addr) (JO : Hp → Prop) (l : Addr) (ds : List PyData) : Hp → Prop := fun H => JO H ∧ Own (l :: O) l ds H
structure New (O : List Addr) (p c : Addr) (JO : Hp → Prop) (l : Addr) : Prop where
  out : l ∉ O
  np : l ≠ p
  nc : l ≠ c
  st : ∀ H H', (∀ a, a ≠ l → H' a = H a) → JO H → JO H'
theorem New.keep (V : Keep O p c JO) (nw : New O p c JO l) : Keep (l :: O) p c (JL O JO l ds) := by
  have jJ : Jok (l :: O) JO := fun Ha Hb he ex hj => V.jk Ha Hb (fun a ha => he a (by simp [ha])) (fun a o q => by
    obtain ⟨q1, q2⟩ := hid_some q
    rw [hid_out q1]
    by_cases c2 : a = l
    · rw [c2, he l (by simp), ← c2]; exact q2
    · have := ex a o (by rw [hid_out (by simp [c2, q1])]; exact q2)
      exact (hid_some this).2) hj
  exact ⟨by simp [V.hp], by simp [V.hc], jok_and jJ (Own.jok (by simp)), fun H H' kp z => ⟨V.kp H H' kp z.1, Own.kp (by simp [V.hp]) (by simp [V.hc]) nw.np nw.nc kp z.2⟩⟩
/-- x = [] -/
theorem dt_newL (V : Keep O p c JO) (hst : ∀ l, l ∉ O → ∀ H H', (∀ a, a ≠ l → H' a = H a) → JO H → JO H')
    (h : ∀ l, New O p c JO l → DM (l :: O) (PJ p c (JL O JO l []) b) u (δ.set i (.at l)) (fun _ _ => False) (RV O p c JO b' P)) : DM O (PJ p c JO b) (tSeq (tAsg (tLst tNil) (gName i)) u) δ N (RV O p c JO b' P) := fun σ H D hJ hD hS kn kr => by
  refine ⟨by decide, fun l hl => ?_⟩
  obtain ⟨n1, n2, n3, lO⟩ := own_new hD hl
  have np : l ≠ p := fun z => lO (z ▸ V.hp)
  have nc : l ≠ c := fun z => lO (z ▸ V.hc)
  have s1 : SD (hid (l :: O) (upd H l (.lst []))) (δ.set i (.at l)) (σ.set i (some (.ref l))) := (hS.mono n2).set i (s := .at l) (o := some (.ref l)) rfl
  refine h l ⟨lO, np, nc, hst l lO⟩ (σ.set i (some (.ref l))) (upd H l (.lst [])) D ⟨hJ.1.same (fun a ha => upd_ne ha) np nc, hst l lO H _ (fun a ha => upd_ne ha) hJ.2, n3⟩ n1 s1 (fun _ _ _ z => z.elim) fun v H' r d' e' => kr v H' r (fun a ha => d' a (by simp [ha])) (n2.trans (e'.trans hid_less))
/-- l.append(te) -/
theorem dt_append (nw : New O p c JO l) (h : ET (l :: O) p c (JL O JO l ds) b b' te δ P) (hs : δ.getD i .no = .at l) (hz : ds.length < 100000)
    (hu : ∀ d, P d → DM (l :: O) (PJ p c (JL O JO l (ds ++ [d])) b') u δ N R) : DM (l :: O) (PJ p c (JL O JO l ds) b) (tSeq (tDrop (tBM K "list" rAppend (tVar i) (tCons te tNil))) u) δ N R :=
  dm_seq (N1 := fun δ' H => ∃ d, (P d ∧ δ' = δ) ∧ PJ p c (JL O JO l (ds ++ [d])) b' H) (dm_append h hs (by simp) (fun H hj => by obtain ⟨vs, q, _⟩ := hj.2.2; exact ⟨vs, q⟩) (fun d H q => q.2.2.2) hz fun d H H' q he ho =>
    ⟨d, ⟨q.1, rfl⟩, q.2.1.same he nw.np nw.nc, nw.st H H' he q.2.2.1, ho⟩) fun δ1 => dm_ex fun d => dm_fact fun z => by rw [z.2]; exact hu d z.1
/-- l[ti] = te -/
theorem dm_setI {M : Nat → Prop} (nw : New O p c JO l) (h : ET (l :: O) p c (JL O JO l ds) b b1 te δ P) (hs : δ.getD i .no = .at l) (hi : ET (l :: O) p c (JL O JO l ds) b1 b' ti δ (fun d => ∃ k m, d = .int k ∧ ixN ds.length k = some m ∧ M m))
    (hu : ∀ d m H, P d → M m → m < ds.length → PJ p c (JL O JO l (ds.set m d)) b' H → N δ H) : DM (l :: O) (PJ p c (JL O JO l ds) b) (tAsg te (gSub (tVar i) ti rSetL)) δ N R := fun σ H D hJ hD hS kn kr =>
  h σ H hJ hD hS _ fun d w H1 p1 d1 e1 hw => ⟨.ref l, (hS.mono e1).loc hs, hi σ H1 p1.2 d1 (hS.mono e1) _ fun x w2 H2 p2 d2 ex2 hw2 => by
    obtain ⟨⟨k, m, rfl, hm, hM⟩, hj2⟩ := p2
    obtain ⟨vs, q1, q2⟩ := hj2.2.2
    have hw2 : w2 = .int k := hw2
    refine ⟨l, vs, k, m, rfl, hw2, q1, by rw [q2.length]; exact hm, ?_⟩
    have hh := hid_set (O := l :: O) (H := H2) (l := l) (o := .lst (vs.set m w)) (by simp)
    have hml : m < ds.length := (ixN_seq hm).2.1
    refine kn δ σ _ (hu d m _ p1.1 hM hml ⟨hj2.1.same (fun a ha => upd_ne ha) nw.np nw.nc, nw.st H2 _ (fun a ha => upd_ne ha) hj2.2.1, vs.set m w, upd_same, ?_⟩) (dom_upd d2) (by rw [hh]; exact e1.trans ex2) (by rw [hh]; exact hS.mono (e1.trans ex2))
    rw [hh]
    exact DtAll.set (Dt.mono ex2 d w hw) m q2⟩
/-- return (te, l) -/
theorem rv_retL {x : PyData} (nw : New O p c JO l) (V : Keep O p c JO) (h : Cp.EP (l :: O) te δ x) (hs : δ.getD i .no = .at l) (k : P (.tuple [x, .list ds])) : DM (l :: O) (PJ p c (JL O JO l ds) b) (tRet (tTup (tCons te (tCons (tVar i) tNil)))) δ N (RV O p c JO b P) := fun σ H D hJ hD hS kn kr =>
  h σ H hD hS _ fun v H1 e1 hv => ⟨.ref l, (hS.mono (hid_ex e1)).loc hs, by show 2 ≤ sizeLine; decide, fun q hq => by
    have jk := (New.keep (ds := ds) V nw).jok.ex hD e1 hJ
    obtain ⟨z1, z2⟩ := own_data nw.out jk.2.2
    have dO : Dom O H1 := fun a ha => (hD.ex e1) a (by simp [ha])
    have qO : q ∉ O := dO.fresh hq
    have e2 := Ex.new (o := .tup [v, .ref l]) hq
    refine kr (.ref q) _ ⟨_, ⟨k, V.jok.ex dO e2 ⟨jk.1, jk.2.1⟩⟩, q, _, rfl, by rw [hid_out qO]; exact upd_same, v, [.ref l], rfl, Dt.mono (hid_less.trans (hid_ex e2)) x v hv, .ref l, [], rfl, Dt.mono (hid_ex e2) _ _ z1, rfl⟩ (dom_upd (hD.ex e1)) ((hid_ex e1).trans (hid_ex e2))⟩
/-- return l -/
theorem rv_retO (nw : New O p c JO l) (hs : δ.getD i .no = .at l) (k : P (.list ds)) : DM (l :: O) (PJ p c (JL O JO l ds) b) (tRet (tVar i)) δ N (RV O p c JO b P) := fun σ H D hJ hD hS kn kr =>
  ⟨.ref l, hS.loc hs, by
    obtain ⟨z1, z2⟩ := own_data nw.out hJ.2.2
    exact kr _ H ⟨_, ⟨k, hJ.1, hJ.2.1⟩, z1⟩ hD (Ex.refl _)⟩
/-- a drawn test -/
theorem tm_test (h : ET O p c JO b b' te δ (fun d => ∃ x, d = .bool x)) : TM O (PJ p c JO b) (tTest te) δ (fun _ H => PJ p c JO b' H) := fun σ H hj hD hS Q k =>
  h σ H hj hD hS _ fun d v H1 q d1 e1 hv => by
    obtain ⟨⟨x, rfl⟩, hj1⟩ := q
    exact ⟨x, hv, k x H1 hj1 d1 e1⟩
/-- for x in te, te a drawn list -/
theorem wd_et {S : List PyData → Prop} (h : ET O p c JO b b' te δ (fun d => ∃ ds, d = .list ds ∧ S ds)) : WD O (PJ p c JO b) (iList K te) δ (fun ds H => S ds ∧ PJ p c JO b' H) := wd_list (EM.imp h fun d H q => by
  obtain ⟨⟨ds, rfl, hS⟩, hj⟩ := q
  exact ⟨ds, rfl, hS, hj⟩)
theorem et_sortedS (V : Keep O p c JO) {xs : List Str} (h : Cp.EP O te δ (.list (xs.map PyData.str))) (hl : xs.length < 64) : ET O p c JO b b (tCB (rSortedS K) (tCons te tNil)) δ (fun d => ∃ ys : List Str, d = .list (ys.map PyData.str) ∧ ys.Perm xs ∧ sortedS ys = true) := em_sortedS V.jok h hl
end
end Cp
namespace K04
open PySem L2 PySem.Spec PyProof.Rows Cp
open Evl (Ex)
abbrev prg : Program := PySem.Challenge.pw_cameposts_k04_rows_looked_at_and_refused
def topS (i : Nat) : Stmt := prg.main.body.getD i (.Pass ⟨0, 0, 0, 0⟩)
/-- where the text's own things stand -/
structure Ad where
  a_is_whole : Addr
  a_is_below : Addr
  a_is_pair : Addr
  a_is_road : Addr
  a_town_wrong : Addr
  a_need_town : Addr
  a_is_end : Addr
  a_place_of : Addr
  a_is_name : Addr
  a_is_walker : Addr
  a_posts_wrong : Addr
  a_walkers_wrong : Addr
  a_find_standing_wrong : Addr
  a_need_standings : Addr
  a_need_standing : Addr
  a_law_spot : Addr
  a_law_flip : Addr
  a_law_purse : Addr
  a_law_draw : Addr
  a_law_pick : Addr
  a_law_mixed : Addr
  a_law_ends : Addr
  a_law_town : Addr
  a_law_standing : Addr
  a_gather_all_ends : Addr
  a_deeds_of : Addr
  a_put_usual_ahead : Addr
  a_first_other : Addr
  a_find_row_wrong : Addr
  a_row_wrong : Addr
  a_need_row : Addr
  a_walk : Addr
  a_lead : Addr
  a_led_by : Addr
  a_trail_of : Addr
  a_law_row : Addr
  a_law_walked : Addr
  a_row_back : Addr
  a_law_due : Addr
  a_law_bent : Addr
  a_law_refused : Addr
  a_law_bounds : Addr
  a_law : Addr
  PostError : Addr
  NoRow : Addr
  NoStanding : Addr
  NoTown : Addr
  i_NoTown : Addr
  cc_NoTown : Addr
  cda_NoTown : Addr
  fd_NoTown : FuncData
  i_NoStanding : Addr
  cc_NoStanding : Addr
  cda_NoStanding : Addr
  fd_NoStanding : FuncData
  i_NoRow : Addr
  cc_NoRow : Addr
  cda_NoRow : Addr
  fd_NoRow : FuncData
/-- what the module's names hold -/
structure Txt (K : PySem.W.Frag) (mg : Str → Option Value) (A : Ad) : Prop where
  g_is_whole : mg "is_whole" = some (.ref A.a_is_whole)
  k_is_whole : PySem.W.keepIn K (.ref A.a_is_whole) = true
  g_is_below : mg "is_below" = some (.ref A.a_is_below)
  k_is_below : PySem.W.keepIn K (.ref A.a_is_below) = true
  g_is_pair : mg "is_pair" = some (.ref A.a_is_pair)
  k_is_pair : PySem.W.keepIn K (.ref A.a_is_pair) = true
  g_is_road : mg "is_road" = some (.ref A.a_is_road)
  k_is_road : PySem.W.keepIn K (.ref A.a_is_road) = true
  g_town_wrong : mg "town_wrong" = some (.ref A.a_town_wrong)
  k_town_wrong : PySem.W.keepIn K (.ref A.a_town_wrong) = true
  g_need_town : mg "need_town" = some (.ref A.a_need_town)
  k_need_town : PySem.W.keepIn K (.ref A.a_need_town) = true
  g_is_end : mg "is_end" = some (.ref A.a_is_end)
  k_is_end : PySem.W.keepIn K (.ref A.a_is_end) = true
  g_place_of : mg "place_of" = some (.ref A.a_place_of)
  k_place_of : PySem.W.keepIn K (.ref A.a_place_of) = true
  g_is_name : mg "is_name" = some (.ref A.a_is_name)
  k_is_name : PySem.W.keepIn K (.ref A.a_is_name) = true
  g_is_walker : mg "is_walker" = some (.ref A.a_is_walker)
  k_is_walker : PySem.W.keepIn K (.ref A.a_is_walker) = true
  g_posts_wrong : mg "posts_wrong" = some (.ref A.a_posts_wrong)
  k_posts_wrong : PySem.W.keepIn K (.ref A.a_posts_wrong) = true
  g_walkers_wrong : mg "walkers_wrong" = some (.ref A.a_walkers_wrong)
  k_walkers_wrong : PySem.W.keepIn K (.ref A.a_walkers_wrong) = true
  g_find_standing_wrong : mg "find_standing_wrong" = some (.ref A.a_find_standing_wrong)
  k_find_standing_wrong : PySem.W.keepIn K (.ref A.a_find_standing_wrong) = true
  g_need_standings : mg "need_standings" = some (.ref A.a_need_standings)
  k_need_standings : PySem.W.keepIn K (.ref A.a_need_standings) = true
  g_need_standing : mg "need_standing" = some (.ref A.a_need_standing)
  k_need_standing : PySem.W.keepIn K (.ref A.a_need_standing) = true
  g_law_spot : mg "_law_spot" = some (.ref A.a_law_spot)
  k_law_spot : PySem.W.keepIn K (.ref A.a_law_spot) = true
  g_law_flip : mg "_law_flip" = some (.ref A.a_law_flip)
  k_law_flip : PySem.W.keepIn K (.ref A.a_law_flip) = true
  g_law_purse : mg "_law_purse" = some (.ref A.a_law_purse)
  k_law_purse : PySem.W.keepIn K (.ref A.a_law_purse) = true
  g_law_draw : mg "_law_draw" = some (.ref A.a_law_draw)
  k_law_draw : PySem.W.keepIn K (.ref A.a_law_draw) = true
  g_law_pick : mg "_law_pick" = some (.ref A.a_law_pick)
  k_law_pick : PySem.W.keepIn K (.ref A.a_law_pick) = true
  g_law_mixed : mg "_law_mixed" = some (.ref A.a_law_mixed)
  k_law_mixed : PySem.W.keepIn K (.ref A.a_law_mixed) = true
  g_law_ends : mg "_law_ends" = some (.ref A.a_law_ends)
  k_law_ends : PySem.W.keepIn K (.ref A.a_law_ends) = true
  g_law_town : mg "_law_town" = some (.ref A.a_law_town)
  k_law_town : PySem.W.keepIn K (.ref A.a_law_town) = true
  g_law_standing : mg "_law_standing" = some (.ref A.a_law_standing)
  k_law_standing : PySem.W.keepIn K (.ref A.a_law_standing) = true
  g_gather_all_ends : mg "gather_all_ends" = some (.ref A.a_gather_all_ends)
  k_gather_all_ends : PySem.W.keepIn K (.ref A.a_gather_all_ends) = true
  g_deeds_of : mg "deeds_of" = some (.ref A.a_deeds_of)
  k_deeds_of : PySem.W.keepIn K (.ref A.a_deeds_of) = true
  g_put_usual_ahead : mg "put_usual_ahead" = some (.ref A.a_put_usual_ahead)
  k_put_usual_ahead : PySem.W.keepIn K (.ref A.a_put_usual_ahead) = true
  g_first_other : mg "first_other" = some (.ref A.a_first_other)
  k_first_other : PySem.W.keepIn K (.ref A.a_first_other) = true
  g_find_row_wrong : mg "find_row_wrong" = some (.ref A.a_find_row_wrong)
  k_find_row_wrong : PySem.W.keepIn K (.ref A.a_find_row_wrong) = true
  g_row_wrong : mg "row_wrong" = some (.ref A.a_row_wrong)
  k_row_wrong : PySem.W.keepIn K (.ref A.a_row_wrong) = true
  g_need_row : mg "need_row" = some (.ref A.a_need_row)
  k_need_row : PySem.W.keepIn K (.ref A.a_need_row) = true
  g_walk : mg "walk" = some (.ref A.a_walk)
  k_walk : PySem.W.keepIn K (.ref A.a_walk) = true
  g_lead : mg "lead" = some (.ref A.a_lead)
  k_lead : PySem.W.keepIn K (.ref A.a_lead) = true
  g_led_by : mg "led_by" = some (.ref A.a_led_by)
  k_led_by : PySem.W.keepIn K (.ref A.a_led_by) = true
  g_trail_of : mg "trail_of" = some (.ref A.a_trail_of)
  k_trail_of : PySem.W.keepIn K (.ref A.a_trail_of) = true
  g_law_row : mg "_law_row" = some (.ref A.a_law_row)
  k_law_row : PySem.W.keepIn K (.ref A.a_law_row) = true
  g_law_walked : mg "_law_walked" = some (.ref A.a_law_walked)
  k_law_walked : PySem.W.keepIn K (.ref A.a_law_walked) = true
  g_row_back : mg "row_back" = some (.ref A.a_row_back)
  k_row_back : PySem.W.keepIn K (.ref A.a_row_back) = true
  g_law_due : mg "_law_due" = some (.ref A.a_law_due)
  k_law_due : PySem.W.keepIn K (.ref A.a_law_due) = true
  g_law_bent : mg "_law_bent" = some (.ref A.a_law_bent)
  k_law_bent : PySem.W.keepIn K (.ref A.a_law_bent) = true
  g_law_refused : mg "_law_refused" = some (.ref A.a_law_refused)
  k_law_refused : PySem.W.keepIn K (.ref A.a_law_refused) = true
  g_law_bounds : mg "_law_bounds" = some (.ref A.a_law_bounds)
  k_law_bounds : PySem.W.keepIn K (.ref A.a_law_bounds) = true
  g_law : mg "law" = some (.ref A.a_law)
  k_law : PySem.W.keepIn K (.ref A.a_law) = true
  n_ValueError : mg "ValueError" = none
  n_abs : mg "abs" = none
  n_bool : mg "bool" = none
  n_dict : mg "dict" = none
  n_enumerate : mg "enumerate" = none
  n_int : mg "int" = none
  n_isinstance : mg "isinstance" = none
  n_len : mg "len" = none
  n_list : mg "list" = none
  n_range : mg "range" = none
  n_sorted : mg "sorted" = none
  n_str : mg "str" = none
  n_super : mg "super" = none
  n_tuple : mg "tuple" = none
  c_MOST_PLACES : ∃ t, mg "MOST_PLACES" = some (.int 8 t)
  c_MOST_ROADS : ∃ t, mg "MOST_ROADS" = some (.int 16 t)
  c_MOST_WALKERS : ∃ t, mg "MOST_WALKERS" = some (.int 4 t)
  c_MOST_LETTERS : ∃ t, mg "MOST_LETTERS" = some (.int 8 t)
  c_MOST_DEEDS : ∃ t, mg "MOST_DEEDS" = some (.int 4000 t)
  c_SAMPLE : ∃ t, mg "SAMPLE" = some (.int 32 t)
  g_PostError : mg "PostError" = some (.ref A.PostError)
  g_NoRow : mg "NoRow" = some (.ref A.NoRow)
  g_NoStanding : mg "NoStanding" = some (.ref A.NoStanding)
  g_NoTown : mg "NoTown" = some (.ref A.NoTown)
  s_NoTown : SupC prg K A.NoTown A.i_NoTown A.cc_NoTown A.cda_NoTown "NoTown.__init__" "this is no town" (zOf (inClass (topS 4) 0)) A.fd_NoTown
  s_NoStanding : SupC prg K A.NoStanding A.i_NoStanding A.cc_NoStanding A.cda_NoStanding "NoStanding.__init__" "this is no standing" (zOf (inClass (topS 3) 0)) A.fd_NoStanding
  s_NoRow : SupC prg K A.NoRow A.i_NoRow A.cc_NoRow A.cda_NoRow "NoRow.__init__" "this is no row" (zOf (inClass (topS 2) 0)) A.fd_NoRow
  e_NoTown : ExcC K A.NoTown
  f_NoTown : XfC K A.NoTown
  e_NoStanding : ExcC K A.NoStanding
  f_NoStanding : XfC K A.NoStanding
  e_NoRow : ExcC K A.NoRow
  f_NoRow : XfC K A.NoRow
  t_NoTown_NoTown : PySem.W.kitOne K (.ref A.NoTown) (.ref A.NoTown) = some true
  t_NoTown_NoStanding : PySem.W.kitOne K (.ref A.NoTown) (.ref A.NoStanding) = some false
  t_NoTown_NoRow : PySem.W.kitOne K (.ref A.NoTown) (.ref A.NoRow) = some false
  t_NoTown_ValueError : PySem.W.kitOne K (.ref A.NoTown) (.type "ValueError") = some true
  t_NoStanding_NoTown : PySem.W.kitOne K (.ref A.NoStanding) (.ref A.NoTown) = some false
  t_NoStanding_NoStanding : PySem.W.kitOne K (.ref A.NoStanding) (.ref A.NoStanding) = some true
  t_NoStanding_NoRow : PySem.W.kitOne K (.ref A.NoStanding) (.ref A.NoRow) = some false
  t_NoStanding_ValueError : PySem.W.kitOne K (.ref A.NoStanding) (.type "ValueError") = some true
  t_NoRow_NoRow : PySem.W.kitOne K (.ref A.NoRow) (.ref A.NoRow) = some true
  t_NoRow_ValueError : PySem.W.kitOne K (.ref A.NoRow) (.type "ValueError") = some true
  t_NoneType_NoTown : PySem.W.kitOne K (.type "NoneType") (.ref A.NoTown) = some false
  t_NoneType_NoStanding : PySem.W.kitOne K (.type "NoneType") (.ref A.NoStanding) = some false
  t_NoneType_NoRow : PySem.W.kitOne K (.type "NoneType") (.ref A.NoRow) = some false
  m_NoTown_PostError : PySem.W.exmOne K (.ref A.NoTown) (.ref A.PostError) = some true
  m_NoStanding_PostError : PySem.W.exmOne K (.ref A.NoStanding) (.ref A.PostError) = some true
  m_NoRow_PostError : PySem.W.exmOne K (.ref A.NoRow) (.ref A.PostError) = some true
abbrev s_is_whole : Stmt := topS 10
theorem sc_is_whole : FnScope ["thing"] ["thing"] (defScope s_is_whole) := ⟨rfl, rfl, rfl, by decide +kernel, rfl, by decide +kernel, by decide +kernel⟩
abbrev s_is_below : Stmt := topS 11
theorem sc_is_below : FnScope ["thing", "limit"] ["thing", "limit"] (defScope s_is_below) := ⟨rfl, rfl, rfl, by decide +kernel, rfl, by decide +kernel, by decide +kernel⟩
abbrev s_is_pair : Stmt := topS 12
theorem sc_is_pair : FnScope ["thing"] ["thing"] (defScope s_is_pair) := ⟨rfl, rfl, rfl, by decide +kernel, rfl, by decide +kernel, by decide +kernel⟩
abbrev s_is_road : Stmt := topS 13
theorem sc_is_road : FnScope ["thing", "many", "start", "end"] ["thing", "many"] (defScope s_is_road) := ⟨rfl, rfl, rfl, by decide +kernel, rfl, by decide +kernel, by decide +kernel⟩
abbrev s_town_wrong : Stmt := topS 19
theorem sc_town_wrong : FnScope ["thing", "many", "roads", "number", "road", "met", "place"] ["thing"] (defScope s_town_wrong) := ⟨rfl, rfl, rfl, by decide +kernel, rfl, by decide +kernel, by decide +kernel⟩
abbrev s_need_town : Stmt := topS 20
theorem sc_need_town : FnScope ["town", "wrong"] ["town"] (defScope s_need_town) := ⟨rfl, rfl, rfl, by decide +kernel, rfl, by decide +kernel, by decide +kernel⟩
abbrev s_is_end : Stmt := topS 14
theorem sc_is_end : FnScope ["town", "thing", "road", "side"] ["town", "thing"] (defScope s_is_end) := ⟨rfl, rfl, rfl, by decide +kernel, rfl, by decide +kernel, by decide +kernel⟩
abbrev s_place_of : Stmt := topS 17
theorem sc_place_of : FnScope ["town", "end", "road", "side"] ["town", "end"] (defScope s_place_of) := ⟨rfl, rfl, rfl, by decide +kernel, rfl, by decide +kernel, by decide +kernel⟩
abbrev s_is_name : Stmt := topS 15
theorem sc_is_name : FnScope ["thing"] ["thing"] (defScope s_is_name) := ⟨rfl, rfl, rfl, by decide +kernel, rfl, by decide +kernel, by decide +kernel⟩
abbrev s_is_walker : Stmt := topS 16
theorem sc_is_walker : FnScope ["town", "thing"] ["town", "thing"] (defScope s_is_walker) := ⟨rfl, rfl, rfl, by decide +kernel, rfl, by decide +kernel, by decide +kernel⟩
abbrev s_posts_wrong : Stmt := topS 21
theorem sc_posts_wrong : FnScope ["town", "posts", "place", "post"] ["town", "posts"] (defScope s_posts_wrong) := ⟨rfl, rfl, rfl, by decide +kernel, rfl, by decide +kernel, by decide +kernel⟩
abbrev s_walkers_wrong : Stmt := topS 22
theorem sc_walkers_wrong : FnScope ["town", "walkers", "ahead", "number", "walker"] ["town", "walkers"] (defScope s_walkers_wrong) := ⟨rfl, rfl, rfl, by decide +kernel, rfl, by decide +kernel, by decide +kernel⟩
abbrev s_find_standing_wrong : Stmt := topS 23
theorem sc_find_standing_wrong : FnScope ["town", "thing", "posts", "walkers", "wrong"] ["town", "thing"] (defScope s_find_standing_wrong) := ⟨rfl, rfl, rfl, by decide +kernel, rfl, by decide +kernel, by decide +kernel⟩
abbrev s_need_standings : Stmt := topS 24
theorem sc_need_standings : FnScope ["town", "standings", "standing", "wrong"] ["town", "standings"] (defScope s_need_standings) := ⟨rfl, rfl, rfl, by decide +kernel, rfl, by decide +kernel, by decide +kernel⟩
abbrev s_need_standing : Stmt := topS 25
theorem sc_need_standing : FnScope ["town", "standing"] ["town", "standing"] (defScope s_need_standing) := ⟨rfl, rfl, rfl, by decide +kernel, rfl, by decide +kernel, by decide +kernel⟩
abbrev s_law_spot : Stmt := topS 45
theorem sc_law_spot : FnScope ["town", "end"] ["town", "end"] (defScope s_law_spot) := ⟨rfl, rfl, rfl, by decide +kernel, rfl, by decide +kernel, by decide +kernel⟩
abbrev s_law_flip : Stmt := topS 46
theorem sc_law_flip : FnScope ["end"] ["end"] (defScope s_law_flip) := ⟨rfl, rfl, rfl, by decide +kernel, rfl, by decide +kernel, by decide +kernel⟩
abbrev s_law_purse : Stmt := topS 41
theorem sc_law_purse : FnScope ["script", "cells", "k"] ["script"] (defScope s_law_purse) := ⟨rfl, rfl, rfl, by decide +kernel, rfl, by decide +kernel, by decide +kernel⟩
abbrev s_law_draw : Stmt := topS 42
theorem sc_law_draw : FnScope ["purse", "out_of", "cells", "turn", "at", "cell", "number", "other"] ["purse", "out_of"] (defScope s_law_draw) := ⟨rfl, rfl, rfl, by decide +kernel, rfl, by decide +kernel, by decide +kernel⟩
abbrev s_law_pick : Stmt := topS 43
theorem sc_law_pick : FnScope ["purse", "things"] ["purse", "things"] (defScope s_law_pick) := ⟨rfl, rfl, rfl, by decide +kernel, rfl, by decide +kernel, by decide +kernel⟩
abbrev s_law_mixed : Stmt := topS 44
theorem sc_law_mixed : FnScope ["purse", "things", "found_here", "thing"] ["purse", "things"] (defScope s_law_mixed) := ⟨rfl, rfl, rfl, by decide +kernel, rfl, by decide +kernel, by decide +kernel⟩
abbrev s_law_ends : Stmt := topS 47
theorem sc_law_ends : FnScope ["town", "v", "found_here", "r", "s"] ["town", "v"] (defScope s_law_ends) := ⟨rfl, rfl, rfl, by decide +kernel, rfl, by decide +kernel, by decide +kernel⟩
abbrev s_law_town : Stmt := topS 48
theorem sc_law_town : FnScope ["purse", "bound", "many", "lines", "v", "near", "k", "pair"] ["purse", "bound"] (defScope s_law_town) := ⟨rfl, rfl, rfl, by decide +kernel, rfl, by decide +kernel, by decide +kernel⟩
abbrev s_law_standing : Stmt := topS 49
theorem sc_law_standing : FnScope ["purse", "town", "bound", "posts", "v", "titles_here", "names_here", "walkers", "name", "some"] ["purse", "town", "bound"] (defScope s_law_standing) := ⟨rfl, rfl, rfl, by decide +kernel, rfl, by decide +kernel, by decide +kernel⟩
abbrev s_gather_all_ends : Stmt := topS 18
theorem sc_gather_all_ends : FnScope ["town", "road", "side"] ["town"] (defScope s_gather_all_ends) := ⟨rfl, rfl, rfl, by decide +kernel, rfl, by decide +kernel, by decide +kernel⟩
abbrev s_deeds_of : Stmt := topS 29
theorem sc_deeds_of : FnScope ["names", "word", "name"] ["names"] (defScope s_deeds_of) := ⟨rfl, rfl, rfl, by decide +kernel, rfl, by decide +kernel, by decide +kernel⟩
abbrev s_put_usual_ahead : Stmt := topS 30
theorem sc_put_usual_ahead : FnScope ["deeds", "row", "sample", "ranks", "number", "deed", "_"] ["deeds", "row"] (defScope s_put_usual_ahead) := ⟨rfl, rfl, rfl, by decide +kernel, rfl, by decide +kernel, by decide +kernel⟩
abbrev s_first_other : Stmt := topS 31
theorem sc_first_other : FnScope ["row", "deeds", "usual", "deed"] ["row", "deeds"] (defScope s_first_other) := ⟨rfl, rfl, rfl, by decide +kernel, rfl, by decide +kernel, by decide +kernel⟩
abbrev s_find_row_wrong : Stmt := topS 32
theorem sc_find_row_wrong : FnScope ["standing", "thing", "number", "name", "_"] ["standing", "thing"] (defScope s_find_row_wrong) := ⟨rfl, rfl, rfl, by decide +kernel, rfl, by decide +kernel, by decide +kernel⟩
abbrev s_row_wrong : Stmt := topS 33
theorem sc_row_wrong : FnScope ["town", "standing", "thing"] ["town", "standing", "thing"] (defScope s_row_wrong) := ⟨rfl, rfl, rfl, by decide +kernel, rfl, by decide +kernel, by decide +kernel⟩
abbrev s_need_row : Stmt := topS 34
theorem sc_need_row : FnScope ["town", "standing", "row", "wrong"] ["town", "standing", "row"] (defScope s_need_row) := ⟨rfl, rfl, rfl, by decide +kernel, rfl, by decide +kernel, by decide +kernel⟩
abbrev s_walk : Stmt := topS 35
theorem sc_walk : FnScope ["town", "standing", "row", "places", "road", "place", "posts", "side", "faces", "name", "trail", "word", "end", "gone"] ["town", "standing", "row"] (defScope s_walk) := ⟨rfl, rfl, rfl, by decide +kernel, rfl, by decide +kernel, by decide +kernel⟩
abbrev s_lead : Stmt := topS 36
theorem sc_lead : FnScope ["town", "standing", "row", "posts", "faces", "_", "ends", "post", "name"] ["town", "standing", "row"] (defScope s_lead) := ⟨rfl, rfl, rfl, by decide +kernel, rfl, by decide +kernel, by decide +kernel⟩
abbrev s_led_by : Stmt := topS 37
theorem sc_led_by : FnScope ["town", "standing", "row"] ["town", "standing", "row"] (defScope s_led_by) := ⟨rfl, rfl, rfl, by decide +kernel, rfl, by decide +kernel, by decide +kernel⟩
abbrev s_trail_of : Stmt := topS 38
theorem sc_trail_of : FnScope ["town", "standing", "row", "_", "trail", "ends", "number"] ["town", "standing", "row"] (defScope s_trail_of) := ⟨rfl, rfl, rfl, by decide +kernel, rfl, by decide +kernel, by decide +kernel⟩
abbrev s_law_row : Stmt := topS 51
theorem sc_law_row : FnScope ["purse", "names_here", "bound", "row", "k"] ["purse", "names_here", "bound"] (defScope s_law_row) := ⟨rfl, rfl, rfl, by decide +kernel, rfl, by decide +kernel, by decide +kernel⟩
abbrev s_law_walked : Stmt := topS 50
theorem sc_law_walked : FnScope ["town", "standing", "row", "posts", "facing", "word", "name", "end", "v"] ["town", "standing", "row"] (defScope s_law_walked) := ⟨rfl, rfl, rfl, by decide +kernel, rfl, by decide +kernel, by decide +kernel⟩
abbrev s_row_back : Stmt := topS 39
theorem sc_row_back : FnScope ["town", "standing", "row", "steppers", "name", "_", "abouts", "back"] ["town", "standing", "row"] (defScope s_row_back) := ⟨rfl, rfl, rfl, by decide +kernel, rfl, by decide +kernel, by decide +kernel⟩
abbrev s_law_due : Stmt := topS 52
theorem sc_law_due : FnScope ["standing", "thing", "names_here", "name", "end", "k", "one", "word"] ["standing", "thing"] (defScope s_law_due) := ⟨rfl, rfl, rfl, by decide +kernel, rfl, by decide +kernel, by decide +kernel⟩
abbrev s_law_bent : Stmt := topS 53
theorem sc_law_bent : FnScope ["purse", "row", "names_here", "name", "odd", "bent", "k", "some"] ["purse", "row", "names_here"] (defScope s_law_bent) := ⟨rfl, rfl, rfl, by decide +kernel, rfl, by decide +kernel, by decide +kernel⟩
abbrev s_law_refused : Stmt := topS 54
theorem sc_law_refused : FnScope ["way_here", "town", "standing", "row", "caught", "e"] ["way_here", "town", "standing", "row"] (defScope s_law_refused) := ⟨rfl, rfl, rfl, by decide +kernel, rfl, by decide +kernel, by decide +kernel⟩
abbrev s_law_bounds : Stmt := topS 55
theorem sc_law_bounds : FnScope ["town", "standing", "names_here", "steps", "seen", "way_here", "j", "row", "name"] ["town", "standing", "names_here"] (defScope s_law_bounds) := ⟨rfl, rfl, rfl, by decide +kernel, rfl, by decide +kernel, by decide +kernel⟩
abbrev s_law : Stmt := topS 56
theorem sc_law : FnScope ["script", "purse", "time", "town", "standing", "names_here", "name", "end", "row", "thing", "due", "none", "bare", "way_here", "seen", "wanted_here"] ["script"] (defScope s_law) := ⟨rfl, rfl, rfl, by decide +kernel, rfl, by decide +kernel, by decide +kernel⟩
/-- the defs as they stand -/
structure Fns (K : PySem.W.Frag) (A : Ad) where
  fd_is_whole : FuncData
  F_is_whole : Fun K "is_whole" "is_whole" s_is_whole A.a_is_whole fd_is_whole
  b_is_whole : L2.Binds K fd_is_whole ["thing"] []
  fd_is_below : FuncData
  F_is_below : Fun K "is_below" "is_below" s_is_below A.a_is_below fd_is_below
  b_is_below : L2.Binds K fd_is_below ["thing", "limit"] []
  fd_is_pair : FuncData
  F_is_pair : Fun K "is_pair" "is_pair" s_is_pair A.a_is_pair fd_is_pair
  b_is_pair : L2.Binds K fd_is_pair ["thing"] []
  fd_is_road : FuncData
  F_is_road : Fun K "is_road" "is_road" s_is_road A.a_is_road fd_is_road
  b_is_road : L2.Binds K fd_is_road ["thing", "many"] []
  fd_town_wrong : FuncData
  F_town_wrong : Fun K "town_wrong" "town_wrong" s_town_wrong A.a_town_wrong fd_town_wrong
  b_town_wrong : L2.Binds K fd_town_wrong ["thing"] []
  fd_need_town : FuncData
  F_need_town : Fun K "need_town" "need_town" s_need_town A.a_need_town fd_need_town
  b_need_town : L2.Binds K fd_need_town ["town"] []
  fd_is_end : FuncData
  F_is_end : Fun K "is_end" "is_end" s_is_end A.a_is_end fd_is_end
  b_is_end : L2.Binds K fd_is_end ["town", "thing"] []
  fd_place_of : FuncData
  F_place_of : Fun K "place_of" "place_of" s_place_of A.a_place_of fd_place_of
  b_place_of : L2.Binds K fd_place_of ["town", "end"] []
  fd_is_name : FuncData
  F_is_name : Fun K "is_name" "is_name" s_is_name A.a_is_name fd_is_name
  b_is_name : L2.Binds K fd_is_name ["thing"] []
  fd_is_walker : FuncData
  F_is_walker : Fun K "is_walker" "is_walker" s_is_walker A.a_is_walker fd_is_walker
  b_is_walker : L2.Binds K fd_is_walker ["town", "thing"] []
  fd_posts_wrong : FuncData
  F_posts_wrong : Fun K "posts_wrong" "posts_wrong" s_posts_wrong A.a_posts_wrong fd_posts_wrong
  b_posts_wrong : L2.Binds K fd_posts_wrong ["town", "posts"] []
  fd_walkers_wrong : FuncData
  F_walkers_wrong : Fun K "walkers_wrong" "walkers_wrong" s_walkers_wrong A.a_walkers_wrong fd_walkers_wrong
  b_walkers_wrong : L2.Binds K fd_walkers_wrong ["town", "walkers"] []
  fd_find_standing_wrong : FuncData
  F_find_standing_wrong : Fun K "find_standing_wrong" "find_standing_wrong" s_find_standing_wrong A.a_find_standing_wrong fd_find_standing_wrong
  b_find_standing_wrong : L2.Binds K fd_find_standing_wrong ["town", "thing"] []
  fd_need_standings : FuncData
  F_need_standings : Fun K "need_standings" "need_standings" s_need_standings A.a_need_standings fd_need_standings
  b_need_standings : L2.Binds K fd_need_standings ["town", "standings"] []
  fd_need_standing : FuncData
  F_need_standing : Fun K "need_standing" "need_standing" s_need_standing A.a_need_standing fd_need_standing
  b_need_standing : L2.Binds K fd_need_standing ["town", "standing"] []
  fd_law_spot : FuncData
  F_law_spot : Fun K "_law_spot" "_law_spot" s_law_spot A.a_law_spot fd_law_spot
  b_law_spot : L2.Binds K fd_law_spot ["town", "end"] []
  fd_law_flip : FuncData
  F_law_flip : Fun K "_law_flip" "_law_flip" s_law_flip A.a_law_flip fd_law_flip
  b_law_flip : L2.Binds K fd_law_flip ["end"] []
  fd_law_purse : FuncData
  F_law_purse : Fun K "_law_purse" "_law_purse" s_law_purse A.a_law_purse fd_law_purse
  b_law_purse : L2.Binds K fd_law_purse ["script"] []
  fd_law_draw : FuncData
  F_law_draw : Fun K "_law_draw" "_law_draw" s_law_draw A.a_law_draw fd_law_draw
  b_law_draw : L2.Binds K fd_law_draw ["purse", "out_of"] []
  fd_law_pick : FuncData
  F_law_pick : Fun K "_law_pick" "_law_pick" s_law_pick A.a_law_pick fd_law_pick
  b_law_pick : L2.Binds K fd_law_pick ["purse", "things"] []
  fd_law_mixed : FuncData
  F_law_mixed : Fun K "_law_mixed" "_law_mixed" s_law_mixed A.a_law_mixed fd_law_mixed
  b_law_mixed : L2.Binds K fd_law_mixed ["purse", "things"] []
  fd_law_ends : FuncData
  F_law_ends : Fun K "_law_ends" "_law_ends" s_law_ends A.a_law_ends fd_law_ends
  b_law_ends : L2.Binds K fd_law_ends ["town", "v"] []
  fd_law_town : FuncData
  F_law_town : Fun K "_law_town" "_law_town" s_law_town A.a_law_town fd_law_town
  b_law_town : L2.Binds K fd_law_town ["purse", "bound"] []
  fd_law_standing : FuncData
  F_law_standing : Fun K "_law_standing" "_law_standing" s_law_standing A.a_law_standing fd_law_standing
  b_law_standing : L2.Binds K fd_law_standing ["purse", "town", "bound"] []
  fd_gather_all_ends : FuncData
  F_gather_all_ends : Fun K "gather_all_ends" "gather_all_ends" s_gather_all_ends A.a_gather_all_ends fd_gather_all_ends
  b_gather_all_ends : L2.Binds K fd_gather_all_ends ["town"] []
  fd_deeds_of : FuncData
  F_deeds_of : Fun K "deeds_of" "deeds_of" s_deeds_of A.a_deeds_of fd_deeds_of
  b_deeds_of : L2.Binds K fd_deeds_of ["names"] []
  fd_put_usual_ahead : FuncData
  F_put_usual_ahead : Fun K "put_usual_ahead" "put_usual_ahead" s_put_usual_ahead A.a_put_usual_ahead fd_put_usual_ahead
  b_put_usual_ahead : L2.Binds K fd_put_usual_ahead ["deeds", "row"] []
  fd_first_other : FuncData
  F_first_other : Fun K "first_other" "first_other" s_first_other A.a_first_other fd_first_other
  b_first_other : L2.Binds K fd_first_other ["row", "deeds"] []
  fd_find_row_wrong : FuncData
  F_find_row_wrong : Fun K "find_row_wrong" "find_row_wrong" s_find_row_wrong A.a_find_row_wrong fd_find_row_wrong
  b_find_row_wrong : L2.Binds K fd_find_row_wrong ["standing", "thing"] []
  fd_row_wrong : FuncData
  F_row_wrong : Fun K "row_wrong" "row_wrong" s_row_wrong A.a_row_wrong fd_row_wrong
  b_row_wrong : L2.Binds K fd_row_wrong ["town", "standing", "thing"] []
  fd_need_row : FuncData
  F_need_row : Fun K "need_row" "need_row" s_need_row A.a_need_row fd_need_row
  b_need_row : L2.Binds K fd_need_row ["town", "standing", "row"] []
  fd_walk : FuncData
  F_walk : Fun K "walk" "walk" s_walk A.a_walk fd_walk
  b_walk : L2.Binds K fd_walk ["town", "standing", "row"] []
  fd_lead : FuncData
  F_lead : Fun K "lead" "lead" s_lead A.a_lead fd_lead
  b_lead : L2.Binds K fd_lead ["town", "standing", "row"] []
  fd_led_by : FuncData
  F_led_by : Fun K "led_by" "led_by" s_led_by A.a_led_by fd_led_by
  b_led_by : L2.Binds K fd_led_by ["town", "standing", "row"] []
  fd_trail_of : FuncData
  F_trail_of : Fun K "trail_of" "trail_of" s_trail_of A.a_trail_of fd_trail_of
  b_trail_of : L2.Binds K fd_trail_of ["town", "standing", "row"] []
  fd_law_row : FuncData
  F_law_row : Fun K "_law_row" "_law_row" s_law_row A.a_law_row fd_law_row
  b_law_row : L2.Binds K fd_law_row ["purse", "names_here", "bound"] []
  fd_law_walked : FuncData
  F_law_walked : Fun K "_law_walked" "_law_walked" s_law_walked A.a_law_walked fd_law_walked
  b_law_walked : L2.Binds K fd_law_walked ["town", "standing", "row"] []
  fd_row_back : FuncData
  F_row_back : Fun K "row_back" "row_back" s_row_back A.a_row_back fd_row_back
  b_row_back : L2.Binds K fd_row_back ["town", "standing", "row"] []
  fd_law_due : FuncData
  F_law_due : Fun K "_law_due" "_law_due" s_law_due A.a_law_due fd_law_due
  b_law_due : L2.Binds K fd_law_due ["standing", "thing"] []
  fd_law_bent : FuncData
  F_law_bent : Fun K "_law_bent" "_law_bent" s_law_bent A.a_law_bent fd_law_bent
  b_law_bent : L2.Binds K fd_law_bent ["purse", "row", "names_here"] []
  fd_law_refused : FuncData
  F_law_refused : Fun K "_law_refused" "_law_refused" s_law_refused A.a_law_refused fd_law_refused
  b_law_refused : L2.Binds K fd_law_refused ["way_here", "town", "standing", "row"] []
  fd_law_bounds : FuncData
  F_law_bounds : Fun K "_law_bounds" "_law_bounds" s_law_bounds A.a_law_bounds fd_law_bounds
  b_law_bounds : L2.Binds K fd_law_bounds ["town", "standing", "names_here"] []
  fd_law : FuncData
  F_law : Fun K "law" "law" s_law A.a_law fd_law
  b_law : L2.Binds K fd_law ["script"] []
end K04
namespace K04
open PySem L2 PySem.Spec PyProof.Rows Cp
open Evl (Ex)
section
variable {w : World} {K : PySem.W.Frag} {mg : Str → Option Value} {base : Heap} {A : Ad}
def isWholeD : PyData → Bool
  | .int _ => true
  | _ => false
theorem G_is_whole (T : Txt K mg A) (Z : Fns K A) : FnOk prg w K mg base CX0 1 A.a_is_whole Z.fd_is_whole ["thing"] (spP 1 (fun _ => True) fun ds => .bool (isWholeD (ds.getD 0 .none))) := by
  refine Fun.ok Z.F_is_whole sc_is_whole (fun vs H Q E h => pure_len h) (fun cdv Ar outer s H vs Q E hr h => ⟨_, (pss_one (ps_ret (pe_and (pe_callB (kx_isi (K := K) rfl) (by rfl) T.n_isinstance (by decide +kernel) (pa_cons (pv 0) (pa_cons (pe_bltn (v := .ty "int") (by rfl) T.n_int (by decide +kernel) rfl) pa_nil))) (pe_one (pe_not (pe_callB (kx_isi (K := K) rfl) (by rfl) T.n_isinstance (by decide +kernel) (pa_cons (pv 0) (pa_cons (pe_bltn (v := .ty "bool") (by rfl) T.n_bool (by decide +kernel) rfl) pa_nil)))))))), ?_⟩)
  refine pure_body (by decide) (fun O ds hl hp => ?_) h
  match ds, hl with
  | [a], _ =>
    show DS O _ [.d a] _ _
    refine ds_ret (d := .bool (isWholeD a)) ?_ rfl
    refine ep_is (ep_and (ep_isInt (ep_var rfl)) fun _ => ep_not (ep_isBool (ep_var rfl))) ?_
    cases a <;> rfl
def isBelowD (a : PyData) (n : Int) : Bool := match a with
  | .int i => decide (0 ≤ i) && decide (i < n)
  | _ => false
theorem G_is_below (T : Txt K mg A) (Z : Fns K A) : FnOk prg w K mg base CX0 1 A.a_is_below Z.fd_is_below ["thing", "limit"] (spP 2 (fun ds => ∃ n, ds.getD 1 .none = .int n) fun ds => .bool (isBelowD (ds.getD 0 .none) (match ds.getD 1 .none with | .int n => n | _ => 0))) := by
  refine Fun.ok Z.F_is_below sc_is_below (fun vs H Q E h => pure_len h) (fun cdv Ar outer s H vs Q E hr h => ⟨_, (pss_one (ps_ret (pe_and (pe_callB (kx_isi (K := K) rfl) (by rfl) T.n_isinstance (by decide +kernel) (pa_cons (pv 0) (pa_cons (pe_bltn (v := .ty "int") (by rfl) T.n_int (by decide +kernel) rfl) pa_nil))) (pe_and (pe_not (pe_callB (kx_isi (K := K) rfl) (by rfl) T.n_isinstance (by decide +kernel) (pa_cons (pv 0) (pa_cons (pe_bltn (v := .ty "bool") (by rfl) T.n_bool (by decide +kernel) rfl) pa_nil)))) (pe_one (pe_chain op_le op_lt pe_int (pv 0) (pv 1))))))), ?_⟩)
  refine pure_body (by decide) (fun O ds hl hp => ?_) h
  match ds, hl with
  | [a, b], _ =>
    obtain ⟨n, hn⟩ := hp
    obtain rfl : b = .int n := hn
    show DS O _ [.d a, .d (.int n)] _ _
    refine ds_ret (d := .bool (isBelowD a n)) ?_ rfl
    refine ep_is (ep_and (ep_isInt (ep_var (i := 0) (x := a) rfl)) fun h1 => ep_and (b := isBelowD a n) (ep_not (ep_isBool (ep_var (i := 0) (x := a) rfl))) fun h2 => ?_) ?_
    · cases a with
      | int i => exact ep_chain ep_int (ep_var rfl) (ep_var rfl) (rp_bl (g := fun i j => decide (i ≤ j))) fun _ => rp_bl (g := fun i j => decide (i < j))
      | bool c => cases h2
      | _ => cases h1
    · cases a <;> simp [isIntB, isBoolB, isBelowD]
def isPairD : PyData → Bool
  | .tuple ds => decide (ds.length = 2)
  | _ => false
theorem eqv_int (i j : Int) : PyData.eqv (.int i) (.int j) = (i == j) := by simp [PyData.eqv]
theorem shaped_int (i : Int) : SeqAt.shaped (.int i) = true := rfl
theorem G_is_pair (T : Txt K mg A) (Z : Fns K A) : FnOk prg w K mg base CX0 1 A.a_is_pair Z.fd_is_pair ["thing"] (spP 1 (fun _ => True) fun ds => .bool (isPairD (ds.getD 0 .none))) := by
  refine Fun.ok Z.F_is_pair sc_is_pair (fun vs H Q E h => pure_len h) (fun cdv Ar outer s H vs Q E hr h => ⟨_, (pss_one (ps_ret (pe_and (pe_callB (kx_isi (K := K) rfl) (by rfl) T.n_isinstance (by decide +kernel) (pa_cons (pv 0) (pa_cons (pe_bltn (v := .ty "tuple") (by rfl) T.n_tuple (by decide +kernel) rfl) pa_nil))) (pe_one (pe_cmpR (kx_eq (K := K) rfl hr.units) (pe_callB (kx_len (K := K) rfl) (by rfl) T.n_len (by decide +kernel) (pa_cons (pv 0) pa_nil)) pe_int (nomark _)))))), ?_⟩)
  refine pure_body (by decide) (fun O ds hl hp => ?_) h
  match ds, hl with
  | [a], _ =>
    show DS O _ [.d a] _ _
    refine ds_ret (d := .bool (isPairD a)) ?_ rfl
    cases a with
    | tuple es =>
      refine ep_is (ep_and (ep_isTup (ep_var rfl)) fun _ => ep_op (ep_len (ep_var rfl) (Or.inr ⟨es, rfl, rfl⟩)) ep_int (rp_eqD (shaped_int _) (shaped_int _))) ?_
      rw [eqv_int]
      show PyData.bool (true && _) = _
      rw [Bool.true_and]
      by_cases c : es.length = 2
      · simp [isPairD, c]
      · have c' : ¬ ((es.length : Int) = 2) := by omega
        simp [isPairD, c, c']
    | _ => exact ep_is (ep_and (b := false) (ep_isTup (ep_var rfl)) fun z => by cases z) rfl
def isRoadD (a : PyData) (n : Int) : Bool := match a with
  | .tuple [x, y] => isBelowD x n && isBelowD y n
  | _ => false
theorem ep_below {O : List Addr} {δ : List Sl} {te tn : TE} {a : PyData} {n : Int} {E : XK} (h : EP O te δ a) (hn : EP O tn δ (.int n)) :
    EP O (tCall (spP 2 (fun ds => ∃ n, ds.getD 1 .none = .int n) fun ds => .bool (isBelowD (ds.getD 0 .none) (match ds.getD 1 .none with | .int n => n | _ => 0))) [] E (tCons te (tCons tn tNil))) δ (.bool (isBelowD a n)) :=
  ep_call (ds := [a, .int n]) (ap_cons h (ap_cons hn ap_nil)) rfl ⟨n, rfl⟩
theorem ep_pair {O : List Addr} {δ : List Sl} {te : TE} {a : PyData} {E : XK} (h : EP O te δ a) :
    EP O (tCall (spP 1 (fun _ => True) fun ds => .bool (isPairD (ds.getD 0 .none))) [] E (tCons te tNil)) δ (.bool (isPairD a)) := ep_call (ds := [a]) (ap_cons h ap_nil) rfl trivial
theorem ep_whole {O : List Addr} {δ : List Sl} {te : TE} {a : PyData} {E : XK} (h : EP O te δ a) :
    EP O (tCall (spP 1 (fun _ => True) fun ds => .bool (isWholeD (ds.getD 0 .none))) [] E (tCons te tNil)) δ (.bool (isWholeD a)) := ep_call (ds := [a]) (ap_cons h ap_nil) rfl trivial
theorem pair_shape {a : PyData} (h : isPairD a = true) : ∃ x y, a = .tuple [x, y] := by
  cases a with
  | tuple es =>
    have h2 : es.length = 2 := of_decide_eq_true h
    match es, h2 with
    | [x, y], _ => exact ⟨x, y, rfl⟩
  | _ => cases h
theorem not_pair {a : PyData} (h : isPairD a = false) {n : Int} : isRoadD a n = false := by
  cases a with
  | tuple es =>
    have h2 : es.length ≠ 2 := of_decide_eq_false h
    match es with
    | [] => rfl
    | [_] => rfl
    | [_, _] => exact absurd rfl h2
    | _ :: _ :: _ :: _ => rfl
  | _ => rfl
theorem tp_notpair {O : List Addr} {K : PySem.W.Frag} {δ : List Sl} {te : TE} {a : PyData} (h : EP O te δ a) :
    TP O (tOr (tNot (tB (tCB (rIsU K) (tCons te (tCons (tC (.ty "tuple")) tNil))))) (tTest (tOp (rNeD K) (tCB (fun xs H Q => ∃ x n, xs = [x] ∧ LenV K x H n ∧ Q (V.int ↑n) H) (tCons te tNil)) (tC (.int 2))))) δ (!isPairD a) := by
  cases a with
  | tuple es =>
    refine tp_is (tp_or (tp_not (tp_B (ep_isTup h))) fun _ => tp_test (ep_op (ep_len h (Or.inr ⟨es, rfl, rfl⟩)) ep_int (rp_neD (shaped_int _) (shaped_int _)))) ?_
    rw [eqv_int]
    by_cases c : es.length = 2
    · simp [isPairD, isTupB, c]
    · have c' : ¬ ((es.length : Int) = 2) := by omega
      simp [isPairD, isTupB, c, c']
  | _ => exact tp_is (tp_or (a := true) (b := true) (tp_is (tp_not (tp_B (ep_isTup h))) rfl) fun z => by cases z) rfl
def pr (p : Int × Int) : PyData := .tuple [.int p.1, .int p.2]
def sideOf (p : Int × Int) (s : Nat) : Int := if s = 0 then p.1 else p.2
def endRow (rs : List (Int × Int)) (v : Int) (r s : Nat) : Option PyData := if sideOf (rs.getD r (0, 0)) s = v then some (.tuple [.int r, .int s]) else none
def endsL (rs : List (Int × Int)) (v : Int) : List PyData := rows2 rs.length (fun _ => 2) (endRow rs v)
def toPair : PyData → Int × Int
  | .tuple [.int a, .int b] => (a, b)
  | _ => (0, 0)
theorem toPair_pr (p : Int × Int) : toPair (pr p) = p := rfl
theorem toPairs (rs : List (Int × Int)) : (rs.map pr).map toPair = rs := by
  rw [List.map_map]
  simp [Function.comp_def, toPair_pr]
theorem side_ix {p : Int × Int} {s : Nat} (hs : s < 2) : [PyData.int p.1, PyData.int p.2][s]? = some (.int (sideOf p s)) := by
  match s, hs with
  | 0, _ => rfl
  | 1, _ => rfl
theorem ixN_nat {n j : Nat} (hj : j < n) : ixN n (j : Int) = some j := Evl.ixN_nat hj
theorem getD_pr {rs : List (Int × Int)} {r : Nat} (h : r < rs.length) : (rs.map pr)[r]? = some (pr (rs.getD r (0, 0))) := by
  rw [List.getElem?_map, List.getElem?_eq_getElem h, List.getD_eq_getElem?_getD, List.getElem?_eq_getElem h]
  rfl
def isRoads (d : PyData) : Prop := ∃ rs : List (Int × Int), d = .list (rs.map pr) ∧ rs.length ≤ 16
theorem G_is_road (T : Txt K mg A) (Z : Fns K A) : FnOk prg w K mg base CX0 2 A.a_is_road Z.fd_is_road ["thing", "many"] (spP 2 (fun ds => ∃ n, ds.getD 1 .none = .int n) fun ds => .bool (isRoadD (ds.getD 0 .none) (match ds.getD 1 .none with | .int n => n | _ => 0))) := by
  refine Fun.ok Z.F_is_road sc_is_road (fun vs H Q E h => pure_len h) (fun cdv Ar outer s H vs Q E hr h => ⟨_, (pss_cons (ps_if (PW.pt (pw_or (pt_not (pt_val (pe_callB (kx_isi (K := K) rfl) (by rfl) T.n_isinstance (by decide +kernel) (pa_cons (pv 0) (pa_cons (pe_bltn (v := .ty "tuple") (by rfl) T.n_tuple (by decide +kernel) rfl) pa_nil))))) (pw_or1 (pt_cmpR (kx_ne (K := K) rfl hr.units) (pe_callB (kx_len (K := K) rfl) (by rfl) T.n_len (by decide +kernel) (pa_cons (pv 0) pa_nil)) pe_int (nomark _))))) (pss_one (ps_ret pe_bl)) pss_nil)
    (pss_cons (ps_asg (pv 0) (kx_gtup (K := K) (n := 2) rfl rfl (pgs_cons (pg_name (i := 2) sc_is_road.nd rfl (by first | exact Or.inl rfl | exact Or.inr rfl)) (pgs_cons (pg_name (i := 3) sc_is_road.nd rfl (by first | exact Or.inl rfl | exact Or.inr rfl)) pgs_nil))))
    (pss_one (ps_ret (pe_and (pe_call (G_is_below T Z) (hr.mono (by decide)) rfl T.g_is_below T.k_is_below Z.b_is_below .nil pass0 (pa_cons (pv 2) (pa_cons (pv 1) pa_nil))) (pe_one (pe_call (G_is_below T Z) (hr.mono (by decide)) rfl T.g_is_below T.k_is_below Z.b_is_below .nil pass0 (pa_cons (pv 3) (pa_cons (pv 1) pa_nil))))))))), ?_⟩)
  refine pure_body (by decide) (fun O ds hl hp => ?_) h
  match ds, hl with
  | [a, b], _ =>
    obtain ⟨n, hn⟩ := hp
    obtain rfl : b = .int n := hn
    show DS O _ [.d a, .d (.int n), .no, .no] _ (fun d => d = .bool (isRoadD a n))
    refine ds_seq (N1 := fun δ => δ = [.d a, .d (.int n), .no, .no] ∧ isPairD a = true) (ds_if (b := !isPairD a) (tp_notpair (ep_var (i := 0) rfl)) (fun c => ?_) fun c => ds_next ⟨rfl, by simpa using c⟩) ?_
    · exact ds_ret ep_bl (by rw [not_pair (by simpa using c)])
    rintro _ ⟨rfl, hpa⟩
    obtain ⟨x, y, rfl⟩ := pair_shape hpa
    refine ds_seq (N1 := fun δ => δ = [.d (.tuple [x, y]), .d (.int n), .d x, .d y]) (ds_unpack (ep_var rfl) gb_tup2 rfl) ?_
    rintro _ rfl
    exact ds_ret (ep_and (ep_below (a := x) (ep_var (i := 2) rfl) (ep_var (i := 1) rfl)) fun _ => ep_below (a := y) (ep_var (i := 3) rfl) (ep_var (i := 1) rfl)) rfl
end
end K04
namespace K04
open PySem L2 PySem.Spec PyProof.Rows Cp
open Evl (Ex)
section
variable {w : World} {K : PySem.W.Frag} {mg : Str → Option Value} {base : Heap} {A : Ad}
def firstBad (ds : List PyData) (n : Int) : Option Nat := (List.range ds.length).find? fun r => !isRoadD (ds.getD r .none) n
def firstBare (ds : List PyData) (n : Int) : Option Nat := (List.range n.toNat).find? fun v => (endsL (ds.map toPair) (v : Int)).isEmpty
def roadsWrong (ds : List PyData) (n : Int) : PyData := match firstBad ds n with
  | some r => .tuple [.str "road", .int r]
  | none => match firstBare ds n with
    | some v => .tuple [.str "bare", .int v]
    | none => .none
def tw3 (n : Int) : PyData → PyData
  | .list ds => if 1 ≤ ds.length ∧ ds.length ≤ 16 then roadsWrong ds n else .tuple [.str "roads"]
  | _ => .tuple [.str "roads"]
def tw2 (m rs : PyData) : PyData := match m with
  | .int n => if 1 ≤ n ∧ n ≤ 8 then tw3 n rs else .tuple [.str "places"]
  | _ => .tuple [.str "places"]
def townWrong (d : PyData) : PyData :=
  if isPairD d = false then .tuple [.str "town"] else match d with
  | .tuple [m, rs] => tw2 m rs
  | _ => .none
theorem find_some {p : Nat → Bool} {n i : Nat} (hi : i < n) (hp : p i = true) (h : ∀ j, j < i → p j = false) : (List.range n).find? p = some i := by
  rw [List.find?_range_eq_some]
  exact ⟨hp, by simpa using hi, fun j hj => by rw [h j hj]; rfl⟩
theorem find_none {p : Nat → Bool} {n : Nat} (h : ∀ j, j < n → p j = false) : (List.range n).find? p = none := by
  rw [List.find?_eq_none]
  intro x hx
  rw [h x (by simpa using hx)]
  simp
theorem road_pr {x : PyData} {n : Int} (h : isRoadD x n = true) : x = pr (toPair x) := by
  cases x with
  | tuple es =>
    match es with
    | [] => cases h
    | [_] => cases h
    | [x, y] =>
      have h2 : (isBelowD x n && isBelowD y n) = true := h
      rw [Bool.and_eq_true] at h2
      cases x with
      | int a =>
        cases y with
        | int b => rfl
        | _ => cases h2.2
      | _ => cases h2.1
    | _ :: _ :: _ :: _ => cases h
  | _ => cases h
theorem roads_pr {ds : List PyData} {n : Int} (h : ∀ j, j < ds.length → isRoadD (ds.getD j .none) n = true) : ds = (ds.map toPair).map pr := by
  rw [List.map_map]
  refine List.ext_getElem? fun j => ?_
  rw [List.getElem?_map]
  cases e : ds[j]? with
  | none => rfl
  | some x =>
    obtain ⟨hj, _⟩ := List.getElem?_eq_some_iff.mp e
    have z := h j hj
    rw [List.getD_eq_getElem?_getD, e] at z
    have q := road_pr z
    show some x = some (pr (toPair x))
    exact congrArg some q
theorem ep_road {O : List Addr} {δ : List Sl} {te tn : TE} {a : PyData} {n : Int} {E : XK} (h : EP O te δ a) (hn : EP O tn δ (.int n)) :
    EP O (tCall (spP 2 (fun ds => ∃ n, ds.getD 1 .none = .int n) fun ds => .bool (isRoadD (ds.getD 0 .none) (match ds.getD 1 .none with | .int n => n | _ => 0))) [] E (tCons te (tCons tn tNil))) δ (.bool (isRoadD a n)) :=
  ep_call (ds := [a, .int n]) (ap_cons h (ap_cons hn ap_nil)) rfl ⟨n, rfl⟩
theorem ep_gather {O : List Addr} {δ : List Sl} {te tn : TE} {rs : List (Int × Int)} {v : Int} {E : XK} (h : EP O te δ (.list (rs.map pr))) (hn : EP O tn δ (.int v)) (h16 : rs.length ≤ 16) :
    EP O (tCall (spP 2 (fun ds => isRoads (ds.getD 0 .none) ∧ ∃ v, ds.getD 1 .none = .int v) fun ds => .list (endsL ((match ds.getD 0 .none with | .list l => l | _ => []).map toPair) (match ds.getD 1 .none with | .int v => v | _ => 0))) [] E (tCons te (tCons tn tNil)))
      δ (.list (endsL rs v)) :=
  ep_is (ep_call (ds := [.list (rs.map pr), .int v]) (ap_cons h (ap_cons hn ap_nil)) rfl ⟨⟨rs, rfl, h16⟩, v, rfl⟩) (by show PyData.list (endsL ((rs.map pr).map toPair) v) = _; rw [toPairs])
/-- the places that the roads have ends at -/
def metL (rs : List (Int × Int)) : List Int := ints2 rs.length (fun _ => 2) fun i j => sideOf (rs.getD i (0, 0)) j
theorem getD_map_pr' (rs : List (Int × Int)) {j : Nat} (h : j < rs.length) : (rs.map pr).getD j .none = pr (rs.getD j (0, 0)) := by
  rw [List.getD_eq_getElem?_getD, getD_pr h]
  rfl
theorem endsL_empty (rs : List (Int × Int)) (v : Int) : (endsL rs v).isEmpty = !decide (v ∈ metL rs) := by
  have h : (endsL rs v).isEmpty = false ↔ v ∈ metL rs := by
    rw [metL, mem_ints2, List.isEmpty_eq_false_iff_exists_mem]
    unfold endsL rows2
    constructor
    · rintro ⟨x, hx⟩
      rw [List.mem_flatMap] at hx
      obtain ⟨i, hi, hx⟩ := hx
      rw [List.mem_filterMap] at hx
      obtain ⟨j, hj, hx⟩ := hx
      refine ⟨i, j, by simpa using hi, by simpa using hj, ?_⟩
      unfold endRow at hx
      split at hx
      · assumption
      · cases hx
    · rintro ⟨i, j, hi, hj, e⟩
      refine ⟨.tuple [.int i, .int j], ?_⟩
      rw [List.mem_flatMap]
      refine ⟨i, by simpa using hi, ?_⟩
      rw [List.mem_filterMap]
      exact ⟨j, by simpa using hj, by unfold endRow; rw [if_pos e]⟩
  cases c : (endsL rs v).isEmpty with
  | true => rw [show decide (v ∈ metL rs) = false from decide_eq_false fun z => by rw [h.mpr z] at c; cases c]; rfl
  | false => rw [show decide (v ∈ metL rs) = true from decide_eq_true (h.mp c)]; rfl
theorem G_town_wrong (T : Txt K mg A) (Z : Fns K A) : FnOk prg w K mg base CX0 3 A.a_town_wrong Z.fd_town_wrong ["thing"] (spP 1 (fun _ => True) fun ds => townWrong (ds.getD 0 .none)) := by
  refine Fun.ok Z.F_town_wrong sc_town_wrong (fun vs H Q E h => pure_len h) (fun cdv Ar outer s H vs Q E hr h => ⟨_, (pss_cons (ps_if (pt_not (pt_val (pe_call (G_is_pair T Z) (hr.mono (by decide)) rfl T.g_is_pair T.k_is_pair Z.b_is_pair .nil pass0 (pa_cons (pv 0) pa_nil)))) (pss_one (ps_ret (pe_tup (pa_cons pe_str pa_nil)))) pss_nil)
    (pss_cons (ps_asg (pv 0) (kx_gtup (K := K) (n := 2) rfl rfl (pgs_cons (pg_name (i := 1) sc_town_wrong.nd rfl (by first | exact Or.inl rfl | exact Or.inr rfl)) (pgs_cons (pg_name (i := 2) sc_town_wrong.nd rfl (by first | exact Or.inl rfl | exact Or.inr rfl)) pgs_nil))))
    (pss_cons (ps_if (PW.pt (pw_or (pt_not (pt_val (pe_call (G_is_whole T Z) (hr.mono (by decide)) rfl T.g_is_whole T.k_is_whole Z.b_is_whole .nil pass0 (pa_cons (pv 1) pa_nil)))) (pw_or1 (pt_not (pt_chain op_le op_le pe_int (pv 1) (pe_glob (v := .int 8) rfl T.c_MOST_PLACES.choose_spec ⟨_, rfl⟩)))))) (pss_one (ps_ret (pe_tup (pa_cons pe_str pa_nil)))) pss_nil)
    (pss_cons (ps_if (PW.pt (pw_or (pt_not (pt_val (pe_callB (kx_isi (K := K) rfl) (by rfl) T.n_isinstance (by decide +kernel) (pa_cons (pv 2) (pa_cons (pe_bltn (v := .ty "list") (by rfl) T.n_list (by decide +kernel) rfl) pa_nil))))) (pw_or1 (pt_not (pt_chain op_le op_le pe_int (pe_callB (kx_len (K := K) rfl) (by rfl) T.n_len (by decide +kernel) (pa_cons (pv 2) pa_nil)) (pe_glob (v := .int 16) rfl T.c_MOST_ROADS.choose_spec ⟨_, rfl⟩)))))) (pss_one (ps_ret (pe_tup (pa_cons pe_str pa_nil)))) pss_nil)
    (pss_cons (ps_for PassesOwn.never rfl (kx_enum (K := K) rfl rfl T.n_enumerate (pa_cons (pv 2) pa_nil)) (kx_gtup (K := K) (n := 2) rfl rfl (pgs_cons (pg_name (i := 3) sc_town_wrong.nd rfl (by first | exact Or.inl rfl | exact Or.inr rfl)) (pgs_cons (pg_name (i := 4) sc_town_wrong.nd rfl (by first | exact Or.inl rfl | exact Or.inr rfl)) pgs_nil))) (pss_one (ps_if (pt_not (pt_val (pe_call (G_is_road T Z) (hr.mono (by decide)) rfl T.g_is_road T.k_is_road Z.b_is_road .nil pass0 (pa_cons (pv 4) (pa_cons (pv 1) pa_nil))))) (pss_one (ps_ret (pe_tup (pa_cons pe_str (pa_cons (pv 3) pa_nil))))) pss_nil)))
    (pss_cons (ps_setScTwo (i := 5) (own := [("road", 4), ("place", 6)]) (vsb := [6]) rfl sc_town_wrong.nd rfl rfl (sw_set rfl rfl rfl (by decide +kernel)) (kx_list (K := K) rfl (pv 2)) (blkOk_by (own := [("road", 4), ("place", 6)]) (N := ["thing", "many", "roads", "number", "road", "met", "place"]) (sc := defScope s_town_wrong) (by decide +kernel)) (by decide) (fun _ _ _ _ _ => (pg_name (i := 4) sc_town_wrong.nd rfl (by first | exact Or.inl rfl | exact Or.inr rfl))) (fun _ _ _ _ _ => (kx_tup (K := K) rfl (pv 4))) (fun _ _ _ _ _ => (pg_name (i := 6) sc_town_wrong.nd rfl (by first | exact Or.inl rfl | exact Or.inr rfl))) (fun _ _ _ _ _ => (pv 6)))
    (pss_cons (ps_for PassesOwn.never rfl (pi_range1 rfl T.n_range (pa_cons (pv 1) pa_nil)) (pg_name (i := 6) sc_town_wrong.nd rfl (by first | exact Or.inl rfl | exact Or.inr rfl)) (pss_one (ps_if (pt_cmpR (kw_snotin rfl) (pv 6) (pv 5) (by rfl)) (pss_one (ps_ret (pe_tup (pa_cons pe_str (pa_cons (pv 6) pa_nil))))) pss_nil)))
    (pss_one (ps_ret pe_non))))))))), ?_⟩)
  refine pure_body (by decide) (fun O ds hl hp => ?_) h
  match ds, hl with
  | [a], _ =>
    show DS O _ [.d a, .no, .no, .no, .no, .no, .no] _ (fun d => d = townWrong a)
    refine ds_seq (N1 := fun δ => δ = [.d a, .no, .no, .no, .no, .no, .no] ∧ isPairD a = true) (ds_if (tp_not (tp_B (ep_pair (ep_var rfl)))) (fun c => ?_) fun c => ds_next ⟨rfl, by simpa using c⟩) ?_
    · have c : isPairD a = false := by simpa using c
      exact ds_ret (ep_tup (ap_cons ep_str ap_nil) (by decide)) (by unfold townWrong; rw [if_pos c])
    rintro _ ⟨rfl, hpa⟩
    obtain ⟨m, rs, rfl⟩ := pair_shape hpa
    refine ds_seq (N1 := fun δ => δ = [.d (.tuple [m, rs]), .d m, .d rs, .no, .no, .no, .no]) (ds_unpack (ep_var rfl) gb_tup2 rfl) ?_
    rintro _ rfl
    have hT : townWrong (.tuple [m, rs]) = tw2 m rs := rfl
    rw [hT]
    clear hT hp
    cases m with
    | int n =>
      refine ds_seq (N1 := fun δ => δ = [.d (.tuple [.int n, rs]), .d (.int n), .d rs, .no, .no, .no, .no] ∧ 1 ≤ n ∧ n ≤ 8)
        (ds_if (tp_or (tp_not (tp_B (ep_whole (ep_var rfl)))) fun _ => tp_not (tp_test (ep_chain ep_int (ep_var rfl) ep_int (rp_bl (g := fun i j => decide (i ≤ j))) fun _ => rp_bl (g := fun i j => decide (i ≤ j))))) (fun c => ?_) fun c => ds_next ⟨rfl, ?_⟩) ?_
      · have c : ¬ (1 ≤ n ∧ n ≤ 8) := by
          simp [isWholeD] at c
          omega
        exact ds_ret (ep_tup (ap_cons ep_str ap_nil) (by decide)) (by show _ = tw2 _ _; unfold tw2; simp only [if_neg c])
      · simpa [isWholeD] using c
      rintro _ ⟨rfl, h18⟩
      have hT2 : tw2 (.int n) rs = tw3 n rs := by
        unfold tw2
        simp only [if_pos h18]
      rw [hT2]
      cases rs with
      | list es =>
        refine ds_seq (N1 := fun δ => δ = [.d (.tuple [.int n, .list es]), .d (.int n), .d (.list es), .no, .no, .no, .no] ∧ 1 ≤ es.length ∧ es.length ≤ 16)
          (ds_if (tp_or (tp_not (tp_B (ep_isList (ep_var rfl)))) fun _ => tp_not (tp_test (ep_chain ep_int (ep_len (ep_var rfl) (Or.inl ⟨es, rfl, rfl⟩)) ep_int (rp_bl (g := fun i j => decide (i ≤ j))) fun _ => rp_bl (g := fun i j => decide (i ≤ j))))) (fun c => ?_) fun c => ds_next ⟨rfl, ?_⟩) ?_
        · have c : ¬ (1 ≤ es.length ∧ es.length ≤ 16) := by
            simp [isListB] at c
            omega
          exact ds_ret (ep_tup (ap_cons ep_str ap_nil) (by decide)) (by unfold tw3; simp only [if_neg c])
        · simp [isListB] at c
          omega
        rintro _ ⟨rfl, h16⟩
        have hT3 : tw3 n (.list es) = roadsWrong es n := by
          unfold tw3
          simp only [if_pos h16]
        rw [hT3]
        refine ds_seq (N1 := fun δ => (∃ s t, δ = [.d (.tuple [.int n, .list es]), .d (.int n), .d (.list es), s, t, .no, .no]) ∧ ∀ j, j < es.length → isRoadD (es.getD j .none) n = true)
          (ds_for (ix := [3, 4]) (wp_enum (ap_cons (ep_var rfl) ap_nil)) (fun i δ => (∃ s t, δ = [.d (.tuple [.int n, .list es]), .d (.int n), .d (.list es), s, t, .no, .no]) ∧ ∀ j, j < i → isRoadD (es.getD j .none) n = true)
            ⟨⟨_, _, rfl⟩, fun j hj => by omega⟩ (fun i δ1 hi hI => ?_) fun δ1 hI => hI) ?_
        · obtain ⟨⟨s, t, rfl⟩, hall⟩ := hI
          refine ⟨_, gb_tup2, ds_if (tp_not (tp_B (ep_road (a := es.getD i .none) (ep_var rfl) (ep_var rfl)))) (fun c => ?_) fun c => ds_next ⟨⟨_, _, rfl⟩, fun j hj => ?_⟩⟩
          · have c : isRoadD (es.getD i .none) n = false := by simpa using c
            refine ds_ret (ep_tup (ap_cons ep_str (ap_cons (ep_var (x := .int (i : Int)) rfl) ap_nil)) (by simp)) ?_
            unfold roadsWrong firstBad
            rw [find_some (i := i) hi (by rw [c]; rfl) fun j hj => by rw [hall j hj]; rfl]
          · have c : isRoadD (es.getD i .none) n = true := by simpa using c
            by_cases e : j = i
            · rw [e]; exact c
            · exact hall j (by omega)
        rintro _ ⟨⟨s, t, rfl⟩, hall⟩
        have hrs := roads_pr hall
        have hbad : firstBad es n = none := find_none fun j hj => by rw [hall j hj]; rfl
        refine ds_seq (N1 := fun δ => ∃ k, δ = [.d (.tuple [.int n, .list es]), .d (.int n), .d (.list es), s, t, .ob (fun a => SetO w a (fun x => decide (x ∈ metL (es.map toPair))) k), .no])
          (ds_asgO (eo_scTwo (n := es.length) (b := 2) (m := fun _ => 2) (item := fun i => es.getD i .none) (item1 := fun i j => [PyData.int ((es.map toPair).getD i (0, 0)).1, .int ((es.map toPair).getD i (0, 0)).2].getD j .none)
            (f := fun i j => sideOf ((es.map toPair).getD i (0, 0)) j) (ix := [4]) (ix1 := [6]) (fun O' => wp_list (ep_var rfl)) (fun _ _ => Nat.le_refl _) (by omega) (by decide) (by decide) (by decide) fun O' i hi => ?_) fun f hf => ?_) ?_
        · have hp : es.getD i .none = pr ((es.map toPair).getD i (0, 0)) := by
            rw [← getD_map_pr' (es.map toPair) (by simpa using hi), ← hrs]
          refine ⟨_, gb_name, wp_tup (ds := [PyData.int ((es.map toPair).getD i (0, 0)).1, .int ((es.map toPair).getD i (0, 0)).2]) (ep_is (ep_var (x := es.getD i .none) rfl) hp), fun j hj => ⟨_, gb_name, ?_⟩⟩
          match j, hj with
          | 0, _ => exact ep_var rfl
          | 1, _ => exact ep_var rfl
        · obtain ⟨k, rfl⟩ := hf
          exact ⟨k, by rw [metL, List.length_map]; rfl⟩
        rintro _ ⟨k, rfl⟩
        refine ds_seq (N1 := fun δ => ∀ j, j < n.toNat → (endsL (es.map toPair) (j : Int)).isEmpty = false)
          (ds_for (ix := [6]) (wp_rng1 (ap_cons (ep_var (x := .int n) rfl) ap_nil) (by omega)) (fun i δ => (∃ u, δ = [.d (.tuple [.int n, .list es]), .d (.int n), .d (.list es), s, t, .ob (fun a => SetO w a (fun x => decide (x ∈ metL (es.map toPair))) k), u]) ∧ ∀ j, j < i → (endsL (es.map toPair) (j : Int)).isEmpty = false)
            ⟨⟨_, rfl⟩, fun j hj => by omega⟩ (fun i δ1 hi hI => ?_) fun δ1 hI => hI.2) ?_
        · obtain ⟨⟨u, rfl⟩, hemp⟩ := hI
          refine ⟨_, gb_name, ds_if (tp_is (tp_test (ep_notInSet (x := (i : Int)) rfl (ep_var rfl))) (endsL_empty _ _).symm) (fun c => ?_) fun c => ds_next ⟨⟨_, rfl⟩, fun j hj => ?_⟩⟩
          · refine ds_ret (ep_tup (ap_cons ep_str (ap_cons (ep_var (x := .int (i : Int)) rfl) ap_nil)) (by simp)) ?_
            unfold roadsWrong
            rw [hbad]
            unfold firstBare
            rw [find_some (i := i) hi c fun j hj => hemp j hj]
          · by_cases e : j = i
            · rw [e]; exact c
            · exact hemp j (by omega)
        intro δ1 hemp
        refine ds_ret ep_non ?_
        unfold roadsWrong
        rw [hbad]
        unfold firstBare
        rw [find_none hemp]
      | _ =>
        refine ds_seq (N1 := fun δ => False) (ds_if (b := true) (tp_or (a := true) (b := true) (tp_is (tp_not (tp_B (ep_isList (ep_var rfl)))) rfl) fun z => by cases z) (fun c => ?_) fun c => by cases c) (fun _ z => z.elim)
        exact ds_ret (ep_tup (ap_cons ep_str ap_nil) (by decide)) rfl
    | _ =>
      refine ds_seq (N1 := fun δ => False) (ds_if (b := true) (tp_or (a := true) (b := true) (tp_is (tp_not (tp_B (ep_whole (ep_var rfl)))) rfl) fun z => by cases z) (fun c => ?_) fun c => by cases c) (fun _ z => z.elim)
      exact ds_ret (ep_tup (ap_cons ep_str ap_nil) (by decide)) rfl
end
end K04
namespace K04
open PySem L2 PySem.Spec PyProof.Rows Cp
open Evl (Ex)
section
variable {w : World} {K : PySem.W.Frag} {mg : Str → Option Value} {base : Heap} {A : Ad}
def spNeed (C : Addr) : Sp := fun vs H Q E => ∃ (O : List Addr) (d : PyData), Dom O H ∧ DtAll (hid O H) [d] vs ∧ (townWrong d = .none → ∀ H', Ex H H' → Q .non H') ∧
  (townWrong d ≠ .none → ∀ dd u H', H dd = none → Ex H H' → Dt (hid O H') (townWrong d) u → H' dd = some (.xd [("wrong", u)]) → E (.ref C) (some dd) H')
theorem ep_townWrong {O : List Addr} {δ : List Sl} {te : TE} {a : PyData} {E : XK} (h : EP O te δ a) :
    EP O (tCall (spP 1 (fun _ => True) fun ds => townWrong (ds.getD 0 .none)) [] E (tCons te tNil)) δ (townWrong a) := ep_call (f := fun ds => townWrong (ds.getD 0 .none)) (ds := [a]) (ap_cons h ap_nil) rfl trivial
/-- a town of n places with the roads rs -/
def townD (n : Int) (rs : List (Int × Int)) : PyData := .tuple [.int n, .list (rs.map pr)]
structure TownOk (n : Int) (rs : List (Int × Int)) : Prop where
  n1 : 1 ≤ n
  n8 : n ≤ 8
  r1 : 1 ≤ rs.length
  r16 : rs.length ≤ 16
  roads : ∀ j, j < rs.length → isRoadD (pr (rs.getD j (0, 0))) n = true
  ends : ∀ v : Nat, v < n.toNat → (endsL rs (v : Int)).isEmpty = false
theorem getD_map_pr (rs : List (Int × Int)) {j : Nat} (h : j < rs.length) : (rs.map pr).getD j .none = pr (rs.getD j (0, 0)) := by
  rw [List.getD_eq_getElem?_getD, getD_pr h]
  rfl
theorem townWrong_ok {n : Int} {rs : List (Int × Int)} (h : TownOk n rs) : townWrong (townD n rs) = .none := by
  have h1 : townWrong (townD n rs) = tw2 (.int n) (.list (rs.map pr)) := rfl
  rw [h1]
  unfold tw2 tw3 roadsWrong firstBad firstBare
  simp only [if_pos (show 1 ≤ n ∧ n ≤ 8 from ⟨h.n1, h.n8⟩), List.length_map, if_pos (show 1 ≤ rs.length ∧ rs.length ≤ 16 from ⟨h.r1, h.r16⟩)]
  rw [find_none fun j hj => by rw [getD_map_pr rs hj, h.roads j hj]; rfl, find_none fun v hv => by rw [toPairs]; exact h.ends v hv]
theorem townWrong_inv {d : PyData} (h : townWrong d = .none) : ∃ n rs, d = townD n rs ∧ TownOk n rs := by
  unfold townWrong at h
  by_cases c : isPairD d = false
  · rw [if_pos c] at h
    cases h
  · rw [if_neg c] at h
    obtain ⟨m, rs, rfl⟩ := pair_shape (by simpa using c)
    have h : tw2 m rs = .none := h
    unfold tw2 at h
    cases m with
    | int n =>
      by_cases c1 : 1 ≤ n ∧ n ≤ 8
      · simp only [if_pos c1] at h
        cases rs with
        | list es =>
          unfold tw3 at h
          by_cases c2 : 1 ≤ es.length ∧ es.length ≤ 16
          · simp only [if_pos c2] at h
            unfold roadsWrong at h
            cases e1 : firstBad es n with
            | some r => rw [e1] at h; cases h
            | none =>
              rw [e1] at h
              cases e2 : firstBare es n with
              | some r => rw [e2] at h; cases h
              | none =>
                have hall : ∀ j, j < es.length → isRoadD (es.getD j .none) n = true := fun j hj => by
                  have z := List.find?_eq_none.mp e1 j (by simpa using hj)
                  simpa using z
                have hrs := roads_pr hall
                refine ⟨n, es.map toPair, ?_, c1.1, c1.2, by rw [List.length_map]; exact c2.1, by rw [List.length_map]; exact c2.2, fun j hj => ?_, fun v hv => ?_⟩
                · unfold townD
                  rw [← hrs]
                · have hj2 : j < es.length := by simpa using hj
                  rw [← getD_map_pr _ hj, ← hrs]
                  exact hall j hj2
                · have z := List.find?_eq_none.mp e2 v (by simpa using hv)
                  simpa using z
          · simp only [if_neg c2] at h
            cases h
        | _ => cases h
      · simp only [if_neg c1] at h
        cases h
    | _ => cases h
theorem townD_inj {n n' : Int} {rs rs' : List (Int × Int)} (h : townD n rs = townD n' rs') : n = n' ∧ rs = rs' := by
  unfold townD at h
  injection h with h
  injection h with h1 h2
  injection h1 with h1
  injection h2 with h2
  injection h2 with h2
  refine ⟨h1, ?_⟩
  have z := congrArg (List.map toPair) h2
  rwa [toPairs, toPairs] at z
theorem G_need_town (T : Txt K mg A) (Z : Fns K A) : FnOk prg w K mg base (L2.CX prg w) 5 A.a_need_town Z.fd_need_town ["town"] (spNeed A.NoTown) := by
  refine Fun.okX Z.F_need_town sc_need_town (fun vs H Q E h => by obtain ⟨O, d, _, hv, _⟩ := h; exact hv.length) (fun cdv Ar outer s H vs Q E hr h => ⟨_, (pss_cons (ps_set (i := 1) sc_need_town.nd rfl (by first | exact Or.inl rfl | exact Or.inr rfl) (pe_call (G_town_wrong T Z) (hr.mono (by decide)) rfl T.g_town_wrong T.k_town_wrong Z.b_town_wrong .nil pass0 (pa_cons (pv 0) pa_nil)))
    (pss_one (ps_if (pt_cmpR op_notN (pv 1) pe_non (nomark _)) (pss_one (ps_raise rfl (takes_of rfl rfl rfl rfl) (pmk_oex T.s_NoTown.oex T.s_NoTown.iC T.s_NoTown.tI (sup_ok T.s_NoTown T.n_super CX0 0) (hr.mono (by decide)) (sup_binds T.s_NoTown) .nil pass0 rfl T.g_NoTown (pa_cons (pv 1) pa_nil)))) pss_nil))), ?_⟩)
  obtain ⟨O, d, hD, hv, k1, k2⟩ := h
  have s0 : SD (hid O H) [.d d, .no] (L2.start ["town", "wrong"] vs) := sd_start hv _ (by simp)
  refine ha_seq (ha_asg (ep_townWrong (ep_var (i := 0) rfl)) hD s0 fun v H1 e1 hv1 s1 => ?_)
  dsimp only
  refine ha_if (tp_test (ep_op (ep_var (i := 1) rfl) ep_non rp_notN)) (hD.ex e1) s1 (fun c H2 e2 => ?_) fun c H2 e2 => ?_
  rotate_left
  · exact k1 (isNoneB_iff.mp (by simpa using c)) H2 (e1.trans e2)
  · have z : townWrong d ≠ .none := isNoneB_not.mp (by simpa using c)
    have s2 := s1.mono (hid_ex e2)
    obtain ⟨u, hu, hdu⟩ := s2.var (i := 1) rfl
    refine ⟨u, hu, (by simp : [u].length ≤ 1000), fun a ha => ⟨a, u, rfl, upd_same, fun dx h1 h2 => ⟨rfl, dx, [("wrong", u)], ?_, upd_same, ?_, ?_⟩⟩⟩
    · rw [upd_ne (Ne.symm h2), upd_same]
    · rw [upd_ne h2] at h1
      exact h1
    · rw [upd_ne h2] at h1
      have ex : Ex H2 (upd (L2.del (upd (upd (upd H2 a (exo a A.NoTown none)) a (exo a A.NoTown (some dx))) dx (exd dx [("wrong", u)])) a) dx (.xd [("wrong", u)])) := fun b o q => by
        have hba : b ≠ a := fun z => by rw [z, ha] at q; cases q
        have hbd : b ≠ dx := fun z => by rw [z, h1] at q; cases q
        rw [upd_ne hbd, del_ne hba, upd_ne hbd, upd_ne hba, upd_ne hba]
        exact q
      have h0 : H dx = none := Evl.fresh_back (e1.trans e2) h1
      exact k2 z dx u _ h0 ((e1.trans e2).trans ex) (Dt.mono (hid_ex ex) _ _ hdu) upd_same
end
end K04
namespace K04
open PySem L2 PySem.Spec PyProof.Rows Cp
open Evl (Ex)
section
variable {w : World} {K : PySem.W.Frag} {mg : Str → Option Value} {base : Heap} {A : Ad}
/-- an end of the m roads -/
def isEndD (m : Nat) (x : PyData) : Bool := match x with
  | .tuple [r, s] => isBelowD r m && isBelowD s 2
  | _ => false
def townRs (d : PyData) : List (Int × Int) := match d with
  | .tuple [_, .list l] => l.map toPair
  | _ => []
theorem townRs_is (n : Int) (rs : List (Int × Int)) : townRs (townD n rs) = rs := toPairs rs
theorem not_pairE {a : PyData} (h : isPairD a = false) {m : Nat} : isEndD m a = false := by
  cases a with
  | tuple es =>
    have h2 : es.length ≠ 2 := of_decide_eq_false h
    match es with
    | [] => rfl
    | [_] => rfl
    | [_, _] => exact absurd rfl h2
    | _ :: _ :: _ :: _ => rfl
  | _ => rfl
def preTown (d : PyData) : Prop := ∃ n rs, d = townD n rs
theorem G_is_end (T : Txt K mg A) (Z : Fns K A) : FnOk prg w K mg base CX0 2 A.a_is_end Z.fd_is_end ["town", "thing"] (spP 2 (fun ds => preTown (ds.getD 0 .none)) fun ds => .bool (isEndD (townRs (ds.getD 0 .none)).length (ds.getD 1 .none))) := by
  refine Fun.ok Z.F_is_end sc_is_end (fun vs H Q E h => pure_len h) (fun cdv Ar outer s H vs Q E hr h => ⟨_, (pss_cons (ps_if (PW.pt (pw_or (pt_not (pt_val (pe_callB (kx_isi (K := K) rfl) (by rfl) T.n_isinstance (by decide +kernel) (pa_cons (pv 1) (pa_cons (pe_bltn (v := .ty "tuple") (by rfl) T.n_tuple (by decide +kernel) rfl) pa_nil))))) (pw_or1 (pt_cmpR (kx_ne (K := K) rfl hr.units) (pe_callB (kx_len (K := K) rfl) (by rfl) T.n_len (by decide +kernel) (pa_cons (pv 1) pa_nil)) pe_int (nomark _))))) (pss_one (ps_ret pe_bl)) pss_nil)
    (pss_cons (ps_asg (pv 1) (kx_gtup (K := K) (n := 2) rfl rfl (pgs_cons (pg_name (i := 2) sc_is_end.nd rfl (by first | exact Or.inl rfl | exact Or.inr rfl)) (pgs_cons (pg_name (i := 3) sc_is_end.nd rfl (by first | exact Or.inl rfl | exact Or.inr rfl)) pgs_nil))))
    (pss_one (ps_ret (pe_and (pe_call (G_is_below T Z) (hr.mono (by decide)) rfl T.g_is_below T.k_is_below Z.b_is_below .nil pass0 (pa_cons (pv 2) (pa_cons (pe_callB (kx_len (K := K) rfl) (by rfl) T.n_len (by decide +kernel) (pa_cons (pe_ix (kx_ix (K := K) rfl) (pv 0) pe_int (fun _ _ => rfl)) pa_nil)) pa_nil))) (pe_one (pe_call (G_is_below T Z) (hr.mono (by decide)) rfl T.g_is_below T.k_is_below Z.b_is_below .nil pass0 (pa_cons (pv 3) (pa_cons pe_int pa_nil))))))))), ?_⟩)
  refine pure_body (by decide) (fun O ds hl hp => ?_) h
  match ds, hl with
  | [a, b], _ =>
    obtain ⟨n, rs, ha⟩ := hp
    obtain rfl : a = townD n rs := ha
    show DS O _ [.d (townD n rs), .d b, .no, .no] _ (fun d => d = .bool (isEndD (townRs (townD n rs)).length b))
    rw [townRs_is]
    refine ds_seq (N1 := fun δ => δ = [.d (townD n rs), .d b, .no, .no] ∧ isPairD b = true) (ds_if (b := !isPairD b) (tp_notpair (ep_var (i := 1) rfl)) (fun c => ?_) fun c => ds_next ⟨rfl, by simpa using c⟩) ?_
    · exact ds_ret ep_bl (by rw [not_pairE (by simpa using c)])
    rintro _ ⟨rfl, hpa⟩
    obtain ⟨x, y, rfl⟩ := pair_shape hpa
    refine ds_seq (N1 := fun δ => δ = [.d (townD n rs), .d (.tuple [x, y]), .d x, .d y]) (ds_unpack (ep_var (i := 1) rfl) gb_tup2 rfl) ?_
    rintro _ rfl
    have ix1 : ∀ {O : List Addr}, EP O (tOp (rIx K) (tVar 0) (tC (.int 1))) [.d (townD n rs), .d (.tuple [x, y]), .d x, .d y] (.list (rs.map pr)) := fun {O} => ep_op (ep_var rfl) ep_int (rp_ix2 (rp_ixT (j := 1) rfl rfl))
    exact ds_ret (ep_and (ep_below (a := x) (n := (rs.length : Int)) (ep_var (i := 2) rfl) (ep_len ix1 (Or.inl ⟨rs.map pr, rfl, by simp⟩))) fun _ => ep_below (a := y) (ep_var (i := 3) rfl) ep_int) rfl
/-- the end e as data -/
def enD (e : Nat × Nat) : PyData := .tuple [.int (e.1 : Int), .int (e.2 : Int)]
def toEn : PyData → Nat × Nat
  | .tuple [.int r, .int s] => (r.toNat, s.toNat)
  | _ => (0, 0)
theorem toEn_enD (e : Nat × Nat) : toEn (enD e) = e := rfl
theorem below_nat {x : PyData} {m : Nat} (h : isBelowD x m = true) : ∃ r : Nat, r < m ∧ x = .int (r : Int) := by
  cases x with
  | int i =>
    have z : (decide (0 ≤ i) && decide (i < (m : Int))) = true := h
    simp only [Bool.and_eq_true, decide_eq_true_eq] at z
    exact ⟨i.toNat, by omega, by congr 1; omega⟩
  | _ => cases h
theorem end_is {x : PyData} {m : Nat} (h : isEndD m x = true) : ∃ e : Nat × Nat, x = enD e ∧ e.1 < m ∧ e.2 < 2 := by
  cases c : isPairD x with
  | false => rw [not_pairE c] at h; cases h
  | true =>
    obtain ⟨r, s, rfl⟩ := pair_shape c
    have h : (isBelowD r m && isBelowD s 2) = true := h
    rw [Bool.and_eq_true] at h
    obtain ⟨r', h1, rfl⟩ := below_nat h.1
    obtain ⟨s', h2, rfl⟩ := below_nat (m := 2) h.2
    exact ⟨(r', s'), rfl, h1, h2⟩
theorem end_of {e : Nat × Nat} {m : Nat} (h1 : e.1 < m) (h2 : e.2 < 2) : isEndD m (enD e) = true := by
  show (isBelowD (.int (e.1 : Int)) m && isBelowD (.int (e.2 : Int)) 2) = true
  have z1 : isBelowD (.int (e.1 : Int)) m = (decide (0 ≤ (e.1 : Int)) && decide ((e.1 : Int) < (m : Int))) := rfl
  have z2 : isBelowD (.int (e.2 : Int)) 2 = (decide (0 ≤ (e.2 : Int)) && decide ((e.2 : Int) < 2)) := rfl
  rw [z1, z2]
  simp only [Bool.and_eq_true, decide_eq_true_eq]
  omega
def spotOf (rs : List (Int × Int)) (e : Nat × Nat) : Int := sideOf (rs.getD e.1 (0, 0)) e.2
theorem G_place_of (T : Txt K mg A) (Z : Fns K A) : FnOk prg w K mg base CX0 1 A.a_place_of Z.fd_place_of ["town", "end"] (spP 2 (fun ds => preTown (ds.getD 0 .none) ∧ isEndD (townRs (ds.getD 0 .none)).length (ds.getD 1 .none) = true) fun ds => .int (spotOf (townRs (ds.getD 0 .none)) (toEn (ds.getD 1 .none)))) := by
  refine Fun.ok Z.F_place_of sc_place_of (fun vs H Q E h => pure_len h) (fun cdv Ar outer s H vs Q E hr h => ⟨_, (pss_cons (ps_asg (pv 1) (kx_gtup (K := K) (n := 2) rfl rfl (pgs_cons (pg_name (i := 2) sc_place_of.nd rfl (by first | exact Or.inl rfl | exact Or.inr rfl)) (pgs_cons (pg_name (i := 3) sc_place_of.nd rfl (by first | exact Or.inl rfl | exact Or.inr rfl)) pgs_nil))))
    (pss_one (ps_ret (pe_ix (kx_ix (K := K) rfl) (pe_ix (kx_ix (K := K) rfl) (pe_ix (kx_ix (K := K) rfl) (pv 0) pe_int (fun _ _ => rfl)) (pv 2) (fun _ _ => rfl)) (pv 3) (fun _ _ => rfl))))), ?_⟩)
  refine pure_body (by decide) (fun O ds hl hp => ?_) h
  match ds, hl with
  | [a, b], _ =>
    obtain ⟨⟨n, rs, ha⟩, hb⟩ := hp
    obtain rfl : a = townD n rs := ha
    have hb : isEndD (townRs (townD n rs)).length b = true := hb
    rw [townRs_is] at hb
    obtain ⟨⟨r, s⟩, rfl, h1, h2⟩ := end_is hb
    show DS O _ [.d (townD n rs), .d (enD (r, s)), .no, .no] _ (fun d => d = .int (spotOf (townRs (townD n rs)) (toEn (enD (r, s)))))
    rw [townRs_is, toEn_enD]
    refine ds_seq (N1 := fun δ => δ = [.d (townD n rs), .d (enD (r, s)), .d (.int (r : Int)), .d (.int (s : Int))]) (ds_unpack (ep_var (i := 1) rfl) gb_tup2 rfl) ?_
    rintro _ rfl
    refine ds_ret (ep_op (ep_op (ep_op (ep_var (i := 0) rfl) ep_int (rp_ix2 (rp_ixT (j := 1) rfl rfl))) (ep_var (i := 2) (x := .int (r : Int)) rfl) (rp_ix1 (rp_ixL (j := r) (ixN_nat (by simpa using h1)) (getD_pr h1))))
      (ep_var (i := 3) (x := .int (s : Int)) rfl) (rp_ix2 (rp_ixT (j := s) (ixN_nat h2) (side_ix h2)))) rfl
end
end K04
namespace K04
open PySem L2 PySem.Spec PyProof.Rows Cp
open Evl (Ex)
section
variable {w : World} {K : PySem.W.Frag} {mg : Str → Option Value} {base : Heap} {A : Ad}
def signOk (z : Str) (i : Nat) : Bool := leS (Str.ofString "a") ⟨#[z.cps.getD i 0]⟩ && leS ⟨#[z.cps.getD i 0]⟩ (Str.ofString "z")
def nameOk (z : Str) : Bool := (decide (1 ≤ z.length) && decide (z.length ≤ 8)) && ((List.range z.cps.size).map (signOk z)).all id
def isNameD (x : PyData) : Bool := match x with
  | .str z => nameOk z
  | _ => false
theorem ep_strM {O : List Addr} {K : PySem.W.Frag} {δ : List Sl} {te : TE} {z : Str} {g : Str → Bool} (h : EP O te δ (.str z)) : EP O (tBM0 K "str" (fun x xs H Q => ∃ a, x = .str a ∧ xs = [] ∧ True ∧ Q (.bl (g a)) H) te) δ (.bool (g z)) := fun σ H hD hS Q k =>
  h σ H hD hS _ fun v H1 e1 hv => by
    cases hv
    exact ⟨rfl, z, rfl, rfl, trivial, k _ H1 e1 rfl⟩
theorem sign_letter : ∀ c, c < 128 → (Unicode.isAlpha c && !(Unicode.isUpper c || Unicode.isTitle c)) = (decide (97 ≤ c) && decide (c ≤ 122)) ∧ (decide (97 ≤ c) && decide (c ≤ 122)) = (Unicode.isLower c && decide (97 ≤ c) && decide (c ≤ 122)) := by decide +kernel
theorem signOk_is (z : Str) (i : Nat) : signOk z i = (decide (97 ≤ z.cps.getD i 0) && decide (z.cps.getD i 0 ≤ 122)) := by
  have ha : Str.ofString "a" = ⟨#[97]⟩ := by decide +kernel
  have hz : Str.ofString "z" = ⟨#[122]⟩ := by decide +kernel
  unfold signOk leS
  rw [ha, hz]
  show (!decide ([z.cps.getD i 0] < [97]) && !decide ([122] < [z.cps.getD i 0])) = _
  have one : ∀ a b : Nat, ([a] < [b]) ↔ a < b := fun a b => by
    rw [List.cons_lt_cons_iff]
    constructor
    · rintro (h | ⟨_, h⟩)
      · exact h
      · cases h
    · exact Or.inl
  rw [decide_eq_decide.mpr (one _ _), decide_eq_decide.mpr (one _ _), ← decide_not, ← decide_not, decide_eq_decide.mpr Nat.not_lt, decide_eq_decide.mpr Nat.not_lt]
theorem name_letters {z : Str} (h1 : 1 ≤ z.length) (h8 : z.length ≤ 8) : nameOk z = (Txt.isascii z && (Txt.isalpha z && Txt.islower z)) := by
  unfold nameOk
  rw [decide_eq_true h1, decide_eq_true h8, Bool.true_and, Bool.true_and]
  have hne : 0 < z.cps.size := h1
  rw [Bool.eq_iff_iff]
  unfold Txt.isascii Txt.isalpha Txt.islower
  simp only [Bool.and_eq_true, List.all_map, List.all_eq_true, List.mem_range, Function.comp_def, id, Array.all_eq_true, Array.any_eq_true, decide_eq_true_eq, Bool.not_eq_true', Array.any_eq_false]
  constructor
  · intro h
    have k : ∀ i (hi : i < z.cps.size), 97 ≤ z.cps[i] ∧ z.cps[i] ≤ 122 := fun i hi => by
      have := h i hi
      rw [signOk_is, Array.getD_eq_getD_getElem?, Array.getElem?_eq_getElem hi] at this
      simpa using this
    have two : ∀ i (hi : i < z.cps.size), (Unicode.isAlpha z.cps[i] && !(Unicode.isUpper z.cps[i] || Unicode.isTitle z.cps[i])) = true ∧ Unicode.isLower z.cps[i] = true := fun i hi => by
      obtain ⟨a1, a2⟩ := k i hi
      obtain ⟨b1, b2⟩ := sign_letter z.cps[i] (by omega)
      rw [decide_eq_true a1, decide_eq_true a2] at b1 b2
      refine ⟨b1, ?_⟩
      simpa using b2.symm
    refine ⟨fun i hi => by have := k i hi; omega, ⟨hne, fun i hi => ?_⟩, ⟨0, hne, (two 0 hne).2⟩, fun i hi => ?_⟩
    · have := (two i hi).1
      rw [Bool.and_eq_true] at this
      exact this.1
    · have := (two i hi).1
      rw [Bool.and_eq_true] at this
      simpa using this.2
  · rintro ⟨ha, ⟨_, hb⟩, _, hc⟩ i hi
    rw [signOk_is, Array.getD_eq_getD_getElem?, Array.getElem?_eq_getElem hi, Option.getD_some, ← (sign_letter z.cps[i] (ha i hi)).1, hb i hi]
    have := hc i hi
    simpa using this
def shortS (x : PyData) : Prop := ∀ z, x = .str z → z.length ≤ sizeLine
theorem G_is_name (T : Txt K mg A) (Z : Fns K A) : FnOk prg w K mg base CX0 1 A.a_is_name Z.fd_is_name ["thing"] (spP 1 (fun ds => shortS (ds.getD 0 .none)) fun ds => .bool (isNameD (ds.getD 0 .none))) := by
  refine Fun.ok Z.F_is_name sc_is_name (fun vs H Q E h => pure_len h) (fun cdv Ar outer s H vs Q E hr h => ⟨_, (pss_cons (ps_if (PW.pt (pw_or (pt_not (pt_val (pe_callB (kx_isi (K := K) rfl) (by rfl) T.n_isinstance (by decide +kernel) (pa_cons (pv 0) (pa_cons (pe_bltn (v := .ty "str") (by rfl) T.n_str (by decide +kernel) rfl) pa_nil))))) (pw_or1 (pt_not (pt_chain op_leU op_leU pe_int (pe_callB (kx_len (K := K) rfl) (by rfl) T.n_len (by decide +kernel) (pa_cons (pv 0) pa_nil)) (pe_glob (v := .int 8) rfl T.c_MOST_LETTERS.choose_spec ⟨_, rfl⟩)))))) (pss_one (ps_ret pe_bl)) pss_nil)
    (pss_one (ps_ret (pe_and (pe_bm0 PySem.F.plainAttrs_str PySem.F.slot_str_isascii PySem.F.type_str_isascii mt_isascii (pv 0)) (pe_and (pe_bm0 PySem.F.plainAttrs_str PySem.F.slot_str_isalpha PySem.F.type_str_isalpha mt_isalpha (pv 0)) (pe_one (pe_bm0 PySem.F.plainAttrs_str PySem.F.slot_str_islower PySem.F.type_str_islower mt_islower (pv 0)))))))), ?_⟩)
  refine pure_body (by decide) (fun O ds hl hp => ?_) h
  match ds, hl with
  | [a], _ =>
    have hs : shortS a := hp
    show DS O _ [.d a] _ (fun d => d = .bool (isNameD a))
    cases a with
    | str z =>
      have hz := hs z rfl
      refine ds_seq (N1 := fun δ => δ = [.d (.str z)] ∧ 1 ≤ z.length ∧ z.length ≤ 8) (ds_if (tp_or (tp_not (tp_B (ep_isStr (ep_var rfl)))) fun _ => tp_not (tp_test (ep_chain ep_int (ep_lenS (ep_var rfl) hz) ep_int (rp_l (rp_bl (g := fun i j => decide (i ≤ j)))) fun _ => rp_l (rp_bl (g := fun i j => decide (i ≤ j)))))) (fun c => ?_) fun c => ds_next ⟨rfl, ?_⟩) ?_
      · have c : ¬ (1 ≤ z.length ∧ z.length ≤ 8) := by
          simp [isStrB] at c
          omega
        refine ds_ret ep_bl ?_
        show PyData.bool false = .bool (nameOk z)
        unfold nameOk
        have e : (decide (1 ≤ z.length) && decide (z.length ≤ 8)) = false := by
          rw [Bool.and_eq_false_iff, decide_eq_false_iff_not, decide_eq_false_iff_not]
          omega
        rw [e, Bool.false_and]
      · simp [isStrB] at c
        omega
      rintro _ ⟨rfl, h1, h8⟩
      refine ds_ret (d := .bool (Txt.isascii z && (Txt.isalpha z && Txt.islower z))) (ep_and (ep_strM (g := Txt.isascii) (ep_var rfl)) fun _ => ep_and (ep_strM (g := Txt.isalpha) (ep_var rfl)) fun _ => ep_strM (g := Txt.islower) (ep_var rfl)) ?_
      rw [← name_letters h1 h8]
      rfl
    | _ =>
      refine ds_seq (N1 := fun _ => False) (ds_if (b := true) (tp_is (tp_or (a := true) (b := true) (tp_is (tp_not (tp_B (ep_isStr (ep_var rfl)))) rfl) fun z => by cases z) rfl) (fun _ => ds_ret ep_bl rfl) fun z => by cases z) fun _ z => z.elim
def isWalkerD (m : Nat) (x : PyData) : Bool := match x with
  | .tuple [a, b] => isNameD a && isEndD m b
  | _ => false
theorem ep_end {O : List Addr} {δ : List Sl} {te tn : TE} {x : PyData} {n : Int} {rs : List (Int × Int)} {E : XK} (h : EP O te δ (townD n rs)) (hn : EP O tn δ x) :
    EP O (tCall (spP 2 (fun ds => preTown (ds.getD 0 .none)) fun ds => .bool (isEndD (townRs (ds.getD 0 .none)).length (ds.getD 1 .none))) [] E (tCons te (tCons tn tNil))) δ (.bool (isEndD rs.length x)) :=
  ep_is (ep_call (ds := [townD n rs, x]) (ap_cons h (ap_cons hn ap_nil)) rfl ⟨n, rs, rfl⟩) (by show PyData.bool (isEndD (townRs (townD n rs)).length x) = _; rw [townRs_is])
theorem ep_name {O : List Addr} {δ : List Sl} {te : TE} {x : PyData} {E : XK} (h : EP O te δ x) (hs : shortS x) :
    EP O (tCall (spP 1 (fun ds => shortS (ds.getD 0 .none)) fun ds => .bool (isNameD (ds.getD 0 .none))) [] E (tCons te tNil)) δ (.bool (isNameD x)) := ep_call (ds := [x]) (ap_cons h ap_nil) rfl hs
theorem not_pairW {a : PyData} (h : isPairD a = false) {m : Nat} : isWalkerD m a = false := by
  cases a with
  | tuple es =>
    have h2 : es.length ≠ 2 := of_decide_eq_false h
    match es with
    | [] => rfl
    | [_] => rfl
    | [_, _] => exact absurd rfl h2
    | _ :: _ :: _ :: _ => rfl
  | _ => rfl
def short1 (x : PyData) : Prop := ∀ a b, x = .tuple [a, b] → shortS a
theorem G_is_walker (T : Txt K mg A) (Z : Fns K A) : FnOk prg w K mg base CX0 3 A.a_is_walker Z.fd_is_walker ["town", "thing"] (spP 2 (fun ds => preTown (ds.getD 0 .none) ∧ short1 (ds.getD 1 .none)) fun ds => .bool (isWalkerD (townRs (ds.getD 0 .none)).length (ds.getD 1 .none))) := by
  refine Fun.ok Z.F_is_walker sc_is_walker (fun vs H Q E h => pure_len h) (fun cdv Ar outer s H vs Q E hr h => ⟨_, (pss_one (ps_ret (pe_and (pe_call (G_is_pair T Z) (hr.mono (by decide)) rfl T.g_is_pair T.k_is_pair Z.b_is_pair .nil pass0 (pa_cons (pv 1) pa_nil)) (pe_and (pe_call (G_is_name T Z) (hr.mono (by decide)) rfl T.g_is_name T.k_is_name Z.b_is_name .nil pass0 (pa_cons (pe_ix (kx_ix (K := K) rfl) (pv 1) pe_int (fun _ _ => rfl)) pa_nil)) (pe_one (pe_call (G_is_end T Z) (hr.mono (by decide)) rfl T.g_is_end T.k_is_end Z.b_is_end .nil pass0 (pa_cons (pv 0) (pa_cons (pe_ix (kx_ix (K := K) rfl) (pv 1) pe_int (fun _ _ => rfl)) pa_nil)))))))), ?_⟩)
  refine pure_body (by decide) (fun O ds hl hp => ?_) h
  match ds, hl with
  | [a, b], _ =>
    obtain ⟨⟨n, rs, ha⟩, hs⟩ := hp
    obtain rfl : a = townD n rs := ha
    have hs : short1 b := hs
    show DS O _ [.d (townD n rs), .d b] _ (fun d => d = .bool (isWalkerD (townRs (townD n rs)).length b))
    rw [townRs_is]
    refine ds_ret (d := .bool (isWalkerD rs.length b)) ?_ rfl
    cases c : isPairD b with
    | false =>
      rw [not_pairW c]
      exact ep_is (ep_and (b := false) (ep_pair (ep_var (i := 1) rfl)) fun z => by rw [c] at z; cases z) (by rw [c]; rfl)
    | true =>
      obtain ⟨x, y, rfl⟩ := pair_shape c
      refine ep_is (ep_and (ep_pair (ep_var (i := 1) rfl)) fun _ => ep_and (ep_name (ep_op (ep_var (i := 1) rfl) ep_int (rp_ix2 (rp_ixT (j := 0) rfl rfl))) (hs x y rfl)) fun _ => ep_end (ep_var (i := 0) rfl) (ep_op (ep_var (i := 1) rfl) ep_int (rp_ix2 (rp_ixT (j := 1) rfl rfl)))) ?_
      rw [c, Bool.true_and]
      rfl
end
end K04
namespace K04
open PySem L2 PySem.Spec PyProof.Rows Cp
open Evl (Ex)
section
variable {w : World} {K : PySem.W.Frag} {mg : Str → Option Value} {base : Heap} {A : Ad}
def postOk (rs : List (Int × Int)) (x : PyData) (v : Nat) : Bool := isEndD rs.length x && (spotOf rs (toEn x) == (v : Int))
def postsWrong (n : Int) (rs : List (Int × Int)) (es : List PyData) : PyData := if (es.length : Int) ≠ n then .tuple [.str "posts"] else match (List.range es.length).find? fun v => !postOk rs (es.getD v .none) v with
  | some v => .tuple [.str "post", .int v]
  | none => .none
def townN (d : PyData) : Int := match d with
  | .tuple [.int n, _] => n
  | _ => 0
def listOf (d : PyData) : List PyData := match d with
  | .list l => l
  | _ => []
theorem ep_spot {O : List Addr} {δ : List Sl} {te tn : TE} {x : PyData} {n : Int} {rs : List (Int × Int)} {E : XK} (h : EP O te δ (townD n rs)) (hn : EP O tn δ x) (hx : isEndD rs.length x = true) :
    EP O (tCall (spP 2 (fun ds => preTown (ds.getD 0 .none) ∧ isEndD (townRs (ds.getD 0 .none)).length (ds.getD 1 .none) = true) fun ds => .int (spotOf (townRs (ds.getD 0 .none)) (toEn (ds.getD 1 .none)))) [] E (tCons te (tCons tn tNil))) δ (.int (spotOf rs (toEn x))) :=
  ep_is (ep_call (ds := [townD n rs, x]) (ap_cons h (ap_cons hn ap_nil)) rfl ⟨⟨n, rs, rfl⟩, by show isEndD (townRs (townD n rs)).length x = true; rw [townRs_is]; exact hx⟩) (by show PyData.int (spotOf (townRs (townD n rs)) (toEn x)) = _; rw [townRs_is])
theorem G_posts_wrong (T : Txt K mg A) (Z : Fns K A) : FnOk prg w K mg base CX0 3 A.a_posts_wrong Z.fd_posts_wrong ["town", "posts"] (spP 2 (fun ds => preTown (ds.getD 0 .none) ∧ ∃ es, ds.getD 1 .none = .list es) fun ds => postsWrong (townN (ds.getD 0 .none)) (townRs (ds.getD 0 .none)) (listOf (ds.getD 1 .none))) := by
  refine Fun.ok Z.F_posts_wrong sc_posts_wrong (fun vs H Q E h => pure_len h) (fun cdv Ar outer s H vs Q E hr h => ⟨_, (pss_cons (ps_if (pt_cmpR (kx_ne (K := K) rfl hr.units) (pe_callB (kx_len (K := K) rfl) (by rfl) T.n_len (by decide +kernel) (pa_cons (pv 1) pa_nil)) (pe_ix (kx_ix (K := K) rfl) (pv 0) pe_int (fun _ _ => rfl)) (nomark _)) (pss_one (ps_ret (pe_tup (pa_cons pe_str pa_nil)))) pss_nil)
    (pss_cons (ps_for PassesOwn.never rfl (kx_enum (K := K) rfl rfl T.n_enumerate (pa_cons (pv 1) pa_nil)) (kx_gtup (K := K) (n := 2) rfl rfl (pgs_cons (pg_name (i := 2) sc_posts_wrong.nd rfl (by first | exact Or.inl rfl | exact Or.inr rfl)) (pgs_cons (pg_name (i := 3) sc_posts_wrong.nd rfl (by first | exact Or.inl rfl | exact Or.inr rfl)) pgs_nil))) (pss_one (ps_if (PW.pt (pw_or (pt_not (pt_val (pe_call (G_is_end T Z) (hr.mono (by decide)) rfl T.g_is_end T.k_is_end Z.b_is_end .nil pass0 (pa_cons (pv 0) (pa_cons (pv 3) pa_nil))))) (pw_or1 (pt_cmpR (kx_ne (K := K) rfl hr.units) (pe_call (G_place_of T Z) (hr.mono (by decide)) rfl T.g_place_of T.k_place_of Z.b_place_of .nil pass0 (pa_cons (pv 0) (pa_cons (pv 3) pa_nil))) (pv 2) (nomark _))))) (pss_one (ps_ret (pe_tup (pa_cons pe_str (pa_cons (pv 2) pa_nil))))) pss_nil)))
    (pss_one (ps_ret pe_non)))), ?_⟩)
  refine pure_body (by decide) (fun O ds hl hp => ?_) h
  match ds, hl with
  | [a, b], _ =>
    obtain ⟨⟨n, rs, ha⟩, es, hb⟩ := hp
    obtain rfl : a = townD n rs := ha
    obtain rfl : b = .list es := hb
    show DS O _ [.d (townD n rs), .d (.list es), .no, .no] _ (fun d => d = postsWrong n (townRs (townD n rs)) es)
    rw [townRs_is]
    refine ds_seq (N1 := fun δ => δ = [.d (townD n rs), .d (.list es), .no, .no] ∧ (es.length : Int) = n) (ds_if (tp_test (ep_op (ep_len (ep_var (i := 1) rfl) (Or.inl ⟨es, rfl, rfl⟩)) (ep_op (ep_var (i := 0) rfl) ep_int (rp_ix2 (rp_ixT (j := 0) rfl rfl))) (rp_neD (shaped_int _) (shaped_int _)))) (fun c => ?_) fun c => ds_next ⟨rfl, ?_⟩) ?_
    · rw [eqv_int] at c
      have c : ¬ ((es.length : Int) = n) := by simpa using c
      exact ds_ret (ep_tup (ap_cons ep_str ap_nil) (by decide)) (by unfold postsWrong; rw [if_pos c])
    · rw [eqv_int] at c
      simpa using c
    rintro _ ⟨rfl, hn⟩
    have hP : postsWrong n rs es = match (List.range es.length).find? fun v => !postOk rs (es.getD v .none) v with
      | some v => PyData.tuple [.str "post", .int v]
      | none => .none := by
      unfold postsWrong
      rw [if_neg (fun z => z hn)]
    rw [hP]
    refine ds_seq (N1 := fun δ => ∀ j, j < es.length → postOk rs (es.getD j .none) j = true)
      (ds_for (ix := [2, 3]) (wp_enum (ap_cons (ep_var (i := 1) rfl) ap_nil)) (fun i δ => (∃ s t, δ = [.d (townD n rs), .d (.list es), s, t]) ∧ ∀ j, j < i → postOk rs (es.getD j .none) j = true) ⟨⟨_, _, rfl⟩, fun j hj => by omega⟩ (fun i δ1 hi hI => ?_) fun δ1 hI => hI.2) ?_
    · obtain ⟨⟨s, t, rfl⟩, hall⟩ := hI
      refine ⟨_, gb_tup2, ds_if (b := !postOk rs (es.getD i .none) i) ?_ (fun c => ?_) fun c => ds_next ⟨⟨_, _, rfl⟩, fun j hj => ?_⟩⟩
      · generalize es.getD i .none = x
        refine tp_is (tp_or (tp_not (tp_B (ep_end (x := x) (ep_var (i := 0) rfl) (ep_var (i := 3) rfl)))) fun z => tp_test (ep_op (ep_spot (x := x) (ep_var (i := 0) rfl) (ep_var (i := 3) rfl) (by simpa using z)) (ep_var (i := 2) (x := .int (i : Int)) rfl) (rp_neD (shaped_int _) (shaped_int _)))) ?_
        rw [eqv_int]
        unfold postOk
        cases isEndD rs.length x <;> rfl
      · have c : postOk rs (es.getD i .none) i = false := by simpa using c
        refine ds_ret (ep_tup (ap_cons ep_str (ap_cons (ep_var (i := 2) (x := .int (i : Int)) rfl) ap_nil)) (by simp)) ?_
        rw [find_some (i := i) hi (by rw [c]; rfl) fun j hj => by rw [hall j hj]; rfl]
      · have c : postOk rs (es.getD i .none) i = true := by simpa using c
        by_cases e : j = i
        · rw [e]; exact c
        · exact hall j (by omega)
    · intro δ2 hall
      refine ds_ret ep_non ?_
      rw [find_none fun j hj => by rw [hall j hj]; rfl]
def nameOf (x : PyData) : Str := match x with
  | .tuple [.str z, _] => z
  | _ => Str.ofString ""
def aheadOf (es : List PyData) (k : Nat) : Str := if k = 0 then Str.ofString "" else nameOf (es.getD (k - 1) .none)
def walkerOk (m : Nat) (es : List PyData) (k : Nat) : Bool := isWalkerD m (es.getD k .none) && !leS (nameOf (es.getD k .none)) (aheadOf es k)
def walkersWrong (m : Nat) (es : List PyData) : PyData := if 4 < es.length then .tuple [.str "walkers"] else match (List.range es.length).find? fun k => !walkerOk m es k with
  | some k => .tuple [.str "walker", .int k]
  | none => .none
theorem ep_walker {O : List Addr} {δ : List Sl} {te tn : TE} {x : PyData} {n : Int} {rs : List (Int × Int)} {E : XK} (h : EP O te δ (townD n rs)) (hn : EP O tn δ x) (hs : short1 x) :
    EP O (tCall (spP 2 (fun ds => preTown (ds.getD 0 .none) ∧ short1 (ds.getD 1 .none)) fun ds => .bool (isWalkerD (townRs (ds.getD 0 .none)).length (ds.getD 1 .none))) [] E (tCons te (tCons tn tNil))) δ (.bool (isWalkerD rs.length x)) :=
  ep_is (ep_call (ds := [townD n rs, x]) (ap_cons h (ap_cons hn ap_nil)) rfl ⟨⟨n, rs, rfl⟩, hs⟩) (by show PyData.bool (isWalkerD (townRs (townD n rs)).length x) = _; rw [townRs_is])
theorem walker_is {m : Nat} {x : PyData} (h : isWalkerD m x = true) : ∃ z y, x = .tuple [.str z, y] := by
  cases c : isPairD x with
  | false => rw [not_pairW c] at h; cases h
  | true =>
    obtain ⟨a, y, rfl⟩ := pair_shape c
    have h : (isNameD a && isEndD m y) = true := h
    rw [Bool.and_eq_true] at h
    cases a with
    | str z => exact ⟨z, y, rfl⟩
    | _ => cases h.1
theorem G_walkers_wrong (T : Txt K mg A) (Z : Fns K A) : FnOk prg w K mg base CX0 4 A.a_walkers_wrong Z.fd_walkers_wrong ["town", "walkers"] (spP 2 (fun ds => preTown (ds.getD 0 .none) ∧ ∃ es, ds.getD 1 .none = .list es ∧ ∀ x ∈ es, short1 x) fun ds => walkersWrong (townRs (ds.getD 0 .none)).length (listOf (ds.getD 1 .none))) := by
  refine Fun.ok Z.F_walkers_wrong sc_walkers_wrong (fun vs H Q E h => pure_len h) (fun cdv Ar outer s H vs Q E hr h => ⟨_, (pss_cons (ps_if (pt_cmpR op_gt (pe_callB (kx_len (K := K) rfl) (by rfl) T.n_len (by decide +kernel) (pa_cons (pv 1) pa_nil)) (pe_glob (v := .int 4) rfl T.c_MOST_WALKERS.choose_spec ⟨_, rfl⟩) (nomark _)) (pss_one (ps_ret (pe_tup (pa_cons pe_str pa_nil)))) pss_nil)
    (pss_cons (ps_set (i := 2) sc_walkers_wrong.nd rfl (by first | exact Or.inl rfl | exact Or.inr rfl) pe_str)
    (pss_cons (ps_for PassesOwn.never rfl (kx_enum (K := K) rfl rfl T.n_enumerate (pa_cons (pv 1) pa_nil)) (kx_gtup (K := K) (n := 2) rfl rfl (pgs_cons (pg_name (i := 3) sc_walkers_wrong.nd rfl (by first | exact Or.inl rfl | exact Or.inr rfl)) (pgs_cons (pg_name (i := 4) sc_walkers_wrong.nd rfl (by first | exact Or.inl rfl | exact Or.inr rfl)) pgs_nil))) (pss_cons (ps_if (PW.pt (pw_or (pt_not (pt_val (pe_call (G_is_walker T Z) (hr.mono (by decide)) rfl T.g_is_walker T.k_is_walker Z.b_is_walker .nil pass0 (pa_cons (pv 0) (pa_cons (pv 4) pa_nil))))) (pw_or1 (pt_cmpR op_leU (pe_ix (kx_ix (K := K) rfl) (pv 4) pe_int (fun _ _ => rfl)) (pv 2) (nomark _))))) (pss_one (ps_ret (pe_tup (pa_cons pe_str (pa_cons (pv 3) pa_nil))))) pss_nil)
    (pss_one (ps_set (i := 2) sc_walkers_wrong.nd rfl (by first | exact Or.inl rfl | exact Or.inr rfl) (pe_ix (kx_ix (K := K) rfl) (pv 4) pe_int (fun _ _ => rfl))))))
    (pss_one (ps_ret pe_non))))), ?_⟩)
  refine pure_body (by decide) (fun O ds hl hp => ?_) h
  match ds, hl with
  | [a, b], _ =>
    obtain ⟨⟨n, rs, ha⟩, es, hb, hs⟩ := hp
    obtain rfl : a = townD n rs := ha
    obtain rfl : b = .list es := hb
    show DS O _ [.d (townD n rs), .d (.list es), .no, .no, .no] _ (fun d => d = walkersWrong (townRs (townD n rs)).length es)
    rw [townRs_is]
    refine ds_seq (N1 := fun δ => δ = [.d (townD n rs), .d (.list es), .no, .no, .no] ∧ es.length ≤ 4) (ds_if (tp_test (ep_op (ep_len (ep_var (i := 1) rfl) (Or.inl ⟨es, rfl, rfl⟩)) ep_int (rp_bl (g := fun i j => decide (j < i))))) (fun c => ?_) fun c => ds_next ⟨rfl, ?_⟩) ?_
    · have c : 4 < es.length := by
        have z := of_decide_eq_true c
        omega
      exact ds_ret (ep_tup (ap_cons ep_str ap_nil) (by decide)) (by unfold walkersWrong; rw [if_pos c])
    · have z := of_decide_eq_false c
      omega
    rintro _ ⟨rfl, h4⟩
    have hP : walkersWrong rs.length es = match (List.range es.length).find? fun k => !walkerOk rs.length es k with
      | some k => PyData.tuple [.str "walker", .int k]
      | none => .none := by
      unfold walkersWrong
      rw [if_neg (by omega)]
    rw [hP]
    refine ds_seq (N1 := fun δ => δ = [.d (townD n rs), .d (.list es), .d (.str (Str.ofString "")), .no, .no]) (ds_asg (i := 2) ep_str rfl) ?_
    rintro _ rfl
    refine ds_seq (N1 := fun δ => ∀ j, j < es.length → walkerOk rs.length es j = true)
      (ds_for (ix := [3, 4]) (wp_enum (ap_cons (ep_var (i := 1) rfl) ap_nil)) (fun i δ => (∃ s t, δ = [.d (townD n rs), .d (.list es), .d (.str (aheadOf es i)), s, t]) ∧ ∀ j, j < i → walkerOk rs.length es j = true) ⟨⟨_, _, rfl⟩, fun j hj => by omega⟩ (fun i δ1 hi hI => ?_) fun δ1 hI => hI.2) ?_
    · obtain ⟨⟨s, t, rfl⟩, hall⟩ := hI
      have hsi : short1 (es.getD i .none) := hs _ (by rw [List.getD_eq_getElem?_getD, List.getElem?_eq_getElem hi]; exact List.getElem_mem hi)
      have hnx : aheadOf es (i + 1) = nameOf (es.getD i .none) := by
        unfold aheadOf
        rw [if_neg (by omega)]
        rfl
      have hok : walkerOk rs.length es i = (isWalkerD rs.length (es.getD i .none) && !leS (nameOf (es.getD i .none)) (aheadOf es i)) := rfl
      refine ⟨_, gb_tup2, ds_seq (N1 := fun δ => δ = [.d (townD n rs), .d (.list es), .d (.str (aheadOf es i)), .d (.int (i : Int)), .d (es.getD i .none)] ∧ walkerOk rs.length es i = true) (ds_if (b := !walkerOk rs.length es i) ?_ (fun c => ?_) fun c => ds_next ⟨rfl, by simpa using c⟩) ?_⟩
      · rw [hok]
        generalize es.getD i .none = x at hsi
        refine tp_is (b := !isWalkerD rs.length x || (isWalkerD rs.length x && leS (nameOf x) (aheadOf es i))) (tp_or (tp_not (tp_B (ep_walker (x := x) (ep_var (i := 0) rfl) (ep_var (i := 4) rfl) hsi))) fun z => ?_) ?_
        · have z : isWalkerD rs.length x = true := by simpa using z
          rw [z, Bool.true_and]
          obtain ⟨nm, y, rfl⟩ := walker_is z
          exact tp_test (ep_op (ep_op (ep_var (i := 4) rfl) ep_int (rp_ix2 (rp_ixT (j := 0) rfl rfl))) (ep_var (i := 2) rfl) rp_leS)
        · cases isWalkerD rs.length x <;> simp
      · have c : walkerOk rs.length es i = false := by simpa using c
        refine ds_ret (ep_tup (ap_cons ep_str (ap_cons (ep_var (i := 3) (x := .int (i : Int)) rfl) ap_nil)) (by simp)) ?_
        rw [find_some (i := i) hi (by rw [c]; rfl) fun j hj => by rw [hall j hj]; rfl]
      rintro _ ⟨rfl, c⟩
      have cw : isWalkerD rs.length (es.getD i .none) = true := by
        rw [hok, Bool.and_eq_true] at c
        exact c.1
      obtain ⟨nm, y, hx⟩ := walker_is cw
      refine ds_asg (i := 2) (d := .str nm) (ep_op (ep_is (ep_var (i := 4) rfl) hx) ep_int (rp_ix2 (rp_ixT (j := 0) rfl rfl))) ⟨⟨.d (.int (i : Int)), .d (es.getD i .none), ?_⟩, fun j hj => ?_⟩
      · rw [hnx, hx]
        rfl
      · by_cases e : j = i
        · rw [e]; exact c
        · exact hall j (by omega)
    · intro δ2 hall
      refine ds_ret ep_non ?_
      rw [find_none fun j hj => by rw [hall j hj]; rfl]
end
end K04
namespace K04
open PySem L2 PySem.Spec PyProof.Rows Cp
open Evl (Ex)
section
variable {w : World} {K : PySem.W.Frag} {mg : Str → Option Value} {base : Heap} {A : Ad}
def standingWrong (n : Int) (rs : List (Int × Int)) (x : PyData) : PyData := match x with
  | .tuple [.list ps, .list ws] => if isNoneB (postsWrong n rs ps) = true then walkersWrong rs.length ws else postsWrong n rs ps
  | _ => .tuple [.str "standing"]
def shortW (x : PyData) : Prop := ∀ ps ws, x = .tuple [.list ps, .list ws] → ∀ y ∈ ws, short1 y
theorem ep_posts {O : List Addr} {δ : List Sl} {te tn : TE} {es : List PyData} {n : Int} {rs : List (Int × Int)} {E : XK} (h : EP O te δ (townD n rs)) (hn : EP O tn δ (.list es)) :
    EP O (tCall (spP 2 (fun ds => preTown (ds.getD 0 .none) ∧ ∃ es, ds.getD 1 .none = .list es) fun ds => postsWrong (townN (ds.getD 0 .none)) (townRs (ds.getD 0 .none)) (listOf (ds.getD 1 .none))) [] E (tCons te (tCons tn tNil))) δ (postsWrong n rs es) :=
  ep_is (ep_call (ds := [townD n rs, .list es]) (ap_cons h (ap_cons hn ap_nil)) rfl ⟨⟨n, rs, rfl⟩, es, rfl⟩) (by show postsWrong n (townRs (townD n rs)) es = _; rw [townRs_is])
theorem ep_walkers {O : List Addr} {δ : List Sl} {te tn : TE} {es : List PyData} {n : Int} {rs : List (Int × Int)} {E : XK} (h : EP O te δ (townD n rs)) (hn : EP O tn δ (.list es)) (hs : ∀ x ∈ es, short1 x) :
    EP O (tCall (spP 2 (fun ds => preTown (ds.getD 0 .none) ∧ ∃ es, ds.getD 1 .none = .list es ∧ ∀ x ∈ es, short1 x) fun ds => walkersWrong (townRs (ds.getD 0 .none)).length (listOf (ds.getD 1 .none))) [] E (tCons te (tCons tn tNil))) δ (walkersWrong rs.length es) :=
  ep_is (ep_call (ds := [townD n rs, .list es]) (ap_cons h (ap_cons hn ap_nil)) rfl ⟨⟨n, rs, rfl⟩, es, rfl, hs⟩) (by show walkersWrong (townRs (townD n rs)).length es = _; rw [townRs_is])
theorem ep_findS {O : List Addr} {δ : List Sl} {te tn : TE} {x : PyData} {n : Int} {rs : List (Int × Int)} {E : XK} (h : EP O te δ (townD n rs)) (hn : EP O tn δ x) (hs : shortW x) :
    EP O (tCall (spP 2 (fun ds => preTown (ds.getD 0 .none) ∧ shortW (ds.getD 1 .none)) fun ds => standingWrong (townN (ds.getD 0 .none)) (townRs (ds.getD 0 .none)) (ds.getD 1 .none)) [] E (tCons te (tCons tn tNil))) δ (standingWrong n rs x) :=
  ep_is (ep_call (f := fun ds => standingWrong (townN (ds.getD 0 .none)) (townRs (ds.getD 0 .none)) (ds.getD 1 .none)) (ds := [townD n rs, x]) (ap_cons h (ap_cons hn ap_nil)) rfl ⟨⟨n, rs, rfl⟩, hs⟩) (by show standingWrong n (townRs (townD n rs)) x = _; rw [townRs_is])
theorem G_find_standing_wrong (T : Txt K mg A) (Z : Fns K A) : FnOk prg w K mg base CX0 5 A.a_find_standing_wrong Z.fd_find_standing_wrong ["town", "thing"] (spP 2 (fun ds => preTown (ds.getD 0 .none) ∧ shortW (ds.getD 1 .none)) fun ds => standingWrong (townN (ds.getD 0 .none)) (townRs (ds.getD 0 .none)) (ds.getD 1 .none)) := by
  refine Fun.ok Z.F_find_standing_wrong sc_find_standing_wrong (fun vs H Q E h => pure_len h) (fun cdv Ar outer s H vs Q E hr h => ⟨_, (pss_cons (ps_if (PW.pt (pw_or (pt_not (pt_val (pe_call (G_is_pair T Z) (hr.mono (by decide)) rfl T.g_is_pair T.k_is_pair Z.b_is_pair .nil pass0 (pa_cons (pv 1) pa_nil)))) (pw_or (pt_not (pt_val (pe_callB (kx_isi (K := K) rfl) (by rfl) T.n_isinstance (by decide +kernel) (pa_cons (pe_ix (kx_ix (K := K) rfl) (pv 1) pe_int (fun _ _ => rfl)) (pa_cons (pe_bltn (v := .ty "list") (by rfl) T.n_list (by decide +kernel) rfl) pa_nil))))) (pw_or1 (pt_not (pt_val (pe_callB (kx_isi (K := K) rfl) (by rfl) T.n_isinstance (by decide +kernel) (pa_cons (pe_ix (kx_ix (K := K) rfl) (pv 1) pe_int (fun _ _ => rfl)) (pa_cons (pe_bltn (v := .ty "list") (by rfl) T.n_list (by decide +kernel) rfl) pa_nil))))))))) (pss_one (ps_ret (pe_tup (pa_cons pe_str pa_nil)))) pss_nil)
    (pss_cons (ps_asg (pv 1) (kx_gtup (K := K) (n := 2) rfl rfl (pgs_cons (pg_name (i := 2) sc_find_standing_wrong.nd rfl (by first | exact Or.inl rfl | exact Or.inr rfl)) (pgs_cons (pg_name (i := 3) sc_find_standing_wrong.nd rfl (by first | exact Or.inl rfl | exact Or.inr rfl)) pgs_nil))))
    (pss_cons (ps_set (i := 4) sc_find_standing_wrong.nd rfl (by first | exact Or.inl rfl | exact Or.inr rfl) (pe_call (G_posts_wrong T Z) (hr.mono (by decide)) rfl T.g_posts_wrong T.k_posts_wrong Z.b_posts_wrong .nil pass0 (pa_cons (pv 0) (pa_cons (pv 2) pa_nil))))
    (pss_cons (ps_if (pt_cmpR op_notN (pv 4) pe_non (nomark _)) (pss_one (ps_ret (pv 4))) pss_nil)
    (pss_one (ps_ret (pe_call (G_walkers_wrong T Z) (hr.mono (by decide)) rfl T.g_walkers_wrong T.k_walkers_wrong Z.b_walkers_wrong .nil pass0 (pa_cons (pv 0) (pa_cons (pv 3) pa_nil))))))))), ?_⟩)
  refine pure_body (by decide) (fun O ds hl hp => ?_) h
  match ds, hl with
  | [a, x], _ =>
  obtain ⟨⟨n, rs, ha⟩, hsx⟩ := hp
  obtain rfl : a = townD n rs := ha
  have hsx : shortW x := hsx
  show DS O _ [.d (townD n rs), .d x, .no, .no, .no] _ (fun d => d = standingWrong n (townRs (townD n rs)) x)
  rw [townRs_is]
  have ret1 : ∀ {δ : List Sl} {N0 : List Sl → Prop} {r : PyData}, r = .tuple [.str (Str.ofString "standing")] → DS O (tRet (tTup (tCons (tC (.str (Str.ofString "standing"))) tNil))) δ N0 (fun d => d = r) := fun h => ds_ret (ep_tup (ap_cons ep_str ap_nil) (by decide)) h.symm
  cases c : isPairD x with
  | false =>
    have hr : standingWrong n rs x = .tuple [.str "standing"] := by
      unfold standingWrong
      split
      · cases c
      · rfl
    exact ds_seq (N1 := fun _ => False) (ds_if (b := true) (tp_is (tp_or (a := true) (b := true) (tp_is (tp_not (tp_B (ep_pair (ep_var (i := 1) rfl)))) (by rw [c]; rfl)) fun z => by cases z) rfl) (fun _ => ret1 hr) fun z => by cases z) fun _ z => z.elim
  | true =>
    obtain ⟨a, b, rfl⟩ := pair_shape c
    have i0 : EP O (tOp (rIx K) (tVar 1) (tC (.int 0))) [.d (townD n rs), .d (.tuple [a, b]), .no, .no, .no] a := ep_op (ep_var (i := 1) rfl) ep_int (rp_ix2 (rp_ixT (j := 0) rfl rfl))
    have i1 : EP O (tOp (rIx K) (tVar 1) (tC (.int 1))) [.d (townD n rs), .d (.tuple [a, b]), .no, .no, .no] b := ep_op (ep_var (i := 1) rfl) ep_int (rp_ix2 (rp_ixT (j := 1) rfl rfl))
    refine ds_seq (N1 := fun δ => δ = [.d (townD n rs), .d (.tuple [a, b]), .no, .no, .no] ∧ isListB a = true ∧ isListB b = true)
      (ds_if (tp_or (tp_not (tp_B (ep_pair (ep_var (i := 1) rfl)))) fun _ => tp_or (tp_not (tp_B (ep_isList i0))) fun _ => tp_not (tp_B (ep_isList i1))) (fun z => ret1 ?_) fun z => ds_next ⟨rfl, ?_⟩) ?_
    · rw [c] at z
      unfold standingWrong
      split
      · rename_i heq
        cases heq
        cases z
      · rfl
    · rw [c] at z
      cases h1 : isListB a <;> cases h2 : isListB b <;> simp [h1, h2] at z ⊢
    rintro _ ⟨rfl, h1, h2⟩
    cases a with
    | list ps =>
      cases b with
      | list ws =>
        have hr : standingWrong n rs (.tuple [.list ps, .list ws]) = if isNoneB (postsWrong n rs ps) = true then walkersWrong rs.length ws else postsWrong n rs ps := rfl
        rw [hr]
        refine ds_seq (N1 := fun δ => δ = [.d (townD n rs), .d (.tuple [.list ps, .list ws]), .d (.list ps), .d (.list ws), .no]) (ds_unpack (ep_var (i := 1) rfl) gb_tup2 rfl) ?_
        rintro _ rfl
        refine ds_seq (N1 := fun δ => δ = [.d (townD n rs), .d (.tuple [.list ps, .list ws]), .d (.list ps), .d (.list ws), .d (postsWrong n rs ps)]) (ds_asg (i := 4) (ep_posts (ep_var (i := 0) rfl) (ep_var (i := 2) rfl)) rfl) ?_
        rintro _ rfl
        refine ds_seq (N1 := fun δ => δ = [.d (townD n rs), .d (.tuple [.list ps, .list ws]), .d (.list ps), .d (.list ws), .d (postsWrong n rs ps)] ∧ isNoneB (postsWrong n rs ps) = true)
          (ds_if (tp_test (ep_op (ep_var (i := 4) rfl) ep_non rp_notN)) (fun z => ds_ret (ep_var (i := 4) rfl) ?_) fun z => ds_next ⟨rfl, by simpa using z⟩) ?_
        · have z : isNoneB (postsWrong n rs ps) = false := by simpa using z
          rw [z]
          rfl
        · rintro _ ⟨rfl, z⟩
          refine ds_ret (ep_walkers (ep_var (i := 0) rfl) (ep_var (i := 3) rfl) (hsx ps ws rfl)) ?_
          rw [if_pos z]
      | _ => cases h2
    | _ => cases h1
/-- the first that is no standing -/
def firstWrong (n : Int) (rs : List (Int × Int)) (xs : List PyData) : Option PyData := (xs.map (standingWrong n rs)).find? fun d => !isNoneB d
def spNeedL (CT CS : Addr) : Sp := fun vs H Q E => ∃ (O : List Addr) (d : PyData) (xs : List PyData), Dom O H ∧ DtAll (hid O H) [d, .list xs] vs ∧ (∀ x ∈ xs, shortW x) ∧
  (townWrong d ≠ .none → ∀ dd u H', H dd = none → Ex H H' → Dt (hid O H') (townWrong d) u → H' dd = some (.xd [("wrong", u)]) → E (.ref CT) (some dd) H') ∧
  (∀ n rs, d = townD n rs → TownOk n rs → (firstWrong n rs xs = none → ∀ H', Ex H H' → Q .non H') ∧
    (∀ e, firstWrong n rs xs = some e → ∀ dd u H', H dd = none → Ex H H' → Dt (hid O H') e u → H' dd = some (.xd [("wrong", u)]) → E (.ref CS) (some dd) H'))
theorem first_step {n : Int} {rs : List (Int × Int)} {xs : List PyData} {i : Nat} (hi : i < xs.length) (h : ∀ j, j < i → isNoneB (standingWrong n rs (xs.getD j .none)) = true) (c : isNoneB (standingWrong n rs (xs.getD i .none)) = false) : firstWrong n rs xs = some (standingWrong n rs (xs.getD i .none)) := by
  unfold firstWrong
  have e : xs[i]? = some (xs.getD i .none) := by rw [List.getD_eq_getElem?_getD, List.getElem?_eq_getElem hi]; rfl
  rw [List.find?_eq_some_iff_append]
  refine ⟨by simpa using c, (xs.map (standingWrong n rs)).take i, (xs.map (standingWrong n rs)).drop (i + 1), ?_, fun d hd => ?_⟩
  · have h1 : (xs.map (standingWrong n rs))[i]? = some (standingWrong n rs (xs.getD i .none)) := by rw [List.getElem?_map, e]; rfl
    obtain ⟨hl, he⟩ := List.getElem?_eq_some_iff.mp h1
    rw [← he, ← List.drop_eq_getElem_cons hl, List.take_append_drop]
  · obtain ⟨j, hj, rfl⟩ := List.mem_take_iff_getElem.mp hd
    have hj1 : j < i := by omega
    have := h j hj1
    rw [List.getElem_map]
    have hjx : j < xs.length := by omega
    rw [List.getD_eq_getElem?_getD, List.getElem?_eq_getElem hjx] at this
    simpa using this
theorem first_none {n : Int} {rs : List (Int × Int)} {xs : List PyData} (h : ∀ j, j < xs.length → isNoneB (standingWrong n rs (xs.getD j .none)) = true) : firstWrong n rs xs = none := by
  unfold firstWrong
  rw [List.find?_eq_none]
  intro d hd
  obtain ⟨x, hx, rfl⟩ := List.mem_map.mp hd
  obtain ⟨j, hj, rfl⟩ := List.mem_iff_getElem.mp hx
  have := h j hj
  rw [List.getD_eq_getElem?_getD, List.getElem?_eq_getElem hj] at this
  simpa using this
theorem sup_raise2 {C : Addr} {σ : L2.St} {H0 H : Hp} {Q : XK} {x : V} (i : Nat) (hs : σ[i]? = some (some x)) (e : Ex H0 H) (k : ∀ dd H', H0 dd = none → Ex H H' → H' dd = some (.xd [("wrong", x)]) → Q (.ref C) (some dd) H') : tMkO C (spSup C) [] (tCons (tVar i) tNil) σ H Q := by
  refine ⟨x, hs, (by simp : [x].length ≤ 1000), fun a ha => ⟨a, x, rfl, upd_same, fun dx h1 h2 => ⟨rfl, dx, [("wrong", x)], ?_, upd_same, ?_, ?_⟩⟩⟩
  · rw [upd_ne (Ne.symm h2), upd_same]
  · rw [upd_ne h2] at h1
    exact h1
  · rw [upd_ne h2] at h1
    have ex : Ex H (upd (L2.del (upd (upd (upd H a (exo a C none)) a (exo a C (some dx))) dx (exd dx [("wrong", x)])) a) dx (.xd [("wrong", x)])) := fun b o q => by
      have hba : b ≠ a := fun z => by rw [z, ha] at q; cases q
      have hbd : b ≠ dx := fun z => by rw [z, h1] at q; cases q
      rw [upd_ne hbd, del_ne hba, upd_ne hbd, upd_ne hba, upd_ne hba]
      exact q
    exact k dx _ (Evl.fresh_back e h1) ex upd_same
theorem G_need_standings (T : Txt K mg A) (Z : Fns K A) : FnOk prg w K mg base (L2.CX prg w) 6 A.a_need_standings Z.fd_need_standings ["town", "standings"] (spNeedL A.NoTown A.NoStanding) := by
  refine Fun.okX Z.F_need_standings sc_need_standings (fun vs H Q E h => by obtain ⟨O, d, x, _, hv, _⟩ := h; exact hv.length) (fun cdv Ar outer s H vs Q E hr h => ⟨_, (pss_cons (ps_expr (pe_call (G_need_town T Z) (hr.mono (by decide)) rfl T.g_need_town T.k_need_town Z.b_need_town .nil (passes_call (takes_of rfl rfl rfl rfl) (fun _ _ _ _ h => h)) (pa_cons (pv 0) pa_nil)))
    (pss_one (ps_for (passes_of rfl) rfl (kx_list (K := K) rfl (pv 1)) (pg_name (i := 2) sc_need_standings.nd rfl (by first | exact Or.inl rfl | exact Or.inr rfl)) (pss_cons (ps_set (i := 3) sc_need_standings.nd rfl (by first | exact Or.inl rfl | exact Or.inr rfl) (pe_call (G_find_standing_wrong T Z) (hr.mono (by decide)) rfl T.g_find_standing_wrong T.k_find_standing_wrong Z.b_find_standing_wrong .nil pass0 (pa_cons (pv 0) (pa_cons (pv 2) pa_nil))))
    (pss_one (ps_if (pt_cmpR op_notN (pv 3) pe_non (nomark _)) (pss_one (ps_raise rfl (takes_of rfl rfl rfl rfl) (pmk_oex T.s_NoStanding.oex T.s_NoStanding.iC T.s_NoStanding.tI (sup_ok T.s_NoStanding T.n_super CX0 0) (hr.mono (by decide)) (sup_binds T.s_NoStanding) .nil pass0 rfl T.g_NoStanding (pa_cons (pv 3) pa_nil)))) pss_nil)))))), ?_⟩)
  obtain ⟨O, d, xs, hD, hv, hsx, k1, k2⟩ := h
  have s0 : SD (hid O H) [.d d, .d (.list xs), .no, .no] (L2.start ["town", "standings", "standing", "wrong"] vs) := sd_start hv _ (by simp)
  obtain ⟨vd, hvd, hdd⟩ := s0.var (i := 0) rfl
  refine ha_seq ⟨vd, hvd, O, d, hD, ⟨vd, [], rfl, hdd, rfl⟩, fun hz H1 e1 => ?_, fun hz dd u H1 h1 h2 h3 h4 => k1 hz dd u H1 h1 h2 h3 h4⟩
  obtain ⟨n, rs, rfl, hok⟩ := townWrong_inv hz
  obtain ⟨k3, k4⟩ := k2 n rs rfl hok
  have s1 := s0.mono (hid_ex e1)
  have d1 := hD.ex e1
  dsimp only
  refine wp_list (O := O) (δ := [.d (townD n rs), .d (.list xs), .no, .no]) (ds := xs) (ep_var (i := 1) rfl) _ H1 d1 s1 _ fun Ji H2 e2 wk => ?_
  refine for_it wk (fun i σ' H' => (∃ a b, SD (hid O H') [.d (townD n rs), .d (.list xs), a, b] σ') ∧ (∀ j, j < i → isNoneB (standingWrong n rs (xs.getD j .none)) = true) ∧ Ex H2 H') ⟨⟨_, _, s1.mono (hid_ex e2)⟩, fun j hj => by omega, Ex.refl _⟩
    (fun i σ' H' _ q => (hid_le.trans q.2.2 : Ex (hid O H2) H')) (fun i v σ' H' H3 hi q y => ?_) fun σ' H' q => ?_
  · obtain ⟨⟨a, b, sl⟩, hall, ex⟩ := q
    obtain ⟨e3, hvv⟩ := y
    have dH' : Dom O H' := (d1.ex e2).ex ex
    have hvx := hvv O (hid_ex ex) dH'
    have s3 := (sl.mono (hid_ex e3)).set 2 (slok_d hvx)
    have d3 := dH'.ex e3
    dsimp only [gName]
    have hsi : shortW (xs.getD i .none) := hsx _ (by rw [List.getD_eq_getElem?_getD, List.getElem?_eq_getElem hi]; exact List.getElem_mem hi)
    refine ha_seq (ha_asg (i := 3) (ep_findS (x := xs.getD i .none) (ep_var (i := 0) rfl) (ep_var (i := 2) rfl) hsi) d3 s3 fun v4 H4 e4 hv4 s4 => ?_)
    dsimp only
    refine ha_if (tp_test (ep_op (ep_var (i := 3) (x := standingWrong n rs (xs.getD i .none)) rfl) ep_non rp_notN)) (d3.ex e4) s4 (fun c H5 e5 => ?_) fun c H5 e5 => ?_
    rotate_left
    · have c : isNoneB (standingWrong n rs (xs.getD i .none)) = true := by simpa using c
      refine ⟨⟨_, _, s4.mono (hid_ex e5)⟩, fun j hj => ?_, ((ex.trans e3).trans e4).trans e5⟩
      by_cases e : j = i
      · rw [e]; exact c
      · exact hall j (by omega)
    · have c : isNoneB (standingWrong n rs (xs.getD i .none)) = false := by simpa using c
      obtain ⟨u, hu, hdu⟩ := (s4.mono (hid_ex e5)).var (i := 3) rfl
      have etot := ((((e1.trans e2).trans ex).trans e3).trans e4).trans e5
      exact sup_raise2 3 hu etot fun dd H' h1 ex' hxd => k4 _ (first_step hi hall c) dd u H' h1 (etot.trans ex') (Dt.mono (hid_ex ex') _ _ hdu) hxd
  · obtain ⟨_, hall, ex⟩ := q
    exact k3 (first_none hall) H' ((e1.trans e2).trans ex)
def spNeedS (CT CS : Addr) : Sp := fun vs H Q E => ∃ (O : List Addr) (d x : PyData), Dom O H ∧ DtAll (hid O H) [d, x] vs ∧ shortW x ∧
  (townWrong d ≠ .none → ∀ dd u H', H dd = none → Ex H H' → Dt (hid O H') (townWrong d) u → H' dd = some (.xd [("wrong", u)]) → E (.ref CT) (some dd) H') ∧
  (∀ n rs, d = townD n rs → TownOk n rs → (standingWrong n rs x = .none → ∀ H', Ex H H' → Q .non H') ∧
    (standingWrong n rs x ≠ .none → ∀ dd u H', H dd = none → Ex H H' → Dt (hid O H') (standingWrong n rs x) u → H' dd = some (.xd [("wrong", u)]) → E (.ref CS) (some dd) H'))
theorem G_need_standing (T : Txt K mg A) (Z : Fns K A) : FnOk prg w K mg base (L2.CX prg w) 7 A.a_need_standing Z.fd_need_standing ["town", "standing"] (spNeedS A.NoTown A.NoStanding) := by
  refine Fun.okX Z.F_need_standing sc_need_standing (fun vs H Q E h => by obtain ⟨O, d, x, _, hv, _⟩ := h; exact hv.length) (fun cdv Ar outer s H vs Q E hr h => ⟨_, (pss_one (ps_expr (pe_call (G_need_standings T Z) (hr.mono (by decide)) rfl T.g_need_standings T.k_need_standings Z.b_need_standings .nil (passes_call (takes_of rfl rfl rfl rfl) (fun _ _ _ _ h => h)) (pa_cons (pv 0) (pa_cons (pe_lst (pa_cons (pv 1) pa_nil)) pa_nil))))), ?_⟩)
  obtain ⟨O, d, x, hD, hv, hsx, k1, k2⟩ := h
  have s0 : SD (hid O H) [.d d, .d x] (L2.start ["town", "standing"] vs) := sd_start hv _ (by simp)
  obtain ⟨vd, hvd, hdd⟩ := s0.var (i := 0) rfl
  refine ⟨vd, hvd, ?_⟩
  refine ep_lst (δ := [.d d, .d x]) (ds := [x]) (ap_cons (ep_var (i := 1) rfl) ap_nil) (by simp) _ H hD s0 _ fun v1 H1 e1 hv1 => ?_
  refine ⟨O, d, [x], hD.ex e1, ⟨vd, [v1], rfl, Dt.mono (hid_ex e1) _ _ hdd, v1, [], rfl, hv1, rfl⟩, fun y hy => by simp at hy; rw [hy]; exact hsx, fun hz dd u H' h1 h2 h3 h4 => k1 hz dd u H' (Evl.fresh_back e1 h1) (e1.trans h2) h3 h4, fun n rs hd hok => ?_⟩
  obtain ⟨k3, k4⟩ := k2 n rs hd hok
  have hf : firstWrong n rs [x] = if isNoneB (standingWrong n rs x) = true then none else some (standingWrong n rs x) := by
    unfold firstWrong
    simp only [List.map_cons, List.map_nil, List.find?_cons, List.find?_nil]
    cases isNoneB (standingWrong n rs x) <;> rfl
  refine ⟨fun h H' e => ?_, fun e he dd u H' h1 h2 h3 h4 => ?_⟩
  · rw [hf] at h
    split at h
    · exact k3 (isNoneB_iff.mp (by assumption)) H' (e1.trans e)
    · cases h
  · rw [hf] at he
    split at he
    · cases he
    · rename_i c
      cases he
      exact k4 (isNoneB_not.mp (by simpa using c)) dd u H' (Evl.fresh_back e1 h1) (e1.trans h2) h3 h4
end
end K04
namespace K04
open PySem L2 PySem.Spec PyProof.Rows Cp
open Evl (Ex)
section
variable {w : World} {K : PySem.W.Frag} {mg : Str → Option Value} {base : Heap} {A : Ad}
theorem G_law_spot (T : Txt K mg A) (Z : Fns K A) : FnOk prg w K mg base CX0 1 A.a_law_spot Z.fd_law_spot ["town", "end"] (spP 2 (fun ds => preTown (ds.getD 0 .none) ∧ isEndD (townRs (ds.getD 0 .none)).length (ds.getD 1 .none) = true) fun ds => .int (spotOf (townRs (ds.getD 0 .none)) (toEn (ds.getD 1 .none)))) := by
  refine Fun.ok Z.F_law_spot sc_law_spot (fun vs H Q E h => pure_len h) (fun cdv Ar outer s H vs Q E hr h => ⟨_, (pss_one (ps_ret (pe_ix (kx_ix (K := K) rfl) (pe_ix (kx_ix (K := K) rfl) (pe_ix (kx_ix (K := K) rfl) (pv 0) pe_int (fun _ _ => rfl)) (pe_ix (kx_ix (K := K) rfl) (pv 1) pe_int (fun _ _ => rfl)) (fun _ _ => rfl)) (pe_ix (kx_ix (K := K) rfl) (pv 1) pe_int (fun _ _ => rfl)) (fun _ _ => rfl)))), ?_⟩)
  refine pure_body (by decide) (fun O ds hl hp => ?_) h
  match ds, hl with
  | [a, b], _ =>
    obtain ⟨⟨n, rs, ha⟩, hb⟩ := hp
    obtain rfl : a = townD n rs := ha
    have hb : isEndD (townRs (townD n rs)).length b = true := hb
    rw [townRs_is] at hb
    obtain ⟨⟨r, s⟩, rfl, h1, h2⟩ := end_is hb
    show DS O _ [.d (townD n rs), .d (enD (r, s))] _ (fun d => d = .int (spotOf (townRs (townD n rs)) (toEn (enD (r, s)))))
    rw [townRs_is, toEn_enD]
    refine ds_ret (ep_op (ep_op (ep_op (ep_var (i := 0) rfl) ep_int (rp_ix2 (rp_ixT (j := 1) rfl rfl))) (ep_op (x := enD (r, s)) (z := .int (r : Int)) (ep_var (i := 1) rfl) ep_int (rp_ix2 (rp_ixT (j := 0) rfl rfl))) (rp_ix1 (rp_ixL (j := r) (ixN_nat (by simpa using h1)) (getD_pr h1))))
      (ep_op (x := enD (r, s)) (z := .int (s : Int)) (ep_var (i := 1) rfl) ep_int (rp_ix2 (rp_ixT (j := 1) rfl rfl))) (rp_ix2 (rp_ixT (j := s) (ixN_nat h2) (side_ix h2)))) rfl
def flipD (e : Nat × Nat) : PyData := .tuple [.int (e.1 : Int), .int (1 - (e.2 : Int))]
def isEnd0 (d : PyData) : Prop := ∃ e : Nat × Nat, d = enD e
theorem G_law_flip (T : Txt K mg A) (Z : Fns K A) : FnOk prg w K mg base CX0 1 A.a_law_flip Z.fd_law_flip ["end"] (spP 1 (fun ds => isEnd0 (ds.getD 0 .none)) fun ds => flipD (toEn (ds.getD 0 .none))) := by
  refine Fun.ok Z.F_law_flip sc_law_flip (fun vs H Q E h => pure_len h) (fun cdv Ar outer s H vs Q E hr h => ⟨_, (pss_one (ps_ret (pe_tup (pa_cons (pe_ix (kx_ix (K := K) rfl) (pv 0) pe_int (fun _ _ => rfl)) (pa_cons (pe_op op_sub pe_int (pe_ix (kx_ix (K := K) rfl) (pv 0) pe_int (fun _ _ => rfl))) pa_nil))))), ?_⟩)
  refine pure_body (by decide) (fun O ds hl hp => ?_) h
  match ds, hl with
  | [b], _ =>
    obtain ⟨⟨r, s⟩, hb⟩ := hp
    obtain rfl : b = enD (r, s) := hb
    show DS O _ [.d (enD (r, s))] _ (fun d => d = flipD (toEn (enD (r, s))))
    rw [toEn_enD]
    exact ds_ret (ep_tup (ap_cons (ep_op (x := enD (r, s)) (z := .int (r : Int)) (ep_var (i := 0) rfl) ep_int (rp_ix2 (rp_ixT (j := 0) rfl rfl))) (ap_cons (ep_op ep_int (ep_op (x := enD (r, s)) (z := .int (s : Int)) (ep_var (i := 0) rfl) ep_int (rp_ix2 (rp_ixT (j := 1) rfl rfl))) (rp_int (g := fun i j => i - j))) ap_nil)) (by simp)) rfl
end
end K04
namespace K04
open PySem L2 PySem.Spec PyProof.Rows Cp
open Evl (Ex)
section
variable {w : World} {K : PySem.W.Frag} {mg : Str → Option Value} {base : Heap} {A : Ad}
def spPurse (K : PySem.W.Frag) : Sp := fun vs H Q _ => ∃ (a : Addr) (ns : List Int), vs = [.ref a] ∧ SqL K H a (ns.map V.int) ∧ ns.length ≤ 63 ∧
  ∀ p c H', H p = none → H c = none → Ex H H' → Pu p c 0 H' → Q (.ref p) H'
theorem cut63 (ns : List Int) (h : ns.length ≤ 63) : cutV (ns.map V.int) none (some 63) = ns.map V.int := by
  unfold cutV
  rw [HT.sIx_none, show (some 63 : Option Int) = some ((63 : Nat) : Int) from rfl, HT.sIx_nat, List.length_map, Nat.min_eq_right h, List.drop_zero, Nat.sub_zero]
  exact List.take_of_length_le (by simp)
theorem pow18 : CPowW 10 18 := ⟨by decide, by decide +kernel⟩
theorem pow60 : CPowW 10 60 := ⟨by decide, by decide +kernel⟩
theorem pow1200 : CPowW (10 ^ (60 : Int).toNat) 20 := ⟨by decide, by decide +kernel⟩
theorem big1200 : (0 : Int) < (10 ^ (60 : Int).toNat) ^ (20 : Int).toNat ∧ ((10 ^ (60 : Int).toNat) ^ (20 : Int).toNat : Int) < ((2 ^ 4000 : Nat) : Int) := by decide +kernel
theorem big18 : ((10 : Int) ^ (18 : Int).toNat) < ((2 ^ 4000 : Nat) : Int) := by decide +kernel
theorem ep_pow18 {O : List Addr} {δ : List Sl} : EP O (tOp rPowI (tC (.int 10)) (tC (.int 18))) δ (.int (10 ^ (18 : Int).toNat)) := ep_op ep_int ep_int (rp_intC (g := fun i j => i ^ j.toNat) pow18)
theorem ep_pow1200 {O : List Addr} {δ : List Sl} : EP O (tOp rPowI (tOp rPowI (tC (.int 10)) (tC (.int 60))) (tC (.int 20))) δ (.int ((10 ^ (60 : Int).toNat) ^ (20 : Int).toNat)) :=
  ep_op (ep_op ep_int ep_int (rp_intC (g := fun i j => i ^ j.toNat) pow60)) ep_int (rp_intC (g := fun i j => i ^ j.toNat) pow1200)
theorem G_law_purse (T : Txt K mg A) (Z : Fns K A) : FnOk prg w K mg base CX0 1 A.a_law_purse Z.fd_law_purse ["script"] (spPurse K) := by
  refine Fun.ok Z.F_law_purse sc_law_purse (fun vs H Q E h => by obtain ⟨a, ns, rfl, _⟩ := h; rfl) (fun cdv Ar outer s H vs Q E hr h => ⟨_, (pss_cons (ps_set (i := 1) sc_law_purse.nd rfl (by first | exact Or.inl rfl | exact Or.inr rfl) (pe_slice (kx_sl (K := K) rfl) (pv 0) po_none (po_some pe_int)))
    (pss_cons (ps_for PassesOwn.never rfl (pi_range1 rfl T.n_range (pa_cons (pe_callB (kx_len (K := K) rfl) (by rfl) T.n_len (by decide +kernel) (pa_cons (pv 1) pa_nil)) pa_nil)) (pg_name (i := 2) sc_law_purse.nd rfl (by first | exact Or.inl rfl | exact Or.inr rfl)) (pss_one (ps_if (pt_cmpR op_ge (pe_callB call_abs (by rfl) T.n_abs (by decide +kernel) (pa_cons (pe_ix (kx_ix (K := K) rfl) (pv 1) (pv 2) (fun _ _ => rfl)) pa_nil)) (pe_op op_powW pe_int pe_int) (nomark _)) (pss_one (ps_asg (pe_op op_modN (pe_ix (kx_ix (K := K) rfl) (pv 1) (pv 2) (fun _ _ => rfl)) (pe_op op_powW (pe_op op_powW pe_int pe_int) pe_int)) (pg_sub (pv 1) (pv 2) set_list))) pss_nil)))
    (pss_cons (ps_if (pt_cmpR (kx_eq (K := K) rfl hr.units) (pv 1) (pe_lst pa_nil) (nomark _)) (pss_one (ps_set (i := 1) sc_law_purse.nd rfl (by first | exact Or.inl rfl | exact Or.inr rfl) (pe_lst (pa_cons pe_int pa_nil)))) pss_nil)
    (pss_one (ps_ret (pe_lst (pa_cons (pv 1) (pa_cons pe_int pa_nil)))))))), ?_⟩)
  obtain ⟨a, ns, rfl, hS, h63, k⟩ := h
  refine ha_seq ?_
  refine ⟨.ref a, rfl, 63, rfl, a, ns.map V.int, rfl, hS, fun l hl => ?_⟩
  rw [cut63 ns h63]
  dsimp only [gName]
  have hl0 : upd H l (.lst (ns.map V.int)) l = some (.lst (ns.map V.int)) := upd_same
  refine ha_seq ?_
  refine dm_forJ (O := [l]) (J := fun H' => H' l = some (.lst (ns.map V.int))) (δ := [.no, .at l, .no]) (ix := [2]) (R := fun _ _ => False)
    (N := fun δ' H' => ∃ ms : List Int, H' l = some (.lst (ms.map V.int)) ∧ ms.length = ns.length ∧ (∀ m ∈ ms, m.natAbs < 2 ^ 4000) ∧ ∃ s, δ' = [.no, .at l, s])
    (wj_rng1 (n := ((ns.map V.int).length : Int)) (ad_one (ed_lenO rfl fun H h => h)) (by rw [List.length_map]; omega))
    (fun i δ' H' => ∃ ms : List Int, H' l = some (.lst (ms.map V.int)) ∧ ms.length = ns.length ∧ (∀ j m, ms[j]? = some m → j < i → m.natAbs < 2 ^ 4000) ∧ ∃ s, δ' = [.no, .at l, s])
    (fun H' h => ⟨ns, h, rfl, fun j m _ hj => by omega, _, rfl⟩) (fun i δ1 H1 hi hI => ?_) (fun δ1 H1 hI => ?_) _ _ _ hl0 (fun x hx => by
      simp only [List.mem_cons, List.not_mem_nil, or_false] at hx
      rw [hx, upd_same]; simp) ⟨rfl, fun i => ?_⟩ (fun δ' σ' H' n' d' e' s' => ?_) (fun v H' r _ _ => r.elim)
  · obtain ⟨ms, h1, h2, h3, s, rfl⟩ := hI
    have hi : i < ns.length := by simpa using hi
    have him : i < ms.length := by omega
    have hget : (ms.map V.int)[i]? = some (.int ms[i]) := by rw [List.getElem?_map, List.getElem?_eq_getElem him]; rfl
    refine ⟨_, fun H' => H' l = some (.lst (ms.map V.int)), gb_name, h1, fun A B e _ z => (e l (by simp)).trans z, ?_⟩
    have jk : Jok [l] (fun H' => H' l = some (.lst (ms.map V.int))) := fun A B e _ z => (e l (by simp)).trans z
    have hix : ED [l] (fun H' => H' l = some (.lst (ms.map V.int))) (tOp (rIx K) (tVar 1) (tVar 2)) [.no, .at l, .d (.int (i : Int))] (.int ms[i]) :=
      ed_ixO jk rfl (fun H h => h) (ed_of jk (ep_var (x := .int (i : Int)) rfl)) (ixN_nat (by simpa using him)) hget fun _ => rfl
    refine dm_ifD (td_test (ed_op jk (ed_abs hix) (ed_of jk ep_pow18) (rp_bl (g := fun i j => decide (j ≤ i))))) (fun c => ?_) fun c => ?_
    · refine dm_setO (v := .int (ms[i].fmod ((10 ^ (60 : Int).toNat) ^ (20 : Int).toNat))) (ed_op jk hix (ed_of jk ep_pow1200) (rp_intC (g := fun i j => i.fmod j) (by have := big1200.1; omega))) rfl (ed_of jk (ep_var (x := .int (i : Int)) rfl)) (fun H h => h) (by simp) (ixN_nat (by simpa using him)) (fun _ _ h => h) fun H2 hJ => ?_
      have z := fmod_pos (a := ms[i]) big1200.1
      refine ⟨ms.set i (ms[i].fmod ((10 ^ (60 : Int).toNat) ^ (20 : Int).toNat)), by rw [upd_same, List.map_set], by rw [List.length_set]; exact h2, fun j m hj hji => ?_, _, rfl⟩
      by_cases e : i = j
      · subst e
        rw [List.getElem?_set_self him] at hj
        cases hj
        exact nat_lt z.1 (Int.lt_trans z.2 big1200.2)
      · rw [List.getElem?_set_ne e] at hj
        exact h3 j m hj (by omega)
    · refine dm_next fun H2 hJ => ⟨ms, hJ, h2, fun j m hj hji => ?_, _, rfl⟩
      by_cases e : i = j
      · subst e
        rw [List.getElem?_eq_getElem him] at hj
        cases hj
        have c2 : ¬ ((10 : Int) ^ (18 : Int).toNat ≤ (if ms[i] < 0 then -ms[i] else ms[i])) := by simpa using c
        have z := big18
        split at c2 <;> omega
      · exact h3 j m hj (by omega)
  · obtain ⟨ms, h1, h2, h3, h4⟩ := hI
    exact ⟨ms, h1, h2, fun m hm => by
      obtain ⟨j, hj, rfl⟩ := List.mem_iff_getElem.mp hm
      exact h3 j _ (List.getElem?_eq_getElem hj) (by simpa using (by omega : j < ns.length)), h4⟩
  · match i with
    | 0 => exact trivial
    | 1 => exact rfl
    | 2 => exact trivial
    | n + 3 => exact trivial
  obtain ⟨ms, h1, h2, h3, s, rfl⟩ := n'
  have exl : Ex H H' := fun b o q => by
    have hb : b ≠ l := fun z => by rw [z, hl] at q; cases q
    have z := e' b o (by rw [hid_out (by simp [hb]), upd_ne hb]; exact q)
    exact (hid_some z).2
  have sl : σ'[1]? = some (some (.ref l)) := s'.loc rfl
  have hlen : σ'.length = 3 := s'.1
  obtain ⟨x0, x1, x2, rfl⟩ : ∃ x0 x1 x2, σ' = [x0, x1, x2] := match σ', hlen with | [x0, x1, x2], _ => ⟨x0, x1, x2, rfl⟩
  have hx1 : x1 = some (.ref l) := by simpa using sl
  subst hx1
  have s2 : SD (hid [] H') [.no, .d (.list (ms.map PyData.int)), .no] [x0, some (.ref l), x2] := ⟨rfl, fun i => match i with
    | 0 => trivial
    | 1 => ⟨_, rfl, l, _, rfl, by rw [hid_nil]; exact h1, by rw [hid_nil]; exact DtAll.ints ms⟩
    | 2 => trivial
    | _ + 3 => trivial⟩
  dsimp only
  refine ha_seq ?_
  refine ha_if (O := []) (tp_test (ep_op (ep_var (i := 1) rfl) (ep_lst ap_nil (by decide)) (rp_eqD (shaped_ints ms) (shaped_ints [])))) (fun _ h => by simp at h) s2 (fun c H2 e2 => ?_) fun c H2 e2 => ?_
  · refine ⟨by decide, fun c0 hc0 => ?_⟩
    dsimp only [gName]
    refine ⟨.ref c0, rfl, by show 2 ≤ sizeLine; decide, fun p0 hp0 => ?_⟩
    have hne : p0 ≠ c0 := fun z => by rw [z, upd_same] at hp0; cases hp0
    refine k p0 c0 _ (Evl.fresh_back (exl.trans (e2.trans (Ex.new hc0))) hp0) (Evl.fresh_back (exl.trans e2) hc0) ((exl.trans (e2.trans (Ex.new hc0))).trans (Ex.new hp0)) ⟨⟨[0], 0, upd_same, by rw [upd_ne hne.symm]; exact upd_same, by decide, by decide, by decide, by decide, fun n hn => ?_⟩, hne⟩
    simp only [List.mem_cons, List.not_mem_nil, or_false] at hn
    rw [hn]
    exact Nat.two_pow_pos 4000
  · have c2 : ms ≠ [] := fun z => by
      rw [z] at c
      exact absurd c (by rw [List.map_nil, eqv_nil]; simp)
    refine ⟨.ref l, rfl, by show 2 ≤ sizeLine; decide, fun p0 hp0 => ?_⟩
    have hl2 : H2 l = some (.lst (ms.map V.int)) := e2 _ _ h1
    have hne : p0 ≠ l := fun z => by rw [z, hl2] at hp0; cases hp0
    refine k p0 l _ (Evl.fresh_back (exl.trans e2) hp0) hl ((exl.trans e2).trans (Ex.new hp0)) ⟨⟨ms, 0, upd_same, by rw [upd_ne hne.symm]; exact hl2, ?_, by omega, by decide, by decide, h3⟩, hne⟩
    cases ms with
    | nil => exact absurd rfl c2
    | cons _ _ => simp
end
end K04
namespace K04
open PySem L2 PySem.Spec PyProof.Rows Cp
open Evl (Ex)
section
variable {w : World} {K : PySem.W.Frag} {mg : Str → Option Value} {base : Heap} {A : Ad}
theorem n31 {a : Int} (h : 0 ≤ a ∧ a < 2147483647) : a.natAbs < 2 ^ 31 := by omega
theorem lt31 {x : Int} : (x.fmod 2147483629).natAbs < 2 ^ 31 := by
  have z := fmod_pos (a := x) (b := 2147483629) (by decide)
  omega
theorem lt31b {x : Int} : (x.fmod 2147483587).natAbs < 2 ^ 31 := by
  have z := fmod_pos (a := x) (b := 2147483587) (by decide)
  omega
theorem lt31c {x : Int} : (x.fmod 2147483647).natAbs < 2 ^ 31 := by
  have z := fmod_pos (a := x) (b := 2147483647) (by decide)
  omega
theorem G_law_draw (T : Txt K mg A) (Z : Fns K A) : FnOk prg w K mg base CX0 1 A.a_law_draw Z.fd_law_draw ["purse", "out_of"] (spDraw) := by
  refine Fun.ok Z.F_law_draw sc_law_draw (fun vs H Q E h => by obtain ⟨p, c, B, n, rfl, _⟩ := h; rfl) (fun cdv Ar outer s H vs Q E hr h => ⟨_, (pss_cons (ps_asg (pv 0) (kx_gunl (K := K) (n := 2) rfl rfl (pgs_cons (pg_name (i := 2) sc_law_draw.nd rfl (by first | exact Or.inl rfl | exact Or.inr rfl)) (pgs_cons (pg_name (i := 3) sc_law_draw.nd rfl (by first | exact Or.inl rfl | exact Or.inr rfl)) pgs_nil))))
    (pss_cons (ps_set (i := 4) sc_law_draw.nd rfl (by first | exact Or.inl rfl | exact Or.inr rfl) (pe_op op_modN (pv 3) (pe_callB (kx_len (K := K) rfl) (by rfl) T.n_len (by decide +kernel) (pa_cons (pv 2) pa_nil))))
    (pss_cons (ps_set (i := 5) sc_law_draw.nd rfl (by first | exact Or.inl rfl | exact Or.inr rfl) (pe_ix (kx_ix (K := K) rfl) (pv 2) (pv 4) (fun _ _ => rfl)))
    (pss_cons (ps_asg (pe_op op_addU (pv 3) pe_int) (pg_sub (pv 0) pe_int set_list))
    (pss_cons (ps_if (pt_cmpR op_ge (pv 5) (pe_op op_powW pe_int pe_int) (nomark _)) (pss_cons (ps_asg (pe_op op_fdivW (pv 5) (pv 1)) (pg_sub (pv 2) (pv 4) set_list))
    (pss_one (ps_ret (pe_op op_modN (pv 5) (pv 1))))) pss_nil)
    (pss_cons (ps_set (i := 6) sc_law_draw.nd rfl (by first | exact Or.inl rfl | exact Or.inr rfl) (pe_op op_modN (pe_op op_addU (pe_op op_addU (pe_op op_mulU (pe_op op_modN (pv 5) pe_int) pe_int) (pe_op op_mulU (pe_op op_mulU (pv 3) (pv 3)) pe_int)) pe_int) pe_int))
    (pss_cons (ps_set (i := 6) sc_law_draw.nd rfl (by first | exact Or.inl rfl | exact Or.inr rfl) (pe_op op_modN (pe_op op_mulU (pv 6) (pv 6)) pe_int))
    (pss_cons (ps_set (i := 6) sc_law_draw.nd rfl (by first | exact Or.inl rfl | exact Or.inr rfl) (pe_op op_modN (pe_op op_mulU (pv 6) (pv 6)) pe_int))
    (pss_cons (ps_if (pt_cmpR op_gt (pv 1) (pe_op op_powW pe_int pe_int) (nomark _)) (pss_cons (ps_set (i := 7) sc_law_draw.nd rfl (by first | exact Or.inl rfl | exact Or.inr rfl) (pe_op op_modN (pe_op op_addU (pe_op op_addU (pe_op op_mulU (pv 6) pe_int) (pe_op op_mulU (pv 3) pe_int)) pe_int) pe_int))
    (pss_one (ps_set (i := 6) sc_law_draw.nd rfl (by first | exact Or.inl rfl | exact Or.inr rfl) (pe_op op_mulU (pv 6) (pe_op op_addU (pe_op op_mulU (pe_op op_mulU (pv 7) (pv 7)) (pv 7)) pe_int))))) pss_nil)
    (pss_one (ps_ret (pe_op op_modN (pv 6) (pv 1))))))))))))), ?_⟩)
  obtain ⟨p, c, B, n, rfl, pu, h1, hz, hB, k⟩ := h
  have hpc := pu.ne
  obtain ⟨⟨ns, t, hp, hc, n1, n63, t0, tB, hb⟩, _⟩ := pu
  have hD : Dom [p, c] H := (Pu.dom ⟨⟨ns, t, hp, hc, n1, n63, t0, tB, hb⟩, hpc⟩)
  refine ha_seq ?_
  refine ⟨.ref p, rfl, p, [.ref c, .int t], rfl, SqL.of hp, rfl, .ref c, [.int t], rfl, .int t, [], rfl, rfl, ?_⟩
  dsimp only
  have ml : (t.fmod (ns.length : Int)).toNat < ns.length ∧ ((t.fmod (ns.length : Int)).toNat : Int) = t.fmod (ns.length : Int) := by
    have z := fmod_pos (a := t) (b := (ns.length : Int)) (by omega)
    omega
  obtain ⟨hm, em⟩ := ml
  generalize hmd : (t.fmod (ns.length : Int)).toNat = m at hm em
  have hget : (ns.map V.int)[m]? = some (.int ns[m]) := by rw [List.getElem?_map, List.getElem?_eq_getElem hm]; rfl
  generalize hcell : ns[m] = cell at hget
  have hcb : cell.natAbs < 2 ^ 4000 := hcell ▸ hb _ (List.getElem_mem hm)
  let J1 : Hp → Prop := fun H' => H' p = some (.lst [.ref c, .int t]) ∧ H' c = some (.lst (ns.map V.int))
  let J2 : Hp → Prop := fun H' => H' p = some (.lst [.ref c, .int (t + 1)]) ∧ H' c = some (.lst (ns.map V.int))
  have j1 : Jok [p, c] J1 := fun _ _ e _ z => ⟨(e p (by simp)).trans z.1, (e c (by simp)).trans z.2⟩
  have j2 : Jok [p, c] J2 := fun _ _ e _ z => ⟨(e p (by simp)).trans z.1, (e c (by simp)).trans z.2⟩
  let R : V → Hp → Prop := fun v H' => ∃ r : Int, v = .int r ∧ 0 ≤ r ∧ r < n ∧ H' p = some (.lst [.ref c, .int (t + 1)]) ∧ ∃ ns' : List Int, H' c = some (.lst (ns'.map V.int)) ∧ ns'.length = ns.length ∧ ∀ x ∈ ns', x.natAbs < 2 ^ 4000
  have fin : ∀ {te : TE} {δ : List Sl} {x : Int} (_ : ED [p, c] J2 te δ (.int x)) (_ : 0 ≤ x ∧ x < n), DM [p, c] J2 (tRet te) δ (fun _ _ => False) R := fun h hx =>
    dm_imp (dm_ret h) (fun _ _ z => z) fun v H' ⟨d, hd, e, hj⟩ => by
      subst e
      exact ⟨_, hd, hx.1, hx.2, hj.1, ns, hj.2, rfl, hb⟩
  have s0 : SD (hid [p, c] H) [.at p, .d (.int n), .at c, .d (.int t), .no, .no, .no, .no] (((L2.start ["purse", "out_of", "cells", "turn", "at", "cell", "number", "other"] [.ref p, .int n]).set 2 (some (.ref c))).set 3 (some (.int t))) :=
    ⟨rfl, fun i => match i with
      | 0 => rfl
      | 1 => ⟨_, rfl, rfl⟩
      | 2 => rfl
      | 3 => ⟨_, rfl, rfl⟩
      | 4 => trivial
      | 5 => trivial
      | 6 => trivial
      | 7 => trivial
      | _ + 8 => trivial⟩
  refine dm_run (O := [p, c]) (J := J1) (δ := [.at p, .d (.int n), .at c, .d (.int t), .no, .no, .no, .no]) (N := fun _ _ => False) (R := R) ?body ⟨hp, hc⟩ hD s0 (fun _ _ _ z => z.elim) (fun v H' ⟨r, hv, r0, r1, p1, ns', c1, l1, b1⟩ _ e' => ?fin)
  case body =>
    refine dm_seq (N1 := fun δ H' => δ = [.at p, .d (.int n), .at c, .d (.int t), .d (.int (m : Int)), .no, .no, .no] ∧ J1 H') (dm_asgD (ed_op j1 (ed_of j1 (ep_var (i := 3) rfl)) (ed_lenO (i := 2) rfl fun H h => h.2)
      (rp_intC (g := fun i j => i.fmod j) (by rw [List.length_map]; omega))) fun H' hj => ⟨by rw [List.length_map, em]; rfl, hj⟩) fun δ1 => dm_fact ?_
    rintro rfl
    refine dm_seq (N1 := fun δ H' => δ = [.at p, .d (.int n), .at c, .d (.int t), .d (.int (m : Int)), .d (.int cell), .no, .no] ∧ J1 H') (dm_asgD (ed_ixO (d := .int cell) j1 (i := 2) rfl (fun H h => h.2) (ed_of j1 (ep_var (i := 4) rfl)) (ixN_nat (by simpa using hm)) hget fun _ => rfl) fun H' hj => ⟨rfl, hj⟩) fun δ1 => dm_fact ?_
    rintro rfl
    refine dm_seq (N1 := fun δ H' => δ = [.at p, .d (.int n), .at c, .d (.int t), .d (.int (m : Int)), .d (.int cell), .no, .no] ∧ J2 H')
      (dm_setO (l := p) (i := 0) (k := 1) (m := 1) (v := .int (t + 1)) (ed_of j1 (ep_op (ep_var (i := 3) rfl) ep_int (rp_l (rp_int (g := fun i j => i + j))))) rfl (ed_of j1 ep_int) (fun H h => h.1) (by simp) rfl (fun _ _ h => h) fun H' hj => ⟨rfl, by rw [upd_same]; rfl, by rw [upd_ne hpc.symm]; exact hj.2⟩) fun δ1 => dm_fact ?_
    rintro rfl
    refine dm_seq (N1 := fun δ H' => δ = [.at p, .d (.int n), .at c, .d (.int t), .d (.int (m : Int)), .d (.int cell), .no, .no] ∧ J2 H')
      (dm_ifD (td_test (ed_of j2 (ep_op (ep_var (i := 5) rfl) ep_pow18 (rp_bl (g := fun i j => decide (j ≤ i)))))) (fun _ => ?_) fun _ => dm_next fun H' hj => ⟨rfl, hj⟩) fun δ1 => dm_fact ?_
    · rename_i hc18
      have c0 : (10 : Int) ^ (18 : Int).toNat ≤ cell := by simpa using hc18
      have c1 : 0 ≤ cell := Int.le_trans (by decide) c0
      have hq : (cell / n).natAbs < 2 ^ 4000 := by
        have z1 := Int.ediv_le_self n c1
        have z2 := Int.ediv_nonneg c1 (by omega : 0 ≤ n)
        omega
      refine dm_seq (N1 := fun δ H' => δ = [.at p, .d (.int n), .at c, .d (.int t), .d (.int (m : Int)), .d (.int cell), .no, .no] ∧ H' p = some (.lst [.ref c, .int (t + 1)]) ∧ H' c = some (.lst ((ns.set m (cell / n)).map V.int)))
        (dm_setO (l := c) (i := 2) (v := .int (cell / n)) (ed_of j2 (ep_op (ep_var (i := 5) rfl) (ep_var (i := 1) rfl) (rp_intC (g := fun i j => i / j) (wide_div (by omega) hz (by decide) (by decide))))) rfl (ed_of j2 (ep_var (i := 4) rfl)) (fun H h => h.2) (by simp) (ixN_nat (by simpa using hm)) (fun _ _ h => h)
          fun H' hj => ⟨rfl, by rw [upd_ne hpc]; exact hj.1, by rw [upd_same, List.map_set]⟩) fun δ1 => dm_fact ?_
      rintro rfl
      have j3 : Jok [p, c] (fun H' => H' p = some (.lst [.ref c, .int (t + 1)]) ∧ H' c = some (.lst ((ns.set m (cell / n)).map V.int))) := fun _ _ e _ z => ⟨(e p (by simp)).trans z.1, (e c (by simp)).trans z.2⟩
      refine dm_imp (dm_ret (ed_of j3 (ep_op (ep_var (i := 5) rfl) (ep_var (i := 1) rfl) (rp_intC (g := fun i j => i.fmod j) (by omega))))) (fun _ _ z => z) fun v H' ⟨d, hd, e, hj⟩ => ?_
      subst e
      have z := fmod_pos (a := cell) (b := n) (by omega)
      refine ⟨_, hd, z.1, z.2, hj.1, _, hj.2, by rw [List.length_set], fun x hx => ?_⟩
      rcases List.mem_or_eq_of_mem_set hx with hx | rfl
      · exact hb x hx
      · exact hq
    rintro rfl
    have ht : t.natAbs < 2 ^ 21 := by omega
    refine dm_seq (N1 := fun δ H' => ∃ x : Int, x.natAbs < 2 ^ 31 ∧ δ = [.at p, .d (.int n), .at c, .d (.int t), .d (.int (m : Int)), .d (.int cell), .d (.int x), .no] ∧ J2 H')
      (dm_asgD (ed_of j2 (ep_op (ep_op (ep_op (ep_op (ep_op (ep_var (i := 5) rfl) ep_int (rp_intC (g := fun i j => i.fmod j) (by decide))) ep_int (rp_l (rp_intC (g := fun i j => i * j) (cmul lt31 (show (48271 : Int).natAbs < 2 ^ 31 by decide)))))
        (ep_op (ep_op (ep_var (i := 3) rfl) (ep_var (i := 3) rfl) (rp_l (rp_intC (g := fun i j => i * j) (cmul ht ht)))) ep_int (rp_l (rp_intC (g := fun i j => i * j) (cmul (wide_lt ht ht) (show (69621 : Int).natAbs < 2 ^ 31 by decide)))))
        (rp_l (rp_int (g := fun i j => i + j)))) ep_int (rp_l (rp_int (g := fun i j => i + j)))) ep_int (rp_intC (g := fun i j => i.fmod j) (by decide)))) fun H' hj => ⟨_, lt31c, rfl, hj⟩) fun δ1 => dm_ex fun x => dm_fact fun hx => dm_fact ?_
    rintro rfl
    refine dm_seq (N1 := fun δ H' => ∃ x : Int, x.natAbs < 2 ^ 31 ∧ δ = [.at p, .d (.int n), .at c, .d (.int t), .d (.int (m : Int)), .d (.int cell), .d (.int x), .no] ∧ J2 H')
      (dm_asgD (ed_of j2 (ep_op (ep_op (ep_var (i := 6) rfl) (ep_var (i := 6) rfl) (rp_l (rp_intC (g := fun i j => i * j) (cmul hx hx)))) ep_int (rp_intC (g := fun i j => i.fmod j) (by decide)))) fun H' hj => ⟨_, lt31, rfl, hj⟩) fun δ1 => dm_ex fun x2 => dm_fact fun hx2 => dm_fact ?_
    rintro rfl
    refine dm_seq (N1 := fun δ H' => ∃ x : Int, x.natAbs < 2 ^ 31 ∧ δ = [.at p, .d (.int n), .at c, .d (.int t), .d (.int (m : Int)), .d (.int cell), .d (.int x), .no] ∧ J2 H')
      (dm_asgD (ed_of j2 (ep_op (ep_op (ep_var (i := 6) rfl) (ep_var (i := 6) rfl) (rp_l (rp_intC (g := fun i j => i * j) (cmul hx2 hx2)))) ep_int (rp_intC (g := fun i j => i.fmod j) (by decide)))) fun H' hj => ⟨_, lt31b, rfl, hj⟩) fun δ1 => dm_ex fun x3 => dm_fact fun hx3 => dm_fact ?_
    rintro rfl
    refine dm_seq (N1 := fun δ H' => ∃ x : Int, (∃ s, δ = [.at p, .d (.int n), .at c, .d (.int t), .d (.int (m : Int)), .d (.int cell), .d (.int x), s]) ∧ J2 H')
      (dm_ifD (td_test (ed_of j2 (ep_op (ep_var (i := 1) rfl) (ep_op ep_int ep_int (rp_intC (g := fun i j => i ^ j.toNat) ⟨by decide, by decide +kernel⟩)) (rp_bl (g := fun i j => decide (j < i)))))) (fun _ => ?_) fun _ => dm_next fun H' hj => ⟨x3, ⟨_, rfl⟩, hj⟩) fun δ1 => dm_ex fun x4 => dm_fact ?_
    · refine dm_seq (N1 := fun δ H' => ∃ x : Int, x.natAbs < 2 ^ 31 ∧ δ = [.at p, .d (.int n), .at c, .d (.int t), .d (.int (m : Int)), .d (.int cell), .d (.int x3), .d (.int x)] ∧ J2 H')
        (dm_asgD (ed_of j2 (ep_op (ep_op (ep_op (ep_op (ep_var (i := 6) rfl) ep_int (rp_l (rp_intC (g := fun i j => i * j) (cmul hx3 (show (39373 : Int).natAbs < 2 ^ 31 by decide)))))
          (ep_op (ep_var (i := 3) rfl) ep_int (rp_l (rp_intC (g := fun i j => i * j) (cmul ht (show (7919 : Int).natAbs < 2 ^ 31 by decide))))) (rp_l (rp_int (g := fun i j => i + j)))) ep_int (rp_l (rp_int (g := fun i j => i + j)))) ep_int (rp_intC (g := fun i j => i.fmod j) (by decide)))) fun H' hj => ⟨_, lt31, rfl, hj⟩) fun δ1 => dm_ex fun o => dm_fact fun ho => dm_fact ?_
      rintro rfl
      have o3 : (o * o * o + 1).natAbs < 2 ^ 94 := by
        have z : (o * o * o).natAbs < 2 ^ (31 + 31 + 31) := wide_lt (wide_lt ho ho) ho
        omega
      exact dm_asgD (ed_of j2 (ep_op (ep_var (i := 6) rfl) (ep_op (ep_op (ep_op (ep_var (i := 7) rfl) (ep_var (i := 7) rfl) (rp_l (rp_intC (g := fun i j => i * j) (cmul ho ho)))) (ep_var (i := 7) rfl) (rp_l (rp_intC (g := fun i j => i * j) (cmul (wide_lt ho ho) ho)))) ep_int
        (rp_l (rp_int (g := fun i j => i + j)))) (rp_l (rp_intC (g := fun i j => i * j) (cmul hx3 o3))))) fun H' hj => ⟨_, ⟨_, rfl⟩, hj⟩
    · rintro ⟨s, rfl⟩
      exact fin (ed_of j2 (ep_op (ep_var (i := 6) rfl) (ep_var (i := 1) rfl) (rp_intC (g := fun i j => i.fmod j) (by omega)))) (fmod_pos (by omega))
  case fin =>
    subst hv
    refine k r H' r0 r1 (fun a o h1 h2 q => ?_) ⟨⟨ns', t + 1, p1, c1, by omega, by omega, by omega, by omega, b1⟩, hpc⟩
    have z := e' a o (by rw [hid_out (by simp [h1, h2])]; exact q)
    exact (hid_some z).2
end
end K04
namespace K04
open PySem L2 PySem.Spec PyProof.Rows Cp
open Evl (Ex)
section
variable {w : World} {K : PySem.W.Frag} {mg : Str → Option Value} {base : Heap} {A : Ad}
def spPick : Sp := fun vs H Q _ => ∃ (O : List Addr) (p c : Addr) (B : Nat) (ds : List PyData) (v : V), vs = [.ref p, v] ∧ p ∈ O ∧ c ∈ O ∧ Dom O H ∧ Pu p c B H ∧ B ≤ 1000000 ∧ Dt (hid O H) (.list ds) v ∧ 1 ≤ ds.length ∧ ds.length ≤ 100000 ∧
  ∀ d u H', d ∈ ds → Kp p c H H' → Pu p c (B + 1) H' → Dt (hid O H') d u → Q u H'
theorem small4000 {n : Int} (h : 0 ≤ n ∧ n ≤ 1000000) : n.natAbs < 2 ^ 4000 := Nat.lt_of_lt_of_le (show n.natAbs < 2 ^ 20 by omega) (Nat.pow_le_pow_right (by decide) (by decide))
/-- all that was there but the purse is there behind -/
theorem kp_of_hid {O : List Addr} {p c : Addr} {H H' : Hp} (e : Ex (hid O H) (hid O H')) (h : ∀ a ∈ O, a ≠ p → a ≠ c → H' a = H a) : Kp p c H H' := fun a o h1 h2 q => by
  by_cases ha : a ∈ O
  · rw [h a ha h1 h2]; exact q
  · have z := e a o (by rw [hid_out ha]; exact q)
    rw [hid_out ha] at z
    exact z
theorem sd2 {H : Hp} {s0 s1 : Sl} {x0 x1 : Option V} (h0 : SlOk H s0 x0) (h1 : SlOk H s1 x1) : SD H [s0, s1] [x0, x1] := ⟨rfl, fun i => match i with
  | 0 => h0
  | 1 => h1
  | _ + 2 => trivial⟩
theorem em_pick {O : List Addr} {J : Hp → Prop} {δ : List Sl} {te : TE} {p c : Addr} {B i : Nat} {E : XK} {ds : List PyData} (hp : p ∈ O) (hc : c ∈ O) (hs : δ.getD i .no = .at p) (hd : ED O (fun H => Pu p c B H ∧ J H) te δ (.list ds)) (h1 : 1 ≤ ds.length) (h2 : ds.length ≤ 100000) (hB : B ≤ 1000000)
    (hJ : ∀ H H', Kp p c H H' → J H → J H') : EM O (fun H => Pu p c B H ∧ J H) (tCall spPick [] E (tCons (tVar i) (tCons te tNil))) δ (fun d H => d ∈ ds ∧ Pu p c (B + 1) H ∧ J H) := fun σ H hj hD hS Q k =>
  ⟨.ref p, hS.loc hs, hd σ H hj hD hS _ fun e w H1 q d1 e1 hw => by
    rw [q.1] at hw
    refine ⟨O, p, c, B, ds, w, rfl, hp, hc, d1, q.2.1, hB, hw, h1, h2, fun d u H2 hm kp pu hu => ?_⟩
    refine k d u H2 ⟨hm, pu, hJ H1 H2 kp q.2.2⟩ (fun a ha => ?_) (e1.trans (kp.hid hp hc)) hu
    by_cases z1 : a = p
    · obtain ⟨⟨_, _, z, _⟩, _⟩ := pu
      rw [z1, z]; simp
    by_cases z2 : a = c
    · obtain ⟨⟨_, _, _, z, _⟩, _⟩ := pu
      rw [z2, z]; simp
    cases z : H1 a with
    | none => exact absurd z (d1 a ha)
    | some o => rw [kp a o z1 z2 z]; simp⟩
section
variable {O : List Addr} {p c : Addr} {JO : Hp → Prop} {δ : List Sl} {te : TE} {b b1 : Nat} {i : Nat} {E : XK}
theorem et_pick (V : Keep O p c JO) {S : List PyData → Prop} (hs : δ.getD i .no = .at p) (h : ET O p c JO b b1 te δ (fun d => ∃ ds, d = .list ds ∧ (1 ≤ ds.length ∧ ds.length ≤ 100000) ∧ S ds)) (hB : b1 ≤ 1000000) :
    ET O p c JO b (b1 + 1) (tCall spPick [] E (tCons (tVar i) (tCons te tNil))) δ (fun d => ∃ ds, S ds ∧ d ∈ ds) := fun σ H hj hD hS Q k =>
  ⟨.ref p, hS.loc hs, h σ H hj hD hS _ fun e w H1 q d1 e1 hw => by
    obtain ⟨⟨ds, rfl, ⟨l1, l2⟩, hS1⟩, hj1⟩ := q
    refine ⟨O, p, c, b1, ds, w, rfl, V.hp, V.hc, d1, hj1.1, hB, hw, l1, l2, fun d u H2 hm kp pu hu => ?_⟩
    refine k d u H2 ⟨⟨ds, hS1, hm⟩, pu, V.kp H1 H2 kp hj1.2⟩ (fun a ha => ?_) (e1.trans (kp.hid V.hp V.hc)) hu
    by_cases z1 : a = p
    · obtain ⟨⟨_, _, z, _⟩, _⟩ := pu
      rw [z1, z]; simp
    by_cases z2 : a = c
    · obtain ⟨⟨_, _, _, z, _⟩, _⟩ := pu
      rw [z2, z]; simp
    cases z : H1 a with
    | none => exact absurd z (d1 a ha)
    | some o => rw [kp a o z1 z2 z]; simp⟩
end
theorem G_law_pick (T : Txt K mg A) (Z : Fns K A) : FnOk prg w K mg base CX0 2 A.a_law_pick Z.fd_law_pick ["purse", "things"] (spPick) := by
  refine Fun.ok Z.F_law_pick sc_law_pick (fun vs H Q E h => by obtain ⟨O, p, c, B, ds, v, rfl, _⟩ := h; rfl) (fun cdv Ar outer s H vs Q E hr h => ⟨_, (pss_one (ps_ret (pe_ix (kx_ix (K := K) rfl) (pv 1) (pe_call (G_law_draw T Z) (hr.mono (by decide)) rfl T.g_law_draw T.k_law_draw Z.b_law_draw .nil pass0 (pa_cons (pv 0) (pa_cons (pe_callB (kx_len (K := K) rfl) (by rfl) T.n_len (by decide +kernel) (pa_cons (pv 1) pa_nil)) pa_nil))) (fun _ _ => rfl)))), ?_⟩)
  obtain ⟨O, p, c, B, ds, v, rfl, hp, hc, hD, pu, hB, hv, l1, l2, k⟩ := h
  have jO : Jok O (fun H' => ∀ a ∈ O, a ≠ p → a ≠ c → H' a = H a) := fun A B e _ z a ha h1 h2 => (e a ha).trans (z a ha h1 h2)
  have jP : Jok O (fun H' => Pu p c B H' ∧ ∀ a ∈ O, a ≠ p → a ≠ c → H' a = H a) := jok_and (Pu.jok hp hc) jO
  refine dm_run (O := O) (J := fun H' => Pu p c B H' ∧ ∀ a ∈ O, a ≠ p → a ≠ c → H' a = H a) (δ := [.at p, .d (.list ds)]) (N := fun _ _ => False) (dm_ret (em_ixDraw (i := 0) (n := (ds.length : Int)) hp hc rfl jO (ed_of jP (ep_var (i := 1) rfl)) (ed_of jP (ep_len (ep_var (i := 1) rfl) (Or.inl ⟨ds, rfl, rfl⟩)))
    (by omega) (small4000 (by omega)) (Int.le_refl _) hB fun H1 H2 kp z a ha h1 h2 => ?_)) ⟨pu, fun _ _ _ _ => rfl⟩ hD (sd2 rfl (slok_d hv)) (fun _ _ _ z => z.elim) (fun u H' r _ e' => ?_)
  · have := z a ha h1 h2
    cases q : H a with
    | none => exact absurd q (hD a ha)
    | some o => rw [q] at this; rw [kp a o h1 h2 this]
  · obtain ⟨d, hd, hm, pu', z⟩ := r
    exact k d u H' hm (kp_of_hid e' z) pu' hd
def spMixed : Sp := fun vs H Q _ => ∃ (O : List Addr) (p c : Addr) (B : Nat) (ds : List PyData) (v : V), vs = [.ref p, v] ∧ p ∈ O ∧ c ∈ O ∧ Dom O H ∧ Pu p c B H ∧ B + ds.length ≤ 1000000 ∧ Dt (hid O H) (.list ds) v ∧ ds.length ≤ 10000 ∧
  ∀ ds' u H', ds'.Perm ds → Kp p c H H' → Pu p c (B + ds.length) H' → Dt (hid O H') (.list ds') u → Q u H'
theorem take_succ_get {ds : List PyData} {i : Nat} (h : i < ds.length) : ds.take (i + 1) = ds.take i ++ [ds.getD i .none] := by
  rw [List.take_succ, List.getElem?_eq_getElem h, List.getD_eq_getElem?_getD, List.getElem?_eq_getElem h]
  rfl
theorem perm_ins {es : List PyData} {x : PyData} {r : Nat} {ys : List PyData} (h : es.Perm ys) : (es.take r ++ [x] ++ es.drop r).Perm (ys ++ [x]) := by
  have h1 : (es.take r ++ [x] ++ es.drop r).Perm (x :: (es.take r ++ es.drop r)) := by
    rw [List.append_assoc]
    exact List.perm_middle
  rw [List.take_append_drop] at h1
  exact h1.trans (((List.Perm.cons x h)).trans (List.perm_append_singleton x ys).symm)
section
variable {O : List Addr} {p c : Addr} {JO : Hp → Prop} {δ : List Sl} {te : TE} {b : Nat} {i : Nat} {E : XK}
theorem et_mixed (V : Keep O p c JO) {ds : List PyData} (hs : δ.getD i .no = .at p) (h : Cp.EP O te δ (.list ds)) (hl : ds.length ≤ 10000) (hB : b + ds.length ≤ 1000000) :
    ET O p c JO b (b + ds.length) (tCall spMixed [] E (tCons (tVar i) (tCons te tNil))) δ (fun d => ∃ es, d = .list es ∧ es.Perm ds) := fun σ H hj hD hS Q k =>
  ⟨.ref p, hS.loc hs, h σ H hD hS _ fun w H1 e1 hw => by
    have hj1 := V.jok.ex hD e1 hj
    refine ⟨O, p, c, b, ds, w, rfl, V.hp, V.hc, hD.ex e1, hj1.1, hB, hw, hl, fun es u H2 hm kp pu hu => ?_⟩
    refine k (.list es) u H2 ⟨⟨es, rfl, hm⟩, pu, V.kp H1 H2 kp hj1.2⟩ (fun a ha => ?_) ((hid_ex e1).trans (kp.hid V.hp V.hc)) hu
    by_cases z1 : a = p
    · obtain ⟨⟨_, _, z, _⟩, _⟩ := pu
      rw [z1, z]; simp
    by_cases z2 : a = c
    · obtain ⟨⟨_, _, _, z, _⟩, _⟩ := pu
      rw [z2, z]; simp
    cases z : H1 a with
    | none => exact absurd z ((hD.ex e1) a ha)
    | some o => rw [kp a o z1 z2 z]; simp⟩
end
theorem G_law_mixed (T : Txt K mg A) (Z : Fns K A) : FnOk prg w K mg base CX0 2 A.a_law_mixed Z.fd_law_mixed ["purse", "things"] (spMixed) := by
  refine Fun.ok Z.F_law_mixed sc_law_mixed (fun vs H Q E h => by obtain ⟨O, p, c, B, ds, v, rfl, _⟩ := h; rfl) (fun cdv Ar outer s H vs Q E hr h => ⟨_, (pss_cons (ps_set (i := 2) sc_law_mixed.nd rfl (by first | exact Or.inl rfl | exact Or.inr rfl) (pe_lst pa_nil))
    (pss_cons (ps_for PassesOwn.never rfl (kx_list (K := K) rfl (pv 1)) (pg_name (i := 3) sc_law_mixed.nd rfl (by first | exact Or.inl rfl | exact Or.inr rfl)) (pss_one (ps_expr (pe_bm PySem.F.plainAttrs_list PySem.F.slot_list_insert PySem.F.type_list_insert mt_insert (pv 2) (pa_cons (pe_call (G_law_draw T Z) (hr.mono (by decide)) rfl T.g_law_draw T.k_law_draw Z.b_law_draw .nil pass0 (pa_cons (pv 0) (pa_cons (pe_op op_addU (pe_callB (kx_len (K := K) rfl) (by rfl) T.n_len (by decide +kernel) (pa_cons (pv 2) pa_nil)) pe_int) pa_nil))) (pa_cons (pv 3) pa_nil))))))
    (pss_one (ps_ret (pv 2))))), ?_⟩)
  obtain ⟨O, p, c, B, ds, v, rfl, hp, hc, hD, pu, hB, hv, l2, k⟩ := h
  refine ha_seq ⟨by decide, fun l hl => ?_⟩
  have lO : l ∉ O := hD.fresh hl
  have lp : l ≠ p := fun z => lO (z ▸ hp)
  have lc : l ≠ c := fun z => lO (z ▸ hc)
  dsimp only [gName]
  have hd1 : Dom (l :: O) (upd H l (.lst [])) := fun a ha => by
    by_cases q : a = l
    · rw [q, upd_same]; simp
    · rw [upd_ne q]
      rcases List.mem_cons.mp ha with z | z
      · exact absurd z q
      · exact hD a z
  have hex : Ex (hid O H) (hid (l :: O) (upd H l (.lst []))) := fun a o q => by
    obtain ⟨q1, q2⟩ := hid_some q
    have : a ≠ l := fun z => by rw [z, hl] at q2; cases q2
    rw [hid_out (by simp [this, q1]), upd_ne this]
    exact q2
  have jO : Jok (l :: O) (fun H' => ∀ a ∈ O, a ≠ p → a ≠ c → H' a = H a) := fun A B e _ z a ha h1 h2 => (e a (by simp [ha])).trans (z a ha h1 h2)
  have key : ∀ (i : Nat) (es : List PyData), Jok (l :: O) (fun H' => Pu p c (B + i) H' ∧ Own (l :: O) l es H' ∧ ∀ a ∈ O, a ≠ p → a ≠ c → H' a = H a) := fun i es => jok_and (Pu.jok (by simp [hp]) (by simp [hc])) (jok_and (Own.jok (by simp)) jO)
  refine dm_run (O := l :: O) (J := fun H' => Pu p c (B + 0) H' ∧ Own (l :: O) l [] H' ∧ ∀ a ∈ O, a ≠ p → a ≠ c → H' a = H a) (δ := [.at p, .d (.list ds), .at l, .no]) (N := fun _ _ => False)
    (R := fun u H' => u = .ref l ∧ ∃ es, es.Perm ds ∧ Pu p c (B + ds.length) H' ∧ Own (l :: O) l es H' ∧ ∀ a ∈ O, a ≠ p → a ≠ c → H' a = H a) ?body ⟨?pu, ⟨[], upd_same, rfl⟩, fun a ha h1 h2 => upd_ne fun z => lO (z ▸ ha)⟩ hd1 ?sd (fun _ _ _ z => z.elim) (fun u H' r _ e' => ?fin)
  case pu =>
    obtain ⟨⟨ns, t, h1, h2, h3⟩, ne⟩ := pu
    exact ⟨⟨ns, t, by rw [upd_ne lp.symm]; exact h1, by rw [upd_ne lc.symm]; exact h2, h3⟩, ne⟩
  case sd =>
    exact ⟨rfl, fun i => match i with
      | 0 => rfl
      | 1 => slok_d (Dt.mono hex _ _ hv)
      | 2 => rfl
      | 3 => trivial
      | _ + 4 => trivial⟩
  case body =>
    refine dm_seq (N1 := fun δ' H' => ∃ es, (es.Perm ds ∧ ∃ s, δ' = [.at p, .d (.list ds), .at l, s]) ∧ Pu p c (B + ds.length) H' ∧ Own (l :: O) l es H' ∧ ∀ a ∈ O, a ≠ p → a ≠ c → H' a = H a)
      (dm_for (ix := [3]) (wp_list (ep_var (i := 1) rfl)) (key 0 []) (fun i δ' H' => ∃ es, (es.Perm (ds.take i) ∧ ∃ s, δ' = [.at p, .d (.list ds), .at l, s]) ∧ Pu p c (B + i) H' ∧ Own (l :: O) l es H' ∧ ∀ a ∈ O, a ≠ p → a ≠ c → H' a = H a)
        (fun H' h => ⟨[], ⟨by simp, _, rfl⟩, h⟩) (fun i δ1 H1 hi hI => ?_) fun δ1 H1 hI => by simpa using hI) fun δ1 => dm_ex fun es => dm_fact ?_
    · obtain ⟨es, ⟨hpe, s, rfl⟩, hJ⟩ := hI
      have hlen : es.length = i := by rw [hpe.length_eq, List.length_take]; omega
      refine ⟨_, _, gb_name, hJ, key i es, ?_⟩
      have hdr := em_draw (O := l :: O) (J := fun H' => Own (l :: O) l es H' ∧ ∀ a ∈ O, a ≠ p → a ≠ c → H' a = H a) (δ := [.at p, .d (.list ds), .at l, .d (ds.getD i .none)]) (i := 0) (E := E0) (p := p) (c := c) (B := B + i) (n := (i : Int) + 1)
        (te := tOp rAddU (tCB (fun xs H Q => ∃ x n, xs = [x] ∧ LenV K x H n ∧ Q (V.int ↑n) H) (tCons (tVar 2) tNil)) (tC (.int 1))) (by simp [hp]) (by simp [hc]) rfl
        (fun σ2 H2 hj hD2 hS2 Q2 k2 => by
          obtain ⟨vs, q1, q2⟩ := hj.2.1
          have hl2 : vs.length = i := by rw [q2.length, hlen]
          refine ⟨.ref l, hS2.loc (i := 2) rfl, .ref l, vs.length, rfl, Or.inl ⟨vs, SqL.of q1, rfl⟩, Or.inl ⟨_, _, rfl, rfl, k2 (.int ((i : Int) + 1)) _ H2 ⟨rfl, hj⟩ hD2 (Ex.refl _) (by rw [hl2]; rfl)⟩⟩)
        (by omega) (small4000 (by omega)) (by omega) (fun H1 H2 kp z => ⟨Own.kp (by simp [hp]) (by simp [hc]) lp lc kp z.1, fun a ha h1 h2 => by
          have := z.2 a ha h1 h2
          cases q : H a with
          | none => exact absurd q (hD a ha)
          | some o => rw [q] at this; rw [kp a o h1 h2 this]⟩)
      refine dm_insert (d := ds.getD i .none) (ds := es) (l := l) (i := 2) hdr (ep_var (i := 3) rfl) rfl (by simp) (fun H' h => by obtain ⟨vs, q1, _⟩ := h.2.1; exact ⟨vs, q1⟩) (fun d H' h => ?_) (by omega)
        (fun d => ?_) fun r H' H2 h he ho => ⟨_, ⟨?_, _, rfl⟩, ?_, ho, fun a ha h1 h2 => ?_⟩
      · obtain ⟨⟨r, rfl, r0, r1⟩, _, q, _⟩ := h
        exact ⟨⟨r, rfl, r0, by omega⟩, q⟩
      · exact jok_fact (jok_and (Pu.jok (by simp [hp]) (by simp [hc])) (jok_and (Own.jok (by simp)) jO))
      · rw [take_succ_get hi]
        exact perm_ins hpe
      · obtain ⟨_, ⟨⟨ns, t, h1, h2, h3⟩, ne⟩, _⟩ := h
        exact ⟨⟨ns, t, by rw [he p lp.symm]; exact h1, by rw [he c lc.symm]; exact h2, h3⟩, ne⟩
      · rw [he a fun z => lO (z ▸ ha)]
        exact h.2.2.2 a ha h1 h2
    · rintro ⟨hpe, s, rfl⟩
      exact fun σ2 H2 D2 hj hD2 hS2 kn kr => ⟨.ref l, hS2.loc (i := 2) rfl, kr _ H2 ⟨rfl, es, hpe, hj⟩ hD2 (Ex.refl _)⟩
  case fin =>
    obtain ⟨rfl, es, hpe, pu', ⟨vs, q1, q2⟩, z⟩ := r
    have kp : Kp p c H H' := fun a o h1 h2 q => by
      by_cases ha : a ∈ O
      · rw [z a ha h1 h2]; exact q
      · have hal : a ≠ l := fun z => by rw [z, hl] at q; cases q
        have y := e' a o (by rw [hid_out (by simp [hal, ha]), upd_ne hal]; exact q)
        exact (hid_some y).2
    refine k es (.ref l) H' hpe kp pu' ⟨l, vs, rfl, by rw [hid_out lO]; exact q1, q2.mono fun a o q => ?_⟩
    obtain ⟨y1, y2⟩ := hid_some q
    rw [hid_out (fun z => y1 (by simp [z]))]
    exact y2
def isTownish (d : PyData) : Prop := ∃ (m : PyData) (rs : List (Int × Int)), d = .tuple [m, .list (rs.map pr)] ∧ rs.length ≤ 16
def roadsOf (d : PyData) : List (Int × Int) := match d with
  | .tuple [_, .list l] => l.map toPair
  | _ => []
theorem G_law_ends (T : Txt K mg A) (Z : Fns K A) : FnOk prg w K mg base CX0 1 A.a_law_ends Z.fd_law_ends ["town", "v"] (spP 2 (fun ds => isTownish (ds.getD 0 .none) ∧ ∃ v, ds.getD 1 .none = .int v) fun ds => .list (endsL (roadsOf (ds.getD 0 .none)) (match ds.getD 1 .none with | .int v => v | _ => 0))) := by
  refine Fun.ok Z.F_law_ends sc_law_ends (fun vs H Q E h => pure_len h) (fun cdv Ar outer s H vs Q E hr h => ⟨_, (pss_cons (ps_set (i := 2) sc_law_ends.nd rfl (by first | exact Or.inl rfl | exact Or.inr rfl) (pe_lst pa_nil))
    (pss_cons (ps_for PassesOwn.never rfl (pi_range1 rfl T.n_range (pa_cons (pe_callB (kx_len (K := K) rfl) (by rfl) T.n_len (by decide +kernel) (pa_cons (pe_ix (kx_ix (K := K) rfl) (pv 0) pe_int (fun _ _ => rfl)) pa_nil)) pa_nil)) (pg_name (i := 3) sc_law_ends.nd rfl (by first | exact Or.inl rfl | exact Or.inr rfl)) (pss_one (ps_set (i := 2) sc_law_ends.nd rfl (by first | exact Or.inl rfl | exact Or.inr rfl) (pe_op op_addU (pv 2) (pe_lc (own := [("s", 4)]) rfl sc_law_ends.nd (kx_list (K := K) rfl (pe_lst (pa_cons pe_int (pa_cons pe_int pa_nil)))) (blkOk_by (own := [("s", 4)]) (N := ["town", "v", "found_here", "r", "s"]) (sc := defScope s_law_ends) (by decide +kernel)) (fun _ _ _ _ _ => (pg_name (i := 4) sc_law_ends.nd rfl (by first | exact Or.inl rfl | exact Or.inr rfl))) (fun _ _ _ _ _ => (pts_one (pt_cmpR (kx_eq (K := K) rfl hr.units) (pe_ix (kx_ix (K := K) rfl) (pe_ix (kx_ix (K := K) rfl) (pe_ix (kx_ix (K := K) rfl) (pv 0) pe_int (fun _ _ => rfl)) (pv 3) (fun _ _ => rfl)) (pv 4) (fun _ _ => rfl)) (pv 1) (nomark _)))) (fun _ _ _ _ _ => (pe_tup (pa_cons (pv 3) (pa_cons (pv 4) pa_nil)))))))))
    (pss_one (ps_ret (pv 2))))), ?_⟩)
  refine pure_body (by decide) (fun O ds hl hp => ?_) h
  match ds, hl with
  | [a, b], _ =>
    obtain ⟨⟨m, rs, ha, h16⟩, v, hb⟩ := hp
    obtain rfl : a = .tuple [m, .list (rs.map pr)] := ha
    obtain rfl : b = .int v := hb
    have e0 : roadsOf (.tuple [m, .list (rs.map pr)]) = rs := toPairs rs
    show DS O _ [.d (.tuple [m, .list (rs.map pr)]), .d (.int v), .no, .no, .no] _ (fun d => d = PyData.list (endsL (roadsOf (.tuple [m, .list (rs.map pr)])) v))
    rw [e0]
    have ix1 : ∀ {O : List Addr} {δ : List Sl}, δ.getD 0 .no = .d (.tuple [m, .list (rs.map pr)]) → EP O (tOp (rIx K) (tVar 0) (tC (.int 1))) δ (.list (rs.map pr)) := fun h => ep_op (ep_var h) ep_int (rp_ix2 (rp_ixT (j := 1) rfl rfl))
    refine ds_seq (N1 := fun δ => δ = [.d (.tuple [m, .list (rs.map pr)]), .d (.int v), .d (.list []), .no, .no]) (ds_asg (ep_lst ap_nil (by decide)) rfl) ?_
    rintro _ rfl
    refine ds_seq (N1 := fun δ => ∃ s t, δ = [.d (.tuple [m, .list (rs.map pr)]), .d (.int v), .d (.list (endsL rs v)), s, t])
      (ds_for (ix := [3]) (n := rs.length) (item := fun i => .int (i : Int)) (wp_rng1 (n := (rs.length : Int)) (ap_cons (ep_len (ix1 rfl) (Or.inl ⟨rs.map pr, rfl, by simp⟩)) ap_nil) (by omega))
        (fun i δ => ∃ s t, δ = [.d (.tuple [m, .list (rs.map pr)]), .d (.int v), .d (.list (rows2 i (fun _ => 2) (endRow rs v))), s, t]) ⟨_, _, rfl⟩ (fun i δ1 hi hI => ?_) fun δ1 hI => hI) ?_
    · obtain ⟨s, t, rfl⟩ := hI
      refine ⟨_, gb_name, ds_asg (ep_op (ep_var (i := 2) rfl) (ep_lc (n := 2) (ix := [4]) (item := fun j => [PyData.int 0, PyData.int 1].getD j .none) (f := endRow rs v i) (fun O' => wp_list (ep_lst (ap_cons ep_int (ap_cons ep_int ap_nil)) (by simp))) (by decide) (by decide) fun O' j hj => ⟨_, gb_name, ?_, fun y hy => ?_⟩)
        (rp_r (rp_cat ?_))) ?_⟩
      · refine tp_is (tp_test (ep_op (ep_op (ep_op (ix1 rfl) (ep_var (i := 3) (x := .int (i : Int)) rfl) (rp_ix1 (rp_ixL (j := i) (ixN_nat (by simpa using hi)) (getD_pr hi))))
          (ep_var (i := 4) (x := .int (j : Int)) (by match j, hj with | 0, _ => rfl | 1, _ => rfl)) (rp_ix2 (rp_ixT (j := j) (ixN_nat hj) (side_ix hj)))) (ep_var (i := 1) (x := .int v) rfl) (rp_eqD (shaped_int _) (shaped_int _)))) ?_
        rw [eqv_int]
        unfold endRow
        by_cases c : sideOf (rs.getD i (0, 0)) j = v
        · rw [if_pos c, c, beq_self_eq_true]; rfl
        · rw [if_neg c, beq_eq_false_iff_ne.mpr c]; rfl
      · unfold endRow at hy
        split at hy
        · cases hy
          exact ep_tup (ap_cons (ep_var (i := 3) rfl) (ap_cons (ep_var (i := 4) (by match j, hj with | 0, _ => rfl | 1, _ => rfl)) ap_nil)) (by simp)
        · cases hy
      · have z1 : (rows2 i (fun _ => 2) (endRow rs v)).length ≤ i * 2 := rows2_le i fun _ _ => Nat.le_refl _
        have z2 : ((List.range 2).filterMap (endRow rs v i)).length ≤ 2 := filterMap_le
        omega
      · exact ⟨_, _, by rw [rows2_succ]; rfl⟩
    · rintro _ ⟨s, t, rfl⟩
      exact ds_ret (ep_var (i := 2) rfl) rfl
end
end K04
namespace K04
open PySem L2 PySem.Spec PyProof.Rows Cp
open Evl (Ex)
section
variable {w : World} {K : PySem.W.Frag} {mg : Str → Option Value} {base : Heap} {A : Ad}
/-- roads that lie within m places -/
def InN (m : Int) (q : Int × Int) : Prop := 0 ≤ q.1 ∧ q.1 < m ∧ 0 ≤ q.2 ∧ q.2 < m
theorem road_in {q : Int × Int} {m : Int} (h : InN m q) : isRoadD (pr q) m = true := by
  obtain ⟨h1, h2, h3, h4⟩ := h
  show ((decide (0 ≤ q.1) && decide (q.1 < m)) && (decide (0 ≤ q.2) && decide (q.2 < m))) = true
  simp [h1, h2, h3, h4]
theorem in_road {q : Int × Int} {m : Int} (h : isRoadD (pr q) m = true) : InN m q := by
  have h : ((decide (0 ≤ q.1) && decide (q.1 < m)) && (decide (0 ≤ q.2) && decide (q.2 < m))) = true := h
  simp at h
  exact ⟨h.1.1, h.1.2, h.2.1, h.2.2⟩
theorem ends_some {rs : List (Int × Int)} {v : Int} {q : Int × Int} (hq : q ∈ rs) (hv : q.1 = v ∨ q.2 = v) : (endsL rs v).isEmpty = false := by
  obtain ⟨r, hr, e⟩ := List.mem_iff_getElem.mp hq
  have hg : rs.getD r (0, 0) = q := by rw [List.getD_eq_getElem?_getD, List.getElem?_eq_getElem hr, e]; rfl
  have key : ∀ s, s < 2 → sideOf q s = v → (endsL rs v).isEmpty = false := fun s hs h => by
    have hm : (PyData.tuple [.int (r : Int), .int (s : Int)]) ∈ endsL rs v := by
      unfold endsL rows2
      refine List.mem_flatMap.mpr ⟨r, by simpa using hr, List.mem_filterMap.mpr ⟨s, by simpa using hs, ?_⟩⟩
      unfold endRow
      rw [hg, if_pos h]
    cases e : endsL rs v with
    | nil => rw [e] at hm; cases hm
    | cons _ _ => rfl
  rcases hv with h | h
  · exact key 0 (by decide) h
  · exact key 1 (by decide) h
theorem town_of {m : Int} {rs : List (Int × Int)} (h1 : 1 ≤ m ∧ m ≤ 8) (h2 : 1 ≤ rs.length ∧ rs.length ≤ 16) (h3 : ∀ q ∈ rs, InN m q) (h4 : ∀ v : Nat, (v : Int) < m → ∃ q ∈ rs, q.1 = v ∨ q.2 = v) : TownOk m rs :=
  ⟨h1.1, h1.2, h2.1, h2.2, fun j hj => road_in (h3 _ (by
    rw [List.getD_eq_getElem?_getD, List.getElem?_eq_getElem hj]
    exact List.getElem_mem hj)), fun v hv => by
    obtain ⟨q, hq, e⟩ := h4 v (by omega)
    exact ends_some hq e⟩
def spTown : Sp := fun vs H Q _ => ∃ (p c : Addr) (B : Nat), vs = [.ref p, .int 8] ∧ Pu p c B H ∧ B + 100 ≤ 1000000 ∧
  ∀ n rs v H', TownOk n rs → Kp p c H H' → Pu p c (B + 100) H' → Dt (hid [p, c] H') (townD n rs) v → Q v H'
theorem G_law_town (T : Txt K mg A) (Z : Fns K A) : FnOk prg w K mg base CX0 3 A.a_law_town Z.fd_law_town ["purse", "bound"] (spTown) := by
  refine Fun.ok Z.F_law_town sc_law_town (fun vs H Q E h => by obtain ⟨p, c, B, rfl, _⟩ := h; rfl) (fun cdv Ar outer s H vs Q E hr h => ⟨_, (pss_cons (ps_set (i := 2) sc_law_town.nd rfl (by first | exact Or.inl rfl | exact Or.inr rfl) (pe_op op_addU pe_int (pe_call (G_law_draw T Z) (hr.mono (by decide)) rfl T.g_law_draw T.k_law_draw Z.b_law_draw .nil pass0 (pa_cons (pv 0) (pa_cons (pv 1) pa_nil)))))
    (pss_cons (ps_set (i := 3) sc_law_town.nd rfl (by first | exact Or.inl rfl | exact Or.inr rfl) (pe_lst pa_nil))
    (pss_cons (ps_for PassesOwn.never rfl (pi_range1 rfl T.n_range (pa_cons (pv 2) pa_nil)) (pg_name (i := 4) sc_law_town.nd rfl (by first | exact Or.inl rfl | exact Or.inr rfl)) (pss_cons (ps_set (i := 5) sc_law_town.nd rfl (by first | exact Or.inl rfl | exact Or.inr rfl) (pe_call (G_law_draw T Z) (hr.mono (by decide)) rfl T.g_law_draw T.k_law_draw Z.b_law_draw .nil pass0 (pa_cons (pv 0) (pa_cons (pe_op op_addU (pv 4) pe_int) pa_nil))))
    (pss_one (ps_expr (pe_bm PySem.F.plainAttrs_list PySem.F.slot_list_append PySem.F.type_list_append mt_append (pv 3) (pa_cons (pe_ix (kx_ix (K := K) rfl) (pe_lst (pa_cons (pe_tup (pa_cons (pv 5) (pa_cons (pv 4) pa_nil))) (pa_cons (pe_tup (pa_cons (pv 4) (pa_cons (pv 5) pa_nil))) (pa_cons (pe_tup (pa_cons (pv 4) (pa_cons (pv 4) pa_nil))) (pa_cons (pe_tup (pa_cons (pv 5) (pa_cons (pv 4) pa_nil))) pa_nil))))) (pe_call (G_law_draw T Z) (hr.mono (by decide)) rfl T.g_law_draw T.k_law_draw Z.b_law_draw .nil pass0 (pa_cons (pv 0) (pa_cons pe_int pa_nil))) (fun _ _ => rfl)) pa_nil))))))
    (pss_cons (ps_for PassesOwn.never rfl (pi_range1 rfl T.n_range (pa_cons (pe_call (G_law_draw T Z) (hr.mono (by decide)) rfl T.g_law_draw T.k_law_draw Z.b_law_draw .nil pass0 (pa_cons (pv 0) (pa_cons (pe_op op_addU (pv 1) pe_int) pa_nil))) pa_nil)) (pg_name (i := 6) sc_law_town.nd rfl (by first | exact Or.inl rfl | exact Or.inr rfl)) (pss_cons (ps_set (i := 7) sc_law_town.nd rfl (by first | exact Or.inl rfl | exact Or.inr rfl) (pe_tup (pa_cons (pe_call (G_law_draw T Z) (hr.mono (by decide)) rfl T.g_law_draw T.k_law_draw Z.b_law_draw .nil pass0 (pa_cons (pv 0) (pa_cons (pv 2) pa_nil))) (pa_cons (pe_call (G_law_draw T Z) (hr.mono (by decide)) rfl T.g_law_draw T.k_law_draw Z.b_law_draw .nil pass0 (pa_cons (pv 0) (pa_cons (pv 2) pa_nil))) pa_nil))))
    (pss_one (ps_expr (pe_bm PySem.F.plainAttrs_list PySem.F.slot_list_append PySem.F.type_list_append mt_append (pv 3) (pa_cons (pe_ix (kx_ix (K := K) rfl) (pe_lst (pa_cons (pv 7) (pa_cons (pv 7) (pa_cons (pe_ix (kx_ix (K := K) rfl) (pv 3) (pe_call (G_law_draw T Z) (hr.mono (by decide)) rfl T.g_law_draw T.k_law_draw Z.b_law_draw .nil pass0 (pa_cons (pv 0) (pa_cons (pe_callB (kx_len (K := K) rfl) (by rfl) T.n_len (by decide +kernel) (pa_cons (pv 3) pa_nil)) pa_nil))) (fun _ _ => rfl)) (pa_cons (pe_tup (pa_cons (pe_ix (kx_ix (K := K) rfl) (pv 7) pe_int (fun _ _ => rfl)) (pa_cons (pe_ix (kx_ix (K := K) rfl) (pv 7) pe_int (fun _ _ => rfl)) pa_nil))) pa_nil))))) (pe_call (G_law_draw T Z) (hr.mono (by decide)) rfl T.g_law_draw T.k_law_draw Z.b_law_draw .nil pass0 (pa_cons (pv 0) (pa_cons pe_int pa_nil))) (fun _ _ => rfl)) pa_nil))))))
    (pss_one (ps_ret (pe_tup (pa_cons (pv 2) (pa_cons (pe_call (G_law_mixed T Z) (hr.mono (by decide)) rfl T.g_law_mixed T.k_law_mixed Z.b_law_mixed .nil pass0 (pa_cons (pv 0) (pa_cons (pv 3) pa_nil))) pa_nil))))))))), ?_⟩)
  obtain ⟨p, c, B, rfl, pu, hB, k⟩ := h
  have hD : Dom [p, c] H := pu.dom
  have jt : Jok [p, c] (fun _ => True) := jok_true
  have jp : ∀ {B : Nat}, Jok [p, c] (fun H => Pu p c B H ∧ True) := jok_and (Pu.jok (by simp) (by simp)) jt
  have s0 : SD (hid [p, c] H) [.at p, .d (.int 8), .no, .no, .no, .no, .no, .no] (L2.start ["purse", "bound", "many", "lines", "v", "near", "k", "pair"] [.ref p, .int 8]) :=
    sd_cons rfl (sd_cons (slok_d rfl) (sd_cons trivial (sd_cons trivial (sd_cons trivial (sd_cons trivial (sd_cons trivial (sd_cons trivial sd_nil)))))))
  refine ha_seq ?_
  refine ha_asgM (O := [p, c]) (J := fun H => Pu p c B H ∧ True) (P := fun d H => ∃ m : Int, (d = .int m ∧ 1 ≤ m ∧ m ≤ 8) ∧ Pu p c (B + 1) H)
    (em_op (ed_of jp ep_int) (Pb := fun a b H => (a = .int 1 ∧ ∃ r : Int, b = .int r ∧ 0 ≤ r ∧ r < 8) ∧ Pu p c (B + 1) H) (fun x => fun σ H hJ hD hS Q k => em_draw (J := fun _ => True) (i := 0) (n := 8) (by simp) (by simp) rfl (ed_of jp (ep_var (i := 1) rfl)) (by decide) (small4000 (by decide)) (by omega) (fun _ _ _ _ => trivial) σ H hJ.2 hD hS Q fun d v H' q => k d v H' ⟨⟨hJ.1, q.1⟩, q.2.1⟩)
      fun x y H q => by
        obtain ⟨⟨rfl, r, rfl, r0, r1⟩, q2⟩ := q
        exact ⟨_, rp_l (rp_int (g := fun i j => i + j)), fun H' hD e => ⟨1 + r, ⟨rfl, by omega, by omega⟩, (Pu.jok (by simp) (by simp)).ex hD e q2⟩⟩) ⟨pu, trivial⟩ hD s0 fun d v H1 hd d1 e1 hv s1 => ?_
  obtain ⟨m, ⟨rfl, m1, m8⟩, pu1⟩ := hd
  clear hv
  dsimp only at s1 ⊢
  refine ha_seq ⟨by decide, fun l hl => ?_⟩
  dsimp only [gName]
  obtain ⟨d2, e2, own2, lO⟩ := own_new d1 hl
  have lp : l ≠ p := fun z => lO (by simp [z])
  have lc : l ≠ c := fun z => lO (by simp [z])
  have pu2 : Pu p c (B + 1) (upd H1 l (.lst [])) := pu1.same (fun a ha => upd_ne ha) lp lc
  have s2 : SD (hid [l, p, c] (upd H1 l (.lst []))) [.at p, .d (.int 8), .d (.int m), .at l, .no, .no, .no, .no] _ := (s1.mono e2).set 3 (s := .at l) (o := some (.ref l)) rfl
  have jo : ∀ {B : Nat} {es : List PyData}, Jok [l, p, c] (fun H => Pu p c B H ∧ Own [l, p, c] l es H) := jok_and (Pu.jok (by simp) (by simp)) (Own.jok (by simp))
  have jo1 : ∀ {es : List PyData}, Jok [l, p, c] (Own [l, p, c] l es) := Own.jok (by simp)
  have kpo : ∀ {es : List PyData} (H H' : Hp), Kp p c H H' → Own [l, p, c] l es H → Own [l, p, c] l es H' := fun H H' kp z => Own.kp (by simp) (by simp) lp lc kp z
  refine ha_seq ?_
  refine dm_run2 (O := [l, p, c]) (J := fun H => Pu p c (B + 1) H ∧ Own [l, p, c] l [] H) (δ := [.at p, .d (.int 8), .d (.int m), .at l, .no, .no, .no, .no])
    (N := fun δ H => ∃ ls : List (Int × Int), (ls.length = m.toNat ∧ (∀ q ∈ ls, InN m q) ∧ (∀ v : Nat, v < m.toNat → ∃ q ∈ ls, q.1 = (v : Int) ∨ q.2 = v) ∧ ∃ s4 s5, δ = [.at p, .d (.int 8), .d (.int m), .at l, s4, s5, .no, .no]) ∧ Pu p c (B + 1 + 2 * m.toNat) H ∧ Own [l, p, c] l (ls.map pr) H)
    (dm_for (ix := [4]) (wp_rng1 (n := m) (ap_cons (ep_var (i := 2) rfl) ap_nil) (by omega)) jo
      (fun i δ H => ∃ ls : List (Int × Int), (ls.length = i ∧ (∀ q ∈ ls, InN m q) ∧ (∀ v : Nat, v < i → ∃ q ∈ ls, q.1 = (v : Int) ∨ q.2 = v) ∧ ∃ s4 s5, δ = [.at p, .d (.int 8), .d (.int m), .at l, s4, s5, .no, .no]) ∧ Pu p c (B + 1 + 2 * i) H ∧ Own [l, p, c] l (ls.map pr) H)
      (fun H h => ⟨[], ⟨rfl, by simp, fun v hv => by omega, _, _, rfl⟩, h⟩) (fun i δ1 H1 hi hI => ?_) fun δ1 H1 hI => hI) ⟨pu2, own2⟩ d2 s2 fun δ3 σ3 H3 n3 d3 e3 s3 => ?_
  · obtain ⟨ls, ⟨hl1, hl2, hl3, s4, s5, rfl⟩, hJ⟩ := hI
    refine ⟨_, _, gb_name, hJ, jo, ?_⟩
    refine dm_seq (N1 := fun δ H => ∃ x : Int, (0 ≤ x ∧ x < (i : Int) + 1 ∧ δ = [.at p, .d (.int 8), .d (.int m), .at l, .d (.int (i : Int)), .d (.int x), .no, .no]) ∧ Pu p c (B + 1 + 2 * i + 1) H ∧ Own [l, p, c] l (ls.map pr) H)
      (dm_asg (em_draw (J := Own [l, p, c] l (ls.map pr)) (i := 0) (n := (i : Int) + 1) (by simp) (by simp) rfl (ed_of jo (ep_op (ep_var (i := 4) (x := .int (i : Int)) rfl) ep_int (rp_l (rp_int (g := fun i j => i + j))))) (by omega) (small4000 (by omega)) (by omega) kpo) fun d H q => by
        obtain ⟨⟨r, rfl, r0, r1⟩, q2⟩ := q
        exact ⟨r, ⟨r0, r1, rfl⟩, q2⟩) fun δ1 => dm_ex fun x => dm_fact ?_
    rintro ⟨x0, x1, rfl⟩
    refine dm_append (l := l) (i := 3) (ds := ls.map pr) (em_ixDraw (ds := [pr (x, (i : Int)), pr ((i : Int), x), pr ((i : Int), (i : Int)), pr (x, (i : Int))]) (J := Own [l, p, c] l (ls.map pr)) (i := 0) (n := 4) (by simp) (by simp) rfl jo1
      (ed_of jo (ep_lst (ap_cons (ep_tup (ap_cons (ep_var (i := 5) rfl) (ap_cons (ep_var (i := 4) rfl) ap_nil)) (by simp)) (ap_cons (ep_tup (ap_cons (ep_var (i := 4) rfl) (ap_cons (ep_var (i := 5) rfl) ap_nil)) (by simp)) (ap_cons (ep_tup (ap_cons (ep_var (i := 4) rfl) (ap_cons (ep_var (i := 4) rfl) ap_nil)) (by simp)) (ap_cons (ep_tup (ap_cons (ep_var (i := 5) rfl) (ap_cons (ep_var (i := 4) rfl) ap_nil)) (by simp)) ap_nil)))) (by simp)))
      (ed_of jo ep_int) (by decide) (small4000 (by decide)) (by simp) (by omega) kpo) rfl (by simp) (fun H h => by obtain ⟨vs, q1, _⟩ := h.2; exact ⟨vs, q1⟩) (fun d H h => h.2.2) (by rw [List.length_map]; omega) fun d H H' h he ho => ?_
    obtain ⟨hm, hpu, _⟩ := h
    have : ∃ q : Int × Int, d = pr q ∧ InN m q ∧ (q.1 = (i : Int) ∨ q.2 = i) := by
      have hi' : (i : Int) < m := by omega
      simp only [List.mem_cons, List.not_mem_nil, or_false] at hm
      rcases hm with rfl | rfl | rfl | rfl
      · exact ⟨_, rfl, ⟨x0, by show x < m; omega, by show (0 : Int) ≤ (i : Int); omega, hi'⟩, .inr rfl⟩
      · exact ⟨_, rfl, ⟨by show (0 : Int) ≤ (i : Int); omega, hi', x0, by show x < m; omega⟩, .inl rfl⟩
      · exact ⟨_, rfl, ⟨by show (0 : Int) ≤ (i : Int); omega, hi', by show (0 : Int) ≤ (i : Int); omega, hi'⟩, .inl rfl⟩
      · exact ⟨_, rfl, ⟨x0, by show x < m; omega, by show (0 : Int) ≤ (i : Int); omega, hi'⟩, .inr rfl⟩
    obtain ⟨q, rfl, hq1, hq2⟩ := this
    refine ⟨ls ++ [q], ⟨by simp [hl1], fun q' hq' => ?_, fun v hv => ?_, _, _, rfl⟩, (hpu.same he lp lc).mono (by omega), by rw [List.map_append]; exact ho⟩
    · rcases List.mem_append.mp hq' with z | z
      · exact hl2 q' z
      · simp at z; rw [z]; exact hq1
    · by_cases e : v = i
      · subst e
        exact ⟨q, by simp, hq2⟩
      · obtain ⟨q', z1, z2⟩ := hl3 v (by omega)
        exact ⟨q', by simp [z1], z2⟩
  obtain ⟨ls, ⟨hl1, hl2, hl3, s4, s5, rfl⟩, pu3, own3⟩ := n3
  dsimp only
  refine ha_seq ?_
  refine dm_run2 (O := [l, p, c]) (J := fun H => Pu p c (B + 1 + 2 * m.toNat) H ∧ Own [l, p, c] l (ls.map pr) H) (δ := [.at p, .d (.int 8), .d (.int m), .at l, s4, s5, .no, .no])
    (N := fun δ H => ∃ ls : List (Int × Int), ((1 ≤ ls.length ∧ ls.length ≤ 16) ∧ (∀ q ∈ ls, InN m q) ∧ (∀ v : Nat, v < m.toNat → ∃ q ∈ ls, q.1 = (v : Int) ∨ q.2 = v) ∧ ∃ s6 s7, δ = [.at p, .d (.int 8), .d (.int m), .at l, s4, s5, s6, s7]) ∧ Pu p c (B + 50) H ∧ Own [l, p, c] l (ls.map pr) H)
    (dm_forE (ix := [6]) (P := fun n H => n ≤ 8 ∧ Pu p c (B + 2 + 2 * m.toNat) H ∧ Own [l, p, c] l (ls.map pr) H) (we_rng (em_draw (J := Own [l, p, c] l (ls.map pr)) (i := 0) (n := 9) (by simp) (by simp) rfl (ed_of jo (ep_op (ep_var (i := 1) rfl) ep_int (rp_l (rp_int (g := fun i j => i + j))))) (by decide) (small4000 (by decide)) (by omega) kpo) fun d H q => by
        obtain ⟨⟨r, rfl, r0, r1⟩, q1, q2⟩ := q
        exact ⟨r.toNat, by congr 1; omega, by omega, by omega, q1.mono (by omega), q2⟩)
      (fun n i δ H => ∃ ls : List (Int × Int), (n ≤ 8 ∧ (ls.length = m.toNat + i) ∧ (∀ q ∈ ls, InN m q) ∧ (∀ v : Nat, v < m.toNat → ∃ q ∈ ls, q.1 = (v : Int) ∨ q.2 = v) ∧ ∃ s6 s7, δ = [.at p, .d (.int 8), .d (.int m), .at l, s4, s5, s6, s7]) ∧ Pu p c (B + 2 + 2 * m.toNat + 4 * i) H ∧ Own [l, p, c] l (ls.map pr) H)
      (fun n H h => ⟨ls, ⟨h.1, by omega, hl2, hl3, _, _, rfl⟩, h.2⟩) (fun n i δ1 H1 hi hI => ?_) fun n δ1 H1 hI => ?_) ⟨pu3, own3⟩ d3 s3 fun δ4 σ4 H4 n4 d4 e4 s4' => ?_
  · obtain ⟨ls, ⟨hn8, hl1, hl2, hl3, s6, s7, rfl⟩, hJ⟩ := hI
    refine ⟨_, _, gb_name, hJ, jo, ?_⟩
    have dm1 : ∀ (B' : Nat), B' ≤ 1000000 → ∀ {δ : List Sl}, δ.getD 0 .no = .at p → δ.getD 2 .no = .d (.int m) → EM [l, p, c] (fun H => Pu p c B' H ∧ Own [l, p, c] l (ls.map pr) H) (tCall spDraw [] E0 (tCons (tVar 0) (tCons (tVar 2) tNil))) δ
        (fun d H => (∃ r : Int, d = .int r ∧ 0 ≤ r ∧ r < m) ∧ Pu p c (B' + 1) H ∧ Own [l, p, c] l (ls.map pr) H) := fun B' hB' {δ} h0 h2 =>
      em_draw (J := Own [l, p, c] l (ls.map pr)) (i := 0) (n := m) (by simp) (by simp) h0 (ed_of jo (ep_var (i := 2) h2)) m1 (small4000 (by omega)) hB' kpo
    refine dm_seq (N1 := fun δ H => ∃ q : Int × Int, (InN m q ∧ δ = [.at p, .d (.int 8), .d (.int m), .at l, s4, s5, .d (.int (i : Int)), .d (pr q)]) ∧ Pu p c (B + 2 + 2 * m.toNat + 4 * i + 2) H ∧ Own [l, p, c] l (ls.map pr) H)
      (dm_asg (em_tup (P' := fun d H => ∃ q : Int × Int, (InN m q ∧ d = pr q) ∧ Pu p c (B + 2 + 2 * m.toNat + 4 * i + 2) H ∧ Own [l, p, c] l (ls.map pr) H)
        (am_cons (P2 := fun a bs H => ∃ b, ((∃ r : Int, a = .int r ∧ 0 ≤ r ∧ r < m) ∧ bs = [b] ∧ ∃ r : Int, b = .int r ∧ 0 ≤ r ∧ r < m) ∧ Pu p c (B + 2 + 2 * m.toNat + 4 * i + 2) H ∧ Own [l, p, c] l (ls.map pr) H) (dm1 _ (by omega) rfl rfl)
          fun a σ H hJ hD hS Q k => am_cons (P2 := fun b cs H => cs = [] ∧ (∃ r : Int, b = .int r ∧ 0 ≤ r ∧ r < m) ∧ Pu p c (B + 2 + 2 * m.toNat + 4 * i + 1 + 1) H ∧ Own [l, p, c] l (ls.map pr) H) (dm1 _ (by omega) rfl rfl) (fun b => am_nil fun H h => ⟨rfl, h⟩) σ H hJ.2 hD hS Q fun ds vs H' q => by
            obtain ⟨b, cs, rfl, rfl, q2⟩ := q
            exact k [b] vs H' ⟨b, ⟨hJ.1, rfl, q2.1⟩, q2.2⟩)
        (fun ds H q => by obtain ⟨a, bs, rfl, b, ⟨_, rfl, _⟩, _⟩ := q; simp) fun ds H H' q hD e => by
          obtain ⟨a, bs, rfl, b, ⟨⟨r, rfl, r0, r1⟩, rfl, r', rfl, r0', r1'⟩, q2⟩ := q
          exact ⟨(r, r'), ⟨⟨r0, r1, r0', r1'⟩, rfl⟩, jo.ex hD e q2⟩) fun d H q => by
        obtain ⟨q, ⟨hq, rfl⟩, q2⟩ := q
        exact ⟨q, ⟨hq, rfl⟩, q2⟩) fun δ1 => dm_ex fun q => dm_fact ?_
    rintro ⟨hq, rfl⟩
    have hlen : 1 ≤ ls.length ∧ ls.length ≤ 16 := by omega
    have il : ((ls.map pr).length : Int) = (ls.length : Int) := by rw [List.length_map]
    refine dm_append (l := l) (i := 3) (ds := ls.map pr) (P := fun d H => (∃ ds, (∃ x ∈ ls.map pr, ds = [pr q, pr q, x, pr (q.1, q.1)]) ∧ d ∈ ds) ∧ Pu p c (B + 2 + 2 * m.toNat + 4 * i + 4) H ∧ Own [l, p, c] l (ls.map pr) H)
      (em_ixDraw2 (B := B + 2 + 2 * m.toNat + 4 * i + 3) (J := Own [l, p, c] l (ls.map pr)) (S := fun ds => ∃ x ∈ ls.map pr, ds = [pr q, pr q, x, pr (q.1, q.1)]) (i := 0) (n := 4) (by simp) (by simp) rfl jo1
        (em_lst (P := fun ds H => (∃ x ∈ ls.map pr, ds = [pr q, pr q, x, pr (q.1, q.1)]) ∧ Pu p c (B + 2 + 2 * m.toNat + 4 * i + 3) H ∧ Own [l, p, c] l (ls.map pr) H)
          (fun σ H hJ hD hS Q k => am_cons (ed_of jo (ep_var (i := 7) rfl)) (P2 := fun a r H => a = pr q ∧ ∃ x ∈ ls.map pr, r = [pr q, x, pr (q.1, q.1)] ∧ Pu p c (B + 2 + 2 * m.toNat + 4 * i + 3) H ∧ Own [l, p, c] l (ls.map pr) H)
            (fun a σ H hJ hD hS Q k => am_cons (ed_of jo (ep_var (i := 7) rfl)) (P2 := fun a r H => a = pr q ∧ ∃ x ∈ ls.map pr, r = [x, pr (q.1, q.1)] ∧ Pu p c (B + 2 + 2 * m.toNat + 4 * i + 3) H ∧ Own [l, p, c] l (ls.map pr) H)
              (fun a σ H hJ hD hS Q k => am_cons (em_ixOwnDraw (J2 := fun _ => True) (i := 0) (i2 := 3) (B := B + 2 + 2 * m.toNat + 4 * i + 2) (n := (ls.length : Int)) (l := l) (by simp) (by simp) (by simp) lp lc rfl rfl jok_true
                  (ed_is (ed_lenOwn (J0 := fun _ => True) (ds := ls.map pr) (i := 3) rfl fun H h => h.2.1) (by rw [List.length_map])) (by omega) (small4000 (by omega)) (by rw [List.length_map]; omega) (by omega) fun _ _ _ _ => trivial)
                (P2 := fun x r H => (x ∈ ls.map pr ∧ r = [pr (q.1, q.1)]) ∧ Pu p c (B + 2 + 2 * m.toNat + 4 * i + 3) H ∧ Own [l, p, c] l (ls.map pr) H)
                (fun x σ H hJ hD hS Q k => am_cons (ed_of jo (ep_tup (ap_cons (ep_op (ep_var (i := 7) rfl) ep_int (rp_ix2 (rp_ixT (j := 0) rfl rfl))) (ap_cons (ep_op (ep_var (i := 7) rfl) ep_int (rp_ix2 (rp_ixT (j := 0) rfl rfl))) ap_nil)) (by simp))) (P2 := fun y r H => (y = pr (q.1, q.1) ∧ r = []) ∧ Pu p c (B + 2 + 2 * m.toNat + 4 * i + 3) H ∧ Own [l, p, c] l (ls.map pr) H)
                  (fun y => am_nil fun H h => ⟨⟨h.1, rfl⟩, h.2⟩) σ H ⟨hJ.2.1, hJ.2.2.1⟩ hD hS Q fun ds vs H' z => by
                    obtain ⟨d, ds, rfl, ⟨rfl, rfl⟩, z2⟩ := z
                    exact k _ vs H' ⟨⟨hJ.1, rfl⟩, z2⟩) σ H ⟨hJ.2.1, hJ.2.2, trivial⟩ hD hS Q fun ds vs H' z => by
                    obtain ⟨d, ds, rfl, ⟨h1, rfl⟩, z2⟩ := z
                    exact k _ vs H' ⟨hJ.1, d, h1, rfl, z2⟩) σ H hJ.2 hD hS Q fun ds vs H' z => by
                    obtain ⟨d, ds, rfl, rfl, x, hx, rfl, z2⟩ := z
                    exact k _ vs H' ⟨hJ.1, x, hx, rfl, z2⟩) σ H hJ hD hS Q fun ds vs H' z => by
                    obtain ⟨d, ds, rfl, rfl, x, hx, rfl, z2⟩ := z
                    exact k _ vs H' ⟨⟨x, hx, rfl⟩, z2⟩)
          (fun ds H h => by obtain ⟨⟨x, _, rfl⟩, _⟩ := h; simp) fun ds H H' h hD e => ⟨ds, rfl, h.1, jo.ex hD e h.2⟩)
        (ed_of jo ep_int) (by decide) (small4000 (by decide)) (fun ds h => by obtain ⟨x, _, rfl⟩ := h; simp) (by omega) kpo) rfl (by simp) (fun H h => by obtain ⟨vs, q1, _⟩ := h.2; exact ⟨vs, q1⟩) (fun d H h => h.2.2) (by rw [List.length_map]; omega) fun d H H' h he ho => ?_
    obtain ⟨⟨ds, ⟨x, hx, rfl⟩, hm⟩, hpu, _⟩ := h
    have : ∃ q' : Int × Int, d = pr q' ∧ InN m q' := by
      simp only [List.mem_cons, List.not_mem_nil, or_false] at hm
      rcases hm with rfl | rfl | rfl | rfl
      · exact ⟨_, rfl, hq⟩
      · exact ⟨_, rfl, hq⟩
      · obtain ⟨q', hq', rfl⟩ := List.mem_map.mp hx
        exact ⟨q', rfl, hl2 q' hq'⟩
      · exact ⟨_, rfl, hq.1, hq.2.1, hq.1, hq.2.1⟩
    obtain ⟨q', rfl, hq'⟩ := this
    refine ⟨ls ++ [q'], ⟨hn8, by simp [hl1]; omega, fun q2 hq2 => ?_, fun v hv => ?_, _, _, rfl⟩, (hpu.same he lp lc).mono (by omega), by rw [List.map_append]; exact ho⟩
    · rcases List.mem_append.mp hq2 with z | z
      · exact hl2 q2 z
      · simp at z; rw [z]; exact hq'
    · obtain ⟨q2, z1, z2⟩ := hl3 v hv
      exact ⟨q2, by simp [z1], z2⟩
  · obtain ⟨ls, ⟨hn8, hl1, hl2, hl3, h4⟩, hpu, ho⟩ := hI
    exact ⟨ls, ⟨⟨by omega, by omega⟩, hl2, hl3, h4⟩, hpu.mono (by omega), ho⟩
  obtain ⟨ls, ⟨⟨l1, l16⟩, hl2, hl3, s6, s7, rfl⟩, pu4, own4⟩ := n4
  dsimp only
  obtain ⟨dl, ex4⟩ := own_data lO own4
  have s5' := s4'.mono ex4
  have dm4 : Dom [p, c] H4 := pu4.dom
  obtain ⟨vm, hvm, hvm2⟩ := s5'.var (i := 2) rfl
  refine ⟨vm, hvm, .ref p, s5'.loc (i := 0) rfl, .ref l, s5'.loc (i := 3) rfl, [p, c], p, c, B + 50, ls.map pr, .ref l, rfl, by simp, by simp, dm4, pu4, by rw [List.length_map]; omega, dl, by rw [List.length_map]; omega, fun ds' u H5 hpe kp5 pu5 hu => ?_⟩
  refine ⟨by show 2 ≤ sizeLine; decide, fun t ht => ?_⟩
  have hmap : ds' = (ds'.map toPair).map pr := by
    rw [List.map_map]
    refine (List.map_id ds').symm.trans (List.map_congr_left fun d hd => ?_)
    obtain ⟨q, _, rfl⟩ := List.mem_map.mp ((hpe.mem_iff).mp hd)
    rfl
  have hmem : ∀ q, q ∈ ds'.map toPair ↔ q ∈ ls := fun q => by
    rw [((hpe.map toPair).mem_iff), toPairs]
  have hlen : (ds'.map toPair).length = ls.length := by rw [List.length_map, hpe.length_eq, List.length_map]
  have kp14 : Kp p c H H4 := fun a o h1 h2 q => by
    have z1 := e1 a o (by rw [hid_out (by simp [h1, h2])]; exact q)
    have z2 := e2 a o z1
    have z3 := e3 a o z2
    exact (hid_some (e4 a o z3)).2
  have hk5 : Kp p c H (upd H5 t (.tup [vm, u])) := (kp14.trans kp5).trans (Kp.of (Ex.new ht))
  have dm5 := pu5.dom
  have ht2 : t ∉ [p, c] := dm5.fresh ht
  refine k m (ds'.map toPair) (.ref t) _ (town_of ⟨m1, m8⟩ ⟨by omega, by omega⟩ (fun q hq => hl2 q ((hmem q).mp hq)) fun v hv => ?_) hk5 ?_ ?_
  · obtain ⟨q, z1, z2⟩ := hl3 v (by omega)
    exact ⟨q, (hmem q).mpr z1, z2⟩
  · exact (pu5.same (fun a ha => upd_ne ha) (fun z => ht2 (by simp [z])) (fun z => ht2 (by simp [z]))).mono (by rw [List.length_map]; omega)
  · unfold townD
    rw [← hmap]
    cases hvm2
    exact ⟨t, [.int m, u], rfl, by rw [hid_out ht2]; exact upd_same, .int m, [u], rfl, rfl, u, [], rfl, Dt.mono (hid_ex (Ex.new ht)) _ _ hu, rfl⟩
end
end K04
namespace K04
open PySem L2 PySem.Spec PyProof.Rows Cp
open Evl (Ex)
section
variable {w : World} {K : PySem.W.Frag} {mg : Str → Option Value} {base : Heap} {A : Ad}
def waD (x : Str × (Nat × Nat)) : PyData := .tuple [.str x.1, enD x.2]
def standD (ps : List (Nat × Nat)) (ws : List (Str × (Nat × Nat))) : PyData := .tuple [.list (ps.map enD), .list (ws.map waD)]
def ltS (a b : Str) : Prop := a.cps.toList < b.cps.toList
structure StandOk (n : Int) (rs : List (Int × Int)) (ps : List (Nat × Nat)) (ws : List (Str × (Nat × Nat))) : Prop where
  pl : ps.length = n.toNat
  pv : ∀ v, v < ps.length → (ps.getD v (0, 0)).1 < rs.length ∧ (ps.getD v (0, 0)).2 < 2 ∧ spotOf rs (ps.getD v (0, 0)) = (v : Int)
  wl : ws.length ≤ 4
  wv : ∀ x ∈ ws, nameOk x.1 = true ∧ x.2.1 < rs.length ∧ x.2.2 < 2
  ris : (ws.map (·.1)).Pairwise ltS
def titles : List Str := ["a", "ann", "bo", "cy", "zed", "eighteen", "z", "step", "about", "fjlprsuv", "wxkm"]
theorem titles_ok : (∀ t ∈ titles, nameOk t = true) ∧ titles.Nodup := by decide +kernel
theorem rising_pair : ∀ {r : List Str} {p : Str}, risingS p r = true → (p :: r).Nodup → (p :: r).Pairwise ltS
  | [], p, _, _ => by simp
  | x :: r, p, h, hn => by
    have h : (!ltCps x.cps.toList p.cps.toList && risingS x r) = true := h
    rw [Bool.and_eq_true] at h
    have ih := rising_pair h.2 (List.nodup_cons.mp hn).2
    have hpx : ltS p x := by
      have h1 := h.1
      rw [ltCps_eq] at h1
      have h2 : ¬ (x.cps.toList < p.cps.toList) := by simpa using h1
      have hne : p.cps.toList ≠ x.cps.toList := fun z => by
        have : p = x := by
          cases p; cases x
          simp only [Array.toList_inj] at z
          rw [z]
        exact (List.nodup_cons.mp hn).1 (by rw [this]; simp)
      by_cases z : p.cps.toList < x.cps.toList
      · exact z
      · exact absurd (List.le_antisymm h2 z) hne
    refine List.pairwise_cons.mpr ⟨fun y hy => ?_, ih⟩
    rcases List.mem_cons.mp hy with rfl | hy
    · exact hpx
    · exact List.lt_trans hpx ((List.pairwise_cons.mp ih).1 y hy)
theorem sorted_pair {ys : List Str} (h : sortedS ys = true) (hn : ys.Nodup) : ys.Pairwise ltS := by
  cases ys with
  | nil => simp
  | cons p r => exact rising_pair h hn
theorem mem_endsL {rs : List (Int × Int)} {v : Int} {d : PyData} (h : d ∈ endsL rs v) : ∃ e : Nat × Nat, d = enD e ∧ e.1 < rs.length ∧ e.2 < 2 ∧ spotOf rs e = v := by
  unfold endsL rows2 at h
  obtain ⟨i, hi, h⟩ := List.mem_flatMap.mp h
  obtain ⟨j, hj, h⟩ := List.mem_filterMap.mp h
  unfold endRow at h
  split at h
  · cases h
    exact ⟨(i, j), rfl, by simpa using hi, by simpa using hj, by assumption⟩
  · cases h
theorem endsL_len (rs : List (Int × Int)) (v : Int) (h : rs.length ≤ 16) : (endsL rs v).length ≤ 100 := by
  have := rows2_le (m := fun _ => 2) (f := endRow rs v) (b := 2) rs.length fun _ _ => Nat.le_refl _
  unfold endsL
  omega
theorem cut_take {ds : List PyData} {r : Int} (h : 0 ≤ r) : Cp.cutD ds none (some r) = ds.take r.toNat := by
  unfold Cp.cutD
  have e : HT.sIx ds.length ds.length (some r) = min r.toNat ds.length := by
    have := HT.sIx_nat ds.length ds.length r.toNat
    rwa [show ((r.toNat : Nat) : Int) = r by omega] at this
  rw [e]
  show (ds.drop 0).take (min r.toNat ds.length - 0) = _
  rw [List.drop_zero, Nat.sub_zero]
  rw [List.take_eq_take_iff]
  omega
def spStandG : Sp := fun vs H Q _ => ∃ (p c : Addr) (B : Nat) (n : Int) (rs : List (Int × Int)) (v : V) (bd : Int), vs = [.ref p, v, .int bd] ∧ 0 ≤ bd ∧ bd ≤ 4 ∧ Pu p c B H ∧ B + 60 ≤ 1000000 ∧ TownOk n rs ∧ Dt (hid [p, c] H) (townD n rs) v ∧
  ∀ ps ws u H', StandOk n rs ps ws → Kp p c H H' → Pu p c (B + 60) H' → Dt (hid [p, c] H') (standD ps ws) u → Q u H'
theorem ep_lEnds {O : List Addr} {δ : List Sl} {te tn : TE} {n : Int} {rs : List (Int × Int)} {v : Int} {E : XK} (h : Cp.EP O te δ (townD n rs)) (hn : Cp.EP O tn δ (.int v)) (h16 : rs.length ≤ 16) :
    Cp.EP O (tCall (spP 2 (fun ds => isTownish (ds.getD 0 .none) ∧ ∃ v, ds.getD 1 .none = .int v) fun ds => .list (endsL (roadsOf (ds.getD 0 .none)) (match ds.getD 1 .none with | .int v => v | _ => 0))) [] E (tCons te (tCons tn tNil))) δ (.list (endsL rs v)) :=
  ep_is (ep_call (ds := [townD n rs, .int v]) (ap_cons h (ap_cons hn ap_nil)) rfl ⟨⟨_, rs, rfl, h16⟩, v, rfl⟩) (by show PyData.list (endsL (roadsOf (townD n rs)) v) = _; rw [show roadsOf (townD n rs) = rs from toPairs rs])
theorem ep_lFlip {O : List Addr} {δ : List Sl} {te : TE} {e : Nat × Nat} {E : XK} (h : Cp.EP O te δ (enD e)) (h2 : e.2 < 2) : Cp.EP O (tCall (spP 1 (fun ds => isEnd0 (ds.getD 0 .none)) fun ds => flipD (toEn (ds.getD 0 .none))) [] E (tCons te tNil)) δ (enD (e.1, 1 - e.2)) :=
  ep_is (ep_call (f := fun ds => flipD (toEn (ds.getD 0 .none))) (ds := [enD e]) (ap_cons h ap_nil) rfl ⟨e, rfl⟩) (by
    show flipD (toEn (enD e)) = _
    rw [toEn_enD]
    unfold flipD enD
    congr 3
    show PyData.int (1 - (e.2 : Int)) = .int ((1 - e.2 : Nat) : Int)
    congr 1
    omega)
theorem ends_ok {n : Int} {rs : List (Int × Int)} (h : TownOk n rs) {v : Nat} (hv : v < n.toNat) : 1 ≤ (endsL rs (v : Int)).length := by
  have z := h.ends v hv
  cases c : endsL rs (v : Int) with
  | nil => rw [c] at z; cases z
  | cons _ _ => simp
theorem list_of {P : Nat → PyData → Prop} {Q : Nat → Nat × Nat → Prop} (h : ∀ i d, P i d → ∃ e, d = enD e ∧ Q i e) : ∀ (ds : List PyData) (k : Nat), (∀ i, i < ds.length → P (k + i) (ds.getD i .none)) → ∃ ps : List (Nat × Nat), ds = ps.map enD ∧ ps.length = ds.length ∧ ∀ i, i < ps.length → Q (k + i) (ps.getD i (0, 0))
  | [], k, _ => ⟨[], rfl, rfl, fun i hi => by simp at hi⟩
  | d :: ds, k, hd => by
    obtain ⟨e, rfl, he⟩ := h _ _ (hd 0 (by simp))
    obtain ⟨ps, h1, h2, h3⟩ := list_of h ds (k + 1) fun i hi => by
      have := hd (i + 1) (by simp; omega)
      rwa [show k + (i + 1) = k + 1 + i by omega] at this
    refine ⟨e :: ps, by rw [List.map_cons, ← h1], by simp [h2], fun i hi => ?_⟩
    match i with
    | 0 => exact he
    | i + 1 =>
      have := h3 i (by simp at hi; omega)
      rw [show k + (i + 1) = k + 1 + i by omega]
      exact this
theorem G_law_standing (T : Txt K mg A) (Z : Fns K A) : FnOk prg w K mg base CX0 3 A.a_law_standing Z.fd_law_standing ["purse", "town", "bound"] (spStandG) := by
  refine Fun.ok Z.F_law_standing sc_law_standing (fun vs H Q E h => by obtain ⟨p, c, B, n, rs, v, bd, rfl, _⟩ := h; rfl) (fun cdv Ar outer s H vs Q E hr h => ⟨_, (pss_cons (ps_setLc (i := 3) (own := [("v", 4)]) rfl sc_law_standing.nd rfl rfl (sw_true rfl rfl rfl (by decide +kernel)) (pi_range1 rfl T.n_range (pa_cons (pe_ix (kx_ix (K := K) rfl) (pv 1) pe_int (fun _ _ => rfl)) pa_nil)) (blkOk_by (own := [("v", 4)]) (N := ["purse", "town", "bound", "posts", "v", "titles_here", "names_here", "walkers", "name", "some"]) (sc := defScope s_law_standing) (by decide +kernel)) (fun _ _ _ _ _ => (pg_name (i := 4) sc_law_standing.nd rfl (by first | exact Or.inl rfl | exact Or.inr rfl))) (fun _ _ _ _ _ => pts_nil) (fun _ _ _ _ _ => (pe_call (G_law_pick T Z) (hr.mono (by decide)) rfl T.g_law_pick T.k_law_pick Z.b_law_pick .nil pass0 (pa_cons (pv 0) (pa_cons (pe_call (G_law_ends T Z) (hr.mono (by decide)) rfl T.g_law_ends T.k_law_ends Z.b_law_ends .nil pass0 (pa_cons (pv 1) (pa_cons (pv 4) pa_nil))) pa_nil)))))
    (pss_cons (ps_set (i := 5) sc_law_standing.nd rfl (by first | exact Or.inl rfl | exact Or.inr rfl) (pe_lst (pa_cons pe_str (pa_cons pe_str (pa_cons pe_str (pa_cons pe_str (pa_cons pe_str (pa_cons pe_str (pa_cons pe_str (pa_cons pe_str (pa_cons pe_str (pa_cons pe_str (pa_cons pe_str pa_nil)))))))))))))
    (pss_cons (ps_set (i := 6) sc_law_standing.nd rfl (by first | exact Or.inl rfl | exact Or.inr rfl) (pe_slice (kx_sl (K := K) rfl) (pe_call (G_law_mixed T Z) (hr.mono (by decide)) rfl T.g_law_mixed T.k_law_mixed Z.b_law_mixed .nil pass0 (pa_cons (pv 0) (pa_cons (pv 5) pa_nil))) po_none (po_some (pe_call (G_law_draw T Z) (hr.mono (by decide)) rfl T.g_law_draw T.k_law_draw Z.b_law_draw .nil pass0 (pa_cons (pv 0) (pa_cons (pe_op op_addU (pv 2) pe_int) pa_nil))))))
    (pss_cons (ps_set (i := 7) sc_law_standing.nd rfl (by first | exact Or.inl rfl | exact Or.inr rfl) (pe_lst pa_nil))
    (pss_cons (ps_for PassesOwn.never rfl (kx_list (K := K) rfl (pe_callB (kx_sortedS (K := K) rfl cr_sortedS) (by rfl) T.n_sorted (by decide +kernel) (pa_cons (pv 6) pa_nil))) (pg_name (i := 8) sc_law_standing.nd rfl (by first | exact Or.inl rfl | exact Or.inr rfl)) (pss_cons (ps_set (i := 4) sc_law_standing.nd rfl (by first | exact Or.inl rfl | exact Or.inr rfl) (pe_call (G_law_draw T Z) (hr.mono (by decide)) rfl T.g_law_draw T.k_law_draw Z.b_law_draw .nil pass0 (pa_cons (pv 0) (pa_cons (pe_ix (kx_ix (K := K) rfl) (pv 1) pe_int (fun _ _ => rfl)) pa_nil))))
    (pss_cons (ps_set (i := 9) sc_law_standing.nd rfl (by first | exact Or.inl rfl | exact Or.inr rfl) (pe_lst (pa_cons (pe_ix (kx_ix (K := K) rfl) (pv 3) (pv 4) (fun _ _ => rfl)) (pa_cons (pe_call (G_law_flip T Z) (hr.mono (by decide)) rfl T.g_law_flip T.k_law_flip Z.b_law_flip .nil pass0 (pa_cons (pe_ix (kx_ix (K := K) rfl) (pv 3) (pv 4) (fun _ _ => rfl)) pa_nil)) (pa_cons (pe_call (G_law_pick T Z) (hr.mono (by decide)) rfl T.g_law_pick T.k_law_pick Z.b_law_pick .nil pass0 (pa_cons (pv 0) (pa_cons (pe_call (G_law_ends T Z) (hr.mono (by decide)) rfl T.g_law_ends T.k_law_ends Z.b_law_ends .nil pass0 (pa_cons (pv 1) (pa_cons (pv 4) pa_nil))) pa_nil))) pa_nil)))))
    (pss_cons (ps_expr (pe_bm PySem.F.plainAttrs_list PySem.F.slot_list_append PySem.F.type_list_append mt_append (pv 7) (pa_cons (pe_tup (pa_cons (pv 8) (pa_cons (pe_ix (kx_ix (K := K) rfl) (pv 9) (pe_call (G_law_draw T Z) (hr.mono (by decide)) rfl T.g_law_draw T.k_law_draw Z.b_law_draw .nil pass0 (pa_cons (pv 0) (pa_cons pe_int pa_nil))) (fun _ _ => rfl)) pa_nil))) pa_nil)))
    (pss_one (ps_if (pt_cmpR (kx_eq (K := K) rfl hr.units) (pe_call (G_law_draw T Z) (hr.mono (by decide)) rfl T.g_law_draw T.k_law_draw Z.b_law_draw .nil pass0 (pa_cons (pv 0) (pa_cons pe_int pa_nil))) pe_int (nomark _)) (pss_one (ps_asg (pe_tup (pa_cons (pv 8) (pa_cons (pe_tup (pa_cons (pe_call (G_law_draw T Z) (hr.mono (by decide)) rfl T.g_law_draw T.k_law_draw Z.b_law_draw .nil pass0 (pa_cons (pv 0) (pa_cons (pe_callB (kx_len (K := K) rfl) (by rfl) T.n_len (by decide +kernel) (pa_cons (pe_ix (kx_ix (K := K) rfl) (pv 1) pe_int (fun _ _ => rfl)) pa_nil)) pa_nil))) (pa_cons (pe_call (G_law_draw T Z) (hr.mono (by decide)) rfl T.g_law_draw T.k_law_draw Z.b_law_draw .nil pass0 (pa_cons (pv 0) (pa_cons pe_int pa_nil))) pa_nil))) pa_nil))) (pg_sub (pv 7) (pe_un un_neg pe_int) set_list))) pss_nil))))))
    (pss_one (ps_ret (pe_tup (pa_cons (pv 3) (pa_cons (pv 7) pa_nil)))))))))), ?_⟩)
  obtain ⟨p, c, B, n, rs, v, bd, rfl, b0, b4, pu, hB, hT, hv, k⟩ := h
  have hD : Dom [p, c] H := pu.dom
  have V : Keep [p, c] p c (fun _ => True) := keep0
  have n18 : 1 ≤ n ∧ n ≤ 8 := ⟨hT.n1, hT.n8⟩
  have r16 : 1 ≤ rs.length ∧ rs.length ≤ 16 := ⟨hT.r1, hT.r16⟩
  have s0 : SD (hid [p, c] H) [.at p, .d (townD n rs), .d (.int bd), .no, .no, .no, .no, .no, .no, .no] (L2.start ["purse", "town", "bound", "posts", "v", "titles_here", "names_here", "walkers", "name", "some"] [.ref p, v, .int bd]) :=
    sd_cons rfl (sd_cons (slok_d hv) (sd_cons (slok_d rfl) (sd_cons trivial (sd_cons trivial (sd_cons trivial (sd_cons trivial (sd_cons trivial (sd_cons trivial (sd_cons trivial sd_nil)))))))))
  have ix0 : ∀ {O : List Addr} {δ : List Sl}, δ.getD 1 .no = .d (townD n rs) → Cp.EP O (tOp (rIx K) (tVar 1) (tC (.int 0))) δ (.int n) := fun h => ep_op (ep_var h) ep_int (rp_ix2 (rp_ixT (j := 0) rfl rfl))
  have ix1 : ∀ {O : List Addr} {δ : List Sl}, δ.getD 1 .no = .d (townD n rs) → Cp.EP O (tOp (rIx K) (tVar 1) (tC (.int 1))) δ (.list (rs.map pr)) := fun h => ep_op (ep_var h) ep_int (rp_ix2 (rp_ixT (j := 1) rfl rfl))
  have fin : ∀ {te : TE} {N : List Sl → Hp → Prop}, True := trivial
  refine dm_run (O := [p, c]) (J := PJ p c (fun _ => True) B) (δ := [.at p, .d (townD n rs), .d (.int bd), .no, .no, .no, .no, .no, .no, .no]) (N := fun _ _ => False)
    (R := RV [p, c] p c (fun _ => True) (B + 60) (fun d => ∃ ps ws, d = standD ps ws ∧ StandOk n rs ps ws)) ?_ ⟨pu, trivial⟩ hD s0 (fun _ _ _ z => z.elim) (fun u H' r _ e' => ?_)
  rotate_left
  · obtain ⟨d, ⟨⟨ps, ws, rfl, hok⟩, hj⟩, hdu⟩ := r
    refine k ps ws u H' hok (fun a o h1 h2 q => ?_) hj.1 hdu
    exact (hid_some (e' a o (by rw [hid_out (by simp [h1, h2])]; exact q))).2
  -- the posts
  refine dt_asg (P := fun d => ∃ ps : List (Nat × Nat), d = .list (ps.map enD) ∧ ps.length = n.toNat ∧ ∀ i, i < ps.length → (ps.getD i (0, 0)).1 < rs.length ∧ (ps.getD i (0, 0)).2 < 2 ∧ spotOf rs (ps.getD i (0, 0)) = (i : Int)) (b' := B + 8)
    (et_more (et_imp (et_lcD V (k := 1) (n := n.toNat) (ix := [4]) (vs := [4]) (Pi := fun i d => ∃ e : Nat × Nat, d = enD e ∧ e.1 < rs.length ∧ e.2 < 2 ∧ spotOf rs e = (i : Int)) (fun O' => wp_rng1 (n := n) (ap_cons (ix0 rfl) ap_nil) (by omega)) (by omega) (by decide) (fun σ H Q h => h) (fun _ _ _ _ _ _ => trivial) fun D hDO ds i hi => ⟨_, gb_name, fun V2 => ?_⟩)
      fun d hd => ?_) (by omega)) ?_
  · refine et_imp (et_pick V2 (S := fun ds => ds = endsL rs (i : Int)) rfl (et_pure V2 (ep_lEnds (ep_var (i := 1) rfl) (ep_var (i := 4) (x := .int (i : Int)) rfl) r16.2) ⟨_, rfl, ⟨ends_ok hT hi, Nat.le_trans (endsL_len rs _ r16.2) (by decide)⟩, rfl⟩) (by show B + 1 * i ≤ 1000000; omega)) fun d hd => ?_
    obtain ⟨ds, rfl, hm⟩ := hd
    exact mem_endsL hm
  · obtain ⟨ds, rfl, hl, hall⟩ := hd
    obtain ⟨ps, h1, h2, h3⟩ := list_of (P := fun i d => ∃ e : Nat × Nat, d = enD e ∧ e.1 < rs.length ∧ e.2 < 2 ∧ spotOf rs e = (i : Int)) (Q := fun i e => e.1 < rs.length ∧ e.2 < 2 ∧ spotOf rs e = (i : Int)) (fun _ _ h => h) ds 0 fun i hi => by
      rw [Nat.zero_add]
      exact hall i (by omega)
    refine ⟨ps, by rw [h1], by omega, fun i hi => ?_⟩
    have := h3 i hi
    rwa [Nat.zero_add] at this
  rintro _ ⟨ps, rfl, hpl, hpv⟩
  -- the names
  refine dt_asg (P := fun d => d = .list (titles.map PyData.str)) (b' := B + 8) (et_pure V (ep_lst (ds := titles.map PyData.str) (ap_cons ep_str (ap_cons ep_str (ap_cons ep_str (ap_cons ep_str (ap_cons ep_str (ap_cons ep_str (ap_cons ep_str (ap_cons ep_str (ap_cons ep_str (ap_cons ep_str (ap_cons ep_str ap_nil))))))))))) (by decide)) rfl) ?_
  rintro _ rfl
  refine dt_asg (P := fun d => ∃ xs : List Str, d = .list (xs.map PyData.str) ∧ xs.length ≤ 4 ∧ xs.Nodup ∧ ∀ x ∈ xs, x ∈ titles) (b' := B + 20) (et_more (et_imp (et_sl V (S := fun ds => ds.Perm (titles.map PyData.str)) (et_mixed (i := 0) V rfl (ep_var (i := 5) rfl) (by decide) (by show B + 8 + 11 ≤ _; omega)) ot_none (ot_some (Pi := fun r => 0 ≤ r ∧ r < bd + 1) (et_draw V (i := 0) (m := bd + 1) rfl (et_pure V (ep_op (ep_var (i := 2) (x := .int bd) rfl) ep_int (rp_l (rp_int (g := fun i j => i + j)))) rfl) (by omega) (by omega) (by show B + 8 + 11 ≤ _; omega)))) fun d hd => ?_) (by show B + 8 + 11 + 1 ≤ _; omega)) ?_
  · obtain ⟨ds, lo, hi, rfl, hpe, rfl, r, rfl, r0, r1⟩ := hd
    rw [cut_take r0]
    have hmem : ∀ d ∈ ds.take r.toNat, ∃ t ∈ titles, d = .str t := fun d hd => by
      have := hpe.mem_iff.mp (List.mem_of_mem_take hd)
      obtain ⟨t, ht, rfl⟩ := List.mem_map.mp this
      exact ⟨t, ht, rfl⟩
    have hstr : ∀ es : List PyData, (∀ d ∈ es, ∃ t ∈ titles, d = .str t) → ∃ xs : List Str, es = xs.map PyData.str ∧ ∀ x ∈ xs, x ∈ titles := by
      intro es
      induction es with
      | nil => exact fun _ => ⟨[], rfl, by simp⟩
      | cons e es ih =>
        intro h
        obtain ⟨t, ht, rfl⟩ := h e (by simp)
        obtain ⟨xs, h1, h2⟩ := ih fun d hd => h d (by simp [hd])
        exact ⟨t :: xs, by rw [h1]; rfl, fun x hx => by
          rcases List.mem_cons.mp hx with rfl | hx
          · exact ht
          · exact h2 x hx⟩
    obtain ⟨xs, h1, h2⟩ := hstr _ hmem
    refine ⟨xs, by rw [h1], ?_, ?_, h2⟩
    · have := congrArg List.length h1
      rw [List.length_take, List.length_map] at this
      omega
    · have hnd : (titles.map PyData.str).Nodup := List.Pairwise.map _ (fun a b hab z => hab (by injection z)) titles_ok.2
      have hnd2 : (ds.take r.toNat).Nodup := (hpe.symm.nodup hnd).sublist (List.take_sublist _ _)
      rw [h1] at hnd2
      exact (List.pairwise_map.mp hnd2).imp fun h z => h (by rw [z])
  rintro _ ⟨xs, rfl, hx4, hxn, hxt⟩
  -- the walkers
  refine dt_newL V (fun _ _ _ _ _ _ => trivial) fun l nw => ?_
  have VL : ∀ {ds : List PyData}, Keep (l :: [p, c]) p c (JL [p, c] (fun _ => True) l ds) := nw.keep V
  refine dm_seq (N1 := fun δ H => ∃ ws : List (Str × (Nat × Nat)), (StandOk n rs ps ws ∧ ∃ s4 s8 s9, δ = [.at p, .d (townD n rs), .d (.int bd), .d (.list (ps.map enD)), s4, .d (.list (titles.map PyData.str)), .d (.list (xs.map PyData.str)), .at l, s8, s9]) ∧ PJ p c (JL [p, c] (fun _ => True) l (ws.map waD)) (B + 60) H)
    (dm_forD (ix := [8]) (wd_et (S := fun ds => ∃ ys : List Str, ds = ys.map PyData.str ∧ ys.Perm xs ∧ sortedS ys = true) (et_imp (et_sortedS VL (xs := xs) (ep_var (i := 6) rfl) (by omega)) fun d hd => by
        obtain ⟨ys, rfl, h⟩ := hd
        exact ⟨_, rfl, ys, rfl, h⟩))
      (fun ds i δ H => ∃ ws : List (Str × (Nat × Nat)), ((∃ ys : List Str, ds = ys.map PyData.str ∧ (ys.Perm xs ∧ sortedS ys = true) ∧ ws.map (·.1) = ys.take i) ∧ ws.length = i ∧ (∀ x ∈ ws, x.2.1 < rs.length ∧ x.2.2 < 2) ∧ ∃ s4 s8 s9, δ = [.at p, .d (townD n rs), .d (.int bd), .d (.list (ps.map enD)), s4, .d (.list (titles.map PyData.str)), .d (.list (xs.map PyData.str)), .at l, s8, s9]) ∧ PJ p c (JL [p, c] (fun _ => True) l (ws.map waD)) (B + 20 + 6 * i) H)
      (fun ds H h => ?_) (fun ds i δ1 H1 hi hI => ?_) fun ds δ1 H1 hI => ?_) fun δ1 => dm_ex fun ws => dm_fact ?_
  · obtain ⟨⟨ys, rfl, h1⟩, hj⟩ := h
    exact ⟨[], ⟨⟨ys, rfl, h1, rfl⟩, rfl, by simp, _, _, _, rfl⟩, hj⟩
  · obtain ⟨ws, ⟨⟨ys, rfl, hys, htk⟩, hlen, hwv, s4, s8, s9, rfl⟩, hJ⟩ := hI
    have hi : i < ys.length := by simpa using hi
    have hy4 : ys.length ≤ 4 := by rw [hys.1.length_eq]; exact hx4
    refine ⟨_, _, gb_name, hJ, VL.jok, ?_⟩
    have hnm : (ys.map PyData.str).getD i .none = .str (ys.getD i (Str.ofString "")) := by
      rw [List.getD_eq_getElem?_getD, List.getElem?_map, List.getElem?_eq_getElem hi, List.getD_eq_getElem?_getD, List.getElem?_eq_getElem hi]
      rfl
    rw [hnm]
    generalize hnmE : ys.getD i (Str.ofString "") = nm
    have hnx : ∀ e : Nat × Nat, (ws ++ [(nm, e)]).map (·.1) = ys.take (i + 1) := fun e => by
      rw [List.map_append, htk, List.take_succ, List.getElem?_eq_getElem hi, ← hnmE, List.getD_eq_getElem?_getD, List.getElem?_eq_getElem hi]
      rfl
    refine dt_asg (i := 4) (P := fun d => ∃ r : Int, d = .int r ∧ 0 ≤ r ∧ r < n) (b' := B + 20 + 6 * i + 1) (et_draw VL (i := 0) (m := n) rfl (et_pure VL (ix0 rfl) rfl) (by omega) (by omega) (by omega)) ?_
    rintro _ ⟨r, rfl, r0, r1⟩
    obtain ⟨vv, rfl⟩ : ∃ vv : Nat, r = (vv : Int) := ⟨r.toNat, by omega⟩
    have hvp : vv < ps.length := by omega
    obtain ⟨g1, g2, g3⟩ := hpv vv hvp
    have hpost : ∀ {O : List Addr} {δ : List Sl}, δ.getD 3 .no = .d (.list (ps.map enD)) → δ.getD 4 .no = .d (.int (vv : Int)) → Cp.EP O (tOp (rIx K) (tVar 3) (tVar 4)) δ (enD (ps.getD vv (0, 0))) := fun h3 h4 => ep_op (ep_var h3) (ep_var h4) (rp_ix1 (rp_ixL (j := vv) (ixN_nat (by rw [List.length_map]; exact hvp)) (by
      rw [List.getElem?_map, List.getElem?_eq_getElem hvp, List.getD_eq_getElem?_getD, List.getElem?_eq_getElem hvp]
      rfl)))
    let EndP : PyData → Prop := fun d => ∃ e : Nat × Nat, d = enD e ∧ e.1 < rs.length ∧ e.2 < 2
    refine dt_asg (i := 9) (P := fun d => ∃ ds, d = .list ds ∧ ds.length = 3 ∧ ∀ x ∈ ds, EndP x) (b' := B + 20 + 6 * i + 2)
      (et_lst VL (Pl := fun ds => ds.length = 3 ∧ ∀ x ∈ ds, EndP x)
        (at_cons (P2l := fun _ ds => ds.length = 2 ∧ ∀ x ∈ ds, EndP x) (P1 := EndP) (et_pure VL (hpost rfl rfl) ⟨_, rfl, g1, g2⟩)
          (fun _ _ => at_cons (P2l := fun _ ds => ds.length = 1 ∧ ∀ x ∈ ds, EndP x) (P1 := EndP) (et_pure VL (ep_lFlip (hpost rfl rfl) g2) ⟨_, rfl, g1, by show 1 - _ < 2; omega⟩)
            (fun _ _ => at_cons (P2l := fun _ ds => ds = []) (P1 := EndP) (et_imp (et_pick VL (S := fun ds => ds = endsL rs (vv : Int)) rfl (et_pure VL (ep_lEnds (ep_var (i := 1) rfl) (ep_var (i := 4) (x := .int (vv : Int)) rfl) r16.2) ⟨_, rfl, ⟨ends_ok hT (by omega), Nat.le_trans (endsL_len rs _ r16.2) (by decide)⟩, rfl⟩) (by omega)) fun d hd => by
              obtain ⟨ds, rfl, hm⟩ := hd
              obtain ⟨e, h1, h2, h3, _⟩ := mem_endsL hm
              exact ⟨e, h1, h2, h3⟩) (fun _ _ => at_nil VL rfl) fun x r h1 h2 => by subst h2; exact ⟨rfl, fun y hy => by simp at hy; rw [hy]; exact h1⟩)
            fun x r h1 h2 => ⟨by simp [h2.1], fun y hy => by
              rcases List.mem_cons.mp hy with rfl | hy
              · exact h1
              · exact h2.2 y hy⟩)
          fun x r h1 h2 => ⟨by simp [h2.1], fun y hy => by
            rcases List.mem_cons.mp hy with rfl | hy
            · exact h1
            · exact h2.2 y hy⟩) (fun ds h => by rw [h.1]; decide) fun ds h => ⟨ds, rfl, h⟩) ?_
    rintro _ ⟨sm, rfl, hsm, hsme⟩
    refine dt_append (i := 7) (b' := B + 20 + 6 * i + 3) (P := fun d => ∃ e : Nat × Nat, d = waD (nm, e) ∧ e.1 < rs.length ∧ e.2 < 2) nw (et_pair VL (P1 := fun d => d = .str nm) (P2 := EndP) (et_pure VL (ep_var (i := 8) rfl) rfl) (et_imp (et_at VL (n := 3) (S := fun ds => ∀ x ∈ ds, EndP x) (et_pure VL (ep_var (i := 9) rfl) ⟨sm, rfl, hsm, hsme⟩) (et_draw VL (i := 0) (m := 3) rfl (et_pure VL ep_int rfl) (by decide) (by decide) (by omega))) fun d hd => by
        obtain ⟨ds, h1, h2⟩ := hd
        exact h1 d h2) fun x y h1 h2 => by
        obtain ⟨e, rfl, h⟩ := h2
        subst h1
        exact ⟨e, rfl, h⟩) rfl (by rw [List.length_map]; omega) ?_
    rintro _ ⟨e, rfl, he1, he2⟩
    have hmp : ws.map waD ++ [waD (nm, e)] = (ws ++ [(nm, e)]).map waD := by rw [List.map_append]; rfl
    rw [hmp]
    have hwv2 : ∀ e : Nat × Nat, e.1 < rs.length → e.2 < 2 → ∀ x ∈ ws ++ [(nm, e)], x.2.1 < rs.length ∧ x.2.2 < 2 := fun e h1 h2 x hx => by
      rcases List.mem_append.mp hx with hx | hx
      · exact hwv x hx
      · simp at hx; rw [hx]; exact ⟨h1, h2⟩
    have done : ∀ (e : Nat × Nat) (H : Hp) (b : Nat), e.1 < rs.length → e.2 < 2 → b ≤ B + 20 + 6 * (i + 1) → PJ p c (JL [p, c] (fun _ => True) l ((ws ++ [(nm, e)]).map waD)) b H → ∃ ws' : List (Str × (Nat × Nat)), ((∃ ys' : List Str, ys.map PyData.str = ys'.map PyData.str ∧ (ys'.Perm xs ∧ sortedS ys' = true) ∧ ws'.map (·.1) = ys'.take (i + 1)) ∧ ws'.length = i + 1 ∧ (∀ x ∈ ws', x.2.1 < rs.length ∧ x.2.2 < 2) ∧ ∃ s4 s8 s9, ([.at p, .d (townD n rs), .d (.int bd), .d (.list (ps.map enD)), .d (.int (vv : Int)), .d (.list (titles.map PyData.str)), .d (.list (xs.map PyData.str)), .at l, .d (.str nm), .d (.list sm)] : List Sl) = [.at p, .d (townD n rs), .d (.int bd), .d (.list (ps.map enD)), s4, .d (.list (titles.map PyData.str)), .d (.list (xs.map PyData.str)), .at l, s8, s9]) ∧ PJ p c (JL [p, c] (fun _ => True) l (ws'.map waD)) (B + 20 + 6 * (i + 1)) H := fun e H b h1 h2 hb hj =>
      ⟨ws ++ [(nm, e)], ⟨⟨ys, rfl, hys, hnx e⟩, by simp [hlen], hwv2 e h1 h2, _, _, _, rfl⟩, hj.1.mono hb, hj.2⟩
    refine dm_if (P := fun _ H => PJ p c (JL [p, c] (fun _ => True) l ((ws ++ [(nm, e)]).map waD)) (B + 20 + 6 * i + 4) H) (tm_test (et_op VL (P1 := fun d => ∃ r : Int, d = .int r ∧ 0 ≤ r ∧ r < 2) (P2 := fun d => d = .int 0) (et_draw VL (i := 0) (m := 2) rfl (et_pure VL ep_int rfl) (by decide) (by decide) (by omega)) (et_pure VL ep_int rfl) fun x y h1 h2 => by
        obtain ⟨r, rfl, _⟩ := h1
        subst h2
        exact ⟨_, rp_eqD (shaped_int _) (shaped_int _), _, rfl⟩)) ?_ (dm_next fun H hj => done e H _ he1 he2 (by omega) hj)
    have hlast : ixN ((ws ++ [(nm, e)]).map waD).length (-1) = some ws.length := by
      rw [List.length_map, List.length_append]
      unfold ixN
      rw [if_neg (by decide), if_pos (by show -((ws.length + 1 : Nat) : Int) ≤ -1; omega)]
      congr 1
      show (-1 + ((ws.length + 1 : Nat) : Int)).toNat = _
      omega
    refine dm_setI (i := 7) (b1 := B + 20 + 6 * i + 6) (b' := B + 20 + 6 * i + 6) (M := fun m => m = ws.length) (P := fun d => ∃ e : Nat × Nat, d = waD (nm, e) ∧ e.1 < rs.length ∧ e.2 < 2) nw (et_pair VL (P1 := fun d => d = .str nm) (P2 := EndP) (et_pure VL (ep_var (i := 8) rfl) rfl)
        (et_pair VL (P1 := fun d => ∃ r : Int, d = .int r ∧ 0 ≤ r ∧ r < (rs.length : Int)) (P2 := fun d => ∃ r : Int, d = .int r ∧ 0 ≤ r ∧ r < 2) (et_draw VL (i := 0) (m := (rs.length : Int)) rfl (et_pure VL (ep_len (ix1 rfl) (Or.inl ⟨rs.map pr, rfl, by simp⟩)) rfl) (by omega) (by omega) (by omega))
          (et_draw VL (i := 0) (m := 2) rfl (et_pure VL ep_int rfl) (by decide) (by decide) (by omega)) fun x y h1 h2 => by
            obtain ⟨r1, rfl, a0, a1⟩ := h1
            obtain ⟨r2, rfl, c0, c1⟩ := h2
            exact ⟨(r1.toNat, r2.toNat), by unfold enD; congr 3 <;> (congr 1; omega), by show r1.toNat < _; omega, by show r2.toNat < 2; omega⟩) fun x y h1 h2 => by
        obtain ⟨e, rfl, h⟩ := h2
        subst h1
        exact ⟨e, rfl, h⟩) rfl (et_pure VL (ep_neg ep_int) ⟨-1, ws.length, rfl, hlast, rfl⟩) fun d m H hd hm hml hj => ?_
    obtain ⟨e', rfl, q1, q2⟩ := hd
    subst hm
    have hset : ((ws ++ [(nm, e)]).map waD).set ws.length (waD (nm, e')) = (ws ++ [(nm, e')]).map waD := by
      rw [List.map_append, List.map_append, List.set_append_right _ _ (by rw [List.length_map]; exact Nat.le_refl _)]
      rw [List.length_map, Nat.sub_self]
      rfl
    rw [hset] at hj
    exact done e' H _ q1 q2 (by omega) hj
  · obtain ⟨ws, ⟨⟨ys, rfl, hys, htk⟩, hlen, hwv, s4, s8, s9, rfl⟩, hJ⟩ := hI
    have hlen : ws.length = ys.length := by simpa using hlen
    have hyl := hys.1.length_eq
    have htk2 : ws.map (·.1) = ys := by
      rw [htk, List.length_map, List.take_length]
    refine ⟨ws, ⟨⟨hpl, hpv, by omega, fun x hx => ⟨?_, hwv x hx⟩, ?_⟩, _, _, _, rfl⟩, hJ.1.mono (by rw [List.length_map]; omega), hJ.2⟩
    · have h1 : x.1 ∈ ys := by rw [← htk2]; exact List.mem_map.mpr ⟨x, hx, rfl⟩
      exact titles_ok.1 _ (hxt _ (hys.1.mem_iff.mp h1))
    · rw [htk2]
      exact sorted_pair hys.2 (hys.1.symm.nodup hxn)
  rintro ⟨hok, s4, s8, s9, rfl⟩
  exact rv_retL nw V (ep_var (i := 3) rfl) rfl ⟨ps, ws, rfl, hok⟩
end
end K04
/-! Cameposts: defs that draw: their promise in one form -/
namespace Cp
open PySem L2 PySem.Spec PyProof.Rows
open Evl (Ex)
/-- f(purse, data..): k draws at most, data of which post tells -/
def spD (m k : Nat) (pre : List PyData → Prop) (post : List PyData → PyData → Prop) : Sp := fun vs H Q _ => ∃ (O : List Addr) (p c : Addr) (B : Nat) (ds : List PyData) (us : List V), vs = .ref p :: us ∧ ds.length = m ∧ p ∈ O ∧ c ∈ O ∧ Dom O H ∧ Pu p c B H ∧ B + k ≤ 1000000 ∧ DtAll (hid O H) ds us ∧ pre ds ∧
  ∀ d u H', post ds d → Kp p c H H' → Pu p c (B + k) H' → Dt (hid O H') d u → Q u H'
theorem spD_len {m k : Nat} {pre : List PyData → Prop} {post : List PyData → PyData → Prop} {vs : List V} {H : Hp} {Q : VK} {E : XK} (h : spD m k pre post vs H Q E) : vs.length = m + 1 := by
  obtain ⟨O, p, c, B, ds, us, rfl, hm, _, _, _, _, _, hv, _⟩ := h
  simp [hv.length, hm]
section
variable {O : List Addr} {p c : Addr} {JO : Hp → Prop} {δ : List Sl} {ta : TA} {b b1 k m : Nat} {i : Nat} {E : XK} {pre : List PyData → Prop} {post : List PyData → PyData → Prop}
theorem dom_kp {p c : Addr} {B : Nat} {H H' : Hp} (hD : Dom O H) (kp : Kp p c H H') (pu : Pu p c B H') : Dom O H' := fun a ha => by
  by_cases z1 : a = p
  · obtain ⟨⟨_, _, z, _⟩, _⟩ := pu
    rw [z1, z]; simp
  by_cases z2 : a = c
  · obtain ⟨⟨_, _, _, z, _⟩, _⟩ := pu
    rw [z2, z]; simp
  cases z : H a with
  | none => exact absurd z (hD a ha)
  | some o => rw [kp a o z1 z2 z]; simp
/-- its call -/
theorem et_callD (V : Keep O p c JO) {Pl : List PyData → Prop} (hs : δ.getD i .no = .at p) (h : AT O p c JO b b1 ta δ Pl) (hm : ∀ ds, Pl ds → ds.length = m ∧ pre ds) (hB : b1 + k ≤ 1000000) :
    ET O p c JO b (b1 + k) (tCall (spD m k pre post) [] E (tCons (tVar i) ta)) δ (fun d => ∃ ds, Pl ds ∧ post ds d) := fun σ H hj hD hS Q kq =>
  ⟨.ref p, hS.loc hs, h σ H hj hD hS _ fun ds us H1 q d1 e1 hw => by
    obtain ⟨hl, hp⟩ := hm ds q.1
    exact ⟨O, p, c, b1, ds, us, by simp, hl, V.hp, V.hc, d1, q.2.1, hB, hw, hp, fun d u H2 hd kp pu hu => kq d u H2 ⟨⟨ds, q.1, hd⟩, pu, V.kp H1 H2 kp q.2.2⟩ (dom_kp d1 kp pu) (e1.trans (kp.hid V.hp V.hc)) hu⟩⟩
/-- its body -/
theorem drawn {B : Nat} {H : Hp} {Pq : PyData → Prop} {Q : VK} {Qn : L2.St → Hp → Prop} {t : TS} {σ : L2.St} (hp : p ∈ O) (hc : c ∈ O) (hD : Dom O H) (pu : Pu p c B H) (hS : SD (hid O H) δ σ)
    (h : ∀ JO, Keep O p c JO → (∀ l, l ∉ O → ∀ H H', (∀ a, a ≠ l → H' a = H a) → JO H → JO H') → DM O (PJ p c JO B) t δ (fun _ _ => False) (RV O p c JO (B + k) Pq))
    (kq : ∀ d u H', Pq d → Kp p c H H' → Pu p c (B + k) H' → Dt (hid O H') d u → Q u H') : t { nx := Qn, rt := Q } σ H := by
  have V : Keep O p c (fun H' => ∀ a ∈ O, a ≠ p → a ≠ c → H' a = H a) := ⟨hp, hc, fun A B e _ z a ha h1 h2 => (e a ha).trans (z a ha h1 h2), fun H1 H2 kp z a ha h1 h2 => by
    have := z a ha h1 h2
    cases q : H a with
    | none => exact absurd q (hD a ha)
    | some o => rw [q] at this; rw [kp a o h1 h2 this]⟩
  refine h _ V (fun l hl H1 H2 he z a ha h1 h2 => (he a fun q => hl (q ▸ ha)).trans (z a ha h1 h2)) σ H _ ⟨pu, fun _ _ _ _ => rfl⟩ hD hS (fun _ _ _ z => z.elim) fun u H' r d' e' => ?_
  obtain ⟨d, ⟨hd, hpu, hz⟩, hu⟩ := r
  refine kq d u H' hd (fun a o h1 h2 q => ?_) hpu hu
  by_cases ha : a ∈ O
  · rw [hz a ha h1 h2]; exact q
  · exact (hid_some (e' a o (by rw [hid_out ha]; exact q))).2
/-- x = list(te) -/
theorem dt_newOf {K : PySem.W.Frag} {u : TS} {te : TE} {ds : List PyData} {b' : Nat} {Pq : PyData → Prop} {N : List Sl → Hp → Prop} (V : Keep O p c JO) (hst : ∀ l, l ∉ O → ∀ H H', (∀ a, a ≠ l → H' a = H a) → JO H → JO H') (hd : Cp.EP O te δ (.list ds))
    (h : ∀ l, New O p c JO l → DM (l :: O) (PJ p c (JL O JO l ds) b) u (δ.set i (.at l)) (fun _ _ => False) (RV O p c JO b' Pq)) :
    DM O (PJ p c JO b) (tSeq (tAsg (tCB (fun xs H Q => ∃ p ys, xs = [.ref p] ∧ (SqL K H p ys ∨ SqT K H p ys) ∧ ∀ l, H l = none → Q (.ref l) (upd H l (.lst ys))) (tCons te tNil)) (gName i)) u) δ N (RV O p c JO b' Pq) := fun σ H D hJ hD hS kn kr =>
  hd σ H hD hS _ fun v H1 e1 hv => by
    obtain ⟨a, xs, rfl, q1, q2⟩ := hv
    refine ⟨a, xs, rfl, Or.inl (SqL.of (hid_some q1).2), fun l hl => ?_⟩
    have d1 := hD.ex e1
    have hJ1 := V.jok.ex hD e1 hJ
    obtain ⟨n1, n2, n3, lO⟩ := own_new2 d1 hl q2
    have np : l ≠ p := fun z => lO (z ▸ V.hp)
    have nc : l ≠ c := fun z => lO (z ▸ V.hc)
    have s1 : SD (hid (l :: O) (upd H1 l (.lst xs))) (δ.set i (.at l)) (σ.set i (some (.ref l))) := (hS.mono ((hid_ex e1).trans n2)).set i (s := .at l) (o := some (.ref l)) rfl
    refine h l ⟨lO, np, nc, hst l lO⟩ (σ.set i (some (.ref l))) (upd H1 l (.lst xs)) D ⟨hJ1.1.same (fun a ha => upd_ne ha) np nc, hst l lO H1 _ (fun a ha => upd_ne ha) hJ1.2, n3⟩ n1 s1 (fun _ _ _ z => z.elim) fun v H' r d' e' => kr v H' r (fun a ha => d' a (by simp [ha])) ((hid_ex e1).trans (n2.trans (e'.trans hid_less)))
end
theorem ep_listT {O : List Addr} {K : PySem.W.Frag} {δ : List Sl} {te : TE} {ds : List PyData} (h : Cp.EP O te δ (.tuple ds)) : Cp.EP O (tCB (fun xs H Q => ∃ p ys, xs = [.ref p] ∧ (SqL K H p ys ∨ SqT K H p ys) ∧ ∀ l, H l = none → Q (.ref l) (upd H l (.lst ys))) (tCons te tNil)) δ (.list ds) := fun σ H hD hS Q k =>
  h σ H hD hS _ fun v H1 e1 hv => by
    obtain ⟨a, xs, rfl, h1, h2⟩ := hv
    refine ⟨a, xs, rfl, Or.inr (SqT.of (hid_some h1).2), fun l hl => k (.ref l) _ (e1.trans (Ex.new hl)) ⟨l, xs, rfl, by rw [hid_out ((hD.ex e1).fresh hl)]; exact upd_same, h2.mono (hid_ex (Ex.new hl))⟩⟩
/-! bounds of what is within -/
theorem weight_mem : ∀ {ds : List PyData} {d : PyData}, d ∈ ds → d.weight + 1 ≤ PyData.weightAll ds
  | [], d, h => by cases h
  | x :: ds, d, h => by
    simp only [PyData.weightAll]
    rcases List.mem_cons.mp h with rfl | h
    · omega
    · have := weight_mem h
      omega
theorem weight_len : ∀ {ds : List PyData}, ds.length ≤ PyData.weightAll ds
  | [] => by simp
  | x :: ds => by
    have := weight_len (ds := ds)
    simp only [PyData.weightAll, List.length_cons]
    omega
end Cp
/-! Cameposts: dicts: made, read, changed, walked over; objects that are new -/
namespace Cp
open PySem L2 PySem.Spec PyProof.Rows
open Evl (Ex)
section
variable {X : Cx}
/-- y = {k: v for ..}, y a local of the def -/
theorem ps_setDc {i : Nat} {y : PySem.Str} {py spos : Pos} {kx vx ta ia : Expr} {ifs : List Expr} {scp : Scope} {own : List (PySem.Str × Nat)} {ps : Pos} {wa : TI} {ga : TG} {tt : TT} {tk tv : TE} (hcalm : X.calm = true) (hnd : X.N.Nodup) (hy : X.N[i]? = some y) (hyl : X.env.scope.names.lookup y = some .local)
    (hsw : swapsWith (.DictComp kx vx [⟨ta, ia, ifs, 0⟩] scp ps) (some (.Name y py)) spos.line X.env = pure true) (hwa : PI X ta ia wa) (bo : BlkOk X.N X.env.scope scp own)
    (hga : ∀ (st : Shared) (H : Hp) (C : Addr) (cl : List (PySem.Str × Addr)) (fp : List Addr), PG (X.blk st H scp (compEnvC scp cl C X.env) fp) ta ga)
    (htt : ∀ (st : Shared) (H : Hp) (C : Addr) (cl : List (PySem.Str × Addr)) (fp : List Addr), PTs (X.blk st H scp (compEnvC scp cl C X.env) fp) ifs tt)
    (htk : ∀ (st : Shared) (H : Hp) (C : Addr) (cl : List (PySem.Str × Addr)) (fp : List Addr), PE (X.blk st H scp (compEnvC scp cl C X.env) fp) kx tk)
    (htv : ∀ (st : Shared) (H : Hp) (C : Addr) (cl : List (PySem.Str × Addr)) (fp : List Addr), PE (X.blk st H scp (compEnvC scp cl C X.env) fp) vx tv)
    (hfa : ∀ x, foldedSetIterable ia X.env x = pure x := by intro _; rfl) :
    PS X (.Assign [.Name y py] (.DictComp kx vx [⟨ta, ia, ifs, 0⟩] scp ps) spos) (tAsg (tDc wa ga tt tk tv (own.map (·.2))) (gName i)) := by
  refine ⟨fun pins st σ H D I hq => ?_⟩
  rw [exec_Assign_Name_used _ _ _ _ hsw]
  refine wpAny_bind (wpAny_standAt (wpAny_bind ?_))
  show wpAny _ X.A (do let _ ← comprehension (.DictComp kx vx [⟨ta, ia, ifs, 0⟩] scp ps) scp X.env (firstIterPos [⟨ta, ia, ifs, 0⟩] ps) newDict false (eval ia X.env) (some (assign (.Name y py) X.env))) _ _ st
  have hq : tDc wa ga tt tk tv (own.map (·.2)) σ H (fun x H1 => gName i x σ H1 D.nx) := hq
  refine wpAny_bind (thn (dc_core (Qf := fun _ st' => SP X pins D .next st') hcalm hnd I hwa bo hga htt htk htv hfa hq fun L C st' m H' I' q hn f => ?_) fun _ st' z => wpAny_pure (wpAny_pure z))
  show wpAny _ _ (assign (.Name y py) X.env (.ref L)) _ _ _
  refine wpAny_assign_Name (store_ok2 (v := V.ref L) I' hnd hy (.inl hyl) rfl (fun st2 I2 ⟨a, sb, ha⟩ => ?_) (.inr hyl))
  obtain ⟨g0, g1, g2, g3, g4, g5⟩ := f
  have hne : C ≠ a := ha.elim (fun z => by rw [z]; exact g1) fun z e => g4 y a z e.symm
  exact ⟨m, hn.sameBut sb hne, fun h3 sb3 => ⟨_, H', I2.turned (t' := st2.toks) (fun b o hb e => (sb3.2 b hb).trans e) g0 g1 g3 g4 g5, q⟩⟩
end
section
variable {O : List Addr} {K : PySem.W.Frag} {δ : List Sl} {te tk tv td : TE} {J : Hp → Prop} {N : List Sl → Hp → Prop} {R : V → Hp → Prop} {u : TS} {x y d : PyData} {i : Nat}
/-- a, (b, c) = .. -/
theorem gb_pair {g1 g2 : TG} {δ1 δ2 : List Sl} {ix1 ix2 : List Nat} (h1 : GB O g1 x δ δ1 ix1) (h2 : GB O g2 y δ1 δ2 ix2) : GB O (gTup K 2 (gCons g1 (gCons g2 gNil))) (.tuple [x, y]) δ δ2 (ix1 ++ ix2) := fun σ H v hD hS hv Q k => by
  obtain ⟨a, xs, rfl, hz, v1, r1, rfl, q1, v2, r2, rfl, q2, q3⟩ := hv
  cases q3
  refine ⟨a, _, rfl, SqT.of (hid_some hz).2, rfl, v1, [v2], rfl, ?_⟩
  refine h1 σ H v1 hD hS q1 _ fun σ1 s1 l1 e1 => ⟨v2, [], rfl, ?_⟩
  refine h2 σ1 H v2 hD s1 q2 _ fun σ2 s2 l2 e2 => ⟨rfl, k σ2 s2 (l2.trans l1) fun j hj => ?_⟩
  simp only [List.mem_append, not_or] at hj
  rw [e2 j hj.2, e1 j hj.1]
/-! ### what is new -/
/-- te gives a new object; P: what of it, with it hidden -/
def EN (O : List Addr) (te : TE) (δ : List Sl) (P : Addr → Hp → Prop) : Prop := ∀ σ H, Dom O H → SD (hid O H) δ σ → ∀ Q : VK, (∀ a H', H a = none → Ex H H' → H' a ≠ none → P a H' → Q (.ref a) H') → te σ H Q
theorem en_lc {wi : TI} {g : TG} {tt : TT} {n : Nat} {item : Nat → PyData} {ix vs : List Nat} {f : Nat → Option PyData} (hw : ∀ O, WP O wi δ n item) (hn : n ≤ 100000) (hi : ∀ j ∈ ix, j ∈ vs)
    (hs : ∀ O i, i < n → ∃ δ2, GB O g (item i) (wipeS δ vs) δ2 ix ∧ TP O tt δ2 (f i).isSome ∧ ∀ y, f i = some y → EP O te δ2 y) : EN O (tLc wi g tt te vs) δ (fun a H => Own (a :: O) a ((List.range n).filterMap f) H) := fun σ H hD hS Q k => by
  refine hw O σ H hD hS _ fun Ji H1 e1 w => ?_
  intro D hDn
  have d1 := hD.ex e1
  have s1 := hS.mono (hid_ex e1)
  have dfr : D ∉ O := d1.fresh hDn
  refine lc_it w (fun i H' => Acc O H1 D ((List.range i).filterMap f) H') ⟨⟨[], upd_same, rfl⟩, fun a o ha q => by rw [upd_ne ha]; exact q⟩ (fun i H' _ p => (p.hid hDn).trans hid_le) (fun i v H' H2 hi' p y => ?_) fun H' p => ?_
  · obtain ⟨e2, hv⟩ := y
    have p2 := p.ex e2
    have d2 := p2.dom d1 hDn
    obtain ⟨δ2, hg, ht, he⟩ := hs (D :: O) i hi'
    have s2 : SD (Cp.hid (D :: O) H2) (wipeS δ vs) (L2.wipe σ vs) := (s1.wipe vs).mono (p2.hid hDn)
    refine hg _ H2 v d2 s2 (hv (D :: O) (p.hid hDn) (p.dom d1 hDn)) _ fun σ2 s3 hl hj => ⟨?_, ?_⟩
    · rw [wipe_same (vs := vs) hl hj hi]
      exact wipe_wipe σ vs vs fun _ h => h
    · refine ht σ2 H2 d2 s3 _ fun H3 e3 => ?_
      have p3 := p2.ex e3
      cases hf : f i with
      | none =>
        rw [if_neg (by simp)]
        show Acc O H1 D _ H3
        rw [filterMap_range_succ, hf]
        simpa using p3
      | some y =>
        rw [if_pos (by rfl)]
        refine he y hf σ2 H3 (d2.ex e3) (s3.mono (hid_ex e3)) _ fun u H4 e4 hu => ?_
        have p4 := p3.ex e4
        obtain ⟨⟨acc, q1, q2⟩, q3⟩ := id p4
        refine ⟨acc, q1, ?_, ?_⟩
        · rw [q2.length]
          exact Evl.sz_lt (Nat.lt_of_le_of_lt filterMap_le (by omega))
        · show Acc O H1 D _ _
          rw [filterMap_range_succ, hf]
          exact p4.push q1 hu
  · obtain ⟨⟨acc, q1, q2⟩, q3⟩ := id p
    exact k D H' (Evl.fresh_back e1 hDn) (e1.trans fun a o q => q3 a o (fun z => by rw [z, hDn] at q; cases q) q) (by rw [q1]; simp) ⟨acc, q1, q2⟩
/-- x = te, te new: it is owned from now on -/
theorem dm_new {P : Addr → Hp → Prop} (j : Jok O J) (h : EN O te δ P) (hu : ∀ a, a ∉ O → DM (a :: O) (fun H => P a H ∧ ∃ H0, J H0 ∧ Dom O H0 ∧ H0 a = none ∧ Ex H0 H) u (δ.set i (.at a)) (fun _ _ => False) R) : DM O J (tSeq (tAsg te (gName i)) u) δ N R := fun σ H D hJ hD hS kn kr =>
  h σ H hD hS _ fun a H1 ha e1 hne hp => by
    have aO : a ∉ O := hD.fresh ha
    have ex : Ex (hid O H) (hid (a :: O) H1) := fun b o q => by
      obtain ⟨q1, q2⟩ := hid_some q
      have : b ≠ a := fun z => by rw [z, ha] at q2; cases q2
      rw [hid_out (by simp [this, q1])]
      exact e1 b o q2
    refine hu a aO _ H1 D ⟨hp, H, hJ, hD, ha, e1⟩ (fun b hb => ?_) ((hS.mono ex).set i (s := .at a) (o := some (.ref a)) rfl) (fun _ _ _ z => z.elim) fun v H' r d' e' => kr v H' r (fun b hb => d' b (by simp [hb])) (ex.trans (e'.trans hid_less))
    rcases List.mem_cons.mp hb with rfl | hb
    · exact hne
    · exact (hD.ex e1) b hb
/-! ### dicts as data -/
theorem DtKV.get {H : Hp} : ∀ {kvs : List (PyData × PyData)} {l : List (Key × V)} {j : Nat} {q : Key} {d : PyData}, DtKV H kvs l → kvs[j]? = some (kD q, d) → (∀ m, m < j → ∀ p, kvs[m]? = some p → p.1 ≠ kD q) → ∃ v, valV l q = some v ∧ Dt H d v
  | [], l, j, q, d, h, e, _ => by simp at e
  | (k, d') :: r, l, 0, q, d, ⟨q', v, m, h1, h2, h3, h4⟩, e, _ => by
    subst h1
    simp at e
    obtain ⟨e1, rfl⟩ := e
    have : q' = q := by
      rw [e1] at h2
      cases q <;> cases q' <;> simp [kD] at h2 <;> simp [h2]
    subst this
    exact ⟨v, valV_pos rfl, h3⟩
  | (k, d') :: r, l, j + 1, q, d, ⟨q', v, m, h1, h2, h3, h4⟩, e, hno => by
    subst h1
    have hne : ¬ q' = q := fun z => hno 0 (by omega) (k, d') rfl (by rw [h2, z])
    obtain ⟨u, z1, z2⟩ := DtKV.get (j := j) h4 (by simpa using e) fun m hm p hp => hno (m + 1) (by omega) p (by simpa using hp)
    exact ⟨u, by rw [valV_neg hne]; exact z1, z2⟩
theorem dt_kD {H : Hp} {q : Key} {v : V} (h : Dt H (kD q) v) : v = kV q := by
  cases q with
  | inl i => exact h
  | inr s => exact h
theorem kD_dt {H : Hp} {q : Key} : Dt H (kD q) (kV q) := by
  cases q with
  | inl i => rfl
  | inr s => rfl
theorem kD_inj {a b : Key} (h : kD a = kD b) : a = b := by
  cases a <;> cases b <;> simp [kD] at h <;> simp [h]
/-- d[k] -/
theorem ep_dget {kvs : List (PyData × PyData)} {j : Nat} {q : Key} (h1 : Cp.EP O td δ (.dict kvs)) (h2 : Cp.EP O tk δ (kD q)) (hj : kvs[j]? = some (kD q, d)) (hno : ∀ m, m < j → ∀ p, kvs[m]? = some p → p.1 ≠ kD q) : Cp.EP O (tDGet td tk) δ d := fun σ H hD hS Q k =>
  h1 σ H hD hS _ fun v H1 e1 hv => h2 σ H1 (hD.ex e1) (hS.mono (hid_ex e1)) _ fun w H2 e2 hw => by
    obtain ⟨a, l, rfl, z1, z2⟩ := hv
    obtain ⟨u, z3, z4⟩ := (z2.mono (hid_ex e2)).get hj hno
    have hd := e2 _ _ (hid_some z1).2
    refine ⟨a, u, rfl, ?_, k u H2 (e1.trans e2) z4⟩
    rw [dt_kD hw, ← z3]
    exact DGet.k hd
/-- {k: v for ..}, no key twice -/
def AccD (O : List Addr) (H1 : Hp) (D : Addr) (kvs : List (PyData × PyData)) (H : Hp) : Prop :=
  (∃ l, H D = some (.dK l) ∧ DtKV (hid (D :: O) H) kvs l) ∧ ∀ a o, a ≠ D → H1 a = some o → H a = some o
theorem AccD.ex {H1 H H' : Hp} {D : Addr} {kvs : List (PyData × PyData)} (h : AccD O H1 D kvs H) (e : Ex H H') : AccD O H1 D kvs H' := by
  obtain ⟨⟨l, h1, h2⟩, h3⟩ := h
  exact ⟨⟨l, e _ _ h1, h2.mono (hid_ex e)⟩, fun a o ha q => e _ _ (h3 a o ha q)⟩
theorem AccD.dom {H1 H : Hp} {D : Addr} {kvs : List (PyData × PyData)} (h : AccD O H1 D kvs H) (d : Dom O H1) (hn : H1 D = none) : Dom (D :: O) H := by
  obtain ⟨⟨l, h1, h2⟩, h3⟩ := h
  intro a ha
  rcases List.mem_cons.mp ha with rfl | ha
  · rw [h1]; simp
  · cases q : H1 a with
    | none => exact absurd q (d a ha)
    | some o => rw [h3 a o (fun z => by rw [z, hn] at q; cases q) q]; simp
theorem AccD.hid {H1 H : Hp} {D : Addr} {kvs : List (PyData × PyData)} (h : AccD O H1 D kvs H) (hn : H1 D = none) : Ex (Cp.hid O H1) (Cp.hid (D :: O) H) := fun a o q => by
  obtain ⟨h1, h2⟩ := hid_some q
  have ha : a ≠ D := fun z => by rw [z, hn] at h2; cases h2
  rw [hid_out (by simp [ha, h1])]
  exact h.2 a o ha h2
theorem DtKV.snoc {H : Hp} {q : Key} {d : PyData} {v : V} (hd : Dt H d v) : ∀ {kvs : List (PyData × PyData)} {l : List (Key × V)}, DtKV H kvs l → DtKV H (kvs ++ [(kD q, d)]) (l ++ [(q, v)])
  | [], l, h => by cases h; exact ⟨q, v, [], rfl, rfl, hd, rfl⟩
  | (k, d') :: r, l, ⟨q', v', m, h1, h2, h3, h4⟩ => ⟨q', v', m ++ [(q, v)], by rw [h1]; rfl, h2, h3, DtKV.snoc hd h4⟩
theorem DtKV.none {H : Hp} {q : Key} : ∀ {kvs : List (PyData × PyData)} {l : List (Key × V)}, DtKV H kvs l → (∀ p ∈ kvs, p.1 ≠ kD q) → valV l q = none
  | [], l, h, _ => by cases h; rfl
  | (k, d') :: r, l, ⟨q', v', m, h1, h2, h3, h4⟩, hno => by
    subst h1
    have hne : ¬ q' = q := fun z => hno (k, d') (by simp) (by rw [h2, z])
    rw [valV_neg hne]
    exact DtKV.none h4 fun p hp => hno p (by simp [hp])
def kvL (n : Nat) (f : Nat → Key × PyData) : List (PyData × PyData) := (List.range n).map fun i => (kD (f i).1, (f i).2)
theorem kvL_succ {n : Nat} {f : Nat → Key × PyData} : kvL (n + 1) f = kvL n f ++ [(kD (f n).1, (f n).2)] := by
  unfold kvL
  rw [List.range_succ, List.map_append]
  rfl
theorem en_dc {wi : TI} {g : TG} {tt : TT} {n : Nat} {item : Nat → PyData} {ix vs : List Nat} {f : Nat → Key × PyData} (hw : ∀ O, WP O wi δ n item) (hn : n ≤ 100000) (hi : ∀ j ∈ ix, j ∈ vs) (htt : ∀ σ H Q, Q true H → tt σ H Q)
    (hne : ∀ a b, a < b → b < n → (f a).1 ≠ (f b).1)
    (hs : ∀ O i, i < n → ∃ δ2, GB O g (item i) (wipeS δ vs) δ2 ix ∧ Cp.EP O tk δ2 (kD (f i).1) ∧ Cp.EP O tv δ2 (f i).2) : EN O (tDc wi g tt tk tv vs) δ (fun a H => ∃ l, H a = some (.dK l) ∧ DtKV (Cp.hid (a :: O) H) (kvL n f) l) := fun σ H hD hS Q k => by
  refine hw O σ H hD hS _ fun Ji H1 e1 w => ?_
  intro D hDn
  have d1 := hD.ex e1
  have s1 := hS.mono (hid_ex e1)
  have dfr : D ∉ O := d1.fresh hDn
  refine ⟨fun i m H' => m = n - i ∧ i ≤ n ∧ AccD O H1 D (kvL i f) H', ⟨n, by simp, Nat.zero_le _, ⟨[], upd_same, rfl⟩, fun a o ha q => by rw [upd_ne ha]; exact q⟩, ?_⟩
  rintro i m H' ⟨rfl, hin, p⟩
  have pG : Ex (Cp.hid O H1) H' := (p.hid hDn).trans hid_le
  by_cases hlt : i < n
  · refine .inr ⟨w.goes i H' hlt pG, fun H'' => AccD O H1 D (kvL (i + 1) f) H'', fun H'' p' => ⟨n - (i + 1), by omega, rfl, hlt, p'⟩, fun v H2 yy => ?_⟩
    obtain ⟨e2, hvv⟩ := w.yields i H' v H2 hlt pG yy
    have p2 := p.ex e2
    have d2 := p2.dom d1 hDn
    obtain ⟨δ2, hg, hk, hv⟩ := hs (D :: O) i hlt
    have s2 : SD (Cp.hid (D :: O) H2) (wipeS δ vs) (L2.wipe σ vs) := (s1.wipe vs).mono (p2.hid hDn)
    refine hg _ H2 v d2 s2 (hvv (D :: O) (p.hid hDn) (p.dom d1 hDn)) _ fun σ2 s3 hl hj => ⟨?_, htt _ _ _ ?_⟩
    · rw [wipe_same (vs := vs) hl hj hi]
      exact wipe_wipe σ vs vs fun _ h => h
    · rw [if_pos rfl]
      refine hk σ2 H2 d2 s3 _ fun y H3 e3 hy => hv σ2 H3 (d2.ex e3) (s3.mono (hid_ex e3)) _ fun z H4 e4 hz => ?_
      have p4 := (p2.ex e3).ex e4
      obtain ⟨⟨l, q1, q2⟩, q3⟩ := id p4
      have hlen := q2.length
      have hll : l.length = i := by rw [hlen, kvL, List.length_map, List.length_range]
      have hnone : valV l (f i).1 = none := q2.none fun p hp => by
        obtain ⟨a, ha, rfl⟩ := List.mem_map.mp hp
        exact fun z => hne a i (by simpa using ha) hlt (kD_inj z)
      refine ⟨l, (f i).1, dt_kD hy, q1, by rw [hll]; exact Evl.sz_lt (by omega), ?_⟩
      rw [putK_new z hnone]
      have ex5 : Ex (Cp.hid (D :: O) H4) (Cp.hid (D :: O) (upd H4 D (.dK (l ++ [((f i).1, z)])))) := fun a o q => by
        obtain ⟨z1, z2⟩ := hid_some q
        rw [hid_out z1, upd_ne (fun z => z1 (by simp [z]))]
        exact z2
      exact ⟨⟨_, upd_same, by rw [kvL_succ]; exact (q2.mono ex5).snoc (Dt.mono ex5 _ _ hz)⟩, fun a o ha q => by rw [upd_ne ha]; exact q3 a o ha q⟩
  · have ei : i = n := by omega
    subst ei
    refine .inl ⟨w.stops H' pG, ?_⟩
    obtain ⟨⟨l, q1, q2⟩, q3⟩ := id p
    exact k D H' (Evl.fresh_back e1 hDn) (e1.trans fun a o q => q3 a o (fun z => by rw [z, hDn] at q; cases q) q) (by rw [q1]; simp) ⟨l, q1, q2⟩
end
end Cp
/-! Cameposts: readings of which only a relation is told; count, sorted pairs, in over data -/
namespace Cp
open PySem L2 PySem.Spec PyProof.Rows
open Evl (Ex)
/-- te gives data of which P tells, and changes nothing -/
def ER (O : List Addr) (te : TE) (δ : List Sl) (P : PyData → Prop) : Prop := ∀ σ H, Dom O H → SD (hid O H) δ σ → ∀ Q : VK, (∀ d v H', P d → Ex H H' → Dt (hid O H') d v → Q v H') → te σ H Q
/-- a def whose answer is told by a relation -/
def spR (n : Nat) (pre : List PyData → Prop) (post : List PyData → PyData → Prop) : Sp := fun vs H Q _ => ∃ (O : List Addr) (ds : List PyData), Dom O H ∧ ds.length = n ∧ pre ds ∧ DtAll (hid O H) ds vs ∧ ∀ d v H', post ds d → Ex H H' → Dt (hid O H') d v → Q v H'
theorem spR_len {n : Nat} {pre : List PyData → Prop} {post : List PyData → PyData → Prop} {vs : List V} {H : Hp} {Q : VK} {E : XK} (h : spR n pre post vs H Q E) : vs.length = n := by
  obtain ⟨O, ds, _, hl, _, hv, _⟩ := h
  rw [hv.length, hl]
section
variable {O : List Addr} {K : PySem.W.Frag} {δ : List Sl} {te ta tb : TE} {x y d : PyData} {P P1 P2 : PyData → Prop} {i : Nat} {N0 : List Sl → Prop} {R0 : PyData → Prop}
theorem er_of (h : Cp.EP O te δ d) (k : P d) : ER O te δ P := fun σ H hD hS Q q => h σ H hD hS Q fun v H' e hv => q d v H' k e hv
theorem er_imp (h : ER O te δ P1) (k : ∀ d, P1 d → P d) : ER O te δ P := fun σ H hD hS Q q => h σ H hD hS Q fun d v H' p => q d v H' (k d p)
theorem ds_asgR (h : ER O te δ P) (k : ∀ d, P d → N0 (δ.set i (.d d))) : DS O (tAsg te (gName i)) δ N0 R0 := fun J j σ H D hJ hD hS kn kr =>
  h σ H hD hS _ fun d v H' p e hv => kn _ _ H' ⟨k d p, j.ex hD e hJ⟩ (hD.ex e) (hid_ex e) ((hS.mono (hid_ex e)).set i (slok_d hv))
theorem ds_retR (h : ER O te δ P) (k : ∀ d, P d → R0 d) : DS O (tRet te) δ N0 R0 := fun J j σ H D hJ hD hS kn kr =>
  h σ H hD hS _ fun d v H' p e hv => kr v H' ⟨d, hv, k d p, j.ex hD e hJ⟩ (hD.ex e) (hid_ex e)
theorem er_call {n : Nat} {pre : List PyData → Prop} {post : List PyData → PyData → Prop} {E : XK} {t : TA} {ds : List PyData} (h : AP O t δ ds) (hn : ds.length = n) (hp : pre ds) : ER O (tCall (spR n pre post) [] E t) δ (post ds) := fun σ H hD hS Q k =>
  h σ H hD hS _ fun vs H1 e1 hv => ⟨O, ds, hD.ex e1, hn, hp, by rw [List.append_nil]; exact hv, fun d v H2 pd e2 hd => k d v H2 pd (e1.trans e2) hd⟩
theorem rel_body {t : TS} {N : List Str} {n : Nat} {pre : List PyData → Prop} {post : List PyData → PyData → Prop} (hn : n ≤ N.length)
    (h : ∀ O ds, ds.length = n → pre ds → DS O t (ds.map Sl.d ++ List.replicate (N.length - n) .no) (fun _ => post ds .none) (fun d => post ds d)) {vs : List V} {H : Hp} {Q : VK} {E : XK} (hs : spR n pre post vs H Q E) :
    t { nx := fun _ H' => Q .non H', rt := Q } (L2.start N vs) H := by
  obtain ⟨O, ds, hD, hl, hp, hv, k⟩ := hs
  refine h O ds hl hp (fun H' => ∀ b ∈ O, H' b = H b) (jok_same H) (L2.start N vs) H { nx := fun _ H' => Q .non H', rt := Q } (fun _ _ => rfl) hD (by
    have z := sd_start hv N (by omega)
    rw [hl] at z
    exact z) (fun δ' σ' H' q _ e _ => k .none .non H' q.1 (ex_of e q.2) rfl) fun v H' r _ e => ?_
  obtain ⟨d, hd, pd, hs2⟩ := r
  exact k d v H' pd (ex_of e hs2) hd
end
/-! ### xs.count(x) over data: a number, at most so many -/
section
variable {X : Cx}
def rCountD (K : PySem.W.Frag) : V → List V → Hp → VK → Prop := fun x xs H Q => ∃ (a : Addr) (y : V) (d : PyData) (ds : List PyData), x = V.ref a ∧ xs = [y] ∧ Dp K H (V.ref a) (.list ds) ∧ Dp K H y d ∧
  SeqAt.shaped (.list ds) = true ∧ SeqAt.shaped d = true ∧ ∀ c : Nat, c ≤ ds.length → Q (.int (c : Nat)) H
theorem mt_countD (hu : X.A.units + 65 < cLine) : MtR X "list.count" (rCountD X.K) := by
  intro pins st σ H x xs v us Q I rx rxs h
  obtain ⟨a, y, d, ds, rfl, rfl, hl, hy, sl, sd, q⟩ := h
  cases rx
  obtain ⟨uy, rfl, ry⟩ := rxs.one
  obtain ⟨bs, r1⟩ := Dp.reads I d y uy hy ry
  have hxs : PyData.canLayAll0 ds = true := SeqAt.canLay_of_shaped sl
  have hroom : X.A.units + 1 + min (PyData.depthAll ds) d.depth < cLine := room_in_shaped sd hu
  cases hl with
  | lst hs ha =>
    obtain ⟨its, rv, ⟨⟨cls, dd, data, sls⟩, n, ho, hc, hdn, hdt⟩, hlen⟩ := I.list hs
    simp only at hc hdt
    subst hc hdt
    obtain ⟨as, h4⟩ := Dp.readsAll I ds _ its ha rv
    have hn : its.length = ds.length := SeqAt.ReadsAll.length ds its as h4
    refine call_meets PySem.F.slot_list_count ⟨_, ho, rfl⟩ PySem.F.entry_list_count (PySem.F.args_list_count_2 _ _)
      (SeqAt.list_countAt a its.toArray n dd sls uy (fun u => PyData.eqv (SeqAt.readOf st.heap u) d)) ⟨ho, SeqAt.items_eqAt (vs := its.toArray) (show ReadsAll st.heap its.toArray.toList ds as from h4) r1 hxs (SeqAt.canLay_of_shaped sd) hroom, ?_⟩
    refine ⟨.int _, H, I.tok _, ⟨_, rfl⟩, q _ ?_⟩
    rw [← hn]
    exact Nat.le_trans (List.countP_le_length) (by simp)
end
section
variable {O : List Addr} {K : PySem.W.Frag} {δ : List Sl} {te tx : TE} {x : PyData} {ds : List PyData}
theorem er_countD (h : Cp.EP O te δ (.list ds)) (hx : Cp.EP O tx δ x) (hs : SeqAt.shaped (.list ds) = true) (hsx : SeqAt.shaped x = true) : ER O (tBM K "list" (rCountD K) te (tCons tx tNil)) δ (fun d => ∃ c : Nat, d = .int c ∧ c ≤ ds.length) := fun σ H hD hS Q k =>
  h σ H hD hS _ fun v H1 e1 hv => by
    have hv0 := hv
    obtain ⟨a, xs, rfl, h1, h2⟩ := hv
    refine ⟨Or.inl ⟨rfl, xs, SqL.of (hid_some h1).2⟩, hx σ H1 (hD.ex e1) (hS.mono (hid_ex e1)) _ fun w H2 e2 hw => ?_⟩
    exact ⟨a, w, x, ds, rfl, rfl, Dt.dp _ _ (noDict_shaped hs) (Dt.mono (hid_le.trans (Ex.refl _)) _ _ (Dt.mono (hid_ex e2) _ _ hv0)), Dt.dp _ _ (noDict_shaped hsx) (Dt.mono hid_le _ _ hw), hs, hsx, fun c hc => k (.int c) _ H2 ⟨c, rfl, hc⟩ (e1.trans e2) rfl⟩
/-- sorted over pairs of numbers: the same pairs in some order -/
theorem er_sortedP {zs : List (Int × Int)} (h : Cp.EP O te δ (.list (zs.map fun z => .tuple [.int z.1, .int z.2]))) : ER O (tCB (rSortedP K) (tCons te tNil)) δ (fun d => ∃ ys : List (Int × Int), d = .list (ys.map fun z => .tuple [.int z.1, .int z.2]) ∧ ys.Perm zs) := fun σ H hD hS Q k =>
  h σ H hD hS _ fun v H1 e1 hv => by
    obtain ⟨a, xs, rfl, h1, h2⟩ := hv
    have key : ∀ (zs : List (Int × Int)) (xs : List V), DtAll (hid O H1) (zs.map fun z => PyData.tuple [.int z.1, .int z.2]) xs → xs.length = zs.length ∧ ∀ x ∈ xs, ∃ t i j, x = V.ref t ∧ hid O H1 t = some (.tup [.int i, .int j]) := by
      intro zs
      induction zs with
      | nil => intro xs h; cases h; exact ⟨rfl, fun x hx => by cases hx⟩
      | cons z zs ih =>
        intro xs h
        obtain ⟨v, r, rfl, ⟨t, ts, rfl, q1, v1, r1, rfl, q2, v2, r2, rfl, q3, q4⟩, h3⟩ := h
        cases q2; cases q3; cases q4
        obtain ⟨i1, i2⟩ := ih r h3
        exact ⟨by simp [i1], fun x hx => by
          rcases List.mem_cons.mp hx with rfl | hx
          · exact ⟨t, _, _, rfl, q1⟩
          · exact i2 x hx⟩
    obtain ⟨kl, kx⟩ := key zs xs h2
    refine ⟨a, xs, rfl, SqL.of (hid_some h1).2, fun x hx => ?_, fun ys p hp hn => ?_⟩
    · obtain ⟨t, i, j, q1, q2⟩ := kx x hx
      exact ⟨t, i, j, q1, (hid_some q2).2⟩
    -- the values in their new order, with their data
    have perm : ∀ (ys : List V), ys.Perm xs → ∃ ws : List (Int × Int), DtAll (hid O H1) (ws.map fun z => PyData.tuple [.int z.1, .int z.2]) ys ∧ ws.Perm zs := by
      intro ys hp
      clear h1 hn p
      have gen : ∀ {us ys : List V}, us.Perm ys → ∀ zs : List (Int × Int), DtAll (hid O H1) (zs.map fun z => PyData.tuple [.int z.1, .int z.2]) us → ∃ ws : List (Int × Int), DtAll (hid O H1) (ws.map fun z => PyData.tuple [.int z.1, .int z.2]) ys ∧ ws.Perm zs := by
        intro us ys hp
        induction hp with
        | nil => intro zs h; exact ⟨zs, h, List.Perm.refl _⟩
        | cons x _ ih =>
          intro zs h
          cases zs with
          | nil => cases h
          | cons z zs =>
            obtain ⟨v, r, e, q1, q2⟩ := h
            injection e with e1 e2
            subst e1 e2
            obtain ⟨ws, w1, w2⟩ := ih zs q2
            exact ⟨z :: ws, ⟨_, _, rfl, q1, w1⟩, w2.cons z⟩
        | swap x y l =>
          intro zs h
          cases zs with
          | nil => cases h
          | cons z zs =>
            obtain ⟨v, r, e, q1, q2⟩ := h
            injection e with e1 e2
            subst e1 e2
            cases zs with
            | nil => cases q2
            | cons z' zs =>
              obtain ⟨v', r', e, q3, q4⟩ := q2
              injection e with e1 e2
              subst e1 e2
              exact ⟨z' :: z :: zs, ⟨_, _, rfl, q3, _, _, rfl, q1, q4⟩, List.Perm.swap _ _ _⟩
        | trans _ _ ih1 ih2 =>
          intro zs h
          obtain ⟨w1, a1, b1⟩ := ih1 zs h
          obtain ⟨w2, a2, b2⟩ := ih2 w1 a1
          exact ⟨w2, a2, b2.trans b1⟩
      exact gen hp.symm zs h2
    obtain ⟨ws, w1, w2⟩ := perm ys hp
    exact k _ (.ref p) _ ⟨ws, rfl, w2⟩ (e1.trans (Ex.new hn)) ⟨p, ys, rfl, by rw [hid_out ((hD.ex e1).fresh hn)]; exact upd_same, w1.mono (hid_ex (Ex.new hn))⟩
theorem rp_notInD (hs : SeqAt.shaped (.list ds) = true) (hsx : SeqAt.shaped x = true) : RP O (rNotInD K) x (.list ds) (.bool (!ds.any fun z => PyData.eqv z x)) := fun v w H hD hv hw Q k =>
  ⟨x, ds, Dt.dp _ _ (noDict_shaped hsx) (Dt.mono hid_le _ _ hv), Dt.dp _ _ (noDict_shaped hs) (Dt.mono hid_le _ _ hw), hsx, hs, k _ H (Ex.refl H) rfl⟩
theorem rp_inD (hs : SeqAt.shaped (.list ds) = true) (hsx : SeqAt.shaped x = true) : RP O (rInD K) x (.list ds) (.bool (ds.any fun z => PyData.eqv z x)) := fun v w H hD hv hw Q k =>
  ⟨x, ds, Dt.dp _ _ (noDict_shaped hsx) (Dt.mono hid_le _ _ hv), Dt.dp _ _ (noDict_shaped hs) (Dt.mono hid_le _ _ hw), hsx, hs, k _ H (Ex.refl H) rfl⟩
/-- a comprehension each of whose items is told by a relation -/
theorem er_lcR {wi : TI} {g : TG} {tt : TT} {n : Nat} {item : Nat → PyData} {ix vs : List Nat} {Pi : Nat → PyData → Prop} (hw : ∀ O, WP O wi δ n item) (hn : n ≤ 10000) (hi : ∀ j ∈ ix, j ∈ vs) (htt : ∀ σ H Q, Q true H → tt σ H Q)
    (hs : ∀ O i, i < n → ∃ δ2, GB O g (item i) (wipeS δ vs) δ2 ix ∧ ER O te δ2 (Pi i)) : ER O (tLc wi g tt te vs) δ (fun d => ∃ ds, d = .list ds ∧ ds.length = n ∧ ∀ i, i < n → Pi i (ds.getD i .none)) := fun σ H hD hS Q k => by
  refine hw O σ H hD hS _ fun Ji H1 e1 w => ?_
  intro D hDn
  have d1 := hD.ex e1
  have s1 := hS.mono (hid_ex e1)
  have dfr : D ∉ O := d1.fresh hDn
  refine lc_it w (fun i H' => ∃ ds, (ds.length = i ∧ ∀ j, j < i → Pi j (ds.getD j .none)) ∧ Acc O H1 D ds H') ⟨[], ⟨rfl, fun j hj => by omega⟩, ⟨[], upd_same, rfl⟩, fun a o ha q => by rw [upd_ne ha]; exact q⟩ (fun i H' _ p => ?_) (fun i v H' H2 hi' p y => ?_) fun H' p => ?_
  · obtain ⟨ds, _, p⟩ := p
    exact (p.hid hDn).trans hid_le
  · obtain ⟨ds, ⟨l1, l2⟩, p⟩ := p
    obtain ⟨e2, hv⟩ := y
    have p2 := p.ex e2
    have d2 := p2.dom d1 hDn
    obtain ⟨δ2, hg, he⟩ := hs (D :: O) i hi'
    have s2 : SD (Cp.hid (D :: O) H2) (wipeS δ vs) (L2.wipe σ vs) := (s1.wipe vs).mono (p2.hid hDn)
    refine hg _ H2 v d2 s2 (hv (D :: O) (p.hid hDn) (p.dom d1 hDn)) _ fun σ2 s3 hl hj => ⟨?_, htt _ _ _ ?_⟩
    · rw [wipe_same (vs := vs) hl hj hi]
      exact wipe_wipe σ vs vs fun _ h => h
    · rw [if_pos rfl]
      refine he σ2 H2 d2 s3 _ fun y u H4 py e4 hu => ?_
      have p4 := p2.ex e4
      obtain ⟨⟨acc, q1, q2⟩, q3⟩ := id p4
      refine ⟨acc, q1, by rw [q2.length, l1]; exact Evl.sz_lt (by omega), ds ++ [y], ⟨by rw [List.length_append, l1]; rfl, fun j hj => ?_⟩, p4.push q1 hu⟩
      by_cases c : j = i
      · subst c
        rw [List.getD_eq_getElem?_getD, List.getElem?_append_right (by omega), l1, Nat.sub_self]
        exact py
      · rw [List.getD_eq_getElem?_getD, List.getElem?_append_left (by omega), ← List.getD_eq_getElem?_getD]
        exact l2 j (by omega)
  · obtain ⟨ds, hds, p⟩ := p
    obtain ⟨⟨acc, q1, q2⟩, q3⟩ := id p
    refine k (.list ds) (.ref D) H' ⟨ds, rfl, hds⟩ (e1.trans fun a o q => q3 a o (fun z => by rw [z, hDn] at q; cases q) q) ⟨D, acc, rfl, by rw [hid_out dfr]; exact q1, q2.mono fun a o q => ?_⟩
    obtain ⟨h1, h2⟩ := hid_some q
    rw [hid_out (fun z => h1 (by simp [z]))]
    exact h2
end
theorem kx_countD {X : Cx} {K : PySem.W.Frag} (h : X.K = K) (hu : X.A.units + 65 < cLine) : MtR X "list.count" (rCountD K) := h ▸ mt_countD hu
theorem kx_inD {X : Cx} {K : PySem.W.Frag} (h : X.K = K) (hu : X.A.units + 65 < cLine) : OpR X (compareOp .In) (rInD K) := h ▸ op_inD hu
theorem kx_notinD {X : Cx} {K : PySem.W.Frag} (h : X.K = K) (hu : X.A.units + 65 < cLine) : OpR X (compareOp .NotIn) (rNotInD K) := h ▸ op_notInD hu
theorem kx_sortedP {X : Cx} {K : PySem.W.Frag} (h : X.K = K) : CallR X (.builtin "sorted") (rSortedP K) := h ▸ cr_sortedP
theorem kx_bmR {X : Cx} {K : PySem.W.Frag} {o e : Expr} {es : List Expr} {to : TE} {t : TA} {name : PySem.Str} {apos cpos : Pos} {T id : String} {r : V → List V → Hp → VK → Prop} (hK : X.K = K) (pa : PlainAttrs T) (slot : Slot T name id) (hty : typeOf (.builtin id) = pure (.type "method_descriptor")) (hm : MtR X id r) (ho : PE X o to) (ha : PA X (e :: es) t)
    (hbase : attributeBase o name X.env (eval o X.env) = eval o X.env := by rfl)
    (hfew : ((backTo cpos (starEach (e :: es) X.env)).all (fun x => !x.1) && (backToKw cpos (keywordEach [] X.env)).all (fun x => x.1.isSome) && decide ((e :: es).length + ([] : List Keyword).length + (if ([] : List Keyword).isEmpty then 0 else 1) < 30)) = true := by rfl)
    (hline : (apos.endLine == cpos.line) = true := by rfl) (hs : starEach (e :: es) X.env = (false, eval e X.env) :: starEach es X.env := by rfl) (hplain : (backTo cpos (starEach es X.env)).any (·.1) = false := by rfl) :
    PE X (.Call (.Attribute o name apos) (e :: es) [] cpos) (tBM K T r to t) := hK ▸ pe_bm pa slot hty hm ho ha hbase hfew hline hs hplain
end Cp
/-! Cameposts: owned lists and dicts whose items are known one by one -/
namespace Cp
open PySem L2 PySem.Spec PyProof.Rows
open Evl (Ex)
theorem _root_.L2.Room.units65 {k : Nat} {A : Around} (r : Room k A) : A.units + 65 < cLine := by
  have := r.un
  omega
theorem _root_.L2.Room.units1 {k : Nat} {A : Around} (r : Room k A) : A.units + 1 < cLine := by
  have := r.un
  omega
section
variable {O : List Addr} {J : Hp → Prop} {K : PySem.W.Frag} {δ : List Sl} {te tk tv : TE} {N : List Sl → Hp → Prop} {R : V → Hp → Prop} {x d : PyData} {i : Nat} {l : Addr}
theorem hid_upd {o : HO} {H : Hp} (hO : l ∈ O) : Ex (hid O H) (hid O (upd H l o)) := by
  rw [hid_set hO]
  exact Ex.refl _
theorem dm_dputO {kvs : List (Key × V)} {q : Key} {v : V} (hv : ED O J tv δ x) (hs : δ.getD i .no = .at l) (hk : ED O J tk δ (kD q)) (hl : ∀ H, J H → H l = some (.dK kvs)) (hO : l ∈ O) (hx : ∀ H w, Dt H x w → w = v) (hz : kvs.length < 10000)
    (k : ∀ H, J H → N δ (upd H l (.dK (putK kvs q v)))) : DM O J (sDPut (tVar i) tk tv) δ N R := fun σ H D hJ hD hS kn kr =>
  hv σ H hJ hD hS _ fun e w H1 p1 d1 e1 hw => ⟨.ref l, (hS.mono e1).loc hs, hk σ H1 p1.2 d1 (hS.mono e1) _ fun e2 y H2 p2 d2 ex2 hy => by
    rw [p1.1] at hw
    rw [p2.1] at hy
    have hwv := hx _ _ hw
    subst hwv
    refine ⟨l, _, rfl, by rw [dt_kD hy]; exact DPut.k (hl H2 p2.2) (Evl.sz_lt (by omega)), ?_⟩
    exact kn δ σ _ (k H2 p2.2) (dom_upd d2) ((e1.trans ex2).trans (hid_upd hO)) (hS.mono ((e1.trans ex2).trans (hid_upd hO)))⟩
theorem ed_dgetO {kvs : List (Key × V)} {q : Key} {v : V} (hs : δ.getD i .no = .at l) (hk : ED O J tk δ (kD q)) (hl : ∀ H, J H → H l = some (.dK kvs)) (hv : valV kvs q = some v) (hd : ∀ H, Dt H d v) : ED O J (tDGet (tVar i) tk) δ d := fun σ H hJ hD hS Q k =>
  ⟨.ref l, hS.loc hs, hk σ H hJ hD hS _ fun e w H1 p d1 e1 hw => by
    rw [p.1] at hw
    refine ⟨l, v, rfl, ?_, k d v H1 ⟨rfl, p.2⟩ d1 e1 (hd _)⟩
    rw [dt_kD hw, ← hv]
    exact DGet.k (hl H1 p.2)⟩
theorem dm_appendO {vs : List V} {v : V} (he : ED O J te δ x) (hs : δ.getD i .no = .at l) (hl : ∀ H, J H → H l = some (.lst vs)) (hO : l ∈ O) (hx : ∀ H w, Dt H x w → w = v) (hz : vs.length < 100000)
    (k : ∀ H, J H → N δ (upd H l (.lst (vs ++ [v])))) : DM O J (tDrop (tBM K "list" rAppend (tVar i) (tCons te tNil))) δ N R := fun σ H D hJ hD hS kn kr => by
  refine ⟨.ref l, hS.loc hs, Or.inl ⟨rfl, vs, SqL.of (hl H hJ)⟩, he σ H hJ hD hS _ fun e w H1 p d1 e1 hw => ?_⟩
  rw [p.1] at hw
  have hwv := hx _ _ hw
  subst hwv
  refine ⟨l, vs, w, rfl, rfl, hl H1 p.2, Evl.sz_lt hz, ?_⟩
  exact kn δ σ _ (k H1 p.2) (dom_upd d1) (e1.trans (hid_upd hO)) (hS.mono (e1.trans (hid_upd hO)))
/-- slots that hold data without dicts hold them still where a dict is hidden -/
theorem Dt.hide {H : Hp} {a : Addr} {es : List (Key × V)} (h : H a = some (.dK es)) : ∀ (d : PyData) (v : V), d.hasDict = false → Dt (hid O H) d v → Dt (hid (a :: O) H) d v := by
  have hide1 : ∀ (b : Addr) (o : HO), hid O H b = some o → (∀ es, o ≠ .dK es) → hid (a :: O) H b = some o := fun b o q hno => by
    obtain ⟨q1, q2⟩ := hid_some q
    have : b ≠ a := fun z => by rw [z, h] at q2; cases q2; exact hno _ rfl
    rw [hid_out (by simp [this, q1])]
    exact q2
  have key : ∀ (n : Nat) (d : PyData), sizeOf d ≤ n → ∀ v, d.hasDict = false → Dt (hid O H) d v → Dt (hid (a :: O) H) d v := by
    intro n
    induction n with
    | zero => intro d hd; cases d <;> simp at hd
    | succ n ih =>
      have all : ∀ (ds : List PyData), sizeOf ds ≤ n → ∀ vs, PyData.hasDictAll ds = false → DtAll (hid O H) ds vs → DtAll (hid (a :: O) H) ds vs := by
        intro ds
        induction ds with
        | nil => intro _ vs _ q; exact q
        | cons x ds ihd =>
          intro hsz vs hnd q
          obtain ⟨v, r, rfl, q1, q2⟩ := q
          simp only [PyData.hasDictAll, Bool.or_eq_false_iff] at hnd
          simp only [List.cons.sizeOf_spec] at hsz
          exact ⟨v, r, rfl, ih x (by omega) v hnd.1 q1, ihd (by omega) r hnd.2 q2⟩
      intro d hd v hnd q
      cases d with
      | none => exact q
      | bool b => exact q
      | int z => exact q
      | str s => exact q
      | list ds =>
        obtain ⟨b, xs, rfl, q1, q2⟩ := q
        simp only [PyData.list.sizeOf_spec] at hd
        exact ⟨b, xs, rfl, hide1 b _ q1 (fun es z => by cases z), all ds (by omega) xs (by simpa only [PyData.hasDict] using hnd) q2⟩
      | tuple ds =>
        obtain ⟨b, xs, rfl, q1, q2⟩ := q
        simp only [PyData.tuple.sizeOf_spec] at hd
        exact ⟨b, xs, rfl, hide1 b _ q1 (fun es z => by cases z), all ds (by omega) xs (by simpa only [PyData.hasDict] using hnd) q2⟩
      | dict kvs => simp only [PyData.hasDict] at hnd; cases hnd
  exact fun d v => key (sizeOf d) d (Nat.le_refl _) v
theorem DtKV.hide {H : Hp} {a : Addr} {es : List (Key × V)} (h : H a = some (.dK es)) : ∀ (kvs : List (PyData × PyData)) (m : List (Key × V)), (∀ p ∈ kvs, p.2.hasDict = false) → DtKV (hid O H) kvs m → DtKV (hid (a :: O) H) kvs m
  | [], m, _, q => q
  | (k, d) :: r, m, hn, ⟨q, v, m', h1, h2, h3, h4⟩ => ⟨q, v, m', h1, h2, Dt.hide h d v (hn (k, d) (by simp)) h3, DtKV.hide h r m' (fun p hp => hn p (by simp [hp])) h4⟩
end
end Cp
namespace K04
open PySem L2 PySem.Spec PyProof.Rows Cp
open Evl (Ex)
section
variable {w : World} {K : PySem.W.Frag} {mg : Str → Option Value} {base : Heap} {A : Ad}
def allE (m : Nat) : List PyData := rows2 m (fun _ => 2) fun r s => some (enD (r, s))
theorem allE_len : ∀ m, (allE m).length = 2 * m
  | 0 => rfl
  | m + 1 => by
    have ih := allE_len m
    unfold allE at ih ⊢
    rw [rows2_succ, List.length_append, ih]
    show 2 * m + 2 = _
    omega
theorem allE_get : ∀ (m r s : Nat), r < m → s < 2 → (allE m)[2 * r + s]? = some (enD (r, s))
  | 0, r, s, h, _ => by omega
  | m + 1, r, s, h, hs => by
    have e : allE (m + 1) = allE m ++ [enD (m, 0), enD (m, 1)] := by
      unfold allE
      rw [rows2_succ]
      rfl
    rw [e]
    by_cases c : r < m
    · rw [List.getElem?_append_left (by rw [allE_len]; omega)]
      exact allE_get m r s c hs
    · have : r = m := by omega
      subst this
      rw [List.getElem?_append_right (by rw [allE_len]; omega), allE_len]
      match s, hs with
      | 0, _ => rw [show 2 * r + 0 - 2 * r = 0 by omega]; rfl
      | 1, _ => rw [show 2 * r + 1 - 2 * r = 1 by omega]; rfl
theorem G_gather_all_ends (T : Txt K mg A) (Z : Fns K A) : FnOk prg w K mg base CX0 1 A.a_gather_all_ends Z.fd_gather_all_ends ["town"] (spP 1 (fun ds => preTown (ds.getD 0 .none) ∧ (townRs (ds.getD 0 .none)).length ≤ 16) fun ds => .list (allE (townRs (ds.getD 0 .none)).length)) := by
  refine Fun.ok Z.F_gather_all_ends sc_gather_all_ends (fun vs H Q E h => pure_len h) (fun cdv Ar outer s H vs Q E hr h => ⟨_, (pss_one (ps_ret (pe_lc2 (own := [("road", 1), ("side", 2)]) (vs1 := [2]) rfl sc_gather_all_ends.nd (pi_range1 rfl T.n_range (pa_cons (pe_callB (kx_len (K := K) rfl) (by rfl) T.n_len (by decide +kernel) (pa_cons (pe_ix (kx_ix (K := K) rfl) (pv 0) pe_int (fun _ _ => rfl)) pa_nil)) pa_nil)) (blkOk_by (own := [("road", 1), ("side", 2)]) (N := ["town", "road", "side"]) (sc := defScope s_gather_all_ends) (by decide +kernel)) (by decide) (fun _ _ _ _ _ => (pg_name (i := 1) sc_gather_all_ends.nd rfl (by first | exact Or.inl rfl | exact Or.inr rfl))) (fun _ _ _ _ _ => pts_nil) (fun _ _ _ _ _ => (pi_range1 rfl T.n_range (pa_cons pe_int pa_nil))) (fun _ _ _ _ _ => (pg_name (i := 2) sc_gather_all_ends.nd rfl (by first | exact Or.inl rfl | exact Or.inr rfl))) (fun _ _ _ _ _ => pts_nil) (fun _ _ _ _ _ => (pe_tup (pa_cons (pv 1) (pa_cons (pv 2) pa_nil))))))), ?_⟩)
  refine pure_body (by decide) (fun O ds hl hp => ?_) h
  match ds, hl with
  | [a], _ =>
    obtain ⟨⟨n, rs, ha⟩, h16⟩ := hp
    obtain rfl : a = townD n rs := ha
    have h16 : (townRs (townD n rs)).length ≤ 16 := h16
    show DS O _ [.d (townD n rs), .no, .no] _ (fun d => d = .list (allE (townRs (townD n rs)).length))
    rw [townRs_is] at h16 ⊢
    refine ds_ret (d := .list (allE rs.length)) ?_ rfl
    refine ep_lc2 (b := 2) (m := fun _ => 2) (item := fun i => .int (i : Int)) (item1 := fun _ j => .int (j : Int)) (f := fun r s => some (enD (r, s))) (n := rs.length) (ix := [1]) (ix1 := [2])
      (fun O' => ?_) (fun _ _ => Nat.le_refl _) (by omega) (by decide) (by decide) (by decide) (by decide) (fun O' i hi => ?_)
    · exact wp_rng1 (n := (rs.length : Int)) (ap_cons (ep_is (ep_len (ep_op (ep_var (i := 0) rfl) ep_int (rp_ix2 (rp_ixT (j := 1) rfl rfl))) (Or.inl ⟨rs.map pr, rfl, rfl⟩)) (by rw [List.length_map])) ap_nil) (by omega)
    · refine ⟨_, gb_name, wp_rng1 (n := 2) (ap_cons ep_int ap_nil) (by decide), fun j hj => ⟨_, gb_name, fun σ H hD hS Q k => k H (Ex.refl H), fun y hy => ?_⟩⟩
      cases hy
      exact ep_tup (ap_cons (ep_var (i := 1) rfl) (ap_cons (ep_var (i := 2) rfl) ap_nil)) (by simp)
def wordS (b : Bool) : Str := if b = true then Str.ofString "step" else Str.ofString "about"
def deD (r : Bool × Str) : PyData := .tuple [.str (wordS r.1), .str r.2]
def deedsL (names : List Str) : List PyData := rows2 2 (fun _ => names.length) fun i j => some (.tuple [[PyData.str (Str.ofString "step"), .str (Str.ofString "about")].getD i .none, .str (names.getD j (Str.ofString ""))])
theorem mem_deedsL {names : List Str} {r : Bool × Str} (h : r.2 ∈ names) : deD r ∈ deedsL names := by
  obtain ⟨j, hj, e⟩ := List.mem_iff_getElem.mp h
  unfold deedsL rows2
  refine List.mem_flatMap.mpr ⟨if r.1 = true then 0 else 1, by cases r.1 <;> simp, List.mem_filterMap.mpr ⟨j, by simpa using hj, ?_⟩⟩
  have e2 : names.getD j (Str.ofString "") = r.2 := by rw [List.getD_eq_getElem?_getD, List.getElem?_eq_getElem hj, Option.getD_some, e]
  dsimp only
  rw [e2]
  obtain ⟨b, nm⟩ := r
  cases b <;> rfl
theorem deedsL_sh {names : List Str} (hn : ∀ z ∈ names, PyData.strOk z = true) : ∀ d ∈ deedsL names, d.canLay0 = true ∧ d.depth ≤ 1 := fun d hd => by
  unfold deedsL rows2 at hd
  obtain ⟨i, hi, hd⟩ := List.mem_flatMap.mp hd
  obtain ⟨j, hj, hd⟩ := List.mem_filterMap.mp hd
  have hj : j < names.length := by simpa using hj
  have hz : PyData.strOk (names.getD j (Str.ofString "")) = true := hn _ (by
    rw [List.getD_eq_getElem?_getD, List.getElem?_eq_getElem hj]
    exact List.getElem_mem hj)
  have hi : i < 2 := by simpa using hi
  cases hd
  match i, hi with
  | 0, _ => exact ⟨by simp only [PyData.canLay0, PyData.canLayAll0, List.getD_cons_zero, hz]; decide +kernel, by simp [PyData.depth, PyData.depthAll]⟩
  | 1, _ => exact ⟨by simp only [PyData.canLay0, PyData.canLayAll0, List.getD_cons_succ, List.getD_cons_zero, hz]; decide +kernel, by simp [PyData.depth, PyData.depthAll]⟩
theorem deedsL_len (names : List Str) : (deedsL names).length ≤ 2 * names.length := rows2_le 2 fun _ _ => Nat.le_refl _
def strsOf (d : PyData) : List Str := match d with
  | .list l => l.map fun x => match x with | .str z => z | _ => Str.ofString ""
  | _ => []
theorem strsOf_is (names : List Str) : strsOf (.list (names.map PyData.str)) = names := by
  show (names.map PyData.str).map _ = names
  rw [List.map_map]
  exact List.map_id'' (fun _ => rfl) names
theorem G_deeds_of (T : Txt K mg A) (Z : Fns K A) : FnOk prg w K mg base CX0 1 A.a_deeds_of Z.fd_deeds_of ["names"] (spP 1 (fun ds => ∃ names : List Str, ds.getD 0 .none = .list (names.map PyData.str) ∧ names.length ≤ 100) fun ds => .list (deedsL (strsOf (ds.getD 0 .none)))) := by
  refine Fun.ok Z.F_deeds_of sc_deeds_of (fun vs H Q E h => pure_len h) (fun cdv Ar outer s H vs Q E hr h => ⟨_, (pss_one (ps_ret (pe_lc2 (own := [("word", 1), ("name", 2)]) (vs1 := [2]) rfl sc_deeds_of.nd (kx_tup (K := K) rfl (pe_tup (pa_cons pe_str (pa_cons pe_str pa_nil)))) (blkOk_by (own := [("word", 1), ("name", 2)]) (N := ["names", "word", "name"]) (sc := defScope s_deeds_of) (by decide +kernel)) (by decide) (fun _ _ _ _ _ => (pg_name (i := 1) sc_deeds_of.nd rfl (by first | exact Or.inl rfl | exact Or.inr rfl))) (fun _ _ _ _ _ => pts_nil) (fun _ _ _ _ _ => (kx_list (K := K) rfl (pv 0))) (fun _ _ _ _ _ => (pg_name (i := 2) sc_deeds_of.nd rfl (by first | exact Or.inl rfl | exact Or.inr rfl))) (fun _ _ _ _ _ => pts_nil) (fun _ _ _ _ _ => (pe_tup (pa_cons (pv 1) (pa_cons (pv 2) pa_nil))))))), ?_⟩)
  refine pure_body (by decide) (fun O ds hl hp => ?_) h
  match ds, hl with
  | [a], _ =>
    obtain ⟨names, ha, hn⟩ := hp
    obtain rfl : a = .list (names.map PyData.str) := ha
    show DS O _ [.d (.list (names.map PyData.str)), .no, .no] _ (fun d => d = .list (deedsL (strsOf (.list (names.map PyData.str)))))
    rw [strsOf_is]
    refine ds_ret (d := .list (deedsL names)) ?_ rfl
    refine ep_lc2 (b := 100) (m := fun _ => names.length) (item := fun i => [PyData.str (Str.ofString "step"), .str (Str.ofString "about")].getD i .none) (item1 := fun _ j => .str (names.getD j (Str.ofString ""))) (f := fun i j => some (.tuple [[PyData.str (Str.ofString "step"), .str (Str.ofString "about")].getD i .none, .str (names.getD j (Str.ofString ""))])) (n := 2) (ix := [1]) (ix1 := [2])
      (fun O' => wp_tup (ds := [PyData.str (Str.ofString "step"), .str (Str.ofString "about")]) (ep_tup (ap_cons ep_str (ap_cons ep_str ap_nil)) (by simp))) (fun _ _ => hn) (by decide) (by decide) (by decide) (by decide) (by decide) (fun O' i hi => ?_)
    have hw : WP O' (iList K (tVar 0)) ((wipeS [.d (.list (names.map PyData.str)), .no, .no] [1, 2]).set 1 (.d ([PyData.str (Str.ofString "step"), .str (Str.ofString "about")].getD i .none))) names.length (fun j => (names.map PyData.str).getD j .none) := by
      have := wp_list (O := O') (K := K) (δ := (wipeS [.d (.list (names.map PyData.str)), .no, .no] [1, 2]).set 1 (.d ([PyData.str (Str.ofString "step"), .str (Str.ofString "about")].getD i .none))) (te := tVar 0) (ds := names.map PyData.str) (ep_var (i := 0) rfl)
      rwa [List.length_map] at this
    refine ⟨_, gb_name, ?_, fun j hj => ⟨_, gb_name, fun σ H hD hS Q k => k H (Ex.refl H), fun y hy => ?_⟩⟩
    · intro σ H hD hS R k
      refine hw σ H hD hS R fun Ji H1 e1 wk => k Ji H1 e1 (wk.mono (fun _ h => h) fun j H' v H'' hj _ q => ⟨q.1, fun O2 h1 h2 => ?_⟩)
      have z : Dt _ ((names.map PyData.str).getD j .none) v := q.2 O2 h1 h2
      show Dt _ (PyData.str (names.getD j (Str.ofString ""))) v
      rwa [show (names.map PyData.str).getD j .none = .str (names.getD j (Str.ofString "")) by
        rw [List.getD_eq_getElem?_getD, List.getElem?_map, List.getElem?_eq_getElem hj, List.getD_eq_getElem?_getD, List.getElem?_eq_getElem hj]
        rfl] at z
    · cases hy
      exact ep_tup (ap_cons (ep_var (i := 1) rfl) (ap_cons (ep_var (i := 2) rfl) ap_nil)) (by simp)
end
end K04
namespace K04
open PySem L2 PySem.Spec PyProof.Rows Cp
open Evl (Ex)
section
variable {w : World} {K : PySem.W.Frag} {mg : Str → Option Value} {base : Heap} {A : Ad}
def rowD (row : List (Bool × Str)) : PyData := .list (row.map deD)
theorem deD_sh {r : Bool × Str} (h : PyData.strOk r.2 = true) : (deD r).canLay0 = true ∧ (deD r).depth ≤ 1 := by
  obtain ⟨b, nm⟩ := r
  have h : PyData.strOk nm = true := h
  refine ⟨?_, by simp [deD, PyData.depth, PyData.depthAll]⟩
  unfold deD
  simp only [PyData.canLay0, PyData.canLayAll0, h]
  cases b <;> decide +kernel
theorem shaped_of {ds : List PyData} (h : ∀ d ∈ ds, d.canLay0 = true ∧ d.depth ≤ 1) : SeqAt.shaped (.list ds) = true := shaped_list fun d hd => ⟨(h d hd).1, Nat.le_trans (h d hd).2 (by decide)⟩
theorem G_put_usual_ahead (T : Txt K mg A) (Z : Fns K A) : FnOk prg w K mg base CX0 1 A.a_put_usual_ahead Z.fd_put_usual_ahead ["deeds", "row"] (spR 2 (fun ds => ∃ L M : List PyData, ds.getD 0 .none = .list L ∧ ds.getD 1 .none = .list M ∧ L.length ≤ 200 ∧ (∀ d ∈ L, d.canLay0 = true ∧ d.depth ≤ 1) ∧ (∀ d ∈ M, Sh d)) fun ds d => ∃ L', d = .list L' ∧ ∀ x, x ∈ L' ↔ ∃ L, ds.getD 0 .none = .list L ∧ x ∈ L) := by
  refine Fun.ok Z.F_put_usual_ahead sc_put_usual_ahead (fun vs H Q E h => spR_len h) (fun cdv Ar outer s H vs Q E hr h => ⟨_, (pss_cons (ps_set (i := 2) sc_put_usual_ahead.nd rfl (by first | exact Or.inl rfl | exact Or.inr rfl) (pe_slice (kx_sl (K := K) rfl) (pv 1) po_none (po_some (pe_glob (v := .int 32) rfl T.c_SAMPLE.choose_spec ⟨_, rfl⟩))))
    (pss_cons (ps_set (i := 3) sc_put_usual_ahead.nd rfl (by first | exact Or.inl rfl | exact Or.inr rfl) (pe_callB (kx_sortedP (K := K) rfl) (by rfl) T.n_sorted (by decide +kernel) (pa_cons (pe_lc (own := [("number", 4), ("deed", 5)]) rfl sc_put_usual_ahead.nd (kx_enum (K := K) rfl rfl T.n_enumerate (pa_cons (pv 0) pa_nil)) (blkOk_by (own := [("number", 4), ("deed", 5)]) (N := ["deeds", "row", "sample", "ranks", "number", "deed", "_"]) (sc := defScope s_put_usual_ahead) (by decide +kernel)) (fun _ _ _ _ _ => (kx_gtup (K := K) (n := 2) rfl rfl (pgs_cons (pg_name (i := 4) sc_put_usual_ahead.nd rfl (by first | exact Or.inl rfl | exact Or.inr rfl)) (pgs_cons (pg_name (i := 5) sc_put_usual_ahead.nd rfl (by first | exact Or.inl rfl | exact Or.inr rfl)) pgs_nil)))) (fun _ _ _ _ _ => pts_nil) (fun _ _ _ _ _ => (pe_tup (pa_cons (pe_un un_neg (kx_bmR (K := K) rfl PySem.F.plainAttrs_list PySem.F.slot_list_count PySem.F.type_list_count (kx_countD (K := K) rfl hr.units65) (pv 2) (pa_cons (pv 5) pa_nil))) (pa_cons (pv 4) pa_nil))))) pa_nil)))
    (pss_one (ps_ret (pe_lc (own := [("_", 6), ("number", 4)]) rfl sc_put_usual_ahead.nd (kx_list (K := K) rfl (pv 3)) (blkOk_by (own := [("_", 6), ("number", 4)]) (N := ["deeds", "row", "sample", "ranks", "number", "deed", "_"]) (sc := defScope s_put_usual_ahead) (by decide +kernel)) (fun _ _ _ _ _ => (kx_gtup (K := K) (n := 2) rfl rfl (pgs_cons (pg_name (i := 6) sc_put_usual_ahead.nd rfl (by first | exact Or.inl rfl | exact Or.inr rfl)) (pgs_cons (pg_name (i := 4) sc_put_usual_ahead.nd rfl (by first | exact Or.inl rfl | exact Or.inr rfl)) pgs_nil)))) (fun _ _ _ _ _ => pts_nil) (fun _ _ _ _ _ => (pe_ix (kx_ix (K := K) rfl) (pv 0) (pv 4) (fun _ _ => rfl)))))))), ?_⟩)
  refine rel_body (by decide) (fun O ds hl hp => ?_) h
  match ds, hl with
  | [a, b], _ =>
    obtain ⟨L, M, ha, hb, hL, hLs, hMs⟩ := hp
    obtain rfl : a = .list L := ha
    obtain rfl : b = .list M := hb
    show DS O _ [.d (.list L), .d (.list M), .no, .no, .no, .no, .no] _ _
    refine ds_seq (N1 := fun δ => δ = [.d (.list L), .d (.list M), .d (.list (Cp.cutD M none (some 32))), .no, .no, .no, .no]) (ds_asg (i := 2) (ep_sl (ep_var (i := 1) rfl) od_none (od_some ep_int)) rfl) ?_
    rintro _ rfl
    have hS : ∀ d ∈ Cp.cutD M none (some 32), Sh d := fun d hd => hMs d (cutD_mem hd)
    have hSl : (Cp.cutD M none (some 32)).length ≤ 32 := by
      rw [cut_take (by decide), List.length_take]
      exact Nat.min_le_left _ _
    generalize Cp.cutD M none (some 32) = S at hS hSl
    have hsS := shaped_list hS
    refine ds_seq (N1 := fun δ => ∃ ys : List (Int × Int), (∀ k, (∃ z ∈ ys, z.2 = k) ↔ ∃ j : Nat, j < L.length ∧ k = j) ∧ ys.length ≤ 200 ∧ δ = [.d (.list L), .d (.list M), .d (.list S), .d (.list (ys.map fun z => .tuple [.int z.1, .int z.2])), .no, .no, .no])
      (ds_asgR (i := 3) (P := fun d => ∃ ys : List (Int × Int), d = .list (ys.map fun z => .tuple [.int z.1, .int z.2]) ∧ (∀ k, (∃ z ∈ ys, z.2 = k) ↔ ∃ j : Nat, j < L.length ∧ k = j) ∧ ys.length ≤ 200) ?_ fun d hd => ?_) ?_
    · intro σ H hD hS2 Q kq
      dsimp only [tCB, tCons, tNil]
      refine er_lcR (n := L.length) (ix := [4, 5]) (vs := [4, 5]) (item := fun i => .tuple [.int i, L.getD i .none]) (Pi := fun i d => ∃ c : Int, d = .tuple [.int c, .int i]) (fun O' => wp_enum (ap_cons (ep_var (i := 0) rfl) ap_nil)) (by omega) (by decide) (fun σ H Q h => h) (fun O' i hi => ⟨_, gb_tup2, ?_⟩) σ H hD hS2 _ fun d v H1 pd e1 hv => ?_
      · have hLi := hLs _ (show L.getD i .none ∈ L by
          rw [List.getD_eq_getElem?_getD, List.getElem?_eq_getElem hi]
          exact List.getElem_mem hi)
        generalize L.getD i .none = x at hLi
        intro σ H hD hS Q kq
        refine er_countD (ds := S) (ep_var (i := 2) rfl) (ep_var (i := 5) (x := x) rfl) hsS (Sh.shaped ⟨hLi.1, Nat.le_trans hLi.2 (by decide)⟩) σ H hD hS _ fun d v H1 pd e1 hv => ?_
        obtain ⟨c, rfl, _⟩ := pd
        have hv : v = .int (c : Int) := hv
        subst hv
        refine ⟨_, rfl, ?_⟩
        obtain ⟨vi, hvi, hdi⟩ := (hS.mono (hid_ex e1)).var (i := 4) (x := .int (i : Int)) rfl
        refine ⟨vi, hvi, by show 2 ≤ sizeLine; decide, fun t ht => ?_⟩
        have e2 := Ex.new (o := .tup [.int (-(c : Int)), vi]) ht
        exact kq (.tuple [.int (-(c : Int)), .int (i : Int)]) (.ref t) _ ⟨_, rfl⟩ (e1.trans e2) ⟨t, _, rfl, by rw [hid_out ((hD.ex e1).fresh ht)]; exact upd_same, _, [vi], rfl, rfl, vi, [], rfl, Dt.mono (hid_ex e2) _ _ hdi, rfl⟩
      · obtain ⟨ds2, rfl, hl2, hP2⟩ := pd
        obtain ⟨zs, hz1, hz2, hz3⟩ : ∃ zs : List (Int × Int), ds2 = zs.map (fun z => .tuple [.int z.1, .int z.2]) ∧ zs.length = L.length ∧ ∀ i, i < zs.length → (zs.getD i (0, 0)).2 = (i : Int) := by
          have gen : ∀ (ds : List PyData) (k : Nat), (∀ i, i < ds.length → ∃ c : Int, ds.getD i .none = .tuple [.int c, .int ((k + i : Nat) : Int)]) → ∃ zs : List (Int × Int), ds = zs.map (fun z => .tuple [.int z.1, .int z.2]) ∧ zs.length = ds.length ∧ ∀ i, i < zs.length → (zs.getD i (0, 0)).2 = ((k + i : Nat) : Int) := by
            intro ds
            induction ds with
            | nil => exact fun k _ => ⟨[], rfl, rfl, fun i hi => by simp at hi⟩
            | cons d ds ih =>
              intro k h
              obtain ⟨c, hc⟩ := h 0 (by simp)
              obtain ⟨zs, a1, a2, a3⟩ := ih (k + 1) fun i hi => by
                have := h (i + 1) (by simp; omega)
                rwa [show k + (i + 1) = k + 1 + i by omega] at this
              have hc : d = .tuple [.int c, .int (k : Int)] := hc
              refine ⟨(c, (k : Int)) :: zs, by rw [List.map_cons, ← a1, hc], by simp [a2], fun i hi => ?_⟩
              match i with
              | 0 => rfl
              | i + 1 =>
                have := a3 i (by simp at hi; omega)
                rw [show k + (i + 1) = k + 1 + i by omega]
                exact this
          obtain ⟨zs, a1, a2, a3⟩ := gen ds2 0 fun i hi => by
            rw [Nat.zero_add]
            exact hP2 i (by omega)
          exact ⟨zs, a1, by omega, fun i hi => by have := a3 i hi; rwa [Nat.zero_add] at this⟩
        subst hz1
        have hmem : ∀ k : Int, (∃ z ∈ zs, z.2 = k) ↔ ∃ j : Nat, j < L.length ∧ k = j := fun k => by
          constructor
          · rintro ⟨z, hz, rfl⟩
            obtain ⟨j, hj, e⟩ := List.mem_iff_getElem.mp hz
            refine ⟨j, by omega, ?_⟩
            have := hz3 j hj
            rwa [List.getD_eq_getElem?_getD, List.getElem?_eq_getElem hj, Option.getD_some, e] at this
          · rintro ⟨j, hj, rfl⟩
            have hj2 : j < zs.length := by omega
            refine ⟨zs[j], List.getElem_mem hj2, ?_⟩
            have := hz3 j hj2
            rwa [List.getD_eq_getElem?_getD, List.getElem?_eq_getElem hj2, Option.getD_some] at this
        have hS3 : SD (hid O H1) [.d (.list (zs.map fun z => .tuple [.int z.1, .int z.2]))] [some v] := ⟨rfl, fun i => match i with
          | 0 => ⟨v, rfl, hv⟩
          | _ + 1 => trivial⟩
        have srt := er_sortedP (O := O) (K := K) (te := tVar 0) (δ := [.d (.list (zs.map fun z => .tuple [.int z.1, .int z.2]))]) (zs := zs) (ep_var (i := 0) rfl) [some v] H1 (hD.ex e1) hS3 Q fun d u H2 pd e2 hu => by
          obtain ⟨ys, rfl, hp⟩ := pd
          exact kq _ u H2 ⟨ys, rfl, fun k => by
            rw [← hmem k]
            constructor
            · rintro ⟨z, hz, e⟩; exact ⟨z, hp.mem_iff.mp hz, e⟩
            · rintro ⟨z, hz, e⟩; exact ⟨z, hp.mem_iff.mpr hz, e⟩, by rw [hp.length_eq]; omega⟩ (e1.trans e2) hu
        obtain ⟨v', hv', srt⟩ := srt
        have : v' = v := by simpa using hv'.symm
        subst this
        exact srt
    · obtain ⟨ys, rfl, h1, h2⟩ := hd
      exact ⟨ys, h1, h2, rfl⟩
    rintro _ ⟨ys, hys, hyl, rfl⟩
    have hnum : ∀ z ∈ ys, ∃ j : Nat, j < L.length ∧ z.2 = j := fun z hz => (hys z.2).mp ⟨z, hz, rfl⟩
    refine ds_ret (d := .list (ys.map fun z => L.getD z.2.toNat .none)) ?_ ⟨_, rfl, fun x => ?_⟩
    · refine ep_is (ep_lc (n := ys.length) (ix := [6, 4]) (vs := [6, 4]) (item := fun i => (ys.map fun z => PyData.tuple [.int z.1, .int z.2]).getD i .none) (f := fun i => some (L.getD (ys.getD i (0, 0)).2.toNat .none)) (fun O' => ?_) (by omega) (by decide) fun O' i hi => ?_) ?_
      · have := wp_list (O := O') (K := K) (te := tVar 3) (δ := [.d (.list L), .d (.list M), .d (.list S), .d (.list (ys.map fun z => .tuple [.int z.1, .int z.2])), .no, .no, .no]) (ds := ys.map fun z => PyData.tuple [.int z.1, .int z.2]) (ep_var (i := 3) rfl)
        rwa [List.length_map] at this
      · have e : (ys.map fun z => PyData.tuple [.int z.1, .int z.2]).getD i .none = .tuple [.int (ys.getD i (0, 0)).1, .int (ys.getD i (0, 0)).2] := by
          rw [List.getD_eq_getElem?_getD, List.getElem?_map, List.getElem?_eq_getElem hi, List.getD_eq_getElem?_getD, List.getElem?_eq_getElem hi]
          rfl
        rw [e]
        obtain ⟨j, hj, hjz⟩ := hnum (ys.getD i (0, 0)) (by
          rw [List.getD_eq_getElem?_getD, List.getElem?_eq_getElem hi]
          exact List.getElem_mem hi)
        generalize ys.getD i (0, 0) = z at hjz
        refine ⟨_, gb_tup2, fun σ H hD hS Q k => k H (Ex.refl H), fun y hy => ?_⟩
        cases hy
        rw [hjz]
        exact ep_op (ep_var (i := 0) rfl) (ep_is (ep_var (i := 4) rfl) rfl) (rp_ix1 (rp_ixL (j := j) (ixN_nat hj) (by
          rw [List.getD_eq_getElem?_getD, Int.toNat_natCast, List.getElem?_eq_getElem hj]
          rfl)))
      · congr 1
        rw [List.filterMap_eq_map']
        refine List.ext_getElem? fun i => ?_
        rw [List.getElem?_map, List.getElem?_map]
        by_cases hi : i < ys.length
        · rw [List.getElem?_range hi, List.getElem?_eq_getElem hi]
          show some (L.getD (ys.getD i (0, 0)).2.toNat .none) = _
          rw [List.getD_eq_getElem?_getD (l := ys), List.getElem?_eq_getElem hi]
          rfl
        · rw [List.getElem?_eq_none (by simp; omega), List.getElem?_eq_none (by omega)]
          rfl
    · constructor
      · intro hx
        obtain ⟨z, hz, rfl⟩ := List.mem_map.mp hx
        obtain ⟨j, hj, hjz⟩ := hnum z hz
        refine ⟨L, rfl, ?_⟩
        rw [hjz, Int.toNat_natCast, List.getD_eq_getElem?_getD, List.getElem?_eq_getElem hj]
        exact List.getElem_mem hj
      · rintro ⟨L0, e, hx⟩
        have e : PyData.list L = .list L0 := e
        injection e with e
        subst e
        obtain ⟨j, hj, rfl⟩ := List.mem_iff_getElem.mp hx
        obtain ⟨z, hz, hzj⟩ := (hys (j : Int)).mpr ⟨j, hj, rfl⟩
        refine List.mem_map.mpr ⟨z, hz, ?_⟩
        rw [hzj, Int.toNat_natCast, List.getD_eq_getElem?_getD, List.getElem?_eq_getElem hj]
        rfl
end
end K04
namespace K04
open PySem L2 PySem.Spec PyProof.Rows Cp
open Evl (Ex)
section
variable {w : World} {K : PySem.W.Frag} {mg : Str → Option Value} {base : Heap} {A : Ad}
theorem er_put {O : List Addr} {δ : List Sl} {te tx : TE} {L M : List PyData} {E : XK} (h : Cp.EP O te δ (.list L)) (hx : Cp.EP O tx δ (.list M)) (h1 : L.length ≤ 200) (h2 : ∀ d ∈ L, d.canLay0 = true ∧ d.depth ≤ 1) (h3 : ∀ d ∈ M, Sh d) :
    ER O (tCall (spR 2 (fun ds => ∃ L M : List PyData, ds.getD 0 .none = .list L ∧ ds.getD 1 .none = .list M ∧ L.length ≤ 200 ∧ (∀ d ∈ L, d.canLay0 = true ∧ d.depth ≤ 1) ∧ (∀ d ∈ M, Sh d)) fun ds d => ∃ L', d = .list L' ∧ ∀ x, x ∈ L' ↔ ∃ L, ds.getD 0 .none = .list L ∧ x ∈ L) [] E (tCons te (tCons tx tNil))) δ (fun d => ∃ L', d = .list L' ∧ ∀ x, x ∈ L' ↔ x ∈ L) :=
  er_imp (er_call (ds := [.list L, .list M]) (ap_cons h (ap_cons hx ap_nil)) rfl ⟨L, M, rfl, rfl, h1, h2, h3⟩) fun d ⟨L', e, hm⟩ => ⟨L', e, fun x => (hm x).trans ⟨fun ⟨L0, e0, h0⟩ => by
    have e0 : PyData.list L = .list L0 := e0
    injection e0 with e0
    rw [e0]; exact h0, fun h0 => ⟨L, rfl, h0⟩⟩⟩
theorem deD_eq {x : PyData} {r : Bool × Str} (h : PyData.eqv (deD r) x = true) : x = deD r := by
  obtain ⟨b, z⟩ := r
  cases x with
  | tuple es =>
    match es, h with
    | [], h => cases h
    | [u], h =>
      have h : (PyData.eqv (.str (wordS b)) u && PyData.eqvAll [PyData.str z] []) = true := h
      rw [show PyData.eqvAll [PyData.str z] [] = false from rfl, Bool.and_false] at h
      cases h
    | [u, v], h =>
      have h : (PyData.eqv (.str (wordS b)) u && (PyData.eqv (.str z) v && PyData.eqvAll [] [])) = true := h
      rw [Bool.and_eq_true, Bool.and_eq_true] at h
      obtain ⟨h1, h2, _⟩ := h
      cases u with
      | str u =>
        cases v with
        | str v =>
          have h1 : (wordS b == u) = true := h1
          have h2 : (z == v) = true := h2
          rw [← eq_of_beq h1, ← eq_of_beq h2]
          rfl
        | _ => cases h2
      | _ => cases h1
    | u :: v :: y :: es, h =>
      have h : (PyData.eqv (.str (wordS b)) u && (PyData.eqv (.str z) v && PyData.eqvAll [] (y :: es))) = true := h
      rw [show PyData.eqvAll [] (y :: es) = false from rfl, Bool.and_false, Bool.and_false] at h
      cases h
  | _ => cases h
def inD (L : List PyData) (x : PyData) : Bool := L.any fun z => PyData.eqv z x
theorem inD_same {L L' : List PyData} (h : ∀ x, x ∈ L' ↔ x ∈ L) (x : PyData) : inD L' x = inD L x := by
  unfold inD
  rw [Bool.eq_iff_iff, List.any_eq_true, List.any_eq_true]
  exact ⟨fun ⟨z, hz, e⟩ => ⟨z, (h z).mp hz, e⟩, fun ⟨z, hz, e⟩ => ⟨z, (h z).mpr hz, e⟩⟩
/-- the place of the first of M that is none of L -/
def firstOther (L M : List PyData) : PyData := match (List.range M.length).find? fun j => !inD L (M.getD j .none) with
  | some j => .int j
  | none => .none
def isDeed (d : PyData) : Prop := ∃ r : Bool × Str, d = deD r ∧ PyData.strOk r.2 = true
def rIndexDt (K : PySem.W.Frag) : V → List V → Hp → VK → Prop := rIndexD K
theorem kx_indexD {X : Cx} {K : PySem.W.Frag} (h : X.K = K) (hu : X.A.units + 65 < cLine) : MtR X "list.index" (rIndexD K) := h ▸ mt_indexD hu
theorem ep_indexD {O : List Addr} {δ : List Sl} {te tx : TE} {ds : List PyData} {x z : PyData} {j : Nat} (h : Cp.EP O te δ (.list ds)) (hx : Cp.EP O tx δ x) (hs : SeqAt.shaped (.list ds) = true) (hsx : SeqAt.shaped x = true) (hz : ds[j]? = some z) (he : PyData.eqv z x = true)
    (hno : ∀ (m : Nat) (z' : PyData), m < j → ds[m]? = some z' → PyData.eqv z' x = false) : Cp.EP O (tBM K "list" (rIndexD K) te (tCons tx tNil)) δ (.int (j : Nat)) := fun σ H hD hS Q k =>
  h σ H hD hS _ fun v H1 e1 hv => by
    have hv0 := hv
    obtain ⟨a, xs, rfl, h1, h2⟩ := hv
    refine ⟨Or.inl ⟨rfl, xs, SqL.of (hid_some h1).2⟩, hx σ H1 (hD.ex e1) (hS.mono (hid_ex e1)) _ fun w H2 e2 hw => ?_⟩
    exact ⟨a, w, x, ds, j, z, rfl, rfl, Dt.dp _ _ (noDict_shaped hs) (Dt.mono (hid_le.trans (Ex.refl _)) _ _ (Dt.mono (hid_ex e2) _ _ hv0)), Dt.dp _ _ (noDict_shaped hsx) (Dt.mono hid_le _ _ hw), hs, hsx, hz, he, hno, k _ H2 (e1.trans e2) rfl⟩
theorem G_first_other (T : Txt K mg A) (Z : Fns K A) : FnOk prg w K mg base CX0 2 A.a_first_other Z.fd_first_other ["row", "deeds"] (spP 2 (fun ds => ∃ M L : List PyData, ds.getD 0 .none = .list M ∧ ds.getD 1 .none = .list L ∧ (∀ d ∈ M, Sh d) ∧ L.length ≤ 200 ∧ (∀ d ∈ L, isDeed d)) fun ds => firstOther (listOf (ds.getD 1 .none)) (listOf (ds.getD 0 .none))) := by
  refine Fun.ok Z.F_first_other sc_first_other (fun vs H Q E h => pure_len h) (fun cdv Ar outer s H vs Q E hr h => ⟨_, (pss_cons (ps_set (i := 2) sc_first_other.nd rfl (by first | exact Or.inl rfl | exact Or.inr rfl) (pe_call (G_put_usual_ahead T Z) (hr.mono (by decide)) rfl T.g_put_usual_ahead T.k_put_usual_ahead Z.b_put_usual_ahead .nil pass0 (pa_cons (pv 1) (pa_cons (pv 0) pa_nil))))
    (pss_cons (ps_for PassesOwn.never rfl (kx_list (K := K) rfl (pv 0)) (pg_name (i := 3) sc_first_other.nd rfl (by first | exact Or.inl rfl | exact Or.inr rfl)) (pss_one (ps_if (pt_cmpR (kx_notinD (K := K) rfl hr.units65) (pv 3) (pv 2) (by rfl)) (pss_one (ps_ret (kx_bmR (K := K) rfl PySem.F.plainAttrs_list PySem.F.slot_list_index PySem.F.type_list_index (kx_indexD (K := K) rfl hr.units65) (pv 0) (pa_cons (pv 3) pa_nil)))) pss_nil)))
    (pss_one (ps_ret pe_non)))), ?_⟩)
  refine pure_body (by decide) (fun O ds hl hp => ?_) h
  match ds, hl with
  | [a, b], _ =>
    obtain ⟨M, L, ha, hb, hM, hL, hLs⟩ := hp
    obtain rfl : a = .list M := ha
    obtain rfl : b = .list L := hb
    have hL1 : ∀ d ∈ L, d.canLay0 = true ∧ d.depth ≤ 1 := fun d hd => by
      obtain ⟨r, rfl, h⟩ := hLs d hd
      exact deD_sh h
    show DS O _ [.d (.list M), .d (.list L), .no, .no] _ (fun d => d = firstOther L M)
    refine ds_seq (N1 := fun δ => ∃ L', (∀ x, x ∈ L' ↔ x ∈ L) ∧ δ = [.d (.list M), .d (.list L), .d (.list L'), .no]) (ds_asgR (i := 2) (er_put (ep_var (i := 1) rfl) (ep_var (i := 0) rfl) hL hL1 hM) fun d hd => ?_) ?_
    · obtain ⟨L', rfl, hm⟩ := hd
      exact ⟨L', hm, rfl⟩
    rintro _ ⟨L', hm, rfl⟩
    have hL2 : ∀ d ∈ L', d.canLay0 = true ∧ d.depth ≤ 1 := fun d hd => hL1 d ((hm d).mp hd)
    refine ds_seq (N1 := fun δ => ∀ j, j < M.length → inD L (M.getD j .none) = true) (ds_for (ix := [3]) (wp_list (ep_var (i := 0) rfl)) (fun i δ => (∃ s, δ = [.d (.list M), .d (.list L), .d (.list L'), s]) ∧ ∀ j, j < i → inD L (M.getD j .none) = true) ⟨⟨_, rfl⟩, fun j hj => by omega⟩ (fun i δ1 hi hI => ?_) fun δ1 hI => hI.2) fun δ hall => ds_ret ep_non ?_
    · obtain ⟨⟨s, rfl⟩, hall⟩ := hI
      have hgi : M[i]? = some (M.getD i .none) := by rw [List.getD_eq_getElem?_getD, List.getElem?_eq_getElem hi]; rfl
      have hx : Sh (M.getD i .none) := hM _ (List.mem_of_getElem? hgi)
      refine ⟨_, gb_name, ds_if (b := !inD L (M.getD i .none)) (tp_is (tp_test (ep_op (ep_var (i := 3) (x := M.getD i .none) rfl) (ep_var (i := 2) rfl) (rp_notInD (shaped_of hL2) hx.shaped))) (by rw [← inD_same hm]; rfl)) (fun c => ?_) fun c => ds_next ⟨⟨_, rfl⟩, fun j hj => ?_⟩⟩
      · have c : inD L (M.getD i .none) = false := by simpa using c
        refine ds_ret (ep_indexD (j := i) (ep_var (i := 0) rfl) (ep_var (i := 3) (x := M.getD i .none) rfl) (shaped_list hM) hx.shaped hgi (sh_refl hx) fun m z' hm' hz' => ?_) ?_
        · have hin : inD L z' = true := by
            have := hall m hm'
            rwa [List.getD_eq_getElem?_getD, hz'] at this
          obtain ⟨u, hu, eu⟩ := List.any_eq_true.mp hin
          obtain ⟨r, rfl, hr⟩ := hLs u hu
          have ez := deD_eq eu
          cases q : PyData.eqv z' (M.getD i .none) with
          | false => rfl
          | true =>
            rw [ez] at q
            have : inD L (M.getD i .none) = true := List.any_eq_true.mpr ⟨_, hu, q⟩
            rw [this] at c
            cases c
        · unfold firstOther
          rw [find_some (i := i) hi (by rw [c]; rfl) fun j hj => by rw [hall j hj]; rfl]
      · by_cases e : j = i
        · rw [e]; simpa using c
        · exact hall j (by omega)
    · unfold firstOther
      rw [find_none fun j hj => by rw [hall j hj]; rfl]
def RowOk (ws : List (Str × (Nat × Nat))) (row : List (Bool × Str)) : Prop := row.length ≤ 4000 ∧ ∀ r ∈ row, r.2 ∈ ws.map (·.1)
theorem walker_ok {m : Nat} {x : Str × (Nat × Nat)} (h1 : nameOk x.1 = true) (h2 : x.2.1 < m) (h3 : x.2.2 < 2) : isWalkerD m (waD x) = true := by
  show (nameOk x.1 && isEndD m (enD x.2)) = true
  rw [h1, end_of h2 h3]
  rfl
theorem leS_lt {a b : Str} (h : ltS a b) : leS b a = false := by
  unfold leS
  have h : a.cps.toList < b.cps.toList := h
  rw [decide_eq_true h]
  rfl
theorem nameOk_len {z : Str} (h : nameOk z = true) : 1 ≤ z.length ∧ z.length ≤ 8 := by
  unfold nameOk at h
  simp only [Bool.and_eq_true, decide_eq_true_eq] at h
  exact h.1
theorem leS_nil {z : Str} (h : 1 ≤ z.length) : leS z (Str.ofString "") = false := by
  unfold leS
  have e : (Str.ofString "").cps.toList = [] := by decide +kernel
  rw [e]
  cases c : z.cps.toList with
  | nil =>
    have : z.cps.size = 0 := by rw [← Array.length_toList, c]; rfl
    have h : 1 ≤ z.cps.size := h
    omega
  | cons a l =>
    have : ([] : List Nat) < a :: l := List.nil_lt_cons a l
    rw [decide_eq_true this]
    rfl
theorem stand_ok {n : Int} {rs : List (Int × Int)} {ps : List (Nat × Nat)} {ws : List (Str × (Nat × Nat))} (h : StandOk n rs ps ws) (hT : TownOk n rs) : standingWrong n rs (standD ps ws) = .none := by
  have n1 := hT.n1
  have hp : postsWrong n rs (ps.map enD) = .none := by
    unfold postsWrong
    rw [if_neg (by rw [List.length_map, h.pl]; omega)]
    rw [find_none fun j hj => by
      have hj2 : j < ps.length := by simpa using hj
      obtain ⟨h1, h2, h3⟩ := h.pv j hj2
      have e : (ps.map enD).getD j .none = enD (ps.getD j (0, 0)) := by
        rw [List.getD_eq_getElem?_getD, List.getElem?_map, List.getElem?_eq_getElem hj2, List.getD_eq_getElem?_getD, List.getElem?_eq_getElem hj2]
        rfl
      rw [e]
      unfold postOk
      rw [end_of h1 h2, toEn_enD, h3]
      simp]
  show (if isNoneB (postsWrong n rs (ps.map enD)) = true then walkersWrong rs.length (ws.map waD) else _) = _
  rw [hp]
  show walkersWrong rs.length (ws.map waD) = _
  unfold walkersWrong
  rw [if_neg (by rw [List.length_map]; have := h.wl; omega)]
  have gd : ∀ j, j < ws.length → (ws.map waD).getD j .none = waD (ws.getD j (Str.ofString "", (0, 0))) := fun j hj => by
    rw [List.getD_eq_getElem?_getD, List.getElem?_map, List.getElem?_eq_getElem hj, List.getD_eq_getElem?_getD, List.getElem?_eq_getElem hj]
    rfl
  have mem : ∀ j, j < ws.length → ws.getD j (Str.ofString "", (0, 0)) ∈ ws := fun j hj => by
    rw [List.getD_eq_getElem?_getD, List.getElem?_eq_getElem hj]
    exact List.getElem_mem hj
  rw [find_none fun j hj => by
    have hj2 : j < ws.length := by simpa using hj
    obtain ⟨h1, h2, h3⟩ := h.wv _ (mem j hj2)
    unfold walkerOk
    rw [gd j hj2, walker_ok h1 h2 h3]
    show (!(true && !leS (ws.getD j (Str.ofString "", (0, 0))).1 (aheadOf (ws.map waD) j))) = false
    have : leS (ws.getD j (Str.ofString "", (0, 0))).1 (aheadOf (ws.map waD) j) = false := by
      unfold aheadOf
      by_cases c : j = 0
      · rw [if_pos c]
        exact leS_nil (nameOk_len h1).1
      · rw [if_neg c, gd (j - 1) (by omega)]
        show leS _ (ws.getD (j - 1) (Str.ofString "", (0, 0))).1 = false
        have hr := List.pairwise_iff_getElem.mp h.ris (j - 1) j (by rw [List.length_map]; omega) (by rw [List.length_map]; omega) (by omega)
        rw [List.getElem_map, List.getElem_map] at hr
        have e1 : ws.getD j (Str.ofString "", (0, 0)) = ws[j] := by rw [List.getD_eq_getElem?_getD, List.getElem?_eq_getElem hj2]; rfl
        have e2 : ws.getD (j - 1) (Str.ofString "", (0, 0)) = ws[j - 1] := by rw [List.getD_eq_getElem?_getD, List.getElem?_eq_getElem (by omega)]; rfl
        rw [e1, e2]
        exact leS_lt hr
    rw [this]
    rfl]
theorem short_stand {n : Int} {rs : List (Int × Int)} {ps : List (Nat × Nat)} {ws : List (Str × (Nat × Nat))} (h : StandOk n rs ps ws) : shortW (standD ps ws) := fun ps' ws' e y hy a b e2 z e3 => by
  injection e with e
  injection e with e4 e
  injection e with e5 e
  injection e5 with e5
  subst e5
  obtain ⟨x, hx, rfl⟩ := List.mem_map.mp hy
  injection e2 with e2
  injection e2 with e6 e7
  rw [← e6] at e3
  injection e3 with e3
  rw [← e3]
  exact Nat.le_trans (nameOk_len (h.wv x hx).1).2 (by decide)
theorem name_strOk {z : Str} (h : nameOk z = true) : PyData.strOk z = true := by
  unfold PyData.strOk
  rw [Array.all_eq_true]
  intro i hi
  unfold nameOk at h
  rw [Bool.and_eq_true] at h
  have hs : signOk z i = true := (List.all_eq_true.mp h.2) (signOk z i) (List.mem_map.mpr ⟨i, by simpa using hi, rfl⟩)
  unfold signOk at hs
  rw [Bool.and_eq_true] at hs
  have h2 := hs.2
  have h122 : Str.ofString "z" = ⟨#[122]⟩ := by decide +kernel
  rw [h122] at h2
  unfold leS at h2
  have h3 : ¬ (([122] : List Nat) < [z.cps.getD i 0]) := by simpa using h2
  have h4 : z.cps.getD i 0 ≤ 122 := by
    refine Nat.le_of_not_lt fun c => h3 ?_
    exact List.cons_lt_cons_iff.mpr (.inl c)
  rw [Array.getD_eq_getD_getElem?, Array.getElem?_eq_getElem hi, Option.getD_some] at h4
  exact decide_eq_true (by omega)
theorem ep_deeds {O : List Addr} {δ : List Sl} {te : TE} {names : List Str} {E : XK} (h : Cp.EP O te δ (.list (names.map PyData.str))) (hn : names.length ≤ 100) :
    Cp.EP O (tCall (spP 1 (fun ds => ∃ names : List Str, ds.getD 0 .none = .list (names.map PyData.str) ∧ names.length ≤ 100) fun ds => .list (deedsL (strsOf (ds.getD 0 .none)))) [] E (tCons te tNil)) δ (.list (deedsL names)) :=
  ep_is (ep_call (f := fun ds => .list (deedsL (strsOf (ds.getD 0 .none)))) (ds := [.list (names.map PyData.str)]) (ap_cons h ap_nil) rfl ⟨names, rfl, hn⟩) (by show PyData.list (deedsL (strsOf (.list (names.map PyData.str)))) = _; rw [strsOf_is])
/-- [name for name, end in walkers] -/
theorem ep_namesL {O : List Addr} {δ : List Sl} {te tn : TE} {tt : TT} {ws : List (Str × (Nat × Nat))} {a b : Nat} {vs : List Nat} {K : PySem.W.Frag} (h : ∀ O, Cp.EP O te δ (.list (ws.map waD))) (hl : ws.length ≤ 100) (ha : a ∈ vs) (hb : b ∈ vs) (htt : ∀ σ H Q, Q true H → tt σ H Q)
    (hn : ∀ O (x : Str × (Nat × Nat)), Cp.EP O tn (((wipeS δ vs).set a (.d (.str x.1))).set b (.d (enD x.2))) (.str x.1)) : Cp.EP O (tLc (iList K te) (gTup K 2 (gCons (gName a) (gCons (gName b) gNil))) tt tn vs) δ (.list ((ws.map (·.1)).map PyData.str)) := by
  refine ep_is (ep_lc (n := ws.length) (ix := [a, b]) (item := fun i => (ws.map waD).getD i .none) (f := fun i => some (.str (ws.getD i (Str.ofString "", (0, 0))).1)) (fun O' => ?_) (by omega) (by simp [ha, hb]) fun O' i hi => ?_) ?_
  · have := wp_list (O := O') (K := K) (h O')
    rwa [List.length_map] at this
  · have e : (ws.map waD).getD i .none = .tuple [.str (ws.getD i (Str.ofString "", (0, 0))).1, enD (ws.getD i (Str.ofString "", (0, 0))).2] := by
      rw [List.getD_eq_getElem?_getD, List.getElem?_map, List.getElem?_eq_getElem hi, List.getD_eq_getElem?_getD, List.getElem?_eq_getElem hi]
      rfl
    rw [e]
    exact ⟨_, gb_tup2, fun σ H hD hS Q k => htt _ _ _ (k H (Ex.refl H)), fun y hy => by cases hy; exact hn O' _⟩
  · congr 1
    rw [List.filterMap_eq_map']
    refine List.ext_getElem? fun i => ?_
    rw [List.getElem?_map, List.getElem?_map, List.getElem?_map]
    by_cases hi : i < ws.length
    · rw [List.getElem?_range hi, List.getElem?_eq_getElem hi]
      show some (PyData.str (ws.getD i (Str.ofString "", (0, 0))).1) = _
      rw [List.getD_eq_getElem?_getD, List.getElem?_eq_getElem hi]
      rfl
    · rw [List.getElem?_eq_none (by simp; omega), List.getElem?_eq_none (by omega)]
      rfl
theorem deedsL_deed {names : List Str} (hn : ∀ z ∈ names, PyData.strOk z = true) : ∀ d ∈ deedsL names, isDeed d := fun d hd => by
  unfold deedsL rows2 at hd
  obtain ⟨i, hi, hd⟩ := List.mem_flatMap.mp hd
  obtain ⟨j, hj, hd⟩ := List.mem_filterMap.mp hd
  have hj : j < names.length := by simpa using hj
  have hz : PyData.strOk (names.getD j (Str.ofString "")) = true := hn _ (by
    rw [List.getD_eq_getElem?_getD, List.getElem?_eq_getElem hj]
    exact List.getElem_mem hj)
  have hi : i < 2 := by simpa using hi
  cases hd
  match i, hi with
  | 0, _ => exact ⟨(true, names.getD j (Str.ofString "")), rfl, hz⟩
  | 1, _ => exact ⟨(false, names.getD j (Str.ofString "")), rfl, hz⟩
/-- what row_wrong tells, of the walkers' names -/
def rowWrong (names : List Str) (y : PyData) : PyData := match y with
  | .list es => if 4000 < es.length then .tuple [.str "row"] else match firstOther (deedsL names) es with
    | .int j => .tuple [.str "deed", .int j]
    | _ => .none
  | _ => .tuple [.str "row"]
def ShL (y : PyData) : Prop := ∀ es, y = .list es → ∀ d ∈ es, Sh d
def namesW (d : PyData) : List Str := match d with
  | .tuple [_, .list ws] => ws.map fun x => match x with | .tuple [.str z, _] => z | _ => Str.ofString ""
  | _ => []
theorem namesW_is (ps : List (Nat × Nat)) (ws : List (Str × (Nat × Nat))) : namesW (standD ps ws) = ws.map (·.1) := by
  show (ws.map waD).map _ = _
  rw [List.map_map]
  rfl
theorem ep_ifE {O : List Addr} {δ : List Sl} {tt : TT} {ta tb : TE} {b : Bool} {x : PyData} (h : TP O tt δ b) (h1 : b = true → Cp.EP O ta δ x) (h2 : b = false → Cp.EP O tb δ x) : Cp.EP O (L2.tIf tt ta tb) δ x := fun σ H hD hS Q k =>
  h σ H hD hS _ fun H1 e1 => by
    cases b with
    | true => rw [if_pos rfl]; exact h1 rfl σ H1 (hD.ex e1) (hS.mono (hid_ex e1)) Q fun v H2 e2 hv => k v H2 (e1.trans e2) hv
    | false => rw [if_neg (by decide)]; exact h2 rfl σ H1 (hD.ex e1) (hS.mono (hid_ex e1)) Q fun v H2 e2 hv => k v H2 (e1.trans e2) hv
theorem ep_firstO {O : List Addr} {δ : List Sl} {te tx : TE} {L M : List PyData} {E : XK} (h : Cp.EP O te δ (.list M)) (hx : Cp.EP O tx δ (.list L)) (hM : ∀ d ∈ M, Sh d) (hL : L.length ≤ 200) (hLs : ∀ d ∈ L, isDeed d) :
    Cp.EP O (tCall (spP 2 (fun ds => ∃ M L : List PyData, ds.getD 0 .none = .list M ∧ ds.getD 1 .none = .list L ∧ (∀ d ∈ M, Sh d) ∧ L.length ≤ 200 ∧ (∀ d ∈ L, isDeed d)) fun ds => firstOther (listOf (ds.getD 1 .none)) (listOf (ds.getD 0 .none))) [] E (tCons te (tCons tx tNil))) δ (firstOther L M) :=
  ep_call (f := fun ds => firstOther (listOf (ds.getD 1 .none)) (listOf (ds.getD 0 .none))) (ds := [.list M, .list L]) (ap_cons h (ap_cons hx ap_nil)) rfl ⟨M, L, rfl, rfl, hM, hL, hLs⟩
def isWs (d : PyData) : Prop := ∃ ps ws, d = standD ps ws ∧ ws.length ≤ 4 ∧ ∀ z ∈ ws.map (·.1), PyData.strOk z = true
theorem ws_of {n : Int} {rs : List (Int × Int)} {ps : List (Nat × Nat)} {ws : List (Str × (Nat × Nat))} (h : StandOk n rs ps ws) : isWs (standD ps ws) := ⟨ps, ws, rfl, h.wl, fun z hz => by
  obtain ⟨x, hx, rfl⟩ := List.mem_map.mp hz
  exact name_strOk (h.wv x hx).1⟩
theorem rowD_sh {row : List (Bool × Str)} {names : List Str} (hn : ∀ z ∈ names, PyData.strOk z = true) (h : ∀ r ∈ row, r.2 ∈ names) : ShL (rowD row) := fun es e d hd => by
  injection e with e
  rw [← e] at hd
  obtain ⟨r, hr, rfl⟩ := List.mem_map.mp hd
  have := deD_sh (hn _ (h r hr))
  exact ⟨this.1, Nat.le_trans this.2 (by decide)⟩
theorem rowWrong_ok {names : List Str} {row : List (Bool × Str)} (h4 : row.length ≤ 4000) (hn : ∀ z ∈ names, PyData.strOk z = true) (h : ∀ r ∈ row, r.2 ∈ names) : rowWrong names (rowD row) = .none := by
  unfold rowWrong rowD
  simp only
  rw [if_neg (by rw [List.length_map]; omega)]
  unfold firstOther
  rw [find_none fun j hj => ?_]
  have hj2 : j < row.length := by simpa using hj
  have e : (row.map deD).getD j .none = deD row[j] := by
    rw [List.getD_eq_getElem?_getD, List.getElem?_map, List.getElem?_eq_getElem hj2]
    rfl
  rw [e]
  have : inD (deedsL names) (deD row[j]) = true := List.any_eq_true.mpr ⟨_, mem_deedsL (h _ (List.getElem_mem hj2)), SeqAt.eqv_refl _ (deD_sh (hn _ (h _ (List.getElem_mem hj2)))).1⟩
  rw [this]
  rfl
theorem G_find_row_wrong (T : Txt K mg A) (Z : Fns K A) : FnOk prg w K mg base CX0 3 A.a_find_row_wrong Z.fd_find_row_wrong ["standing", "thing"] (spP 2 (fun ds => isWs (ds.getD 0 .none) ∧ ShL (ds.getD 1 .none)) fun ds => rowWrong (namesW (ds.getD 0 .none)) (ds.getD 1 .none)) := by
  refine Fun.ok Z.F_find_row_wrong sc_find_row_wrong (fun vs H Q E h => pure_len h) (fun cdv Ar outer s H vs Q E hr h => ⟨_, (pss_cons (ps_if (PW.pt (pw_or (pt_not (pt_val (pe_callB (kx_isi (K := K) rfl) (by rfl) T.n_isinstance (by decide +kernel) (pa_cons (pv 1) (pa_cons (pe_bltn (v := .ty "list") (by rfl) T.n_list (by decide +kernel) rfl) pa_nil))))) (pw_or1 (pt_cmpR op_gt (pe_callB (kx_len (K := K) rfl) (by rfl) T.n_len (by decide +kernel) (pa_cons (pv 1) pa_nil)) (pe_glob (v := .int 4000) rfl T.c_MOST_DEEDS.choose_spec ⟨_, rfl⟩) (nomark _))))) (pss_one (ps_ret (pe_tup (pa_cons pe_str pa_nil)))) pss_nil)
    (pss_cons (ps_set (i := 2) sc_find_row_wrong.nd rfl (by first | exact Or.inl rfl | exact Or.inr rfl) (pe_call (G_first_other T Z) (hr.mono (by decide)) rfl T.g_first_other T.k_first_other Z.b_first_other .nil pass0 (pa_cons (pv 1) (pa_cons (pe_call (G_deeds_of T Z) (hr.mono (by decide)) rfl T.g_deeds_of T.k_deeds_of Z.b_deeds_of .nil pass0 (pa_cons (pe_lc (own := [("name", 3), ("_", 4)]) rfl sc_find_row_wrong.nd (kx_list (K := K) rfl (pe_ix (kx_ix (K := K) rfl) (pv 0) pe_int (fun _ _ => rfl))) (blkOk_by (own := [("name", 3), ("_", 4)]) (N := ["standing", "thing", "number", "name", "_"]) (sc := defScope s_find_row_wrong) (by decide +kernel)) (fun _ _ _ _ _ => (kx_gtup (K := K) (n := 2) rfl rfl (pgs_cons (pg_name (i := 3) sc_find_row_wrong.nd rfl (by first | exact Or.inl rfl | exact Or.inr rfl)) (pgs_cons (pg_name (i := 4) sc_find_row_wrong.nd rfl (by first | exact Or.inl rfl | exact Or.inr rfl)) pgs_nil)))) (fun _ _ _ _ _ => pts_nil) (fun _ _ _ _ _ => (pv 3))) pa_nil)) pa_nil))))
    (pss_one (ps_ret (pe_ifExp (pt_cmpR op_isN (pv 2) pe_non (nomark _)) pe_non (pe_tup (pa_cons pe_str (pa_cons (pv 2) pa_nil)))))))), ?_⟩)
  refine pure_body (by decide) (fun O ds hl hp => ?_) h
  match ds, hl with
  | [a, y], _ =>
    obtain ⟨⟨ps, ws, ha, hw4, hns⟩, hy⟩ := hp
    obtain rfl : a = standD ps ws := ha
    have hy : ShL y := hy
    show DS O _ [.d (standD ps ws), .d y, .no, .no, .no] _ (fun d => d = rowWrong (namesW (standD ps ws)) y)
    rw [namesW_is]
    have hnl : (ws.map (·.1)).length ≤ 4 := by rw [List.length_map]; exact hw4
    have bad : ∀ {δ : List Sl} {N0 : List Sl → Prop}, rowWrong (ws.map (·.1)) y = .tuple [.str "row"] → DS O (tRet (tTup (tCons (tC (.str (Str.ofString "row"))) tNil))) δ N0 (fun d => d = rowWrong (ws.map (·.1)) y) := fun h => ds_ret (ep_tup (ap_cons ep_str ap_nil) (by decide)) h.symm
    cases y with
    | list es =>
      have hes : ∀ d ∈ es, Sh d := hy es rfl
      refine ds_seq (N1 := fun δ => δ = [.d (standD ps ws), .d (.list es), .no, .no, .no] ∧ es.length ≤ 4000) (ds_if (tp_or (tp_not (tp_B (ep_isList (ep_var (i := 1) rfl)))) fun _ => tp_test (ep_op (ep_len (ep_var (i := 1) rfl) (Or.inl ⟨es, rfl, rfl⟩)) ep_int (rp_bl (g := fun i j => decide (j < i))))) (fun c => bad ?_) fun c => ds_next ⟨rfl, ?_⟩) ?_
      · have c : 4000 < es.length := by
          simp [isListB] at c
          omega
        unfold rowWrong
        simp only [if_pos c]
      · simp [isListB] at c
        omega
      rintro _ ⟨rfl, h4⟩
      have hrw : rowWrong (ws.map (·.1)) (.list es) = match firstOther (deedsL (ws.map (·.1))) es with
        | .int j => .tuple [.str "deed", .int j]
        | _ => .none := by
        unfold rowWrong
        simp only [if_neg (show ¬ 4000 < es.length by omega)]
        all_goals rfl
      refine ds_seq (N1 := fun δ => δ = [.d (standD ps ws), .d (.list es), .d (firstOther (deedsL (ws.map (·.1))) es), .no, .no])
        (ds_asg (i := 2) (ep_firstO (ep_var (i := 1) rfl) (ep_deeds (ep_namesL (a := 3) (b := 4) (fun O' => ep_op (x := standD ps ws) (ep_var (i := 0) rfl) ep_int (rp_ix2 (rp_ixT (j := 1) rfl rfl))) (by omega) (by decide) (by decide) (fun σ H Q h => h) fun O' x => ep_var (i := 3) rfl) (by omega)) hes (by have := deedsL_len (ws.map (·.1)); omega) (deedsL_deed hns)) rfl) ?_
      rintro _ rfl
      rw [hrw]
      have hcase : firstOther (deedsL (ws.map (·.1))) es = .none ∨ ∃ j : Nat, firstOther (deedsL (ws.map (·.1))) es = .int j := by
        unfold firstOther
        split
        · exact Or.inr ⟨_, rfl⟩
        · exact Or.inl rfl
      rcases hcase with e | ⟨j, e⟩
      · rw [e]
        exact ds_ret (ep_ifE (b := true) (tp_is (tp_test (ep_op (ep_var (i := 2) (x := .none) rfl) ep_non rp_isN)) rfl) (fun _ => ep_non) fun z => by cases z) rfl
      · rw [e]
        exact ds_ret (ep_ifE (b := false) (tp_is (tp_test (ep_op (ep_var (i := 2) (x := .int (j : Int)) rfl) ep_non rp_isN)) rfl) (fun z => by cases z) fun _ => ep_tup (ap_cons ep_str (ap_cons (ep_var (i := 2) rfl) ap_nil)) (by simp)) rfl
    | _ =>
      refine ds_seq (N1 := fun _ => False) (ds_if (b := true) (tp_is (tp_or (a := true) (b := true) (tp_is (tp_not (tp_B (ep_isList (ep_var (i := 1) rfl)))) rfl) fun z => by cases z) rfl) (fun _ => bad rfl) fun z => by cases z) fun _ z => z.elim
def spRowW : Sp := fun vs H Q _ => ∃ (O : List Addr) (n : Int) (rs : List (Int × Int)) (ps : List (Nat × Nat)) (ws : List (Str × (Nat × Nat))) (row : List (Bool × Str)), Dom O H ∧ DtAll (hid O H) [townD n rs, standD ps ws, rowD row] vs ∧ TownOk n rs ∧ StandOk n rs ps ws ∧ RowOk ws row ∧ ∀ H', Ex H H' → Q .non H'
theorem ep_findR {O : List Addr} {δ : List Sl} {te tx : TE} {ps : List (Nat × Nat)} {ws : List (Str × (Nat × Nat))} {y : PyData} {E : XK} (h : Cp.EP O te δ (standD ps ws)) (hx : Cp.EP O tx δ y) (hw : isWs (standD ps ws)) (hy : ShL y) :
    Cp.EP O (tCall (spP 2 (fun ds => isWs (ds.getD 0 .none) ∧ ShL (ds.getD 1 .none)) fun ds => rowWrong (namesW (ds.getD 0 .none)) (ds.getD 1 .none)) [] E (tCons te (tCons tx tNil))) δ (rowWrong (ws.map (·.1)) y) :=
  ep_is (ep_call (f := fun ds => rowWrong (namesW (ds.getD 0 .none)) (ds.getD 1 .none)) (ds := [standD ps ws, y]) (ap_cons h (ap_cons hx ap_nil)) rfl ⟨hw, hy⟩) (by show rowWrong (namesW (standD ps ws)) y = _; rw [namesW_is])
/-- what row_wrong tells and refuses -/
def spRowG (CT CS : Addr) : Sp := fun vs H Q E => ∃ (O : List Addr) (d x y : PyData), Dom O H ∧ DtAll (hid O H) [d, x, y] vs ∧ shortW x ∧ ShL y ∧
  (townWrong d ≠ .none → ∀ dd u H', H dd = none → Ex H H' → Dt (hid O H') (townWrong d) u → H' dd = some (.xd [("wrong", u)]) → E (.ref CT) (some dd) H') ∧
  (∀ n rs, d = townD n rs → TownOk n rs → (standingWrong n rs x ≠ .none → ∀ dd u H', H dd = none → Ex H H' → Dt (hid O H') (standingWrong n rs x) u → H' dd = some (.xd [("wrong", u)]) → E (.ref CS) (some dd) H') ∧
    (standingWrong n rs x = .none → ∃ ps ws, x = standD ps ws ∧ isWs x ∧ ∀ v H', Ex H H' → Dt (hid O H') (rowWrong (ws.map (·.1)) y) v → Q v H'))
theorem G_row_wrong (T : Txt K mg A) (Z : Fns K A) : FnOk prg w K mg base (L2.CX prg w) 8 A.a_row_wrong Z.fd_row_wrong ["town", "standing", "thing"] (spRowG A.NoTown A.NoStanding) := by
  refine Fun.okX Z.F_row_wrong sc_row_wrong (fun vs H Q E h => by obtain ⟨O, d, x, y, _, hv, _⟩ := h; exact hv.length) (fun cdv Ar outer s H vs Q E hr h => ⟨_, (pss_cons (ps_expr (pe_call (G_need_standing T Z) (hr.mono (by decide)) rfl T.g_need_standing T.k_need_standing Z.b_need_standing .nil (passes_call (takes_of rfl rfl rfl rfl) (fun _ _ _ _ h => h)) (pa_cons (pv 0) (pa_cons (pv 1) pa_nil))))
    (pss_one (ps_ret (pe_call (G_find_row_wrong T Z) (hr.mono (by decide)) rfl T.g_find_row_wrong T.k_find_row_wrong Z.b_find_row_wrong .nil pass0 (pa_cons (pv 1) (pa_cons (pv 2) pa_nil)))))), ?_⟩)
  obtain ⟨O, d, x, y, hD, hv, hsx, hy, k1, k2⟩ := h
  have s0 : SD (hid O H) [.d d, .d x, .d y] (L2.start ["town", "standing", "thing"] vs) := sd_start hv _ (by simp)
  obtain ⟨vd, hvd, hdd⟩ := s0.var (i := 0) rfl
  obtain ⟨vx, hvx, hdx⟩ := s0.var (i := 1) rfl
  refine ha_seq ⟨vd, hvd, vx, hvx, O, d, x, hD, ⟨vd, [vx], rfl, hdd, vx, [], rfl, hdx, rfl⟩, hsx, k1, fun n rs hd hT => ?_⟩
  obtain ⟨k3, k4⟩ := k2 n rs hd hT
  refine ⟨fun hz H1 e1 => ?_, k3⟩
  obtain ⟨ps, ws, rfl, hw, k5⟩ := k4 hz
  exact ha_ret (ep_findR (ep_var (i := 1) rfl) (ep_var (i := 2) rfl) hw hy) (hD.ex e1) (s0.mono (hid_ex e1)) fun v H' e hd => k5 v H' (e1.trans e) hd
/-- refused with C, which bears r -/
def RefD (O : List Addr) (H : Hp) (C : Addr) (r : PyData) (E : XK) : Prop := ∀ dd u H', H dd = none → Ex H H' → Dt (hid O H') r u → H' dd = some (.xd [("wrong", u)]) → E (.ref C) (some dd) H'
theorem RefD.ex {O : List Addr} {H H1 : Hp} {C : Addr} {r : PyData} {E : XK} (h : RefD O H C r E) (e : Ex H H1) : RefD O H1 C r E := fun dd u H' h1 e2 hu hx => h dd u H' (Evl.fresh_back e h1) (e.trans e2) hu hx
/-- asked of a town, a standing and a row: W what is wrong of the row, T what is told -/
def spAsk (CT CS CR : Addr) (W : List (Str × (Nat × Nat)) → PyData → PyData) (T : List Addr → Hp → List (Int × Int) → List (Nat × Nat) → List (Str × (Nat × Nat)) → PyData → V → Hp → Prop) : Sp := fun vs H Q E => ∃ (O : List Addr) (d x y : PyData), Dom O H ∧ DtAll (hid O H) [d, x, y] vs ∧ shortW x ∧ ShL y ∧
  (townWrong d ≠ .none → RefD O H CT (townWrong d) E) ∧
  (∀ n rs, d = townD n rs → TownOk n rs → (standingWrong n rs x ≠ .none → RefD O H CS (standingWrong n rs x) E) ∧
    (standingWrong n rs x = .none → ∃ ps ws, x = standD ps ws ∧ StandOk n rs ps ws ∧ (W ws y ≠ .none → RefD O H CR (W ws y) E) ∧ (W ws y = .none → ∀ v H', T O H rs ps ws y v H' → Q v H')))
theorem spAsk_len {CT CS CR : Addr} {W : List (Str × (Nat × Nat)) → PyData → PyData} {T : List Addr → Hp → List (Int × Int) → List (Nat × Nat) → List (Str × (Nat × Nat)) → PyData → V → Hp → Prop} {vs : List V} {H : Hp} {Q : VK} {E : XK} (h : spAsk CT CS CR W T vs H Q E) : vs.length = 3 := by
  obtain ⟨O, d, x, y, _, hv, _⟩ := h
  exact hv.length
def wRow (ws : List (Str × (Nat × Nat))) (y : PyData) : PyData := rowWrong (ws.map (·.1)) y
def tNeed (O : List Addr) (H : Hp) (rs : List (Int × Int)) (ps : List (Nat × Nat)) (ws : List (Str × (Nat × Nat))) (y : PyData) (v : V) (H' : Hp) : Prop := v = .non ∧ Ex H H'
theorem none_of {d : PyData} (h : isNoneB d = true) : d = .none := by
  cases d with
  | none => rfl
  | _ => cases h
theorem none_not {d : PyData} (h : isNoneB d = false) : d ≠ .none := fun z => by rw [z] at h; cases h
theorem deedsL_mem {names : List Str} {d : PyData} (h : d ∈ deedsL names) : ∃ r : Bool × Str, d = deD r ∧ r.2 ∈ names := by
  unfold deedsL rows2 at h
  obtain ⟨i, hi, h⟩ := List.mem_flatMap.mp h
  obtain ⟨j, hj, h⟩ := List.mem_filterMap.mp h
  have hj : j < names.length := by simpa using hj
  have hz : names.getD j (Str.ofString "") ∈ names := by
    rw [List.getD_eq_getElem?_getD, List.getElem?_eq_getElem hj]
    exact List.getElem_mem hj
  have hi : i < 2 := by simpa using hi
  cases h
  match i, hi with
  | 0, _ => exact ⟨(true, names.getD j (Str.ofString "")), rfl, hz⟩
  | 1, _ => exact ⟨(false, names.getD j (Str.ofString "")), rfl, hz⟩
theorem inD_deed {names : List Str} {x : PyData} (h : inD (deedsL names) x = true) : ∃ r : Bool × Str, x = deD r ∧ r.2 ∈ names := by
  obtain ⟨u, hu, eu⟩ := List.any_eq_true.mp h
  obtain ⟨r, rfl, hr⟩ := deedsL_mem hu
  exact ⟨r, deD_eq eu, hr⟩
theorem row_list {names : List Str} : ∀ {es : List PyData}, (∀ x ∈ es, ∃ r : Bool × Str, x = deD r ∧ r.2 ∈ names) → ∃ row : List (Bool × Str), es = row.map deD ∧ ∀ r ∈ row, r.2 ∈ names
  | [], _ => ⟨[], rfl, fun r h => by cases h⟩
  | x :: es, h => by
    obtain ⟨r, rfl, hr⟩ := h x (by simp)
    obtain ⟨row, rfl, hrow⟩ := row_list (es := es) fun y hy => h y (by simp [hy])
    exact ⟨r :: row, rfl, fun r' hr' => by
      rcases List.mem_cons.mp hr' with z | z
      · rw [z]; exact hr
      · exact hrow r' z⟩
theorem row_of {ws : List (Str × (Nat × Nat))} {y : PyData} (h : wRow ws y = .none) : ∃ row, y = rowD row ∧ RowOk ws row := by
  unfold wRow at h
  cases y with
  | list es =>
    unfold rowWrong at h
    simp only at h
    by_cases c : 4000 < es.length
    · rw [if_pos c] at h
      cases h
    rw [if_neg c] at h
    have hall : ∀ x ∈ es, ∃ r : Bool × Str, x = deD r ∧ r.2 ∈ ws.map (·.1) := fun x hx => by
      obtain ⟨j, hj, rfl⟩ := List.mem_iff_getElem.mp hx
      refine inD_deed ?_
      unfold firstOther at h
      cases hf : (List.range es.length).find? fun j => !inD (deedsL (ws.map (·.1))) (es.getD j .none) with
      | some k => rw [hf] at h; cases h
      | none =>
        rw [List.find?_eq_none] at hf
        have := hf j (List.mem_range.mpr hj)
        rw [List.getD_eq_getElem?_getD, List.getElem?_eq_getElem hj] at this
        simpa using this
    obtain ⟨row, rfl, hr⟩ := row_list hall
    exact ⟨row, rfl, by rw [List.length_map] at c; omega, hr⟩
  | _ => cases h
theorem wRow_ok {n : Int} {rs : List (Int × Int)} {ps : List (Nat × Nat)} {ws : List (Str × (Nat × Nat))} {row : List (Bool × Str)} (h : StandOk n rs ps ws) (hr : RowOk ws row) : wRow ws (rowD row) = .none := rowWrong_ok hr.1 (fun z hz => by
  obtain ⟨x, hx, rfl⟩ := List.mem_map.mp hz
  exact name_strOk (h.wv x hx).1) hr.2
theorem G_need_row (T : Txt K mg A) (Z : Fns K A) : FnOk prg w K mg base (L2.CX prg w) 9 A.a_need_row Z.fd_need_row ["town", "standing", "row"] (spAsk A.NoTown A.NoStanding A.NoRow wRow tNeed) := by
  refine Fun.okX Z.F_need_row sc_need_row (fun vs H Q E h => spAsk_len h) (fun cdv Ar outer s H vs Q E hr h => ⟨_, (pss_cons (ps_set (i := 3) sc_need_row.nd rfl (by first | exact Or.inl rfl | exact Or.inr rfl) (pe_call (G_row_wrong T Z) (hr.mono (by decide)) rfl T.g_row_wrong T.k_row_wrong Z.b_row_wrong .nil (passes_call (takes_of rfl rfl rfl rfl) (fun _ _ _ _ h => h)) (pa_cons (pv 0) (pa_cons (pv 1) (pa_cons (pv 2) pa_nil)))))
    (pss_one (ps_if (pt_cmpR op_notN (pv 3) pe_non (nomark _)) (pss_one (ps_raise rfl (takes_of rfl rfl rfl rfl) (pmk_oex T.s_NoRow.oex T.s_NoRow.iC T.s_NoRow.tI (sup_ok T.s_NoRow T.n_super CX0 0) (hr.mono (by decide)) (sup_binds T.s_NoRow) .nil pass0 rfl T.g_NoRow (pa_cons (pv 3) pa_nil)))) pss_nil))), ?_⟩)
  obtain ⟨O, d, x, y, hD, hv, hsx, hy, k1, k2⟩ := h
  have s0 : SD (hid O H) [.d d, .d x, .d y, .no] (L2.start ["town", "standing", "row", "wrong"] vs) := sd_start hv _ (by simp)
  obtain ⟨vd, hvd, hdd⟩ := s0.var (i := 0) rfl
  obtain ⟨vx, hvx, hdx⟩ := s0.var (i := 1) rfl
  obtain ⟨vr, hvr, hdr⟩ := s0.var (i := 2) rfl
  refine ha_seq ⟨vd, hvd, vx, hvx, vr, hvr, O, d, x, y, hD, ⟨vd, [vx, vr], rfl, hdd, vx, [vr], rfl, hdx, vr, [], rfl, hdr, rfl⟩, hsx, hy, k1, fun n rs hd hT => ⟨(k2 n rs hd hT).1, fun hz => ?_⟩⟩
  obtain ⟨ps, ws, rfl, hok, k3, k4⟩ := (k2 n rs hd hT).2 hz
  refine ⟨ps, ws, rfl, ws_of hok, fun v H1 e1 hv1 => ?_⟩
  dsimp only [gName]
  have hv1 : Dt (hid O H1) (wRow ws y) v := hv1
  have s1 := (s0.mono (hid_ex e1)).set 3 (slok_d hv1)
  have d1 := hD.ex e1
  refine ha_if (tp_test (ep_op (ep_var (i := 3) (x := wRow ws y) rfl) ep_non rp_notN)) d1 s1 (fun c H2 e2 => ?_) fun c H2 e2 => ?_
  · have c : isNoneB (wRow ws y) = false := by simpa using c
    obtain ⟨u, hu, hdu⟩ := (s1.mono (hid_ex e2)).var (i := 3) rfl
    exact sup_raise2 3 hu (e1.trans e2) fun dd H' h1 ex' hxd => k3 (none_not c) dd u H' h1 ((e1.trans e2).trans ex') (Dt.mono (hid_ex ex') _ _ hdu) hxd
  · have c : isNoneB (wRow ws y) = true := by simpa using c
    exact k4 (none_of c) .non H2 ⟨rfl, e1.trans e2⟩
end
end K04
/-! Cameposts: what is new, more than once; dicts gone through under their lock -/
namespace Cp
open PySem L2 PySem.Spec PyProof.Rows
open Evl (Ex)
section
variable {O : List Addr} {J : Hp → Prop} {K : PySem.W.Frag} {δ : List Sl} {te tk tv : TE} {N : List Sl → Hp → Prop} {R : V → Hp → Prop} {x y z d : PyData} {i j m : Nat} {l : Addr}
theorem ex_upd {H0 H : Hp} {l : Addr} {o : HO} (e : Ex H0 H) (hl : H0 l = none) : Ex H0 (upd H l o) := fun a q h => by
  have : a ≠ l := fun z => by rw [z, hl] at h; cases h
  rw [upd_ne this]
  exact e a q h
theorem ex_none {H0 H : Hp} {l : Addr} (e : Ex H0 H) (hl : H l = none) : H0 l = none := by
  cases q : H0 l with
  | none => rfl
  | some o => rw [e l o q] at hl; cases hl
theorem ex_back {O : List Addr} {H0 H H' : Hp} (x : Ex H0 H) (e : ∀ a ∈ O, H' a = H a) (ex : Ex (hid O H) (hid O H')) : Ex H0 H' := fun a o q => by
  have hq := x a o q
  by_cases c : a ∈ O
  · rw [e a c]; exact hq
  · exact (hid_some (ex a o (by rw [hid_out c]; exact hq))).2
theorem jok_ex {H0 : Hp} : Jok O (Ex H0) := fun H H' e ex h => ex_back h e ex
theorem gb_tup3 : GB O (gTup K 3 (gCons (gName i) (gCons (gName j) (gCons (gName m) gNil)))) (.tuple [x, y, z]) δ (((δ.set i (.d x)).set j (.d y)).set m (.d z)) [i, j, m] := fun σ H v hD hS hv Q k => by
  obtain ⟨a, xs, rfl, h1, v1, r1, rfl, q1, v2, r2, rfl, q2, v3, r3, rfl, q3, q4⟩ := hv
  cases q4
  refine ⟨a, _, rfl, SqT.of (hid_some h1).2, rfl, v1, [v2, v3], rfl, v2, [v3], rfl, v3, [], rfl, rfl, ?_⟩
  refine k _ (((hS.set i (slok_d q1)).set j (slok_d q2)).set m (slok_d q3)) (by simp) fun s hm => ?_
  simp only [List.mem_cons, List.not_mem_nil, or_false, not_or] at hm
  rw [List.getElem?_set_ne (fun e => hm.2.2 e.symm), List.getElem?_set_ne (fun e => hm.2.1 e.symm), List.getElem?_set_ne (fun e => hm.1 e.symm)]
theorem Acc.jok {H1 : Hp} {D : Addr} {ds : List PyData} : Jok (D :: O) (Acc O H1 D ds) := fun H H' e ex ⟨⟨acc, h1, h2⟩, h3⟩ =>
  ⟨⟨acc, by rw [e D (by simp)]; exact h1, h2.mono ex⟩, fun a o ha q => by
    have hq := h3 a o ha q
    by_cases c : a ∈ D :: O
    · rw [e a c]; exact hq
    · exact (hid_some (ex a o (by rw [hid_out c]; exact hq))).2⟩
theorem ed_dgetF {od : Obj} {kvs : List (Key × V)} {q : Key} {v : V} (hs : δ.getD i .no = .at l) (hk : ED O J tk δ (kD q)) (hl : ∀ H, J H → H l = some (.frz od (.dK kvs))) (hv : valV kvs q = some v) (hd : ∀ H, Dt H d v) : ED O J (tDGet (tVar i) tk) δ d := fun σ H hJ hD hS Q k =>
  ⟨.ref l, hS.loc hs, hk σ H hJ hD hS _ fun e w H1 p d1 e1 hw => by
    rw [p.1] at hw
    refine ⟨l, v, rfl, ?_, k d v H1 ⟨rfl, p.2⟩ d1 e1 (hd _)⟩
    rw [dt_kD hw, ← hv]
    exact Or.inl ⟨kvs, q, Or.inr ⟨od, hl H1 p.2⟩, rfl, rfl⟩⟩
theorem ed_tup2 (j : Jok O J) (ha : ED O J te δ x) (hb : ED O J tk δ y) : ED O J (tTup (tCons te (tCons tk tNil))) δ (.tuple [x, y]) :=
  em_tup2 (Pb := fun a b H => a = x ∧ b = y ∧ J H) ha (fun a => fun σ H hJ hD hS Q k => hb σ H hJ.2 hD hS Q fun e v H' p => k e v H' ⟨hJ.1, p.1, p.2⟩)
    fun a b H H' p hD e => ⟨by rw [p.1, p.2.1], j.ex hD e p.2.2⟩
theorem en_keysJ {od : Obj} {l : List (Key × V)} {d : Addr} {g : TG} {tt : TT} {ix vs : List Nat} {f : Nat → PyData} (hdO : d ∈ O) (hsl : δ.getD i .no = .at d) (hi : ∀ j ∈ ix, j ∈ vs) (hl : l.length ≤ 1000) (htt : ∀ σ H Q, Q true H → tt σ H Q)
    (hs : ∀ D, D ∉ O → ∀ m q v, l[m]? = some (q, v) → ∃ δ2, GB (D :: O) g (kD q) (wipeS δ vs) δ2 ix ∧ ∀ J', Jok (D :: O) J' → (∀ H, J' H → H d = some (.frz od (.dK l))) → ED (D :: O) J' te δ2 (f m))
    {σ : L2.St} {H : Hp} (hD : Dom O H) (hS : SD (hid O H) δ σ) (hd : H d = some (.frz od (.dK l))) {Q : VK} (k : ∀ a H', H a = none → Ex H H' → H' a ≠ none → Own (a :: O) a ((List.range l.length).map f) H' → Q (.ref a) H') : tLc (iKeys (tVar i)) g tt te vs σ H Q := by
  refine ⟨.ref d, hS.loc hsl, d, od, rfl, Or.inl ⟨l, hd, ?_⟩⟩
  intro D hDn
  have dD : D ≠ d := fun z => by rw [z, hd] at hDn; cases hDn
  have w : Walk (Itk d od l) l.length (fun H' => H' d = some (.frz od (.dK l))) (fun m H' x H'' => H'' = H' ∧ ∃ q v, l[m]? = some (q, v) ∧ x = kV q) := ⟨fun m H' hm g => ⟨g, hm⟩, fun H' g => ⟨g, Nat.le_refl _⟩, fun m H' x H'' hm g y => y⟩
  refine lc_it w (fun m H' => Acc O H D ((List.range m).map f) H') ⟨⟨[], upd_same, rfl⟩, fun a o ha q => by rw [upd_ne ha]; exact q⟩ (fun m H' _ p => p.2 d _ dD.symm hd) (fun m v H' H2 hm p y => ?_) fun H' p => ?_
  · obtain ⟨rfl, q, u, hq, rfl⟩ := y
    have d2 := p.dom hD hDn
    obtain ⟨δ2, hg, he⟩ := hs D (hD.fresh hDn) m q u hq
    have s2 : SD (Cp.hid (D :: O) H2) (wipeS δ vs) (L2.wipe σ vs) := (hS.wipe vs).mono (p.hid hDn)
    refine hg _ H2 (kV q) d2 s2 kD_dt _ fun σ2 s3 hl2 hj => ⟨?_, ?_⟩
    · rw [wipe_same (vs := vs) hl2 hj hi]
      exact wipe_wipe σ vs vs fun _ h => h
    · refine htt _ _ _ ?_
      rw [if_pos rfl]
      refine he (Acc O H D ((List.range m).map f)) Acc.jok (fun H' p => p.2 d _ dD.symm hd) σ2 H2 p d2 s3 _ fun x v H4 p4 d4 e4 hv => ?_
      obtain ⟨rfl, p4⟩ := p4
      obtain ⟨⟨acc, q1, q2⟩, q3⟩ := id p4
      refine ⟨acc, q1, ?_, ?_⟩
      · rw [q2.length, List.length_map, List.length_range]
        exact Evl.sz_lt (by omega)
      · show Acc O H D _ _
        rw [List.range_succ, List.map_append]
        exact p4.push q1 hv
  · obtain ⟨⟨acc, q1, q2⟩, q3⟩ := id p
    exact k D H' hDn (fun a o q => q3 a o (fun z => by rw [z, hDn] at q; cases q) q) (by rw [q1]; simp) ⟨acc, q1, q2⟩
/-- [te for k in d], d data -/
theorem en_lock {kd : List (PyData × PyData)} {g : TG} {tt : TT} {ix vs : List Nat} {f : Nat → PyData} (hsl : δ.getD i .no = .d (.dict kd)) (hkd : ∀ p ∈ kd, p.2.hasDict = false) (ho : ∀ j x, j ≠ i → δ.getD j .no = .d x → x.hasDict = false) (hob : ∀ j f, δ.getD j .no ≠ .ob f)
    (hi : ∀ j ∈ ix, j ∈ vs) (hl : kd.length ≤ 1000) (htt : ∀ σ H Q, Q true H → tt σ H Q)
    (hs : ∀ od d l H0, DtKV H0 kd l → ∀ D, D ∉ d :: O → ∀ m q v, l[m]? = some (q, v) → ∃ δ2, GB (D :: d :: O) g (kD q) (wipeS (δ.set i (.at d)) vs) δ2 ix ∧ ∀ J', Jok (D :: d :: O) J' → (∀ H, J' H → H d = some (.frz od (.dK l))) → ED (D :: d :: O) J' te δ2 (f m)) :
    EN O (tLockE (tLc (iKeys (tVar i)) g tt te vs)) δ (fun a H => Own (a :: O) a ((List.range kd.length).map f) H) := fun σ H hD hS Q k => by
  have h0 := hS.2 i
  rw [hsl] at h0
  obtain ⟨v, hv, d, l, rfl, h1, h2⟩ := h0
  obtain ⟨dO, h1⟩ := hid_some h1
  refine ⟨d, .dK l, h1, trivial, fun od => ?_⟩
  have hh : hid (d :: O) (upd H d (.frz od (.dK l))) = hid (d :: O) H := hid_set (by simp)
  have hkv := DtKV.hide h1 kd l hkd h2
  have hD1 : Dom (d :: O) (upd H d (.frz od (.dK l))) := fun a ha => by
    rcases List.mem_cons.mp ha with rfl | ha
    · rw [upd_same]; simp
    · exact dom_upd hD a ha
  have hS1 : SD (hid (d :: O) (upd H d (.frz od (.dK l)))) (δ.set i (.at d)) σ := by
    rw [hh]
    refine ⟨by rw [List.length_set]; exact hS.1, fun j => ?_⟩
    by_cases c : i = j
    · subst c
      by_cases hlen : i < δ.length
      · have e : (δ.set i (.at d)).getD i .no = .at d := by
          rw [List.getD_eq_getElem?_getD, List.getElem?_set_self hlen]
          rfl
        rw [e]
        exact hv
      · rw [List.getD_eq_getElem?_getD, List.getElem?_eq_none (by omega)] at hsl
        cases hsl
    · have e : (δ.set i (.at d)).getD j .no = δ.getD j .no := by
        rw [List.getD_eq_getElem?_getD, List.getElem?_set_ne c, ← List.getD_eq_getElem?_getD]
      rw [e]
      have hj := hS.2 j
      cases hs' : δ.getD j .no with
      | no => trivial
      | d x =>
        rw [hs'] at hj
        obtain ⟨u, hu, hx⟩ := hj
        exact ⟨u, hu, Dt.hide h1 x u (ho j x (fun z => c z.symm) hs') hx⟩
      | «at» a => rw [hs'] at hj; exact hj
      | ob f => exact absurd hs' (hob j f)
  have hlen := h2.length
  refine en_keysJ (O := d :: O) (d := d) (od := od) (l := l) (f := f) (by simp) (by
    by_cases hlen : i < δ.length
    · rw [List.getD_eq_getElem?_getD, List.getElem?_set_self hlen]; rfl
    · rw [List.getD_eq_getElem?_getD, List.getElem?_eq_none (by omega)] at hsl
      cases hsl) hi (by omega) htt (hs od d l _ hkv) hD1 hS1 upd_same fun a H' ha ex hne own => ?_
  have ad : a ≠ d := fun z => by rw [z, upd_same] at ha; cases ha
  rw [upd_ne ad] at ha
  refine ⟨ex _ _ upd_same, k a _ ha (fun b o q => ?_) (by rw [upd_ne ad]; exact hne) ?_⟩
  · by_cases c : b = d
    · rw [c, upd_same, ← h1, ← c, q]
    · rw [upd_ne c]
      exact ex b o (by rw [upd_ne c]; exact q)
  · obtain ⟨xs, o1, o2⟩ := own
    rw [hlen] at o2
    refine ⟨xs, by rw [upd_ne ad]; exact o1, o2.mono fun b o q => ?_⟩
    obtain ⟨q1, q2⟩ := hid_some q
    simp only [List.mem_cons, not_or] at q1
    rw [hid_out (by simp [q1.1, q1.2.2]), upd_ne q1.2.1]
    exact q2
theorem Own.more {a b : Addr} {ds : List PyData} {H H' : Hp} (h : Own O a ds H) (hb : H b = none) (e : Ex H H') : Own (b :: O) a ds H' := by
  obtain ⟨vs, h1, h2⟩ := h
  refine ⟨vs, e _ _ h1, h2.mono fun c o q => ?_⟩
  obtain ⟨q1, q2⟩ := hid_some q
  have : c ≠ b := fun z => by rw [z, hb] at q2; cases q2
  rw [hid_out (by simp [this, q1])]
  exact e c o q2
theorem hid_new {a : Addr} {H H' : Hp} (ha : H a = none) (e : Ex H H') : Ex (hid O H) (hid (a :: O) H') := fun b o q => by
  obtain ⟨q1, q2⟩ := hid_some q
  have : b ≠ a := fun z => by rw [z, ha] at q2; cases q2
  rw [hid_out (by simp [this, q1])]
  exact e b o q2
/-- return (new, new) -/
theorem dm_retTwo {t1 t2 : TE} {ds1 ds2 : List PyData} (h1 : EN O t1 δ (fun a H => Own (a :: O) a ds1 H)) (h2 : ∀ a, a ∉ O → EN (a :: O) t2 δ (fun b H => Own (b :: a :: O) b ds2 H))
    (k : ∀ H H' a b q, J H → Ex H H' → H a = none → H b = none → H q = none → a ≠ b → q ≠ a → q ≠ b → H' q = some (.tup [.ref a, .ref b]) → Own (q :: b :: a :: O) a ds1 H' → Own (q :: b :: a :: O) b ds2 H' → R (.ref q) H') :
    DM O J (tRet (tTup (tCons t1 (tCons t2 tNil)))) δ N R := fun σ H D hJ hD hS kn kr =>
  h1 σ H hD hS _ fun a H1 ha e1 ne1 o1 => by
    have aO := hD.fresh ha
    have d1 : Dom (a :: O) H1 := fun b hb => by
      rcases List.mem_cons.mp hb with rfl | hb
      · exact ne1
      · exact (hD.ex e1) b hb
    refine h2 a aO σ H1 d1 (hS.mono (hid_new ha e1)) _ fun b H2 hb e2 ne2 o2 => ⟨by show 2 ≤ sizeLine; decide, fun q hq => ?_⟩
    have e3 : Ex H2 (upd H2 q (.tup [.ref a, .ref b])) := Ex.new hq
    have nab : a ≠ b := fun z => by rw [z] at ne1; exact ne1 hb
    have hq1 := ex_none e2 hq
    refine kr (.ref q) _ (k H _ a b q hJ (e1.trans (e2.trans e3)) ha (ex_none e1 hb) (ex_none e1 hq1) nab (fun z => ne1 (by rw [← z]; exact hq1)) (fun z => ne2 (by rw [← z]; exact hq)) upd_same ((o1.more hb e2).more hq e3) (o2.more hq e3)) (fun c hc => (((hD.ex e1).ex e2).ex e3) c hc) (hid_ex (e1.trans (e2.trans e3)))
/-- return new -/
theorem dm_retOne {t1 : TE} {ds1 : List PyData} (h1 : EN O t1 δ (fun a H => Own (a :: O) a ds1 H)) (k : ∀ H H' a, J H → Ex H H' → H a = none → Own (a :: O) a ds1 H' → R (.ref a) H') :
    DM O J (tRet t1) δ N R := fun σ H D hJ hD hS kn kr =>
  h1 σ H hD hS _ fun a H1 ha e1 ne1 o1 => kr (.ref a) _ (k H H1 a hJ e1 ha o1) (hD.ex e1) (hid_ex e1)
end
end Cp
namespace K04
open PySem L2 PySem.Spec PyProof.Rows Cp
open Evl (Ex)
section
variable {w : World} {K : PySem.W.Frag} {mg : Str → Option Value} {base : Heap} {A : Ad}
abbrev End := Nat × Nat
def flipE (e : End) : End := (e.1, 1 - e.2)
def num (e : End) : Int := 2 * (e.1 : Int) + (e.2 : Int)
structure Wk where
  ps : List End
  ws : List (Str × End)
  tr : List End
def facing (ws : List (Str × End)) (nm : Str) : End := ((ws.find? fun x => decide (x.1 = nm)).map (·.2)).getD (0, 0)
def putW (ws : List (Str × End)) (nm : Str) (e : End) : List (Str × End) := ws.map fun x => if x.1 = nm then (x.1, e) else x
def goneOf (rs : List (Int × Int)) (s : Wk) (r : Bool × Str) : End := if r.1 = true then flipE (s.ps.getD (spotOf rs (facing s.ws r.2)).toNat (0, 0)) else flipE (facing s.ws r.2)
def step1 (rs : List (Int × Int)) (s : Wk) (r : Bool × Str) : Wk :=
  ⟨if r.1 = true then s.ps.set (spotOf rs (facing s.ws r.2)).toNat (facing s.ws r.2) else s.ps, putW s.ws r.2 (goneOf rs s r), s.tr ++ [goneOf rs s r]⟩
def walkE (rs : List (Int × Int)) (s : Wk) (row : List (Bool × Str)) : Wk := row.foldl (step1 rs) s
def psI (ps : List End) : List PyData := ps.map fun e => .int (num e)
def kvD (ws : List (Str × End)) : List (PyData × PyData) := ws.map fun x => (.str x.1, .int (num x.2))
def psV (ps : List End) : List V := ps.map fun e => .int (num e)
def fkv (ws : List (Str × End)) : List (Key × V) := ws.map fun x => (Sum.inr x.1, .int (num x.2))
def walkD (s : Wk) : PyData := .tuple [.list (psI s.ps), .dict (kvD s.ws), .list (psI s.tr)]
theorem psI_of : ∀ {H : Hp} {ps : List End} {vs : List V}, DtAll H (psI ps) vs → vs = psV ps
  | H, [], vs, h => h
  | H, e :: ps, vs, h => by
    obtain ⟨v, r, rfl, h1, h2⟩ := h
    have h1 : v = .int (num e) := h1
    rw [h1, psI_of h2]
    rfl
theorem psI_to : ∀ {H : Hp} (ps : List End), DtAll H (psI ps) (psV ps)
  | H, [] => rfl
  | H, e :: ps => ⟨.int (num e), psV ps, rfl, rfl, psI_to ps⟩
theorem kvD_of : ∀ {H : Hp} {ws : List (Str × End)} {l : List (Key × V)}, DtKV H (kvD ws) l → l = fkv ws
  | H, [], l, h => h
  | H, x :: ws, l, h => by
    obtain ⟨q, v, m, h1, h2, h3, h4⟩ := h
    have h3 : v = .int (num x.2) := h3
    have hq : q = Sum.inr x.1 := by
      cases q with
      | inl i => cases h2
      | inr z => injection h2 with h2; rw [h2]
    rw [h1, h3, hq, kvD_of h4]
    rfl
theorem kvD_to : ∀ {H : Hp} (ws : List (Str × End)), DtKV H (kvD ws) (fkv ws)
  | H, [] => rfl
  | H, x :: ws => ⟨Sum.inr x.1, .int (num x.2), fkv ws, rfl, rfl, rfl, kvD_to ws⟩
theorem facing_mem {nm : Str} : ∀ {ws : List (Str × End)}, nm ∈ ws.map (·.1) → (nm, facing ws nm) ∈ ws
  | [], h => by cases h
  | x :: ws, h => by
    unfold facing
    rw [List.find?_cons]
    by_cases c : x.1 = nm
    · rw [decide_eq_true c]
      rw [← c]
      exact List.mem_cons_self
    · rw [decide_eq_false c]
      refine List.mem_cons_of_mem _ (facing_mem ?_)
      rcases List.mem_cons.mp h with z | z
      · exact absurd z.symm c
      · exact z
theorem fkv_get {nm : Str} : ∀ {ws : List (Str × End)}, nm ∈ ws.map (·.1) → valV (fkv ws) (Sum.inr nm) = some (.int (num (facing ws nm)))
  | [], h => by cases h
  | x :: ws, h => by
    by_cases c : x.1 = nm
    · unfold facing
      rw [List.find?_cons, decide_eq_true c]
      exact valV_pos (p := (Sum.inr x.1, V.int (num x.2))) (by show (Sum.inr x.1 : Key) = Sum.inr nm; rw [c])
    · have e : facing (x :: ws) nm = facing ws nm := by
        unfold facing
        rw [List.find?_cons, decide_eq_false c]
      rw [e]
      refine (valV_neg (p := (Sum.inr x.1, V.int (num x.2))) (fun z => c (by injection z))).trans (fkv_get ?_)
      rcases List.mem_cons.mp h with z | z
      · exact absurd z.symm c
      · exact z
theorem fkv_put {ws : List (Str × End)} {nm : Str} {e : End} (h : nm ∈ ws.map (·.1)) : putK (fkv ws) (Sum.inr nm) (.int (num e)) = fkv (putW ws nm e) := by
  have ha : ((fkv ws).any fun kv => decide (kv.1 = (Sum.inr nm : Key))) = true := by
    rw [valV_any, fkv_get h]
    rfl
  unfold putK
  rw [if_pos ha]
  unfold fkv putW
  rw [List.map_map, List.map_map]
  refine List.map_congr_left fun x _ => ?_
  show (if (Sum.inr x.1 : Key) = Sum.inr nm then ((Sum.inr x.1 : Key), V.int (num e)) else (Sum.inr x.1, V.int (num x.2))) = ((Sum.inr (if x.1 = nm then (x.1, e) else x).1 : Key), V.int (num (if x.1 = nm then (x.1, e) else x).2))
  by_cases c : x.1 = nm
  · rw [if_pos (by rw [c]), if_pos c]
  · rw [if_neg (fun z => c (by injection z)), if_neg c]
theorem putW_names {ws : List (Str × End)} {nm : Str} {e : End} : (putW ws nm e).map (·.1) = ws.map (·.1) := by
  unfold putW
  rw [List.map_map]
  refine List.map_congr_left fun x _ => ?_
  show (if x.1 = nm then (x.1, e) else x).1 = x.1
  split <;> rfl
theorem spot_in {n : Int} {rs : List (Int × Int)} (hT : TownOk n rs) {e : End} (h1 : e.1 < rs.length) (h2 : e.2 < 2) : 0 ≤ spotOf rs e ∧ spotOf rs e < n := by
  obtain ⟨a, b, c, d⟩ := in_road (hT.roads e.1 h1)
  unfold spotOf sideOf
  split <;> omega
theorem flip_num {e : End} (h : e.2 < 2) : Builtin.bitXor (num e) 1 = num (flipE e) := by
  have h0 : num e = ((2 * e.1 + e.2 : Nat) : Int) := by unfold num; omega
  rw [h0, Bits.bitXor_pp (by omega) (by decide)]
  unfold num flipE
  have h2 : e.2 = 0 ∨ e.2 = 1 := by omega
  show (((2 * e.1 + e.2) ^^^ 1 : Nat) : Int) = 2 * (e.1 : Int) + ((1 - e.2 : Nat) : Int)
  have hx : ∀ k : Nat, (2 * k) ^^^ 1 = 2 * k + 1 := fun k => by
    refine Nat.eq_of_testBit_eq fun i => ?_
    rw [Nat.testBit_xor]
    cases i with
    | zero => simp [Nat.testBit_zero]
    | succ i => rw [Nat.testBit_succ, Nat.testBit_succ, Nat.testBit_succ, show 2 * k / 2 = k by omega, show 1 / 2 = 0 from rfl, show (2 * k + 1) / 2 = k by omega, Nat.zero_testBit, Bool.xor_false]
  rcases h2 with z | z
  · rw [z]
    have : (2 * e.1 + 0) ^^^ 1 = 2 * e.1 + 1 := hx e.1
    rw [this]
    omega
  · rw [z]
    have : (2 * e.1 + 1) ^^^ 1 = 2 * e.1 := by
      rw [← hx e.1, Nat.xor_assoc, Nat.xor_self, Nat.xor_zero]
    rw [this]
    omega
theorem step_ok {n : Int} {rs : List (Int × Int)} (hT : TownOk n rs) {s : Wk} {r : Bool × Str} (h : StandOk n rs s.ps s.ws) (hr : r.2 ∈ s.ws.map (·.1)) : StandOk n rs (step1 rs s r).ps (step1 rs s r).ws ∧ (step1 rs s r).ws.map (·.1) = s.ws.map (·.1) ∧
    (facing s.ws r.2).1 < rs.length ∧ (facing s.ws r.2).2 < 2 ∧ (spotOf rs (facing s.ws r.2)).toNat < s.ps.length ∧ (goneOf rs s r).1 < rs.length ∧ (goneOf rs s r).2 < 2 := by
  obtain ⟨_, f1, f2⟩ := h.wv _ (facing_mem hr)
  have f1 : (facing s.ws r.2).1 < rs.length := f1
  have f2 : (facing s.ws r.2).2 < 2 := f2
  obtain ⟨g1, g2⟩ := spot_in hT f1 f2
  have hv : (spotOf rs (facing s.ws r.2)).toNat < s.ps.length := by rw [h.pl]; omega
  obtain ⟨p1, p2, p3⟩ := h.pv _ hv
  have hg : (goneOf rs s r).1 < rs.length ∧ (goneOf rs s r).2 < 2 := by
    unfold goneOf
    split
    · exact ⟨p1, by show 1 - _ < 2; omega⟩
    · exact ⟨f1, by show 1 - _ < 2; omega⟩
  refine ⟨⟨?_, fun v hv2 => ?_, ?_, fun x hx => ?_, ?_⟩, putW_names, f1, f2, hv, hg⟩
  · unfold step1
    dsimp only
    split
    · rw [List.length_set]; exact h.pl
    · exact h.pl
  · unfold step1 at hv2 ⊢
    dsimp only at hv2 ⊢
    by_cases c : r.1 = true
    · rw [if_pos c] at hv2 ⊢
      rw [List.length_set] at hv2
      by_cases cv : (spotOf rs (facing s.ws r.2)).toNat = v
      · rw [List.getD_eq_getElem?_getD, cv, List.getElem?_set_self hv2]
        exact ⟨f1, f2, by show spotOf rs (facing s.ws r.2) = _; omega⟩
      · rw [List.getD_eq_getElem?_getD, List.getElem?_set_ne cv, ← List.getD_eq_getElem?_getD]
        exact h.pv v hv2
    · rw [if_neg c] at hv2 ⊢
      exact h.pv v hv2
  · show (putW s.ws r.2 _).length ≤ 4
    unfold putW
    rw [List.length_map]
    exact h.wl
  · have hx : x ∈ putW s.ws r.2 (goneOf rs s r) := hx
    obtain ⟨y, hy, rfl⟩ := List.mem_map.mp hx
    obtain ⟨a1, a2, a3⟩ := h.wv y hy
    by_cases c : y.1 = r.2
    · rw [if_pos c]
      exact ⟨a1, hg⟩
    · rw [if_neg c]
      exact ⟨a1, a2, a3⟩
  · show ((putW s.ws r.2 _).map (·.1)).Pairwise ltS
    rw [putW_names]
    exact h.ris
theorem walk_ok {n : Int} {rs : List (Int × Int)} (hT : TownOk n rs) : ∀ (row : List (Bool × Str)) (s : Wk), StandOk n rs s.ps s.ws → (∀ r ∈ row, r.2 ∈ s.ws.map (·.1)) → (∀ e ∈ s.tr, e.1 < rs.length ∧ e.2 < 2) →
    StandOk n rs (walkE rs s row).ps (walkE rs s row).ws ∧ (walkE rs s row).ws.map (·.1) = s.ws.map (·.1) ∧ (∀ e ∈ (walkE rs s row).tr, e.1 < rs.length ∧ e.2 < 2) ∧ (walkE rs s row).tr.length = s.tr.length + row.length
  | [], s, h, _, ht => ⟨h, rfl, ht, rfl⟩
  | r :: row, s, h, hr, ht => by
    obtain ⟨h1, h2, _, _, _, h6, h7⟩ := step_ok hT h (hr r (by simp))
    have ih := walk_ok hT row (step1 rs s r) h1 (fun r' hr' => by rw [h2]; exact hr r' (by simp [hr'])) fun e he => by
      rcases List.mem_append.mp he with he | he
      · exact ht e he
      · simp at he; rw [he]; exact ⟨h6, h7⟩
    obtain ⟨a, b, c, d⟩ := ih
    refine ⟨a, b.trans h2, c, ?_⟩
    show (walkE rs (step1 rs s r) row).tr.length = _
    rw [d]
    show (s.tr ++ [_]).length + _ = _
    simp
    omega
def placesL (rs : List (Int × Int)) : List PyData := rows2 rs.length (fun _ => 2) fun r s => some (.int (sideOf (rs.getD r (0, 0)) s))
theorem placesL_len (rs : List (Int × Int)) : ∀ m, (rows2 m (fun _ => 2) fun r s => some (PyData.int (sideOf (rs.getD r (0, 0)) s))).length = 2 * m
  | 0 => rfl
  | m + 1 => by
    rw [rows2_succ, List.length_append, placesL_len rs m]
    show 2 * m + 2 = _
    omega
theorem placesL_get (rs : List (Int × Int)) : ∀ (m r s : Nat), r < m → s < 2 → (rows2 m (fun _ => 2) fun r s => some (PyData.int (sideOf (rs.getD r (0, 0)) s)))[2 * r + s]? = some (.int (spotOf rs (r, s)))
  | 0, r, s, h, _ => by omega
  | m + 1, r, s, h, hs => by
    rw [rows2_succ]
    by_cases c : r < m
    · rw [List.getElem?_append_left (by rw [placesL_len]; omega)]
      exact placesL_get rs m r s c hs
    · have : r = m := by omega
      subst this
      rw [List.getElem?_append_right (by rw [placesL_len]; omega), placesL_len]
      match s, hs with
      | 0, _ => rw [show 2 * r + 0 - 2 * r = 0 by omega]; rfl
      | 1, _ => rw [show 2 * r + 1 - 2 * r = 1 by omega]; rfl
theorem ltS_ne {a b : Str} (h : ltS a b) : a ≠ b := fun e => by
  subst e
  exact absurd h (List.lt_irrefl _)
theorem getD_all {α β : Type} (ws : List α) (d : α) (f : α → β) : (List.range ws.length).map (fun i => f (ws.getD i d)) = ws.map f := by
  refine List.ext_getElem (by simp) fun i h1 h2 => ?_
  have h1 : i < ws.length := by simpa using h1
  simp [List.getD_eq_getElem?_getD, List.getElem?_eq_getElem h1]
theorem fm_all {α : Type} (ws : List α) (d : α) (f : α → PyData) : (List.range ws.length).filterMap (fun i => some (f (ws.getD i d))) = ws.map f := by
  rw [← getD_all ws d f]
  induction (List.range ws.length) with
  | nil => rfl
  | cons x xs ih => simp [ih]
theorem mul2 {r : Nat} (h : r < 16) : CMulW 2 (r : Int) := cmul (a := 2) (b := 5) (by decide) (by omega)
theorem newJ {O : List Addr} {J P : Hp → Prop} {a : Addr} (jp : Jok (a :: O) P) : Jok (a :: O) (fun H => P H ∧ ∃ H0, J H0 ∧ Dom O H0 ∧ H0 a = none ∧ Ex H0 H) := fun H H' e ex ⟨h, H0, j, d, z, x⟩ => ⟨jp H H' e ex h, H0, j, d, z, ex_back x e ex⟩
def WSt (O : List Addr) (J : Hp → Prop) (lp lf lt : Addr) (s : Wk) : Hp → Prop := fun H => H lp = some (.lst (psV s.ps)) ∧ H lf = some (.dK (fkv s.ws)) ∧ H lt = some (.lst (psV s.tr)) ∧ ∃ H0, J H0 ∧ Dom O H0 ∧ H0 lp = none ∧ H0 lf = none ∧ H0 lt = none ∧ Ex H0 H
theorem WSt.jok {O : List Addr} {J : Hp → Prop} {lp lf lt : Addr} {s : Wk} : Jok (lt :: lf :: lp :: O) (WSt O J lp lf lt s) := fun H H' e ex ⟨h1, h2, h3, H0, j, d, z1, z2, z3, x⟩ =>
  ⟨by rw [e lp (by simp)]; exact h1, by rw [e lf (by simp)]; exact h2, by rw [e lt (by simp)]; exact h3, H0, j, d, z1, z2, z3, ex_back x e ex⟩
theorem dm_ret3 {O : List Addr} {J : Hp → Prop} {δ : List Sl} {N : List Sl → Hp → Prop} {R : V → Hp → Prop} {i j m : Nat} {a b c : Addr} (h1 : δ.getD i .no = .at a) (h2 : δ.getD j .no = .at b) (h3 : δ.getD m .no = .at c)
    (k : ∀ H q, J H → H q = none → R (.ref q) (upd H q (.tup [.ref a, .ref b, .ref c]))) : DM O J (tRet (tTup (tCons (tVar i) (tCons (tVar j) (tCons (tVar m) tNil))))) δ N R := fun σ H D hJ hD hS kn kr =>
  ⟨.ref a, hS.loc h1, .ref b, hS.loc h2, .ref c, hS.loc h3, by show 3 ≤ sizeLine; decide, fun q hq => kr (.ref q) _ (k H q hJ hq) (dom_upd hD) (hid_ex (Ex.new hq))⟩
theorem word_eq (b : Bool) : PyData.eqv (.str (wordS b)) (.str "step") = b ∧ SeqAt.shaped (.str (wordS b)) = true := by cases b <;> decide +kernel
theorem walk_snoc {rs : List (Int × Int)} {s : Wk} {row : List (Bool × Str)} {i : Nat} (h : i < row.length) : walkE rs s (row.take (i + 1)) = step1 rs (walkE rs s (row.take i)) row[i] := by
  unfold walkE
  rw [List.take_succ_eq_append_getElem h, List.foldl_append]
  rfl
theorem walk_ret {O : List Addr} {J : Hp → Prop} {lp lf lt : Addr} {s : Wk} (j : Jok O J) (nf : lf ≠ lp) (nt : lt ≠ lp) (ntf : lt ≠ lf) {H : Hp} {q : Addr} (h : WSt O J lp lf lt s H) (hq : H q = none) : RD O (fun d H => d = walkD s ∧ J H) (.ref q) (upd H q (.tup [.ref lp, .ref lf, .ref lt])) := by
  obtain ⟨h1, h2, h3, H0, hj, d, z1, z2, z3, x⟩ := h
  have e2 := x.trans (Ex.new (o := .tup [.ref lp, .ref lf, .ref lt]) hq)
  have at' : ∀ (l : Addr) (o : HO), H0 l = none → H l = some o → hid O (upd H q (.tup [.ref lp, .ref lf, .ref lt])) l = some o := fun l o z hl => by
    rw [hid_out (d.fresh z), upd_ne (fun e => by rw [e, hq] at hl; cases hl)]
    exact hl
  refine ⟨walkD s, ⟨q, _, rfl, ?_, .ref lp, _, rfl, ⟨lp, psV s.ps, rfl, at' _ _ z1 h1, psI_to _⟩, .ref lf, _, rfl, ⟨lf, fkv s.ws, rfl, at' _ _ z2 h2, kvD_to _⟩, .ref lt, [], rfl, ⟨lt, psV s.tr, rfl, at' _ _ z3 h3, psI_to _⟩, rfl⟩, rfl, j.ex d e2 hj⟩
  rw [hid_out (d.fresh (ex_none x hq))]
  exact upd_same
def spWalk : Sp := fun vs H Q _ => ∃ (O : List Addr) (n : Int) (rs : List (Int × Int)) (ps : List (Nat × Nat)) (ws : List (Str × (Nat × Nat))) (row : List (Bool × Str)), Dom O H ∧ DtAll (hid O H) [townD n rs, standD ps ws, rowD row] vs ∧ TownOk n rs ∧ StandOk n rs ps ws ∧ RowOk ws row ∧
  ∀ v H', Ex H H' → Dt (hid O H') (walkD (walkE rs ⟨ps, ws, []⟩ row)) v → Q v H'
theorem en_nil {O : List Addr} {δ : List Sl} : EN O (tLst tNil) δ (fun a H => H a = some (.lst [])) := fun σ H hD hS Q k => ⟨by decide, fun l hl => k l _ hl (Ex.new hl) (by rw [upd_same]; simp) upd_same⟩
theorem G_walk (T : Txt K mg A) (Z : Fns K A) : FnOk prg w K mg base CX0 1 A.a_walk Z.fd_walk ["town", "standing", "row"] (spWalk) := by
  refine Fun.ok Z.F_walk sc_walk (fun vs H Q E h => by obtain ⟨O, n, rs, ps, ws, row, _, hv, _⟩ := h; exact hv.length) (fun cdv Ar outer s H vs Q E hr h => ⟨_, (pss_cons (ps_setLc2 (i := 3) (own := [("road", 4), ("place", 5)]) (vs1 := [5]) rfl sc_walk.nd rfl rfl (sw_true rfl rfl rfl (by decide +kernel)) (kx_list (K := K) rfl (pe_ix (kx_ix (K := K) rfl) (pv 0) pe_int (fun _ _ => rfl))) (blkOk_by (own := [("road", 4), ("place", 5)]) (N := ["town", "standing", "row", "places", "road", "place", "posts", "side", "faces", "name", "trail", "word", "end", "gone"]) (sc := defScope s_walk) (by decide +kernel)) (by decide) (fun _ _ _ _ _ => (pg_name (i := 4) sc_walk.nd rfl (by first | exact Or.inl rfl | exact Or.inr rfl))) (fun _ _ _ _ _ => pts_nil) (fun _ _ _ _ _ => (kx_tup (K := K) rfl (pv 4))) (fun _ _ _ _ _ => (pg_name (i := 5) sc_walk.nd rfl (by first | exact Or.inl rfl | exact Or.inr rfl))) (fun _ _ _ _ _ => pts_nil) (fun _ _ _ _ _ => (pv 5)))
    (pss_cons (ps_setLc (i := 6) (own := [("road", 4), ("side", 7)]) rfl sc_walk.nd rfl rfl (sw_true rfl rfl rfl (by decide +kernel)) (kx_list (K := K) rfl (pe_ix (kx_ix (K := K) rfl) (pv 1) pe_int (fun _ _ => rfl))) (blkOk_by (own := [("road", 4), ("side", 7)]) (N := ["town", "standing", "row", "places", "road", "place", "posts", "side", "faces", "name", "trail", "word", "end", "gone"]) (sc := defScope s_walk) (by decide +kernel)) (fun _ _ _ _ _ => (kx_gtup (K := K) (n := 2) rfl rfl (pgs_cons (pg_name (i := 4) sc_walk.nd rfl (by first | exact Or.inl rfl | exact Or.inr rfl)) (pgs_cons (pg_name (i := 7) sc_walk.nd rfl (by first | exact Or.inl rfl | exact Or.inr rfl)) pgs_nil)))) (fun _ _ _ _ _ => pts_nil) (fun _ _ _ _ _ => (pe_op op_addU (pe_op op_mulU pe_int (pv 4)) (pv 7))))
    (pss_cons (ps_setDc (i := 8) (own := [("name", 9), ("road", 4), ("side", 7)]) rfl sc_walk.nd rfl rfl (sw_dict rfl rfl rfl (by decide +kernel)) (kx_list (K := K) rfl (pe_ix (kx_ix (K := K) rfl) (pv 1) pe_int (fun _ _ => rfl))) (blkOk_by (own := [("name", 9), ("road", 4), ("side", 7)]) (N := ["town", "standing", "row", "places", "road", "place", "posts", "side", "faces", "name", "trail", "word", "end", "gone"]) (sc := defScope s_walk) (by decide +kernel)) (fun _ _ _ _ _ => (kx_gtup (K := K) (n := 2) rfl rfl (pgs_cons (pg_name (i := 9) sc_walk.nd rfl (by first | exact Or.inl rfl | exact Or.inr rfl)) (pgs_cons (kx_gtup (K := K) (n := 2) rfl rfl (pgs_cons (pg_name (i := 4) sc_walk.nd rfl (by first | exact Or.inl rfl | exact Or.inr rfl)) (pgs_cons (pg_name (i := 7) sc_walk.nd rfl (by first | exact Or.inl rfl | exact Or.inr rfl)) pgs_nil))) pgs_nil)))) (fun _ _ _ _ _ => pts_nil) (fun _ _ _ _ _ => (pv 9)) (fun _ _ _ _ _ => (pe_op op_addU (pe_op op_mulU pe_int (pv 4)) (pv 7))))
    (pss_cons (ps_set (i := 10) sc_walk.nd rfl (by first | exact Or.inl rfl | exact Or.inr rfl) (pe_lst pa_nil))
    (pss_cons (ps_for PassesOwn.never rfl (kx_list (K := K) rfl (pv 2)) (kx_gtup (K := K) (n := 2) rfl rfl (pgs_cons (pg_name (i := 11) sc_walk.nd rfl (by first | exact Or.inl rfl | exact Or.inr rfl)) (pgs_cons (pg_name (i := 9) sc_walk.nd rfl (by first | exact Or.inl rfl | exact Or.inr rfl)) pgs_nil))) (pss_cons (ps_set (i := 12) sc_walk.nd rfl (by first | exact Or.inl rfl | exact Or.inr rfl) (pe_dget (hu_of hr) (pv 8) (pv 9) (fun _ _ => rfl)))
    (pss_cons (ps_if (pt_cmpR (kx_eq (K := K) rfl hr.units) (pv 11) pe_str (nomark _)) (pss_cons (ps_set (i := 5) sc_walk.nd rfl (by first | exact Or.inl rfl | exact Or.inr rfl) (pe_ix (kx_ix (K := K) rfl) (pv 3) (pv 12) (fun _ _ => rfl)))
    (pss_cons (ps_set (i := 13) sc_walk.nd rfl (by first | exact Or.inl rfl | exact Or.inr rfl) (pe_op op_xor (pe_ix (kx_ix (K := K) rfl) (pv 6) (pv 5) (fun _ _ => rfl)) pe_int))
    (pss_one (ps_asg (pv 12) (pg_sub (pv 6) (pv 5) set_list))))) (pss_one (ps_set (i := 13) sc_walk.nd rfl (by first | exact Or.inl rfl | exact Or.inr rfl) (pe_op op_xor (pv 12) pe_int))))
    (pss_cons (ps_dput (hu_of hr) (pv 8) (pv 9) (pv 13) rfl)
    (pss_one (ps_expr (pe_bm PySem.F.plainAttrs_list PySem.F.slot_list_append PySem.F.type_list_append mt_append (pv 10) (pa_cons (pv 13) pa_nil))))))))
    (pss_one (ps_ret (pe_tup (pa_cons (pv 6) (pa_cons (pv 8) (pa_cons (pv 10) pa_nil))))))))))), ?_⟩)
  obtain ⟨O, n, rs, ps, ws, row, hD, hv, hT, hok, ⟨hr4, hrn⟩, k⟩ := h
  have s0 : SD (hid O H) [.d (townD n rs), .d (standD ps ws), .d (rowD row), .no, .no, .no, .no, .no, .no, .no, .no, .no, .no, .no] (L2.start ["town", "standing", "row", "places", "road", "place", "posts", "side", "faces", "name", "trail", "word", "end", "gone"] vs) := sd_start hv _ (by simp)
  refine ds_finish (δ := [.d (townD n rs), .d (standD ps ws), .d (rowD row), .no, .no, .no, .no, .no, .no, .no, .no, .no, .no, .no]) (r := walkD (walkE rs ⟨ps, ws, []⟩ row)) ?_ hD s0 k
  have r16 := hT.r16
  have hps : ∀ i, i < ps.length → (ps.getD i (0, 0)).1 < 16 := fun i hi => Nat.lt_of_lt_of_le (hok.pv i hi).1 r16
  have pl8 : ps.length ≤ 8 := by have := hok.pl; have := hT.n8; omega
  have ix1 : ∀ {O : List Addr} {δ : List Sl}, δ.getD 0 .no = .d (townD n rs) → EP O (tOp (rIx K) (tVar 0) (tC (.int 1))) δ (.list (rs.map pr)) := fun h => ep_op (ep_var h) ep_int (rp_ix2 (rp_ixT (j := 1) rfl rfl))
  have st0 : ∀ {O : List Addr} {δ : List Sl}, δ.getD 1 .no = .d (standD ps ws) → EP O (tOp (rIx K) (tVar 1) (tC (.int 0))) δ (.list (ps.map enD)) := fun h => ep_op (ep_var h) ep_int (rp_ix2 (rp_ixT (j := 0) rfl rfl))
  have st1 : ∀ {O : List Addr} {δ : List Sl}, δ.getD 1 .no = .d (standD ps ws) → EP O (tOp (rIx K) (tVar 1) (tC (.int 1))) δ (.list (ws.map waD)) := fun h => ep_op (ep_var h) ep_int (rp_ix2 (rp_ixT (j := 1) rfl rfl))
  refine ds_seq (N1 := fun δ => δ = [.d (townD n rs), .d (standD ps ws), .d (rowD row), .d (.list (placesL rs)), .no, .no, .no, .no, .no, .no, .no, .no, .no, .no]) (ds_asg (i := 3) (d := .list (placesL rs)) (ep_lc2 (b := 2) (n := rs.length) (m := fun _ => 2) (item := fun i => (rs.map pr).getD i .none) (item1 := fun i j => [PyData.int (rs.getD i (0, 0)).1, .int (rs.getD i (0, 0)).2].getD j .none) (f := fun r s => some (.int (sideOf (rs.getD r (0, 0)) s))) (ix := [4]) (ix1 := [5])
      (fun O' => ?_) (fun _ _ => Nat.le_refl _) (by omega) (by decide) (by decide) (by decide) (by decide) fun O' i hi => ?_) rfl) ?_
  · have := wp_list (O := O') (K := K) (δ := [.d (townD n rs), .d (standD ps ws), .d (rowD row), .no, .no, .no, .no, .no, .no, .no, .no, .no, .no, .no]) (ds := rs.map pr) (ix1 rfl)
    rwa [List.length_map] at this
  · have hp : (rs.map pr).getD i .none = .tuple [.int (rs.getD i (0, 0)).1, .int (rs.getD i (0, 0)).2] := by
      rw [List.getD_eq_getElem?_getD, getD_pr hi]
      rfl
    rw [hp]
    refine ⟨_, gb_name, wp_tup (ds := [PyData.int (rs.getD i (0, 0)).1, .int (rs.getD i (0, 0)).2]) (ep_var (i := 4) rfl), fun j hj => ⟨_, gb_name, fun σ H hD hS Q k => k H (Ex.refl H), fun y hy => ?_⟩⟩
    cases hy
    match j, hj with
    | 0, _ => exact ep_var (i := 5) rfl
    | 1, _ => exact ep_var (i := 5) rfl
  rintro _ rfl
  have hpl : ∀ {O : List Addr} {δ : List Sl} {te : TE} {e : End}, e.1 < rs.length → e.2 < 2 → δ.getD 3 .no = .d (.list (placesL rs)) → Cp.EP O te δ (.int (num e)) → Cp.EP O (tOp (rIx K) (tVar 3) te) δ (.int (spotOf rs e)) := fun {O δ te e} h1 h2 h3 h => by
    have hlen : (placesL rs).length = 2 * rs.length := placesL_len rs _
    have hj : 2 * e.1 + e.2 < (placesL rs).length := by omega
    have hx : ixN (placesL rs).length (num e) = some (2 * e.1 + e.2) := by
      have := ixN_nat hj
      rwa [show ((2 * e.1 + e.2 : Nat) : Int) = num e by unfold num; omega] at this
    exact ep_op (ep_var h3) h (rp_ix1 (rp_ixL (j := 2 * e.1 + e.2) hx (placesL_get rs rs.length e.1 e.2 h1 h2)))
  generalize hPL : placesL rs = PL at hpl
  intro J j
  refine dm_new (i := 6) j (en_lc (n := ps.length) (ix := [4, 7]) (vs := [4, 7]) (item := fun i => (ps.map enD).getD i .none) (f := fun i => some (.int (num (ps.getD i (0, 0))))) (fun O' => ?_) (by omega) (by decide) fun O' i hi => ?_) fun lp hlp => ?_
  · have := wp_list (O := O') (K := K) (δ := [.d (townD n rs), .d (standD ps ws), .d (rowD row), .d (.list PL), .no, .no, .no, .no, .no, .no, .no, .no, .no, .no]) (ds := ps.map enD) (st0 rfl)
    rwa [List.length_map] at this
  · have e : (ps.map enD).getD i .none = .tuple [.int ((ps.getD i (0, 0)).1 : Int), .int ((ps.getD i (0, 0)).2 : Int)] := by
      rw [List.getD_eq_getElem?_getD, List.getElem?_map, List.getElem?_eq_getElem hi, List.getD_eq_getElem?_getD, List.getElem?_eq_getElem hi]
      rfl
    rw [e]
    exact ⟨_, gb_tup2, fun σ H hD hS Q k => k H (Ex.refl H), fun y hy => by
      cases hy
      exact ep_op (ep_op ep_int (ep_var (i := 4) rfl) (rp_l (rp_intC (g := fun i j => i * j) (mul2 (hps i hi))))) (ep_var (i := 7) rfl) (rp_l (rp_int (g := fun i j => i + j)))⟩
  · refine dm_new (i := 8) (newJ (Own.jok (by simp))) (en_dc (n := ws.length) (ix := [9, 4, 7]) (vs := [9, 4, 7]) (item := fun i => (ws.map waD).getD i .none) (f := fun i => (Sum.inr (ws.getD i ("", (0, 0))).1, .int (num (ws.getD i ("", (0, 0))).2))) (fun O' => ?_) (by have := hok.wl; omega) (by decide) (fun σ H Q k => k) (fun a b hab hb => ?_) fun O' i hi => ?_) fun lf hlf => ?_
    · have := wp_list (O := O') (K := K) (δ := [.d (townD n rs), .d (standD ps ws), .d (rowD row), .d (.list PL), .no, .no, .at lp, .no, .no, .no, .no, .no, .no, .no]) (ds := ws.map waD) (st1 rfl)
      rwa [List.length_map] at this
    · have hp := List.pairwise_iff_getElem.mp hok.ris a b (by rw [List.length_map]; omega) (by rw [List.length_map]; omega) hab
      rw [List.getElem_map, List.getElem_map] at hp
      intro e
      injection e with e
      rw [List.getD_eq_getElem?_getD, List.getElem?_eq_getElem (by omega), List.getD_eq_getElem?_getD, List.getElem?_eq_getElem hb] at e
      exact ltS_ne hp e
    · have hx : ws.getD i ("", (0, 0)) ∈ ws := by
        rw [List.getD_eq_getElem?_getD, List.getElem?_eq_getElem hi]
        exact List.getElem_mem hi
      have e : (ws.map waD).getD i .none = .tuple [.str (ws.getD i ("", (0, 0))).1, .tuple [.int ((ws.getD i ("", (0, 0))).2.1 : Int), .int ((ws.getD i ("", (0, 0))).2.2 : Int)]] := by
        rw [List.getD_eq_getElem?_getD, List.getElem?_map, List.getElem?_eq_getElem hi, List.getD_eq_getElem?_getD, List.getElem?_eq_getElem hi]
        rfl
      rw [e]
      exact ⟨_, gb_pair gb_name gb_tup2, ep_var (i := 9) rfl, ep_op (ep_op ep_int (ep_var (i := 4) rfl) (rp_l (rp_intC (g := fun i j => i * j) (mul2 (by have := (hok.wv _ hx).2.1; omega))))) (ep_var (i := 7) rfl) (rp_l (rp_int (g := fun i j => i + j)))⟩
    refine dm_new (i := 10) (newJ (fun H H' e ex ⟨l, h1, h2⟩ => ⟨l, by rw [e lf (by simp)]; exact h1, h2.mono ex⟩)) en_nil fun lt hlt => ?_
    have nf : lf ≠ lp := fun e => hlf (by simp [e])
    have nt : lt ≠ lp := fun e => hlt (by simp [e])
    have ntf : lt ≠ lf := fun e => hlt (by simp [e])
    refine dm_pre (J := WSt O J lp lf lt ⟨ps, ws, []⟩) ?_ fun H h => ?_
    rotate_left
    · obtain ⟨h3, H2, ⟨⟨l, h2, h2'⟩, H1, ⟨⟨vs1, h1, h1'⟩, H0, hj, d0, z0, e1⟩, d1, z1, e2⟩, d2, z2, e3⟩ := h
      rw [fm_all ps (0, 0) fun e => .int (num e)] at h1'
      have hv1 := psI_of h1'
      have hkv : kvL ws.length (fun i => ((Sum.inr (ws.getD i ("", (0, 0))).1 : Key), PyData.int (num (ws.getD i ("", (0, 0))).2))) = kvD ws := getD_all ws ("", (0, 0)) fun x => (PyData.str x.1, PyData.int (num x.2))
      rw [hkv] at h2'
      have hl2 := kvD_of h2'
      subst hv1
      subst hl2
      exact ⟨e3 _ _ (e2 _ _ h1), e3 _ _ h2, h3, H0, hj, d0, z0, ex_none e1 z1, ex_none e1 (ex_none e2 z2), e1.trans (e2.trans e3)⟩
    have trk : ∀ i, (walkE rs ⟨ps, ws, []⟩ (row.take i)).tr.length ≤ 4000 := fun i => by
      rw [(walk_ok hT (row.take i) ⟨ps, ws, []⟩ hok (fun r hr => hrn r (List.mem_of_mem_take hr)) (fun e he => by cases he)).2.2.2]
      show 0 + _ ≤ 4000
      rw [List.length_take]
      omega
    refine dm_seq (N1 := fun δ H => (∃ s5 s9 s11 s12 s13, δ = [.d (townD n rs), .d (standD ps ws), .d (rowD row), .d (.list PL), .no, s5, .at lp, .no, .at lf, s9, .at lt, s11, s12, s13]) ∧ WSt O J lp lf lt (walkE rs ⟨ps, ws, []⟩ row) H)
      (dm_for (n := row.length) (item := fun i => (row.map deD).getD i .none) (ix := [11, 9]) (by
        have := wp_list (O := lt :: lf :: lp :: O) (K := K) (δ := [.d (townD n rs), .d (standD ps ws), .d (rowD row), .d (.list PL), .no, .no, .at lp, .no, .at lf, .no, .at lt, .no, .no, .no]) (ds := row.map deD) (ep_var (i := 2) rfl)
        rwa [List.length_map] at this) WSt.jok (fun i δ H => (∃ s5 s9 s11 s12 s13, δ = [.d (townD n rs), .d (standD ps ws), .d (rowD row), .d (.list PL), .no, s5, .at lp, .no, .at lf, s9, .at lt, s11, s12, s13]) ∧ WSt O J lp lf lt (walkE rs ⟨ps, ws, []⟩ (row.take i)) H)
        (fun H h => ⟨⟨_, _, _, _, _, rfl⟩, h⟩) (fun i δ1 H1 hi hI => ?_) fun δ1 H1 hI => by rw [List.take_length] at hI; exact hI) fun δ1 => ?_
    · obtain ⟨⟨s5, s9, s11, s12, s13, rfl⟩, hw⟩ := hI
      have hmem : row[i] ∈ row := List.getElem_mem hi
      obtain ⟨k1, k2, k3, _⟩ := walk_ok hT (row.take i) ⟨ps, ws, []⟩ hok (fun r hr => hrn r (List.mem_of_mem_take hr)) (fun e he => by cases he)
      have e : (row.map deD).getD i .none = deD row[i] := by
        rw [List.getD_eq_getElem?_getD, List.getElem?_map, List.getElem?_eq_getElem hi]
        rfl
      rw [e, walk_snoc hi]
      have hr2 : row[i].2 ∈ (walkE rs ⟨ps, ws, []⟩ (row.take i)).ws.map (·.1) := by rw [k2]; exact hrn _ hmem
      have tl := trk i
      generalize row[i] = r at hr2
      generalize walkE rs ⟨ps, ws, []⟩ (row.take i) = s at hr2 k1 k2 hw tl
      obtain ⟨t1, t2, f1, f2, fv, g1, g2⟩ := step_ok hT (r := r) k1 hr2
      have fw : s.ws.length ≤ 4 := k1.wl
      refine ⟨_, WSt O J lp lf lt s, gb_tup2 (x := .str (wordS r.1)) (y := .str r.2), hw, WSt.jok, ?_⟩
      refine dm_seq (N1 := fun δ H => δ = [.d (townD n rs), .d (standD ps ws), .d (rowD row), .d (.list PL), .no, s5, .at lp, .no, .at lf, .d (.str r.2), .at lt, .d (.str (wordS r.1)), .d (.int (num (facing s.ws r.2))), s13] ∧ WSt O J lp lf lt s H)
        (dm_asgD (ed_dgetO (kvs := fkv s.ws) (q := Sum.inr r.2) (l := lf) (i := 8) (d := .int (num (facing s.ws r.2))) rfl (ed_of WSt.jok (ep_var (i := 9) rfl)) (fun H h => h.2.1) (fkv_get hr2) fun H => rfl) fun H h => ⟨rfl, h⟩) fun δ1 => dm_fact ?_
      rintro rfl
      refine dm_seq (N1 := fun δ H => (∃ s5, δ = [.d (townD n rs), .d (standD ps ws), .d (rowD row), .d (.list PL), .no, s5, .at lp, .no, .at lf, .d (.str r.2), .at lt, .d (.str (wordS r.1)), .d (.int (num (facing s.ws r.2))), .d (.int (num (goneOf rs s r)))]) ∧ WSt O J lp lf lt ⟨(step1 rs s r).ps, s.ws, s.tr⟩ H)
        (dm_ifD (td_of WSt.jok (tp_is (tp_test (ep_op (ep_var (i := 11) rfl) ep_str (rp_eqD (word_eq r.1).2 (by decide +kernel)))) (word_eq r.1).1)) (fun c => ?_) fun c => ?_) fun δ1 => dm_fact ?_
      · obtain ⟨p1, p2⟩ := spot_in hT f1 f2
        have hsp : ((spotOf rs (facing s.ws r.2)).toNat : Int) = spotOf rs (facing s.ws r.2) := by omega
        refine dm_seq (N1 := fun δ H => δ = [.d (townD n rs), .d (standD ps ws), .d (rowD row), .d (.list PL), .no, .d (.int (spotOf rs (facing s.ws r.2))), .at lp, .no, .at lf, .d (.str r.2), .at lt, .d (.str (wordS r.1)), .d (.int (num (facing s.ws r.2))), s13] ∧ WSt O J lp lf lt s H)
          (dm_asgD (ed_of WSt.jok (hpl f1 f2 rfl (ep_var (i := 12) rfl))) fun H h => ⟨rfl, h⟩) fun δ1 => dm_fact ?_
        rintro rfl
        have hix : ixN (psV s.ps).length (spotOf rs (facing s.ws r.2)) = some (spotOf rs (facing s.ws r.2)).toNat := by
          have := ixN_nat (n := (psV s.ps).length) (j := (spotOf rs (facing s.ws r.2)).toNat) (by unfold psV; rw [List.length_map]; exact fv)
          rwa [hsp] at this
        have hg : (s.ps.getD (spotOf rs (facing s.ws r.2)).toNat (0, 0)).2 < 2 := (k1.pv _ fv).2.1
        refine dm_seq (N1 := fun δ H => δ = [.d (townD n rs), .d (standD ps ws), .d (rowD row), .d (.list PL), .no, .d (.int (spotOf rs (facing s.ws r.2))), .at lp, .no, .at lf, .d (.str r.2), .at lt, .d (.str (wordS r.1)), .d (.int (num (facing s.ws r.2))), .d (.int (num (goneOf rs s r)))] ∧ WSt O J lp lf lt s H)
          (dm_asgD (ed_op WSt.jok (ed_ixO (i := 6) (vs := psV s.ps) (v := .int (num (s.ps.getD (spotOf rs (facing s.ws r.2)).toNat (0, 0)))) (d := .int (num (s.ps.getD (spotOf rs (facing s.ws r.2)).toNat (0, 0)))) WSt.jok rfl (fun H h => h.1) (ed_of WSt.jok (ep_var (i := 5) rfl)) hix (by
            unfold psV
            rw [List.getElem?_map, List.getElem?_eq_getElem fv, List.getD_eq_getElem?_getD, List.getElem?_eq_getElem fv]
            rfl) fun H => rfl) (ed_of WSt.jok ep_int) (rp_int (g := fun i j => Builtin.bitXor i j))) fun H h => ⟨by
            rw [flip_num hg]
            unfold goneOf
            rw [if_pos c]
            rfl, h⟩) fun δ1 => dm_fact ?_
        rintro rfl
        refine dm_setO (l := lp) (m := (spotOf rs (facing s.ws r.2)).toNat) (vs := psV s.ps) (v := .int (num (facing s.ws r.2))) (ed_of WSt.jok (ep_var (i := 12) rfl)) rfl (ed_of WSt.jok (ep_var (i := 5) rfl)) (fun H h => h.1) (by simp) hix (fun H w z => z) fun H h => ⟨⟨_, rfl⟩, ?_⟩
        obtain ⟨h1, h2, h3, H0, hj, d0, z1, z2, z3, x⟩ := h
        refine ⟨?_, by rw [upd_ne nf]; exact h2, by rw [upd_ne nt]; exact h3, H0, hj, d0, z1, z2, z3, ex_upd x z1⟩
        rw [upd_same]
        unfold step1 psV
        dsimp only
        rw [if_pos c, List.map_set]
      · refine dm_asgD (ed_of WSt.jok (ep_op (ep_var (i := 12) rfl) ep_int (rp_int (g := fun i j => Builtin.bitXor i j)))) fun H h => ⟨⟨s5, ?_⟩, ?_⟩
        · rw [flip_num f2]
          unfold goneOf
          rw [if_neg (by rw [c]; decide)]
          rfl
        · have : (step1 rs s r).ps = s.ps := by
            unfold step1
            dsimp only
            rw [if_neg (by rw [c]; decide)]
          rw [this]
          exact h
      rintro ⟨s5, rfl⟩
      refine dm_seq (N1 := fun δ H => δ = [.d (townD n rs), .d (standD ps ws), .d (rowD row), .d (.list PL), .no, s5, .at lp, .no, .at lf, .d (.str r.2), .at lt, .d (.str (wordS r.1)), .d (.int (num (facing s.ws r.2))), .d (.int (num (goneOf rs s r)))] ∧ WSt O J lp lf lt ⟨(step1 rs s r).ps, (step1 rs s r).ws, s.tr⟩ H)
        (dm_dputO (l := lf) (kvs := fkv s.ws) (q := Sum.inr r.2) (v := .int (num (goneOf rs s r))) (ed_of WSt.jok (ep_var (i := 13) rfl)) rfl (ed_of WSt.jok (ep_var (i := 9) rfl)) (fun H h => h.2.1) (by simp) (fun H w z => z) (by unfold fkv; rw [List.length_map]; omega) fun H h => ⟨rfl, ?_⟩) fun δ1 => dm_fact ?_
      · obtain ⟨h1, h2, h3, H0, hj, d0, z1, z2, z3, x⟩ := h
        refine ⟨by rw [upd_ne nf.symm]; exact h1, ?_, by rw [upd_ne ntf]; exact h3, H0, hj, d0, z1, z2, z3, ex_upd x z2⟩
        rw [upd_same, fkv_put hr2]
        rfl
      rintro rfl
      refine dm_appendO (l := lt) (vs := psV s.tr) (v := .int (num (goneOf rs s r))) (ed_of WSt.jok (ep_var (i := 13) rfl)) rfl (fun H h => h.2.2.1) (by simp) (fun H w z => z) (by unfold psV; rw [List.length_map]; omega) fun H h => ⟨⟨_, _, _, _, _, rfl⟩, ?_⟩
      obtain ⟨h1, h2, h3, H0, hj, d0, z1, z2, z3, x⟩ := h
      refine ⟨by rw [upd_ne nt.symm]; exact h1, by rw [upd_ne ntf.symm]; exact h2, ?_, H0, hj, d0, z1, z2, z3, ex_upd x z3⟩
      rw [upd_same]
      unfold step1 psV
      rw [List.map_append]
      rfl
    refine dm_fact ?_
    rintro ⟨s5, s9, s11, s12, s13, rfl⟩
    exact dm_ret3 rfl rfl rfl fun H q h hq => walk_ret j nf nt ntf h hq
end
end K04
namespace K04
open PySem L2 PySem.Spec PyProof.Rows Cp
open Evl (Ex)
section
variable {w : World} {K : PySem.W.Frag} {mg : Str → Option Value} {base : Heap} {A : Ad}
theorem ep_walk {O : List Addr} {E : XK} {ta : TA} {δ : List Sl} {n : Int} {rs : List (Int × Int)} {ps : List (Nat × Nat)} {ws : List (Str × (Nat × Nat))} {row : List (Bool × Str)} (hT : TownOk n rs) (hok : StandOk n rs ps ws) (hrow : RowOk ws row) (h : Cp.AP O ta δ [townD n rs, standD ps ws, rowD row]) :
    Cp.EP O (tCall spWalk [] E ta) δ (walkD (walkE rs ⟨ps, ws, []⟩ row)) := fun σ H hD hS Q k => h σ H hD hS _ fun vs H1 e1 hv => ⟨O, n, rs, ps, ws, row, hD.ex e1, by rw [List.append_nil]; exact hv, hT, hok, hrow, fun v H' e' hv' => k v H' (e1.trans e') hv'⟩
theorem ep_needrow {O : List Addr} {E : XK} {ta : TA} {δ : List Sl} {n : Int} {rs : List (Int × Int)} {ps : List (Nat × Nat)} {ws : List (Str × (Nat × Nat))} {row : List (Bool × Str)} (hT : TownOk n rs) (hok : StandOk n rs ps ws) (hrow : RowOk ws row) (h : Cp.AP O ta δ [townD n rs, standD ps ws, rowD row]) :
    Cp.EP O (tCall spRowW [] E ta) δ .none := fun σ H hD hS Q k => h σ H hD hS _ fun vs H1 e1 hv => ⟨O, n, rs, ps, ws, row, hD.ex e1, by rw [List.append_nil]; exact hv, hT, hok, hrow, fun H' e' => k .non H' (e1.trans e') rfl⟩
def LedAt (O : List Addr) (H : Hp) (ps : List End) (ws : List (Str × End)) (q a b : Addr) (H' : Hp) : Prop := Ex H H' ∧ H a = none ∧ H b = none ∧ H q = none ∧ a ≠ b ∧ q ≠ a ∧ q ≠ b ∧ H' q = some (.tup [.ref a, .ref b]) ∧ Own (q :: b :: a :: O) a (ps.map enD) H' ∧ Own (q :: b :: a :: O) b (ws.map waD) H'
def spLed : Sp := fun vs H Q _ => ∃ (O : List Addr) (n : Int) (rs : List (Int × Int)) (ps : List (Nat × Nat)) (ws : List (Str × (Nat × Nat))) (row : List (Bool × Str)), Dom O H ∧ DtAll (hid O H) [townD n rs, standD ps ws, rowD row] vs ∧ TownOk n rs ∧ StandOk n rs ps ws ∧ RowOk ws row ∧
  ∀ q a b H', LedAt O H (walkE rs ⟨ps, ws, []⟩ row).ps (walkE rs ⟨ps, ws, []⟩ row).ws q a b H' → Q (.ref q) H'
def spTrail : Sp := fun vs H Q _ => ∃ (O : List Addr) (n : Int) (rs : List (Int × Int)) (ps : List (Nat × Nat)) (ws : List (Str × (Nat × Nat))) (row : List (Bool × Str)), Dom O H ∧ DtAll (hid O H) [townD n rs, standD ps ws, rowD row] vs ∧ TownOk n rs ∧ StandOk n rs ps ws ∧ RowOk ws row ∧
  ∀ a H', Ex H H' → H a = none → Own (a :: O) a ((walkE rs ⟨ps, ws, []⟩ row).tr.map enD) H' → Q (.ref a) H'
theorem ends_ix {O : List Addr} {K : PySem.W.Frag} {δ : List Sl} {te : TE} {i m : Nat} {e : End} (h1 : e.1 < m) (h2 : e.2 < 2) (hs : δ.getD i .no = .d (.list (allE m))) (h : Cp.EP O te δ (.int (num e))) : Cp.EP O (tOp (rIx K) (tVar i) te) δ (enD e) := by
  have hj : 2 * e.1 + e.2 < (allE m).length := by rw [allE_len]; omega
  have hx : ixN (allE m).length (num e) = some (2 * e.1 + e.2) := by
    have := ixN_nat hj
    rwa [show ((2 * e.1 + e.2 : Nat) : Int) = num e by unfold num; omega] at this
  exact ep_op (ep_var hs) h (rp_ix1 (rp_ixL (j := 2 * e.1 + e.2) hx (allE_get m e.1 e.2 h1 h2)))
theorem facing_own {ws : List (Str × End)} : ∀ {x : Str × End}, (ws.map (·.1)).Pairwise ltS → x ∈ ws → facing ws x.1 = x.2 := by
  induction ws with
  | nil => intro x _ h; cases h
  | cons y ws ih =>
    intro x hp h
    unfold facing
    rw [List.find?_cons]
    rw [List.map_cons, List.pairwise_cons] at hp
    rcases List.mem_cons.mp h with rfl | h
    · rw [decide_eq_true rfl]
      rfl
    · have hne := ltS_ne (hp.1 x.1 (List.mem_map.mpr ⟨x, h, rfl⟩))
      rw [decide_eq_false hne]
      exact ih hp.2 h
theorem ends_ixJ {O : List Addr} {J : Hp → Prop} {K : PySem.W.Frag} {δ : List Sl} {te : TE} {i m : Nat} {e : End} (j : Jok O J) (h1 : e.1 < m) (h2 : e.2 < 2) (hs : δ.getD i .no = .d (.list (allE m))) (h : ED O J te δ (.int (num e))) : ED O J (tOp (rIx K) (tVar i) te) δ (enD e) := by
  have hj : 2 * e.1 + e.2 < (allE m).length := by rw [allE_len]; omega
  have hx : ixN (allE m).length (num e) = some (2 * e.1 + e.2) := by
    have := ixN_nat hj
    rwa [show ((2 * e.1 + e.2 : Nat) : Int) = num e by unfold num; omega] at this
  exact ed_op j (ed_of j (ep_var hs)) h (rp_ix1 (rp_ixL (j := 2 * e.1 + e.2) hx (allE_get m e.1 e.2 h1 h2)))
theorem nd_map {α : Type} {f : α → PyData} (h : ∀ x, (f x).hasDict = false) : ∀ l : List α, PyData.hasDictAll (l.map f) = false
  | [] => rfl
  | x :: l => by
    rw [List.map_cons, PyData.hasDictAll, h x, nd_map h l]
    rfl
theorem nd_slots {n : Int} {rs : List (Int × Int)} {ps : List (Nat × Nat)} {ws : List (Str × (Nat × Nat))} {row : List (Bool × Str)} {l : List End} {m : Nat} : (townD n rs).hasDict = false ∧ (standD ps ws).hasDict = false ∧ (rowD row).hasDict = false ∧ (PyData.list (psI l)).hasDict = false ∧ (PyData.list (allE m)).hasDict = false := by
  have h1 : PyData.hasDictAll (rs.map pr) = false := nd_map (fun x => rfl) rs
  have h2 : PyData.hasDictAll (ps.map enD) = false := nd_map (fun x => rfl) ps
  have h3 : PyData.hasDictAll (ws.map waD) = false := nd_map (fun x => rfl) ws
  have h4 : PyData.hasDictAll (row.map deD) = false := nd_map (fun x => rfl) row
  have h5 : PyData.hasDictAll (psI l) = false := nd_map (fun x => rfl) l
  have h6 : PyData.hasDictAll (allE m) = false := by
    have : ∀ ds : List PyData, (∀ d ∈ ds, d.hasDict = false) → PyData.hasDictAll ds = false := fun ds => by
      induction ds with
      | nil => intro _; rfl
      | cons d ds ih => intro h; rw [PyData.hasDictAll, h d (by simp), ih fun x hx => h x (by simp [hx])]; rfl
    refine this _ fun d hd => ?_
    unfold allE rows2 at hd
    simp only [List.mem_flatMap, List.mem_filterMap] at hd
    obtain ⟨i, _, j, _, hd⟩ := hd
    cases hd
    rfl
  refine ⟨?_, ?_, ?_, ?_, ?_⟩
  · simp only [townD, PyData.hasDict, PyData.hasDictAll, h1]; rfl
  · simp only [standD, PyData.hasDict, PyData.hasDictAll, h2, h3]; rfl
  · simp only [rowD, PyData.hasDict, h4]
  · simp only [PyData.hasDict, h5]
  · simp only [PyData.hasDict, h6]
theorem psI_item {l : List End} {i : Nat} (hi : i < l.length) : (psI l).getD i .none = .int (num (l.getD i (0, 0))) := by
  unfold psI
  rw [List.getD_eq_getElem?_getD, List.getElem?_map, List.getElem?_eq_getElem hi, List.getD_eq_getElem?_getD, List.getElem?_eq_getElem hi]
  rfl
theorem en_ends {O : List Addr} {K : PySem.W.Frag} {δ : List Sl} {l : List End} {m i j k : Nat} (hl : ∀ e ∈ l, e.1 < m ∧ e.2 < 2) (hz : l.length ≤ 100000) (hw : ∀ O, WP O (iList K (tVar i)) δ (psI l).length (fun i => (psI l).getD i .none)) (hk : k < δ.length) (hn : (wipeS δ [k]).getD j .no = .d (.list (allE m))) (hjk : j ≠ k) :
    EN O (tLc (iList K (tVar i)) (gName k) tYes (tOp (rIx K) (tVar j) (tVar k)) [k]) δ (fun a H => Own (a :: O) a (l.map enD) H) := by
  have hlen : (psI l).length = l.length := by unfold psI; rw [List.length_map]
  rw [← fm_all l (0, 0) enD, ← hlen]
  refine en_lc (ix := [k]) (item := fun i => (psI l).getD i .none) hw (by omega) (by simp) fun O' i hi => ?_
  have hi : i < l.length := by omega
  have he : l.getD i (0, 0) ∈ l := by
    rw [List.getD_eq_getElem?_getD, List.getElem?_eq_getElem hi]
    exact List.getElem_mem hi
  rw [psI_item hi]
  refine ⟨_, gb_name, fun σ H hD hS Q k => k H (Ex.refl H), fun y hy => ?_⟩
  cases hy
  refine ends_ix (hl _ he).1 (hl _ he).2 ?_ (ep_var ?_)
  · rw [List.getD_eq_getElem?_getD, List.getElem?_set_ne hjk.symm, ← List.getD_eq_getElem?_getD]
    exact hn
  · rw [List.getD_eq_getElem?_getD, List.getElem?_set_self (by simpa [wipeS] using hk)]
    rfl
theorem G_lead (T : Txt K mg A) (Z : Fns K A) : FnOk prg w K mg base CX0 2 A.a_lead Z.fd_lead ["town", "standing", "row"] (spLed) := by
  refine Fun.ok Z.F_lead sc_lead (fun vs H Q E h => by obtain ⟨O, n, rs, ps, ws, row, _, hv, _⟩ := h; exact hv.length) (fun cdv Ar outer s H vs Q E hr h => ⟨_, (pss_cons (ps_asg (pe_call (G_walk T Z) (hr.mono (by decide)) rfl T.g_walk T.k_walk Z.b_walk .nil pass0 (pa_cons (pv 0) (pa_cons (pv 1) (pa_cons (pv 2) pa_nil)))) (kx_gtup (K := K) (n := 3) rfl rfl (pgs_cons (pg_name (i := 3) sc_lead.nd rfl (by first | exact Or.inl rfl | exact Or.inr rfl)) (pgs_cons (pg_name (i := 4) sc_lead.nd rfl (by first | exact Or.inl rfl | exact Or.inr rfl)) (pgs_cons (pg_name (i := 5) sc_lead.nd rfl (by first | exact Or.inl rfl | exact Or.inr rfl)) pgs_nil)))))
    (pss_cons (ps_set (i := 6) sc_lead.nd rfl (by first | exact Or.inl rfl | exact Or.inr rfl) (pe_call (G_gather_all_ends T Z) (hr.mono (by decide)) rfl T.g_gather_all_ends T.k_gather_all_ends Z.b_gather_all_ends .nil pass0 (pa_cons (pv 0) pa_nil)))
    (pss_one (ps_ret (pe_tup (pa_cons (pe_lc (own := [("post", 7)]) rfl sc_lead.nd (kx_list (K := K) rfl (pv 3)) (blkOk_by (own := [("post", 7)]) (N := ["town", "standing", "row", "posts", "faces", "_", "ends", "post", "name"]) (sc := defScope s_lead) (by decide +kernel)) (fun _ _ _ _ _ => (pg_name (i := 7) sc_lead.nd rfl (by first | exact Or.inl rfl | exact Or.inr rfl))) (fun _ _ _ _ _ => pts_nil) (fun _ _ _ _ _ => (pe_ix (kx_ix (K := K) rfl) (pv 6) (pv 7) (fun _ _ => rfl)))) (pa_cons (pe_lock (pe_lc (own := [("name", 8)]) rfl sc_lead.nd (pi_keys (pv 4)) (blkOk_by (own := [("name", 8)]) (N := ["town", "standing", "row", "posts", "faces", "_", "ends", "post", "name"]) (sc := defScope s_lead) (by decide +kernel)) (fun _ _ _ _ _ => (pg_name (i := 8) sc_lead.nd rfl (by first | exact Or.inl rfl | exact Or.inr rfl))) (fun _ _ _ _ _ => pts_nil) (fun _ _ _ _ _ => (pe_tup (pa_cons (pv 8) (pa_cons (pe_ix (kx_ix (K := K) rfl) (pv 6) (pe_dget (hu_of hr) (pv 4) (pv 8) (fun _ _ => rfl)) (fun _ _ => rfl)) pa_nil)))))) pa_nil))))))), ?_⟩)
  obtain ⟨O, n, rs, ps, ws, row, hD, hv, hT, hok, hrow, k⟩ := h
  have s0 : SD (hid O H) [.d (townD n rs), .d (standD ps ws), .d (rowD row), .no, .no, .no, .no, .no, .no] (L2.start ["town", "standing", "row", "posts", "faces", "_", "ends", "post", "name"] vs) := sd_start hv _ (by simp)
  obtain ⟨w1, w2, w3, w4⟩ := walk_ok hT row ⟨ps, ws, []⟩ hok hrow.2 (fun e he => by cases he)
  generalize hs : walkE rs ⟨ps, ws, []⟩ row = s at w1 w2 w3 w4 k
  refine dm_run (J := Ex H) (N := fun _ _ => False) (R := fun v H' => ∃ q a b, v = .ref q ∧ LedAt O H s.ps s.ws q a b H') ?_ (Ex.refl H) hD s0 (fun _ _ _ n => n.elim) fun v H' ⟨q, a, b, e, hl⟩ _ _ => by rw [e]; exact k q a b H' hl
  have ap : Cp.AP O (tCons (tVar 0) (tCons (tVar 1) (tCons (tVar 2) tNil))) [.d (townD n rs), .d (standD ps ws), .d (rowD row), .no, .no, .no, .no, .no, .no] [townD n rs, standD ps ws, rowD row] := ap_cons (ep_var rfl) (ap_cons (ep_var rfl) (ap_cons (ep_var rfl) ap_nil))
  have hwk := ep_walk (E := E) hT hok hrow ap
  rw [hs] at hwk
  refine dm_seq (N1 := fun δ H1 => δ = [.d (townD n rs), .d (standD ps ws), .d (rowD row), .d (.list (psI s.ps)), .d (.dict (kvD s.ws)), .d (.list (psI s.tr)), .no, .no, .no] ∧ Ex H H1) (dm_unpack (ix := [3, 4, 5]) (ed_of jok_ex hwk) fun d H1 p => ⟨_, by rw [p.1]; exact gb_tup3, rfl, p.2⟩) fun δ1 => dm_fact ?_
  rintro rfl
  refine dm_seq (N1 := fun δ H1 => δ = [.d (townD n rs), .d (standD ps ws), .d (rowD row), .d (.list (psI s.ps)), .d (.dict (kvD s.ws)), .d (.list (psI s.tr)), .d (.list (allE rs.length)), .no, .no] ∧ Ex H H1)
    (dm_asgD (ed_of jok_ex (ep_is (ep_call (ds := [townD n rs]) (ap_cons (ep_var rfl) ap_nil) rfl ⟨⟨n, rs, rfl⟩, by show (townRs (townD n rs)).length ≤ 16; rw [townRs_is]; exact hT.r16⟩) (by show PyData.list (allE (townRs (townD n rs)).length) = _; rw [townRs_is]))) fun H1 h => ⟨rfl, h⟩) fun δ1 => dm_fact ?_
  rintro rfl
  have pl8 : s.ps.length ≤ 8 := by have := w1.pl; have := hT.n8; omega
  refine dm_retTwo (ds1 := s.ps.map enD) (ds2 := s.ws.map waD) (en_ends (m := rs.length) (fun e he => ?_) (by omega) (fun O' => wp_list (ep_var rfl)) (by simp) rfl (by decide)) (fun a ha => ?_) fun H1 H2 a b q hJ ex ha hb hq nab nqa nqb hq2 o1 o2 => ⟨q, a, b, rfl, hJ.trans ex, ex_none hJ ha, ex_none hJ hb, ex_none hJ hq, nab, nqa, nqb, hq2, o1, o2⟩
  · obtain ⟨i, hi, rfl⟩ := List.getElem_of_mem he
    have := w1.pv i hi
    rw [List.getD_eq_getElem?_getD, List.getElem?_eq_getElem hi] at this
    exact ⟨this.1, this.2.1⟩
  · have hlen : (kvD s.ws).length = s.ws.length := by unfold kvD; rw [List.length_map]
    have hw4 := w1.wl
    rw [← getD_all s.ws ("", (0, 0)) waD, ← hlen]
    refine en_lock (i := 4) (kd := kvD s.ws) (ix := [8]) (vs := [8]) (f := fun i => waD (s.ws.getD i ("", (0, 0)))) rfl (fun p hp => ?_) (fun j x hj hx => ?_) (fun j f => ?_) (by decide) (by omega) (fun σ H Q k => k) fun od d l H0 hl D hD2 m q v hm => ?_
    · unfold kvD at hp
      obtain ⟨y, _, rfl⟩ := List.mem_map.mp hp
      rfl
    · match j, hj with
      | 0, _ => cases hx; exact (nd_slots (ps := []) (ws := []) (row := []) (l := []) (m := 0)).1
      | 1, _ => cases hx; exact (nd_slots (n := 0) (rs := []) (row := []) (l := []) (m := 0)).2.1
      | 2, _ => cases hx; exact (nd_slots (n := 0) (rs := []) (ps := []) (ws := []) (l := []) (m := 0)).2.2.1
      | 3, _ => cases hx; exact (nd_slots (n := 0) (rs := []) (ps := []) (ws := []) (row := []) (m := 0)).2.2.2.1
      | 4, hj => exact absurd rfl hj
      | 5, _ => cases hx; exact (nd_slots (n := 0) (rs := []) (ps := []) (ws := []) (row := []) (m := 0)).2.2.2.1
      | 6, _ => cases hx; exact (nd_slots (n := 0) (rs := []) (ps := []) (ws := []) (row := []) (l := [])).2.2.2.2
      | 7, _ => cases hx
      | 8, _ => cases hx
      | j + 9, _ => cases hx
    · match j with
      | 0 | 1 | 2 | 3 | 4 | 5 | 6 | 7 | 8 => exact fun z => by cases z
      | j + 9 => exact fun z => by cases z
    · have hl := kvD_of hl
      subst hl
      have hm' : m < s.ws.length := by
        have := (List.getElem?_eq_some_iff.mp hm).1
        unfold fkv at this
        rwa [List.length_map] at this
      have hx : s.ws.getD m ("", (0, 0)) = s.ws[m] := by
        rw [List.getD_eq_getElem?_getD, List.getElem?_eq_getElem hm']
        rfl
      have hq : q = Sum.inr s.ws[m].1 := by
        unfold fkv at hm
        rw [List.getElem?_map, List.getElem?_eq_getElem hm'] at hm
        injection hm with hm
        injection hm with h1 h2
        exact h1.symm
      subst hq
      rw [hx]
      have hmem : s.ws[m] ∈ s.ws := List.getElem_mem hm'
      have hval : valV (fkv s.ws) (Sum.inr s.ws[m].1) = some (.int (num s.ws[m].2)) := by
        rw [fkv_get (List.mem_map.mpr ⟨_, hmem, rfl⟩), facing_own w1.ris hmem]
      obtain ⟨z0, z1, z2⟩ := w1.wv _ hmem
      refine ⟨_, gb_name, fun J' jk hJ' => ?_⟩
      exact ed_tup2 jk (ed_of jk (ep_var rfl)) (ends_ixJ jk z1 z2 rfl (ed_dgetF (l := d) rfl (ed_of jk (ep_var rfl)) hJ' hval fun H => rfl))
theorem led_ex {O : List Addr} {H H1 H' : Hp} {ps : List End} {ws : List (Str × End)} {q a b : Addr} (e : Ex H H1) (h : LedAt O H1 ps ws q a b H') : LedAt O H ps ws q a b H' := by
  obtain ⟨h1, h2, h3, h4, r⟩ := h
  exact ⟨e.trans h1, Evl.fresh_back e h2, Evl.fresh_back e h3, Evl.fresh_back e h4, r⟩
def tLed (O : List Addr) (H : Hp) (rs : List (Int × Int)) (ps : List (Nat × Nat)) (ws : List (Str × (Nat × Nat))) (y : PyData) (v : V) (H' : Hp) : Prop := ∃ row q a b, y = rowD row ∧ RowOk ws row ∧ v = .ref q ∧ LedAt O H (walkE rs ⟨ps, ws, []⟩ row).ps (walkE rs ⟨ps, ws, []⟩ row).ws q a b H'
theorem G_led_by (T : Txt K mg A) (Z : Fns K A) : FnOk prg w K mg base (L2.CX prg w) 10 A.a_led_by Z.fd_led_by ["town", "standing", "row"] (spAsk A.NoTown A.NoStanding A.NoRow wRow tLed) := by
  refine Fun.okX Z.F_led_by sc_led_by (fun vs H Q E h => spAsk_len h) (fun cdv Ar outer s H vs Q E hr h => ⟨_, (pss_cons (ps_expr (pe_call (G_need_row T Z) (hr.mono (by decide)) rfl T.g_need_row T.k_need_row Z.b_need_row .nil (passes_call (takes_of rfl rfl rfl rfl) (fun _ _ _ _ h => h)) (pa_cons (pv 0) (pa_cons (pv 1) (pa_cons (pv 2) pa_nil)))))
    (pss_one (ps_ret (pe_call (G_lead T Z) (hr.mono (by decide)) rfl T.g_lead T.k_lead Z.b_lead .nil pass0 (pa_cons (pv 0) (pa_cons (pv 1) (pa_cons (pv 2) pa_nil))))))), ?_⟩)
  obtain ⟨O, d, x, y, hD, hv, hsx, hy, k1, k2⟩ := h
  have s0 : SD (hid O H) [.d d, .d x, .d y] (L2.start ["town", "standing", "row"] vs) := sd_start hv _ (by simp)
  obtain ⟨vd, hvd, hdd⟩ := s0.var (i := 0) rfl
  obtain ⟨vx, hvx, hdx⟩ := s0.var (i := 1) rfl
  obtain ⟨vr, hvr, hdr⟩ := s0.var (i := 2) rfl
  refine ha_seq ⟨vd, hvd, vx, hvx, vr, hvr, O, d, x, y, hD, ⟨vd, [vx, vr], rfl, hdd, vx, [vr], rfl, hdx, vr, [], rfl, hdr, rfl⟩, hsx, hy, k1, fun n rs hd hT => ⟨(k2 n rs hd hT).1, fun hz => ?_⟩⟩
  obtain ⟨ps, ws, rfl, hok, k3, k4⟩ := (k2 n rs hd hT).2 hz
  refine ⟨ps, ws, rfl, hok, k3, fun hw v H1 ⟨_, e1⟩ => ?_⟩
  subst hd
  obtain ⟨row, rfl, hrow⟩ := row_of hw
  exact ⟨vd, hvd, vx, hvx, vr, hvr, O, n, rs, ps, ws, row, hD.ex e1, ⟨vd, [vx, vr], rfl, Dt.mono (hid_ex e1) _ _ hdd, vx, [vr], rfl, Dt.mono (hid_ex e1) _ _ hdx, vr, [], rfl, Dt.mono (hid_ex e1) _ _ hdr, rfl⟩, hT, hok, hrow, fun q a b H' hl => k4 hw (.ref q) H' ⟨row, q, a, b, rfl, hrow, rfl, led_ex e1 hl⟩⟩
def tTrail (O : List Addr) (H : Hp) (rs : List (Int × Int)) (ps : List (Nat × Nat)) (ws : List (Str × (Nat × Nat))) (y : PyData) (v : V) (H' : Hp) : Prop := ∃ row a, y = rowD row ∧ RowOk ws row ∧ v = .ref a ∧ Ex H H' ∧ H a = none ∧ Own (a :: O) a ((walkE rs ⟨ps, ws, []⟩ row).tr.map enD) H'
theorem G_trail_of (T : Txt K mg A) (Z : Fns K A) : FnOk prg w K mg base (L2.CX prg w) 10 A.a_trail_of Z.fd_trail_of ["town", "standing", "row"] (spAsk A.NoTown A.NoStanding A.NoRow wRow tTrail) := by
  refine Fun.okX Z.F_trail_of sc_trail_of (fun vs H Q E h => spAsk_len h) (fun cdv Ar outer s H vs Q E hr h => ⟨_, (pss_cons (ps_expr (pe_call (G_need_row T Z) (hr.mono (by decide)) rfl T.g_need_row T.k_need_row Z.b_need_row .nil (passes_call (takes_of rfl rfl rfl rfl) (fun _ _ _ _ h => h)) (pa_cons (pv 0) (pa_cons (pv 1) (pa_cons (pv 2) pa_nil)))))
    (pss_cons (ps_asg (pe_call (G_walk T Z) (hr.mono (by decide)) rfl T.g_walk T.k_walk Z.b_walk .nil pass0 (pa_cons (pv 0) (pa_cons (pv 1) (pa_cons (pv 2) pa_nil)))) (kx_gtup (K := K) (n := 3) rfl rfl (pgs_cons (pg_name (i := 3) sc_trail_of.nd rfl (by first | exact Or.inl rfl | exact Or.inr rfl)) (pgs_cons (pg_name (i := 3) sc_trail_of.nd rfl (by first | exact Or.inl rfl | exact Or.inr rfl)) (pgs_cons (pg_name (i := 4) sc_trail_of.nd rfl (by first | exact Or.inl rfl | exact Or.inr rfl)) pgs_nil)))))
    (pss_cons (ps_set (i := 5) sc_trail_of.nd rfl (by first | exact Or.inl rfl | exact Or.inr rfl) (pe_call (G_gather_all_ends T Z) (hr.mono (by decide)) rfl T.g_gather_all_ends T.k_gather_all_ends Z.b_gather_all_ends .nil pass0 (pa_cons (pv 0) pa_nil)))
    (pss_one (ps_ret (pe_lc (own := [("number", 6)]) rfl sc_trail_of.nd (kx_list (K := K) rfl (pv 4)) (blkOk_by (own := [("number", 6)]) (N := ["town", "standing", "row", "_", "trail", "ends", "number"]) (sc := defScope s_trail_of) (by decide +kernel)) (fun _ _ _ _ _ => (pg_name (i := 6) sc_trail_of.nd rfl (by first | exact Or.inl rfl | exact Or.inr rfl))) (fun _ _ _ _ _ => pts_nil) (fun _ _ _ _ _ => (pe_ix (kx_ix (K := K) rfl) (pv 5) (pv 6) (fun _ _ => rfl))))))))), ?_⟩)
  obtain ⟨O, d, x, y, hD, hv, hsx, hy, k1, k2⟩ := h
  have s0 : SD (hid O H) [.d d, .d x, .d y, .no, .no, .no, .no] (L2.start ["town", "standing", "row", "_", "trail", "ends", "number"] vs) := sd_start hv _ (by simp)
  obtain ⟨vd, hvd, hdd⟩ := s0.var (i := 0) rfl
  obtain ⟨vx, hvx, hdx⟩ := s0.var (i := 1) rfl
  obtain ⟨vr, hvr, hdr⟩ := s0.var (i := 2) rfl
  refine ha_seq ⟨vd, hvd, vx, hvx, vr, hvr, O, d, x, y, hD, ⟨vd, [vx, vr], rfl, hdd, vx, [vr], rfl, hdx, vr, [], rfl, hdr, rfl⟩, hsx, hy, k1, fun n rs hd hT => ⟨(k2 n rs hd hT).1, fun hz => ?_⟩⟩
  obtain ⟨ps, ws, rfl, hok, k3, k4⟩ := (k2 n rs hd hT).2 hz
  refine ⟨ps, ws, rfl, hok, k3, fun hw v H0 ⟨_, e0⟩ => ?_⟩
  subst hd
  obtain ⟨row, rfl, hrow⟩ := row_of hw
  obtain ⟨w1, w2, w3, w4⟩ := walk_ok hT row ⟨ps, ws, []⟩ hok hrow.2 (fun e he => by cases he)
  have w4 : (walkE rs ⟨ps, ws, []⟩ row).tr.length ≤ 4000 := by rw [w4]; show 0 + _ ≤ 4000; have := hrow.1; omega
  have k5 := fun v H' => k4 hw v H'
  generalize hs : walkE rs ⟨ps, ws, []⟩ row = s at w1 w2 w3 w4
  dsimp only
  refine dm_run (J := Ex H) (N := fun _ _ => False) (R := fun v H' => ∃ a, v = .ref a ∧ Ex H H' ∧ H a = none ∧ Own (a :: O) a (s.tr.map enD) H') ?_ e0 (hD.ex e0) (s0.mono (hid_ex e0)) (fun _ _ _ n => n.elim) fun v H' ⟨a, e, h1, h2, h3⟩ _ _ => by rw [e]; exact k5 (.ref a) H' ⟨row, a, rfl, hrow, rfl, h1, h2, by rw [hs]; exact h3⟩
  have ap : Cp.AP O (tCons (tVar 0) (tCons (tVar 1) (tCons (tVar 2) tNil))) [.d (townD n rs), .d (standD ps ws), .d (rowD row), .no, .no, .no, .no] [townD n rs, standD ps ws, rowD row] := ap_cons (ep_var rfl) (ap_cons (ep_var rfl) (ap_cons (ep_var rfl) ap_nil))
  have hwk := ep_walk (E := E) hT hok hrow ap
  rw [hs] at hwk
  refine dm_seq (N1 := fun δ H1 => δ = [.d (townD n rs), .d (standD ps ws), .d (rowD row), .d (.dict (kvD s.ws)), .d (.list (psI s.tr)), .no, .no] ∧ Ex H H1) (dm_unpack (ix := [3, 3, 4]) (ed_of jok_ex hwk) fun d H1 p => ⟨_, by rw [p.1]; exact gb_tup3, rfl, p.2⟩) fun δ1 => dm_fact ?_
  rintro rfl
  refine dm_seq (N1 := fun δ H1 => δ = [.d (townD n rs), .d (standD ps ws), .d (rowD row), .d (.dict (kvD s.ws)), .d (.list (psI s.tr)), .d (.list (allE rs.length)), .no] ∧ Ex H H1)
    (dm_asgD (ed_of jok_ex (ep_is (ep_call (ds := [townD n rs]) (ap_cons (ep_var rfl) ap_nil) rfl ⟨⟨n, rs, rfl⟩, by show (townRs (townD n rs)).length ≤ 16; rw [townRs_is]; exact hT.r16⟩) (by show PyData.list (allE (townRs (townD n rs)).length) = _; rw [townRs_is]))) fun H1 h => ⟨rfl, h⟩) fun δ1 => dm_fact ?_
  rintro rfl
  exact dm_retOne (ds1 := s.tr.map enD) (en_ends (m := rs.length) w3 (by omega) (fun O' => wp_list (ep_var rfl)) (by simp) rfl (by decide)) fun H1 H2 a hJ ex ha o1 => ⟨a, rfl, hJ.trans ex, ex_none hJ ha, o1⟩
end
end K04
namespace K04
open PySem L2 PySem.Spec PyProof.Rows Cp
open Evl (Ex)
section
variable {w : World} {K : PySem.W.Frag} {mg : Str → Option Value} {base : Heap} {A : Ad}
theorem sh_name {z : Str} (h : nameOk z = true) : Sh (.str z) := ⟨name_strOk h, by simp [PyData.depth]⟩
theorem dt_append1 {O : List Addr} {p c : Addr} {JO : Hp → Prop} {K : PySem.W.Frag} {δ : List Sl} {te : TE} {b b' : Nat} {P : PyData → Prop} {i : Nat} {l : Addr} {ds : List PyData} {N : List Sl → Hp → Prop} {R : V → Hp → Prop}
    (nw : New O p c JO l) (h : ET (l :: O) p c (JL O JO l ds) b b' te δ P) (hs : δ.getD i .no = .at l) (hz : ds.length < 100000) (hu : ∀ d H, P d → PJ p c (JL O JO l (ds ++ [d])) b' H → N δ H) :
    DM (l :: O) (PJ p c (JL O JO l ds) b) (tDrop (tBM K "list" rAppend (tVar i) (tCons te tNil))) δ N R :=
  dm_append h hs (by simp) (fun H hj => by obtain ⟨vs, q, _⟩ := hj.2.2; exact ⟨vs, q⟩) (fun d H q => q.2.2.2) hz fun d H H' q he ho => hu d H' q.1 ⟨q.2.1.same he nw.np nw.nc, nw.st H H' he q.2.2.1, ho⟩
def preRow (ds : List PyData) : Prop := ∃ (xs : List Str) (bd : Int), ds.getD 0 .none = .list (xs.map PyData.str) ∧ ds.getD 1 .none = .int bd ∧ 1 ≤ bd ∧ bd ≤ 31 ∧ xs.length ≤ 4 ∧ ∀ x ∈ xs, nameOk x = true
def postRow (ds : List PyData) (d : PyData) : Prop := ∃ row : List (Bool × Str), d = rowD row ∧ row.length ≤ 30 ∧ ∃ xs : List Str, ds.getD 0 .none = .list (xs.map PyData.str) ∧ ∀ r ∈ row, r.2 ∈ xs
theorem G_law_row (T : Txt K mg A) (Z : Fns K A) : FnOk prg w K mg base CX0 3 A.a_law_row Z.fd_law_row ["purse", "names_here", "bound"] (spD 2 61 preRow postRow) := by
  refine Fun.ok Z.F_law_row sc_law_row (fun vs H Q E h => spD_len h) (fun cdv Ar outer s H vs Q E hr h => ⟨_, (pss_cons (ps_if (pt_cmpR (kx_eq (K := K) rfl hr.units) (pv 1) (pe_lst pa_nil) (nomark _)) (pss_one (ps_ret (pe_lst pa_nil))) pss_nil)
    (pss_cons (ps_set (i := 3) sc_law_row.nd rfl (by first | exact Or.inl rfl | exact Or.inr rfl) (pe_lst pa_nil))
    (pss_cons (ps_for PassesOwn.never rfl (pi_range1 rfl T.n_range (pa_cons (pe_call (G_law_draw T Z) (hr.mono (by decide)) rfl T.g_law_draw T.k_law_draw Z.b_law_draw .nil pass0 (pa_cons (pv 0) (pa_cons (pv 2) pa_nil))) pa_nil)) (pg_name (i := 4) sc_law_row.nd rfl (by first | exact Or.inl rfl | exact Or.inr rfl)) (pss_one (ps_expr (pe_bm PySem.F.plainAttrs_list PySem.F.slot_list_append PySem.F.type_list_append mt_append (pv 3) (pa_cons (pe_tup (pa_cons (pe_ix (kx_ix (K := K) rfl) (pe_lst (pa_cons pe_str (pa_cons pe_str (pa_cons pe_str (pa_cons pe_str pa_nil))))) (pe_call (G_law_draw T Z) (hr.mono (by decide)) rfl T.g_law_draw T.k_law_draw Z.b_law_draw .nil pass0 (pa_cons (pv 0) (pa_cons pe_int pa_nil))) (fun _ _ => rfl)) (pa_cons (pe_call (G_law_pick T Z) (hr.mono (by decide)) rfl T.g_law_pick T.k_law_pick Z.b_law_pick .nil pass0 (pa_cons (pv 0) (pa_cons (pv 1) pa_nil))) pa_nil))) pa_nil)))))
    (pss_one (ps_ret (pv 3)))))), ?_⟩)
  obtain ⟨O, p, c, B, ds, us, rfl, hm, hp, hc, hD, pu, hB, hv, hpre, kq⟩ := h
  match ds, hm, hpre with
  | [a, q], _, hpre =>
  obtain ⟨xs, bd, ha, hq, b1, b31, l4, hn⟩ := hpre
  obtain rfl : a = .list (xs.map PyData.str) := ha
  obtain rfl : q = .int bd := hq
  obtain ⟨u0, r0, rfl, hu0, u1, r1, rfl, hu1, hr1⟩ := hv
  cases hr1
  refine drawn (δ := [.at p, .d (.list (xs.map PyData.str)), .d (.int bd), .no, .no]) (Pq := fun d => ∃ row : List (Bool × Str), d = rowD row ∧ row.length ≤ 30 ∧ ∀ r ∈ row, r.2 ∈ xs) hp hc hD pu (sd_cons rfl (sd_cons (slok_d hu0) (sd_cons (slok_d hu1) (sd_cons trivial (sd_cons trivial sd_nil))))) (fun JO V hst => ?_) (fun d u H' ⟨row, h1, h2, h3⟩ kp pu' hd => kq d u H' ⟨row, h1, h2, xs, rfl, h3⟩ kp pu' hd)
  refine dt_if V (bb := xs.isEmpty) (tp_is (tp_test (ep_op (ep_var (i := 1) rfl) (ep_lst ap_nil (by simp)) (rp_eqD (shaped_list fun d hd => ?_) (shaped_list fun d hd => by cases hd)))) ?_) (fun z => rv_ret (et_more (et_pure V (ep_lst ap_nil (by simp)) ⟨[], rfl, by simp, by simp⟩) (by omega))) fun z => ?_
  · obtain ⟨x, hx, rfl⟩ := List.mem_map.mp hd
    exact sh_name (hn x hx)
  · cases xs <;> rfl
  have l1 : 1 ≤ xs.length := by
    cases xs with
    | nil => cases z
    | cons _ _ => simp
  refine dt_newL V hst fun l nw => ?_
  have VL : ∀ {ds : List PyData}, Keep (l :: O) p c (JL O JO l ds) := nw.keep V
  refine dm_seq (N1 := fun δ H => ∃ row : List (Bool × Str), ((row.length ≤ 30 ∧ ∀ r ∈ row, r.2 ∈ xs) ∧ ∃ s4, δ = [.at p, .d (.list (xs.map PyData.str)), .d (.int bd), .at l, s4]) ∧ PJ p c (JL O JO l (row.map deD)) (B + 61) H)
    (dm_forE (ix := [4]) (P := fun n H => n ≤ 30 ∧ PJ p c (JL O JO l []) (B + 1) H) (we_rng (et_draw VL (i := 0) (m := bd) rfl (et_pure VL (ep_var (i := 2) rfl) rfl) b1 (by omega) (by omega)) fun d H q => by
        obtain ⟨⟨r, rfl, r0, r1⟩, hj⟩ := q
        exact ⟨r.toNat, by congr 1; omega, by omega, by omega, hj⟩)
      (fun m i δ H => ∃ row : List (Bool × Str), ((m ≤ 30 ∧ row.length = i ∧ ∀ r ∈ row, r.2 ∈ xs) ∧ ∃ s4, δ = [.at p, .d (.list (xs.map PyData.str)), .d (.int bd), .at l, s4]) ∧ PJ p c (JL O JO l (row.map deD)) (B + 1 + 2 * i) H)
      (fun m H h => ⟨[], ⟨⟨h.1, rfl, by simp⟩, _, rfl⟩, h.2⟩) (fun m i δ1 H1 hi hI => ?_) fun m δ1 H1 hI => ?_) fun δ1 => dm_ex fun row => dm_fact ?_
  · obtain ⟨row, ⟨⟨hm30, hrl, hrx⟩, s4, rfl⟩, hJ⟩ := hI
    refine ⟨_, _, gb_name, hJ, VL.jok, ?_⟩
    refine dt_append1 (i := 3) (b' := B + 1 + 2 * (i + 1)) (P := fun d => ∃ r : Bool × Str, d = deD r ∧ r.2 ∈ xs) nw (et_pair VL (b1 := B + 1 + 2 * i + 1) (P1 := fun d => ∃ b, d = .str (wordS b)) (P2 := fun d => ∃ x ∈ xs, d = .str x)
        (et_imp (et_at VL (n := 4) (S := fun ds => ds = [.str (Str.ofString "step"), .str (Str.ofString "step"), .str (Str.ofString "step"), .str (Str.ofString "about")]) (et_pure VL (ep_lst (ap_cons ep_str (ap_cons ep_str (ap_cons ep_str (ap_cons ep_str ap_nil)))) (by simp)) ⟨_, rfl, rfl, rfl⟩) (et_draw VL (i := 0) (m := 4) rfl (et_pure VL ep_int rfl) (by decide) (by decide) (by omega))) fun d hd => ?_)
        (et_imp (et_pick VL (i := 0) (S := fun ds => ds = xs.map PyData.str) rfl (et_pure VL (ep_var (i := 1) rfl) ⟨_, rfl, ⟨by rw [List.length_map]; omega, by rw [List.length_map]; omega⟩, rfl⟩) (by show B + 1 + 2 * i + 1 ≤ 1000000; omega)) fun d hd => ?_) fun x y h1 h2 => ?_) rfl (by rw [List.length_map]; omega) fun d H hd hj => ?_
    · obtain ⟨ds, rfl, hm⟩ := hd
      simp only [List.mem_cons, List.not_mem_nil, or_false] at hm
      rcases hm with rfl | rfl | rfl | rfl
      · exact ⟨true, rfl⟩
      · exact ⟨true, rfl⟩
      · exact ⟨true, rfl⟩
      · exact ⟨false, rfl⟩
    · obtain ⟨ds, rfl, hm⟩ := hd
      obtain ⟨x, hx, rfl⟩ := List.mem_map.mp hm
      exact ⟨x, hx, rfl⟩
    · obtain ⟨b, rfl⟩ := h1
      obtain ⟨x, hx, rfl⟩ := h2
      exact ⟨(b, x), rfl, hx⟩
    · obtain ⟨r, rfl, hr⟩ := hd
      refine ⟨row ++ [r], ⟨⟨hm30, by simp [hrl], fun r' hr' => ?_⟩, _, rfl⟩, by rw [List.map_append]; exact hj⟩
      rcases List.mem_append.mp hr' with z | z
      · exact hrx r' z
      · simp at z; rw [z]; exact hr
  · obtain ⟨row, ⟨⟨hm30, hrl, hrx⟩, h4⟩, hJ⟩ := hI
    exact ⟨row, ⟨⟨by omega, hrx⟩, h4⟩, hJ.1.mono (by omega), hJ.2⟩
  rintro ⟨⟨hl, hx⟩, s4, rfl⟩
  exact rv_retO nw rfl ⟨row, rfl, hl, hx⟩
end
end K04
/-! Cameposts: dict(pairs), own lists and dicts of data -/
namespace Cp
open PySem L2 PySem.Spec PyProof.Rows
open Evl (Ex)
def rDictP (K : PySem.W.Frag) : List V → Hp → VK → Prop := fun xs H Q => ∃ (a : Addr) (ps : List Addr) (kvs : List (Key × V)), xs = [.ref a] ∧ SqL K H a (ps.map V.ref) ∧ Paired (fun p kv => SqT K H p [kV kv.1, kv.2]) ps kvs ∧ ∀ p, H p = none → Q (.ref p) (upd H p (.dK (mergeK [] kvs)))
theorem kx_dictP {X : Cx} {K : PySem.W.Frag} (h : X.K = K) (hc : X.calm = true) : CallR X (.type "dict") (rDictP K) := h ▸ call_dictP hc
theorem pairs_of {α : Type} {val : α → PyData} {K : PySem.W.Frag} {H0 H1 : Hp} (e : Ex H0 H1) : ∀ {ws : List (Str × α)} {xs : List V}, DtAll H0 (ws.map fun x => PyData.tuple [.str x.1, val x.2]) xs → ∃ (ps : List Addr) (kvs : List (Key × V)), xs = ps.map V.ref ∧ Paired (fun p kv => SqT K H1 p [kV kv.1, kv.2]) ps kvs ∧ DtKV H0 (ws.map fun x => (PyData.str x.1, val x.2)) kvs ∧ kvs.map (·.1) = ws.map fun x => (Sum.inr x.1 : Key)
  | [], xs, h => ⟨[], [], h, .nil, rfl, rfl⟩
  | x :: ws, xs, h => by
    obtain ⟨v, r, rfl, h1, h2⟩ := h
    obtain ⟨a, us, rfl, q1, v1, r1, rfl, p1, v2, r2, rfl, p2, p3⟩ := h1
    cases p3
    have p1 : v1 = .str x.1 := p1
    subst p1
    obtain ⟨ps, kvs, rfl, i1, i2, i3⟩ := pairs_of (K := K) e h2
    exact ⟨a :: ps, (Sum.inr x.1, v2) :: kvs, rfl, .cons (SqT.of (e _ _ q1)) i1, ⟨Sum.inr x.1, v2, kvs, rfl, rfl, p2, i2⟩, by rw [List.map_cons, List.map_cons, i3]⟩
theorem mergeK_nodup : ∀ (kvs acc : List (Key × V)), ((acc ++ kvs).map (·.1)).Nodup → mergeK acc kvs = acc ++ kvs
  | [], acc, _ => (List.append_nil acc).symm
  | x :: kvs, acc, h => by
    have hx : (acc.any fun kv => decide (kv.1 = x.1)) = false := by
      rw [List.any_eq_false]
      intro y hy z
      have z : y.1 = x.1 := of_decide_eq_true z
      rw [List.map_append, List.nodup_append] at h
      exact h.2.2 _ (List.mem_map.mpr ⟨y, hy, rfl⟩) _ (List.mem_map.mpr ⟨x, by simp, rfl⟩) z
    have hp : putK acc x.1 x.2 = acc ++ [x] := by
      unfold putK
      rw [hx]
      rfl
    have ih := mergeK_nodup kvs (acc ++ [x]) (by simpa using h)
    unfold mergeK at ih ⊢
    rw [List.foldl_cons, hp, ih]
    simp
section
variable {O : List Addr} {J : Hp → Prop} {K : PySem.W.Frag} {δ : List Sl} {te tk tv : TE} {N : List Sl → Hp → Prop} {R : V → Hp → Prop} {x y z d : PyData} {i j m : Nat} {l : Addr} {ds : List PyData}
theorem en_dictOf {α : Type} {val : α → PyData} {ws : List (Str × α)} (h : Cp.EP O te δ (.list (ws.map fun x => .tuple [.str x.1, val x.2]))) (hn : (ws.map (·.1)).Nodup) :
    EN O (tCB (rDictP K) (tCons te tNil)) δ (fun a H => ∃ l, H a = some (.dK l) ∧ DtKV (hid (a :: O) H) (ws.map fun x => (.str x.1, val x.2)) l) := fun σ H hD hS Q k => h σ H hD hS _ fun v H1 e1 hv => by
  obtain ⟨a, xs, rfl, q1, q2⟩ := hv
  obtain ⟨ps, kvs, rfl, p1, p2, p3⟩ := pairs_of (K := K) hid_le q2
  refine ⟨a, ps, kvs, rfl, SqL.of (hid_some q1).2, p1, fun p hp => ?_⟩
  have hnd : (([] ++ kvs : List (Key × V)).map (·.1)).Nodup := by
    rw [List.nil_append, p3]
    unfold List.Nodup at hn ⊢
    rw [List.pairwise_map] at hn ⊢
    exact hn.imp fun h z => h (by injection z)
  rw [mergeK_nodup kvs [] hnd]
  exact k p _ (ex_none e1 hp) (e1.trans (Ex.new hp)) (by rw [upd_same]; simp) ⟨kvs, upd_same, p2.mono (hid_new hp (Ex.new hp))⟩
theorem ep_enD {kd : List (PyData × PyData)} (h : EN O te δ (fun a H => ∃ l, H a = some (.dK l) ∧ DtKV (hid (a :: O) H) kd l)) : Cp.EP O te δ (.dict kd) := fun σ H hD hS Q k => h σ H hD hS _ fun a H' ha e ne ⟨l, h1, h2⟩ => k (.ref a) H' e ⟨a, l, rfl, by rw [hid_out (hD.fresh ha)]; exact h1, h2.mono hid_less⟩
theorem en_listOf (h : Cp.EP O te δ (.list ds)) : EN O (tCB (fun xs H Q => ∃ p ys, xs = [.ref p] ∧ (SqL K H p ys ∨ SqT K H p ys) ∧ ∀ l, H l = none → Q (.ref l) (upd H l (.lst ys))) (tCons te tNil)) δ (fun a H => Own (a :: O) a ds H) := fun σ H hD hS Q k => h σ H hD hS _ fun v H1 e1 hv => by
  obtain ⟨a, xs, rfl, q1, q2⟩ := hv
  refine ⟨a, xs, rfl, Or.inl (SqL.of (hid_some q1).2), fun p hp => ?_⟩
  exact k p _ (ex_none e1 hp) (e1.trans (Ex.new hp)) (by rw [upd_same]; simp) ⟨xs, upd_same, q2.mono (hid_new hp (Ex.new hp))⟩
theorem ed_ixOwn {k : Int} {m : Nat} (hs : δ.getD i .no = .at l) (hl : ∀ H, J H → Own O l ds H) (hb : ED O J tk δ (.int k)) (hk : ixN ds.length k = some m) (hv : ds[m]? = some d) : ED O J (tOp (rIx K) (tVar i) tk) δ d := fun σ H hJ hD hS Q q =>
  ⟨.ref l, hS.loc hs, hb σ H hJ hD hS _ fun e w H1 p d1 e1 hw => by
    obtain ⟨vs, o1, o2⟩ := hl H1 p.2
    obtain ⟨u, u1, u2⟩ := o2.get hv
    exact Or.inl ⟨l, vs, k, u, rfl, by rw [p.1] at hw; exact hw, SqL.of o1, by unfold atI; rw [o2.length, hk]; exact u1, q d u H1 ⟨rfl, p.2⟩ d1 e1 u2⟩⟩
theorem ed_callP1 {pre : List PyData → Prop} {f : List PyData → PyData} {E : XK} (j : Jok O J) (h : ED O J te δ x) (hp : pre [x]) : ED O J (tCall (spP 1 pre f) [] E (tCons te tNil)) δ (f [x]) := fun σ H hJ hD hS Q k => h σ H hJ hD hS _ fun e v H1 p d1 e1 hv => by
  rw [p.1] at hv
  exact ⟨O, [x], d1, rfl, hp, ⟨v, [], rfl, hv, rfl⟩, fun u H2 e2 hd => k _ u H2 ⟨rfl, j.ex d1 e2 p.2⟩ (d1.ex e2) (e1.trans (hid_ex e2)) hd⟩
/-- own[k] = value -/
theorem dm_setE {k : Int} {m : Nat} (he : ED O J te δ d) (hs : δ.getD i .no = .at l) (hi : ED O J tk δ (.int k)) (hO : l ∈ O) (hl : ∀ H, J H → Own O l ds H) (hk : ixN ds.length k = some m)
    (q : ∀ H H', J H → (∀ a, a ≠ l → H' a = H a) → Own O l (ds.set m d) H' → N δ H') : DM O J (tAsg te (gSub (tVar i) tk rSetL)) δ N R := fun σ H D hJ hD hS kn kr =>
  he σ H hJ hD hS _ fun e w H1 p1 d1 e1 hw => ⟨.ref l, (hS.mono e1).loc hs, hi σ H1 p1.2 d1 (hS.mono e1) _ fun e2 w2 H2 p2 d2 ex2 hw2 => by
    rw [p1.1] at hw
    rw [p2.1] at hw2
    cases hw2
    obtain ⟨vs, o1, o2⟩ := hl H2 p2.2
    refine ⟨l, vs, k, m, rfl, rfl, o1, by rw [o2.length]; exact hk, ?_⟩
    have hh := hid_set (H := H2) (o := .lst (vs.set m w)) hO
    refine kn δ σ _ (q H2 _ p2.2 (fun a ha => upd_ne ha) ⟨_, upd_same, by rw [hh]; exact o2.set (Dt.mono ex2 _ _ hw) _⟩) (dom_upd d2) (by rw [hh]; exact e1.trans ex2) (by rw [hh]; exact hS.mono (e1.trans ex2))⟩
/-- the rest of a comprehension over what is known, D being its list -/
theorem lc_tail {g : TG} {tt : TT} {ix vs : List Nat} {f : Nat → PyData} {n : Nat} {item : Nat → PyData} {Ji : It} {σ : L2.St} {H1 : Hp} (hi : ∀ j ∈ ix, j ∈ vs) (hn : n ≤ 1000) (htt : ∀ σ H Q, Q true H → tt σ H Q) (hD : Dom O H1) (hS : SD (hid O H1) δ σ)
    (w : Walk Ji n (fun H' => Ex (hid O H1) H') (fun i H' v H'' => Ex H' H'' ∧ ∀ O', Ex (hid O H1) (hid O' H') → Dom O' H' → Dt (hid O' H'') (item i) v))
    (hs : ∀ D, H1 D = none → ∀ i, i < n → ∃ δ2, GB (D :: O) g (item i) (wipeS δ vs) δ2 ix ∧ ∀ J', Jok (D :: O) J' → (∀ H', J' H' → (∀ a o, a ≠ D → H1 a = some o → H' a = some o) ∧ Ex (hid O H1) (hid (D :: O) H')) → ED (D :: O) J' te δ2 (f i))
    {Q : VK} (k : ∀ a H', H1 a = none → Ex H1 H' → H' a ≠ none → Own (a :: O) a ((List.range n).map f) H' → Q (.ref a) H') : tLc (fun _ _ R => R Ji H1) g tt te vs σ H1 Q := by
  intro D hDn
  refine lc_it w (fun i H' => Acc O H1 D ((List.range i).map f) H') ⟨⟨[], upd_same, rfl⟩, fun a o ha q => by rw [upd_ne ha]; exact q⟩ (fun i H' _ p => (p.hid hDn).trans hid_le) (fun i v H' H2 hi' p y => ?_) fun H' p => ?_
  · obtain ⟨e2, hv⟩ := y
    have p2 := p.ex e2
    have d2 := p2.dom hD hDn
    obtain ⟨δ2, hg, he⟩ := hs D hDn i hi'
    have s2 : SD (Cp.hid (D :: O) H2) (wipeS δ vs) (L2.wipe σ vs) := (hS.wipe vs).mono (p2.hid hDn)
    refine hg _ H2 v d2 s2 (hv (D :: O) (p.hid hDn) (p.dom hD hDn)) _ fun σ2 s3 hl hj => ⟨?_, htt _ _ _ ?_⟩
    · rw [wipe_same (vs := vs) hl hj hi]
      exact wipe_wipe σ vs vs fun _ h => h
    · rw [if_pos rfl]
      refine he (Acc O H1 D ((List.range i).map f)) Acc.jok (fun H' p => ⟨p.2, p.hid hDn⟩) σ2 H2 p2 d2 s3 _ fun x u H4 p4 d4 e4 hu => ?_
      obtain ⟨rfl, p4⟩ := p4
      obtain ⟨⟨acc, q1, q2⟩, q3⟩ := id p4
      refine ⟨acc, q1, ?_, ?_⟩
      · rw [q2.length, List.length_map, List.length_range]
        exact Evl.sz_lt (by omega)
      · show Acc O H1 D _ _
        rw [List.range_succ, List.map_append]
        exact p4.push q1 hu
  · obtain ⟨⟨acc, q1, q2⟩, q3⟩ := id p
    exact k D H' hDn (fun a o q => q3 a o (fun z => by rw [z, hDn] at q; cases q) q) (by rw [q1]; simp) ⟨acc, q1, q2⟩
end
end Cp
namespace K04
open PySem L2 PySem.Spec PyProof.Rows Cp
open Evl (Ex)
section
variable {w : World} {K : PySem.W.Frag} {mg : Str → Option Value} {base : Heap} {A : Ad}
def kvE (ws : List (Str × End)) : List (PyData × PyData) := ws.map fun x => (PyData.str x.1, enD x.2)
theorem key_str {q : Key} {z : Str} (h : PyData.str z = kD q) : q = Sum.inr z := by
  cases q with
  | inl i => cases h
  | inr s => injection h with h; rw [h]
theorem kvE_get {H : Hp} {nm : Str} : ∀ {ws : List (Str × End)} {es : List (Key × V)}, nm ∈ ws.map (·.1) → DtKV H (kvE ws) es → ∃ v, valV es (Sum.inr nm) = some v ∧ Dt H (enD (facing ws nm)) v
  | [], _, h, _ => by cases h
  | x :: ws, es, hm, h => by
    obtain ⟨q, v, m, rfl, h2, h3, h4⟩ := h
    have hq : q = Sum.inr x.1 := key_str h2
    subst hq
    by_cases c : x.1 = nm
    · refine ⟨v, valV_pos (p := ((Sum.inr x.1 : Key), v)) (by show (Sum.inr x.1 : Key) = Sum.inr nm; rw [c]), ?_⟩
      have e : facing (x :: ws) nm = x.2 := by
        unfold facing
        rw [List.find?_cons, decide_eq_true c]
        rfl
      rw [e]
      exact h3
    · have e : facing (x :: ws) nm = facing ws nm := by
        unfold facing
        rw [List.find?_cons, decide_eq_false c]
      have hm : nm ∈ ws.map (·.1) := by
        rcases List.mem_cons.mp hm with z | z
        · exact absurd z.symm c
        · exact z
      obtain ⟨u, z1, z2⟩ := kvE_get hm h4
      rw [e]
      exact ⟨u, (valV_neg (p := ((Sum.inr x.1 : Key), v)) (fun z => c (by injection z))).trans z1, z2⟩
theorem kvE_map {H : Hp} {nm : Str} {e : End} {v : V} (hv : Dt H (enD e) v) : ∀ {ws : List (Str × End)} {es : List (Key × V)}, DtKV H (kvE ws) es → DtKV H (kvE (putW ws nm e)) (es.map fun kv => if kv.1 = (Sum.inr nm : Key) then (kv.1, v) else kv)
  | [], es, h => by rw [show es = [] from h]; rfl
  | x :: ws, es, h => by
    obtain ⟨q, u, m, rfl, h2, h3, h4⟩ := h
    have hq : q = Sum.inr x.1 := key_str h2
    subst hq
    have ih := kvE_map (nm := nm) hv h4
    show DtKV H ((PyData.str (if x.1 = nm then (x.1, e) else x).1, enD (if x.1 = nm then (x.1, e) else x).2) :: kvE (putW ws nm e)) ((if (Sum.inr x.1 : Key) = Sum.inr nm then ((Sum.inr x.1 : Key), v) else ((Sum.inr x.1 : Key), u)) :: m.map _)
    by_cases c : x.1 = nm
    · rw [if_pos c, if_pos (by rw [c])]
      exact ⟨Sum.inr x.1, v, _, rfl, rfl, hv, ih⟩
    · rw [if_neg c, if_neg (fun z => c (by injection z))]
      exact ⟨Sum.inr x.1, u, _, rfl, rfl, h3, ih⟩
theorem kvE_put {H : Hp} {nm : Str} {e : End} {v : V} {ws : List (Str × End)} {es : List (Key × V)} (hm : nm ∈ ws.map (·.1)) (h : DtKV H (kvE ws) es) (hv : Dt H (enD e) v) : DtKV H (kvE (putW ws nm e)) (putK es (Sum.inr nm) v) := by
  obtain ⟨u, z1, _⟩ := kvE_get hm h
  unfold putK
  rw [if_pos (by rw [valV_any, z1]; rfl)]
  exact kvE_map hv h
theorem kvE_keys {H : Hp} : ∀ {ws : List (Str × End)} {es : List (Key × V)}, DtKV H (kvE ws) es → es.map (·.1) = (ws.map (·.1)).map Sum.inr
  | [], es, h => by rw [show es = [] from h]; rfl
  | x :: ws, es, h => by
    obtain ⟨q, u, m, rfl, h2, h3, h4⟩ := h
    have hq : q = Sum.inr x.1 := key_str h2
    subst hq
    rw [List.map_cons, kvE_keys h4]
    rfl
section
variable {O : List Addr} {J : Hp → Prop} {K : PySem.W.Frag} {δ : List Sl} {te tk tv : TE} {N : List Sl → Hp → Prop} {R : V → Hp → Prop} {i : Nat} {l : Addr} {ws : List (Str × End)} {nm : Str} {e : End}
theorem ed_dgetK (hs : δ.getD i .no = .at l) (hk : ED O J tk δ (.str nm)) (hl : ∀ H, J H → ∃ es, H l = some (.dK es) ∧ DtKV (hid O H) (kvE ws) es) (hm : nm ∈ ws.map (·.1)) : ED O J (tDGet (tVar i) tk) δ (enD (facing ws nm)) := fun σ H hJ hD hS Q k =>
  ⟨.ref l, hS.loc hs, hk σ H hJ hD hS _ fun x w H1 p d1 e1 hw => by
    rw [p.1] at hw
    obtain ⟨es, q1, q2⟩ := hl H1 p.2
    obtain ⟨v, z1, z2⟩ := kvE_get hm q2
    have hw : w = .str nm := hw
    refine ⟨l, v, rfl, ?_, k _ v H1 ⟨rfl, p.2⟩ d1 e1 z2⟩
    rw [hw, ← z1]
    exact DGet.k (k := Sum.inr nm) q1⟩
theorem dm_dputK (hv : ED O J tv δ (enD e)) (hs : δ.getD i .no = .at l) (hk : ED O J tk δ (.str nm)) (hl : ∀ H, J H → ∃ es, H l = some (.dK es) ∧ DtKV (hid O H) (kvE ws) es) (hm : nm ∈ ws.map (·.1)) (hO : l ∈ O) (hz : ws.length < 10000)
    (k : ∀ H H', J H → (∀ a, a ≠ l → H' a = H a) → (∃ es, H' l = some (.dK es) ∧ DtKV (hid O H') (kvE (putW ws nm e)) es) → N δ H') : DM O J (sDPut (tVar i) tk tv) δ N R := fun σ H D hJ hD hS kn kr =>
  hv σ H hJ hD hS _ fun x w H1 p1 d1 e1 hw => ⟨.ref l, (hS.mono e1).loc hs, hk σ H1 p1.2 d1 (hS.mono e1) _ fun e2 y H2 p2 d2 ex2 hy => by
    rw [p1.1] at hw
    rw [p2.1] at hy
    obtain ⟨es, q1, q2⟩ := hl H2 p2.2
    have hy : y = .str nm := hy
    have hlen := q2.length
    unfold kvE at hlen
    rw [List.length_map] at hlen
    refine ⟨l, _, rfl, by rw [hy]; exact DPut.k (k := Sum.inr nm) (v := w) q1 (Evl.sz_lt (by omega)), ?_⟩
    have hh := hid_set (H := H2) (o := .dK (putK es (Sum.inr nm) w)) hO
    exact kn δ σ _ (k H2 _ p2.2 (fun a ha => upd_ne ha) ⟨_, upd_same, by rw [hh]; exact kvE_put hm q2 (Dt.mono ex2 _ _ hw)⟩) (dom_upd d2) ((e1.trans ex2).trans (hid_upd hO)) (hS.mono ((e1.trans ex2).trans (hid_upd hO)))⟩
end
def WL (O : List Addr) (J : Hp → Prop) (lp lf : Addr) (s : Wk) : Hp → Prop := fun H => Own (lf :: lp :: O) lp (s.ps.map enD) H ∧ (∃ es, H lf = some (.dK es) ∧ DtKV (hid (lf :: lp :: O) H) (kvE s.ws) es) ∧ ∃ H0, J H0 ∧ Dom O H0 ∧ H0 lp = none ∧ H0 lf = none ∧ Ex H0 H
theorem WL.jok {O : List Addr} {J : Hp → Prop} {lp lf : Addr} {s : Wk} : Jok (lf :: lp :: O) (WL O J lp lf s) := fun H H' e ex ⟨h1, ⟨es, h2, h3⟩, H0, j, d, z1, z2, x⟩ =>
  ⟨Own.jok (by simp) H H' e ex h1, ⟨es, by rw [e lf (by simp)]; exact h2, h3.mono ex⟩, H0, j, d, z1, z2, ex_back x e ex⟩
theorem ex_same {H0 H H' : Hp} {l : Addr} (x : Ex H0 H) (z : H0 l = none) (h : ∀ a, a ≠ l → H' a = H a) : Ex H0 H' := fun a o q => by
  have : a ≠ l := fun e => by rw [e, z] at q; cases q
  rw [h a this]
  exact x a o q
theorem own_same {O : List Addr} {l m : Addr} {ds : List PyData} {H H' : Hp} (hm : m ∈ O) (h : ∀ a, a ≠ m → H' a = H a) (hl : l ≠ m) (o : Own O l ds H) : Own O l ds H' := by
  obtain ⟨vs, h1, h2⟩ := o
  refine ⟨vs, by rw [h l hl]; exact h1, h2.mono fun a q z => ?_⟩
  obtain ⟨z1, z2⟩ := hid_some z
  rw [hid_out z1, h a (fun e => z1 (e ▸ hm))]
  exact z2
theorem kv_same {O : List Addr} {l m : Addr} {kd : List (PyData × PyData)} {H H' : Hp} (hm : m ∈ O) (h : ∀ a, a ≠ m → H' a = H a) (hl : l ≠ m) (o : ∃ es, H l = some (.dK es) ∧ DtKV (hid O H) kd es) : ∃ es, H' l = some (.dK es) ∧ DtKV (hid O H') kd es := by
  obtain ⟨vs, h1, h2⟩ := o
  refine ⟨vs, by rw [h l hl]; exact h1, h2.mono fun a q z => ?_⟩
  obtain ⟨z1, z2⟩ := hid_some z
  rw [hid_out z1, h a (fun e => z1 (e ▸ hm))]
  exact z2
theorem sorted_names {xs ys : List Str} (hp : ys.Perm xs) (hs : sortedS ys = true) (hx : xs.Pairwise ltS) : ys = xs := by
  have hn : xs.Nodup := hx.imp fun h => ltS_ne h
  have hy : ys.Nodup := hp.nodup_iff.mpr hn
  refine hp.eq_of_pairwise (le := ltS) (fun a b _ _ h1 h2 => ?_) (sorted_pair hs hy) hx
  exact absurd (List.lt_trans h1 h2) (List.lt_irrefl _)
def spLWalk : Sp := fun vs H Q _ => ∃ (O : List Addr) (n : Int) (rs : List (Int × Int)) (ps : List (Nat × Nat)) (ws : List (Str × (Nat × Nat))) (row : List (Bool × Str)), Dom O H ∧ DtAll (hid O H) [townD n rs, standD ps ws, rowD row] vs ∧ TownOk n rs ∧ StandOk n rs ps ws ∧ RowOk ws row ∧
  ∀ v H', Ex H H' → Dt (hid O H') (standD (walkE rs ⟨ps, ws, []⟩ row).ps (walkE rs ⟨ps, ws, []⟩ row).ws) v → Q v H'
theorem ep_lwalked {O : List Addr} {E : XK} {ta : TA} {δ : List Sl} {n : Int} {rs : List (Int × Int)} {ps : List (Nat × Nat)} {ws : List (Str × (Nat × Nat))} {row : List (Bool × Str)} (hT : TownOk n rs) (hok : StandOk n rs ps ws) (hrow : RowOk ws row) (h : Cp.AP O ta δ [townD n rs, standD ps ws, rowD row]) :
    Cp.EP O (tCall spLWalk [] E ta) δ (standD (walkE rs ⟨ps, ws, []⟩ row).ps (walkE rs ⟨ps, ws, []⟩ row).ws) := fun σ H hD hS Q k => h σ H hD hS _ fun vs H1 e1 hv => ⟨O, n, rs, ps, ws, row, hD.ex e1, by rw [List.append_nil]; exact hv, hT, hok, hrow, fun v H' e' hv' => k v H' (e1.trans e') hv'⟩
theorem flip_call (e : End) (h : e.2 < 2) : flipD (toEn (enD e)) = enD (flipE e) := by
  rw [toEn_enD]
  unfold flipD enD flipE
  congr 3
  show PyData.int (1 - (e.2 : Int)) = .int ((1 - e.2 : Nat) : Int)
  congr 1
  omega
theorem ed_flip {O : List Addr} {J : Hp → Prop} {δ : List Sl} {te : TE} {e : End} {E : XK} (jk : Jok O J) (h : ED O J te δ (enD e)) (h2 : e.2 < 2) : ED O J (tCall (spP 1 (fun ds => isEnd0 (ds.getD 0 .none)) fun ds => flipD (toEn (ds.getD 0 .none))) [] E (tCons te tNil)) δ (enD (flipE e)) := by
  rw [← flip_call e h2]
  exact ed_callP1 (f := fun ds => flipD (toEn (ds.getD 0 .none))) (pre := fun ds => isEnd0 (ds.getD 0 .none)) jk h ⟨e, rfl⟩
theorem strs_dt {H : Hp} : ∀ l : List Str, DtAll H (l.map PyData.str) (l.map V.str)
  | [] => rfl
  | a :: l => ⟨.str a, _, rfl, rfl, strs_dt l⟩
theorem ep_lspot {O : List Addr} {δ : List Sl} {te tn : TE} {n : Int} {rs : List (Int × Int)} {e : End} {E : XK} (h : Cp.EP O te δ (townD n rs)) (hn : Cp.EP O tn δ (enD e)) (h1 : e.1 < rs.length) (h2 : e.2 < 2) :
    Cp.EP O (tCall (spP 2 (fun ds => preTown (ds.getD 0 .none) ∧ isEndD (townRs (ds.getD 0 .none)).length (ds.getD 1 .none) = true) fun ds => .int (spotOf (townRs (ds.getD 0 .none)) (toEn (ds.getD 1 .none)))) [] E (tCons te (tCons tn tNil))) δ (.int (spotOf rs e)) :=
  ep_is (ep_call (f := fun ds => .int (spotOf (townRs (ds.getD 0 .none)) (toEn (ds.getD 1 .none)))) (ds := [townD n rs, enD e]) (ap_cons h (ap_cons hn ap_nil)) rfl ⟨⟨n, rs, rfl⟩, by show isEndD (townRs (townD n rs)).length (enD e) = true; rw [townRs_is]; exact end_of h1 h2⟩) (by show PyData.int (spotOf (townRs (townD n rs)) (toEn (enD e))) = _; rw [townRs_is, toEn_enD])
theorem G_law_walked (T : Txt K mg A) (Z : Fns K A) : FnOk prg w K mg base CX0 2 A.a_law_walked Z.fd_law_walked ["town", "standing", "row"] (spLWalk) := by
  refine Fun.ok Z.F_law_walked sc_law_walked (fun vs H Q E h => by obtain ⟨O, n, rs, ps, ws, row, _, hv, _⟩ := h; exact hv.length) (fun cdv Ar outer s H vs Q E hr h => ⟨_, (pss_cons (ps_set (i := 3) sc_law_walked.nd rfl (by first | exact Or.inl rfl | exact Or.inr rfl) (pe_callTy (kx_listOf (K := K) rfl) (by rfl) T.n_list (by decide +kernel) (pa_cons (pe_ix (kx_ix (K := K) rfl) (pv 1) pe_int (fun _ _ => rfl)) pa_nil)))
    (pss_cons (ps_set (i := 4) sc_law_walked.nd rfl (by first | exact Or.inl rfl | exact Or.inr rfl) (pe_callTy (kx_dictP (K := K) rfl rfl) (by rfl) T.n_dict (by decide +kernel) (pa_cons (pe_ix (kx_ix (K := K) rfl) (pv 1) pe_int (fun _ _ => rfl)) pa_nil)))
    (pss_cons (ps_for PassesOwn.never rfl (kx_list (K := K) rfl (pv 2)) (kx_gtup (K := K) (n := 2) rfl rfl (pgs_cons (pg_name (i := 5) sc_law_walked.nd rfl (by first | exact Or.inl rfl | exact Or.inr rfl)) (pgs_cons (pg_name (i := 6) sc_law_walked.nd rfl (by first | exact Or.inl rfl | exact Or.inr rfl)) pgs_nil))) (pss_cons (ps_set (i := 7) sc_law_walked.nd rfl (by first | exact Or.inl rfl | exact Or.inr rfl) (pe_dget (hu_of hr) (pv 4) (pv 6) (fun _ _ => rfl)))
    (pss_one (ps_if (pt_cmpR (kx_eq (K := K) rfl hr.units) (pv 5) pe_str (nomark _)) (pss_cons (ps_set (i := 8) sc_law_walked.nd rfl (by first | exact Or.inl rfl | exact Or.inr rfl) (pe_call (G_law_spot T Z) (hr.mono (by decide)) rfl T.g_law_spot T.k_law_spot Z.b_law_spot .nil pass0 (pa_cons (pv 0) (pa_cons (pv 7) pa_nil))))
    (pss_cons (ps_dput (hu_of hr) (pv 4) (pv 6) (pe_call (G_law_flip T Z) (hr.mono (by decide)) rfl T.g_law_flip T.k_law_flip Z.b_law_flip .nil pass0 (pa_cons (pe_ix (kx_ix (K := K) rfl) (pv 3) (pv 8) (fun _ _ => rfl)) pa_nil)) rfl)
    (pss_one (ps_asg (pv 7) (pg_sub (pv 3) (pv 8) set_list))))) (pss_one (ps_dput (hu_of hr) (pv 4) (pv 6) (pe_call (G_law_flip T Z) (hr.mono (by decide)) rfl T.g_law_flip T.k_law_flip Z.b_law_flip .nil pass0 (pa_cons (pv 7) pa_nil)) rfl))))))
    (pss_one (ps_ret (pe_tup (pa_cons (pv 3) (pa_cons (pe_lc (own := [("name", 6)]) rfl sc_law_walked.nd (kx_list (K := K) rfl (pe_callB (call_sortedD rfl) (by rfl) T.n_sorted (by decide +kernel) (pa_cons (pv 4) pa_nil))) (blkOk_by (own := [("name", 6)]) (N := ["town", "standing", "row", "posts", "facing", "word", "name", "end", "v"]) (sc := defScope s_law_walked) (by decide +kernel)) (fun _ _ _ _ _ => (pg_name (i := 6) sc_law_walked.nd rfl (by first | exact Or.inl rfl | exact Or.inr rfl))) (fun _ _ _ _ _ => pts_nil) (fun _ _ _ _ _ => (pe_tup (pa_cons (pv 6) (pa_cons (pe_dget (hu_of hr) (pv 4) (pv 6) (fun _ _ => rfl)) pa_nil))))) pa_nil)))))))), ?_⟩)
  obtain ⟨O, n, rs, ps, ws, row, hD, hv, hT, hok, ⟨hr4, hrn⟩, k⟩ := h
  have s0 : SD (hid O H) [.d (townD n rs), .d (standD ps ws), .d (rowD row), .no, .no, .no, .no, .no, .no] (L2.start ["town", "standing", "row", "posts", "facing", "word", "name", "end", "v"] vs) := sd_start hv _ (by simp)
  refine ds_finish (δ := [.d (townD n rs), .d (standD ps ws), .d (rowD row), .no, .no, .no, .no, .no, .no]) (r := standD (walkE rs ⟨ps, ws, []⟩ row).ps (walkE rs ⟨ps, ws, []⟩ row).ws) ?_ hD s0 k
  have st0 : ∀ {O : List Addr} {δ : List Sl}, δ.getD 1 .no = .d (standD ps ws) → EP O (tOp (rIx K) (tVar 1) (tC (.int 0))) δ (.list (ps.map enD)) := fun h => ep_op (ep_var h) ep_int (rp_ix2 (rp_ixT (j := 0) rfl rfl))
  have st1 : ∀ {O : List Addr} {δ : List Sl}, δ.getD 1 .no = .d (standD ps ws) → EP O (tOp (rIx K) (tVar 1) (tC (.int 1))) δ (.list (ws.map waD)) := fun h => ep_op (ep_var h) ep_int (rp_ix2 (rp_ixT (j := 1) rfl rfl))
  intro J j
  refine dm_new (i := 3) j (en_listOf (st0 rfl)) fun lp hlp => ?_
  refine dm_new (i := 4) (newJ (Own.jok (by simp))) (en_dictOf (val := enD) (ws := ws) (st1 rfl) (hok.ris.imp fun h => ltS_ne h)) fun lf hlf => ?_
  have nf : lf ≠ lp := fun e => hlf (by simp [e])
  refine dm_pre (J := WL O J lp lf ⟨ps, ws, []⟩) ?_ fun H h => ?_
  rotate_left
  · obtain ⟨⟨es, h2, h2'⟩, H1, ⟨h1, H0, hj, d0, z0, e1⟩, d1, z1, e2⟩ := h
    exact ⟨h1.more z1 e2, ⟨es, h2, h2'⟩, H0, hj, d0, z0, ex_none e1 z1, e1.trans e2⟩
  refine dm_seq (N1 := fun δ H => (∃ s5 s6 s7 s8, δ = [.d (townD n rs), .d (standD ps ws), .d (rowD row), .at lp, .at lf, s5, s6, s7, s8]) ∧ WL O J lp lf (walkE rs ⟨ps, ws, []⟩ row) H)
    (dm_for (n := row.length) (item := fun i => (row.map deD).getD i .none) (ix := [5, 6]) (by
      have := wp_list (O := lf :: lp :: O) (K := K) (δ := [.d (townD n rs), .d (standD ps ws), .d (rowD row), .at lp, .at lf, .no, .no, .no, .no]) (ds := row.map deD) (ep_var (i := 2) rfl)
      rwa [List.length_map] at this) WL.jok (fun i δ H => (∃ s5 s6 s7 s8, δ = [.d (townD n rs), .d (standD ps ws), .d (rowD row), .at lp, .at lf, s5, s6, s7, s8]) ∧ WL O J lp lf (walkE rs ⟨ps, ws, []⟩ (row.take i)) H)
      (fun H h => ⟨⟨_, _, _, _, rfl⟩, h⟩) (fun i δ1 H1 hi hI => ?_) fun δ1 H1 hI => by rw [List.take_length] at hI; exact hI) fun δ1 => ?_
  · obtain ⟨⟨s5, s6, s7, s8, rfl⟩, hw⟩ := hI
    have hmem : row[i] ∈ row := List.getElem_mem hi
    obtain ⟨k1, k2, k3, _⟩ := walk_ok hT (row.take i) ⟨ps, ws, []⟩ hok (fun r hr => hrn r (List.mem_of_mem_take hr)) (fun e he => by cases he)
    have e : (row.map deD).getD i .none = deD row[i] := by
      rw [List.getD_eq_getElem?_getD, List.getElem?_map, List.getElem?_eq_getElem hi]
      rfl
    rw [e, walk_snoc hi]
    have hr2 : row[i].2 ∈ (walkE rs ⟨ps, ws, []⟩ (row.take i)).ws.map (·.1) := by rw [k2]; exact hrn _ hmem
    generalize row[i] = r at hr2
    generalize walkE rs ⟨ps, ws, []⟩ (row.take i) = s at hr2 k1 k2 hw
    obtain ⟨t1, t2, f1, f2, fv, g1, g2⟩ := step_ok hT (r := r) k1 hr2
    have fw : s.ws.length ≤ 4 := k1.wl
    refine ⟨_, WL O J lp lf s, gb_tup2 (x := .str (wordS r.1)) (y := .str r.2), hw, WL.jok, ?_⟩
    refine dm_seq (N1 := fun δ H => δ = [.d (townD n rs), .d (standD ps ws), .d (rowD row), .at lp, .at lf, .d (.str (wordS r.1)), .d (.str r.2), .d (enD (facing s.ws r.2)), s8] ∧ WL O J lp lf s H)
      (dm_asgD (ed_dgetK (l := lf) (i := 4) rfl (ed_of WL.jok (ep_var (i := 6) rfl)) (fun H h => h.2.1) hr2) fun H h => ⟨rfl, h⟩) fun δ1 => dm_fact ?_
    rintro rfl
    refine dm_ifD (td_of WL.jok (tp_is (tp_test (ep_op (ep_var (i := 5) rfl) ep_str (rp_eqD (word_eq r.1).2 (by decide +kernel)))) (word_eq r.1).1)) (fun c => ?_) fun c => ?_
    · obtain ⟨p1, p2⟩ := spot_in hT f1 f2
      have hsp : ((spotOf rs (facing s.ws r.2)).toNat : Int) = spotOf rs (facing s.ws r.2) := by omega
      refine dm_seq (N1 := fun δ H => δ = [.d (townD n rs), .d (standD ps ws), .d (rowD row), .at lp, .at lf, .d (.str (wordS r.1)), .d (.str r.2), .d (enD (facing s.ws r.2)), .d (.int (spotOf rs (facing s.ws r.2)))] ∧ WL O J lp lf s H)
        (dm_asgD (ed_of WL.jok (ep_lspot (ep_var (i := 0) rfl) (ep_var (i := 7) rfl) f1 f2)) fun H h => ⟨rfl, h⟩) fun δ1 => dm_fact ?_
      rintro rfl
      have hix : ixN (s.ps.map enD).length (spotOf rs (facing s.ws r.2)) = some (spotOf rs (facing s.ws r.2)).toNat := by
        have := ixN_nat (n := (s.ps.map enD).length) (j := (spotOf rs (facing s.ws r.2)).toNat) (by rw [List.length_map]; exact fv)
        rwa [hsp] at this
      have hg : (s.ps.getD (spotOf rs (facing s.ws r.2)).toNat (0, 0)).2 < 2 := (k1.pv _ fv).2.1
      have hgo : goneOf rs s r = flipE (s.ps.getD (spotOf rs (facing s.ws r.2)).toNat (0, 0)) := by
        unfold goneOf
        rw [if_pos c]
      refine dm_seq (N1 := fun δ H => δ = [.d (townD n rs), .d (standD ps ws), .d (rowD row), .at lp, .at lf, .d (.str (wordS r.1)), .d (.str r.2), .d (enD (facing s.ws r.2)), .d (.int (spotOf rs (facing s.ws r.2)))] ∧ WL O J lp lf ⟨s.ps, (step1 rs s r).ws, []⟩ H)
        (dm_dputK (l := lf) (i := 4) (ws := s.ws) (nm := r.2) (e := goneOf rs s r) (by
            rw [hgo]
            exact ed_flip WL.jok (ed_ixOwn (i := 3) (l := lp) (ds := s.ps.map enD) rfl (fun H h => h.1) (ed_of WL.jok (ep_var (i := 8) rfl)) hix (by
              rw [List.getElem?_map, List.getElem?_eq_getElem fv, List.getD_eq_getElem?_getD, List.getElem?_eq_getElem fv]
              rfl)) hg) rfl (ed_of WL.jok (ep_var (i := 6) rfl)) (fun H h => h.2.1) hr2 (by simp) (by omega) fun H H' h hs hd => ⟨rfl, ?_⟩) fun δ1 => dm_fact ?_
      · obtain ⟨h1, h2, H0, hj, d0, z1, z2, x⟩ := h
        exact ⟨own_same (m := lf) (by simp) hs nf.symm h1, hd, H0, hj, d0, z1, z2, ex_same x z2 hs⟩
      rintro rfl
      refine dm_setE (l := lp) (i := 3) (ds := s.ps.map enD) (d := enD (facing s.ws r.2)) (m := (spotOf rs (facing s.ws r.2)).toNat) (ed_of WL.jok (ep_var (i := 7) rfl)) rfl (ed_of WL.jok (ep_var (i := 8) rfl)) (by simp) (fun H h => h.1) hix fun H H' h hs hd => ⟨⟨_, _, _, _, rfl⟩, ?_⟩
      obtain ⟨h1, h2, H0, hj, d0, z1, z2, x⟩ := h
      refine ⟨?_, kv_same (m := lp) (by simp) hs nf h2, H0, hj, d0, z1, z2, ex_same x z1 hs⟩
      unfold step1
      dsimp only
      rw [if_pos c, List.map_set]
      exact hd
    · have hgo : goneOf rs s r = flipE (facing s.ws r.2) := by
        unfold goneOf
        rw [if_neg (by rw [c]; decide)]
      refine dm_dputK (l := lf) (i := 4) (ws := s.ws) (nm := r.2) (e := goneOf rs s r) (by
            rw [hgo]
            exact ed_flip WL.jok (ed_of WL.jok (ep_var (i := 7) rfl)) f2) rfl (ed_of WL.jok (ep_var (i := 6) rfl)) (fun H h => h.2.1) hr2 (by simp) (by omega) fun H H' h hs hd => ⟨⟨_, _, _, _, rfl⟩, ?_⟩
      obtain ⟨h1, h2, H0, hj, d0, z1, z2, x⟩ := h
      refine ⟨?_, hd, H0, hj, d0, z1, z2, ex_same x z2 hs⟩
      unfold step1
      dsimp only
      rw [if_neg (by rw [c]; decide)]
      exact own_same (m := lf) (by simp) hs nf.symm h1
  refine dm_fact ?_
  rintro ⟨s5, s6, s7, s8, rfl⟩
  obtain ⟨k1, k2, k3, _⟩ := walk_ok hT row ⟨ps, ws, []⟩ hok hrn (fun e he => by cases he)
  generalize walkE rs ⟨ps, ws, []⟩ row = s at k1
  intro σ H D hJ hD hS kn kr
  obtain ⟨h1, ⟨es, h2, h3⟩, H0, hj, d0, z1, z2, x⟩ := id hJ
  have hw4 := k1.wl
  refine ⟨.ref lp, hS.loc rfl, ?_⟩
  refine ⟨.ref lf, hS.loc rfl, lf, es, s.ws.map (·.1), rfl, Or.inl h2, kvE_keys h3, by rw [List.length_map]; omega, fun ys p hperm hsort hp => ⟨p, rfl, ⟨ys.map V.str, SqL.of upd_same⟩, ?_⟩⟩
  have hys := sorted_names hperm hsort k1.ris
  subst hys
  have e1 : Ex H (upd H p (.lst ((s.ws.map (·.1)).map V.str))) := Ex.new hp
  have pO := hD.fresh hp
  have hD1 := hD.ex e1
  have hS1 := hS.mono (hid_ex e1)
  have hdt : DtAll (hid (lf :: lp :: O) (upd H p (.lst ((s.ws.map (·.1)).map V.str)))) ((s.ws.map (·.1)).map PyData.str) ((s.ws.map (·.1)).map V.str) := by
    exact strs_dt _
  have hlen : ((s.ws.map (·.1)).map V.str).length = s.ws.length := by rw [List.length_map, List.length_map]
  have w : Walk (Itl K p) s.ws.length (fun H' => Ex (hid (lf :: lp :: O) (upd H p (.lst ((s.ws.map (·.1)).map V.str)))) H') (fun i H' v H'' => Ex H' H'' ∧ ∀ O', Ex (hid (lf :: lp :: O) (upd H p (.lst ((s.ws.map (·.1)).map V.str)))) (hid O' H') → Dom O' H' → Dt (hid O' H'') (((s.ws.map (·.1)).map PyData.str).getD i .none) v) := by
    rw [← hlen]
    refine walk_list.mono (fun H' g => SqL.of (g _ _ (by rw [hid_out pO]; exact upd_same))) (fun i H' v H'' hi g y => ?_)
    obtain ⟨rfl, hy⟩ := y
    obtain ⟨d, q1, q2⟩ := hdt.got hy
    exact ⟨Ex.refl _, fun O' eo _ => by
      show Dt _ (((s.ws.map (·.1)).map PyData.str).getD i .none) v
      rw [List.getD_eq_getElem?_getD, q1]
      exact Dt.mono eo d v q2⟩
  have h2' := e1 _ _ h2
  have h3' := h3.mono (hid_ex (O := lf :: lp :: O) e1)
  have h1' : Own (lf :: lp :: O) lp (s.ps.map enD) (upd H p (.lst ((s.ws.map (·.1)).map V.str))) := by
    obtain ⟨vs, o1, o2⟩ := h1
    exact ⟨vs, e1 _ _ o1, o2.mono (hid_ex e1)⟩
  have x1 := x.trans e1
  generalize upd H p (.lst ((s.ws.map (·.1)).map V.str)) = H1 at hD1 hS1 w h2' h3' h1' x1 e1
  refine lc_tail (O := lf :: lp :: O) (g := gName 6) (te := tTup (tCons (tVar 6) (tCons (tDGet (tVar 4) (tVar 6)) tNil))) (tt := tYes) (Q := fun y H2 => [V.ref lp, y].length ≤ sizeLine ∧ ∀ q, H2 q = none → D.rt (.ref q) (upd H2 q (.tup [.ref lp, y]))) (ix := [6]) (vs := [6]) (δ := [.d (townD n rs), .d (standD ps ws), .d (rowD row), .at lp, .at lf, s5, s6, s7, s8]) (f := fun i => waD (s.ws.getD i ("", (0, 0)))) (by decide) (by omega) (fun σ H Q k => k) hD1 hS1 w (fun E hE i hi => ?_) fun a H2 ha e2 ne own => ⟨by show 2 ≤ sizeLine; decide, fun q hq => ?_⟩
  · have hgi : s.ws.getD i ("", (0, 0)) = s.ws[i] := by
      rw [List.getD_eq_getElem?_getD, List.getElem?_eq_getElem hi]
      rfl
    have hit : ((s.ws.map (·.1)).map PyData.str).getD i .none = .str s.ws[i].1 := by
      rw [List.getD_eq_getElem?_getD, List.getElem?_map, List.getElem?_map, List.getElem?_eq_getElem hi]
      rfl
    have hmem : s.ws[i] ∈ s.ws := List.getElem_mem hi
    rw [hgi, hit]
    refine ⟨_, gb_name, fun J' jk hJ' => ?_⟩
    have hfe : enD s.ws[i].2 = enD (facing s.ws s.ws[i].1) := by rw [facing_own k1.ris hmem]
    show ED _ J' _ _ (.tuple [.str s.ws[i].1, enD s.ws[i].2])
    rw [hfe]
    exact ed_tup2 jk (ed_of jk (ep_var rfl)) (ed_dgetK (l := lf) (ws := s.ws) (i := 4) rfl (ed_of jk (ep_var rfl)) (fun H' h' => ⟨es, (hJ' H' h').1 lf _ (fun z => by rw [z, hE] at h2'; cases h2') h2', h3'.mono (hJ' H' h').2⟩) (List.mem_map.mpr ⟨_, hmem, rfl⟩))
  · have e3 : Ex H2 (upd H2 q (.tup [.ref lp, .ref a])) := Ex.new hq
    have x2 := (x1.trans e2).trans e3
    rw [getD_all s.ws ("", (0, 0)) waD] at own
    have at' : ∀ (l : Addr) (o : HO), H0 l = none → H2 l = some o → hid O (upd H2 q (.tup [.ref lp, .ref a])) l = some o := fun l o z hl => by
      rw [hid_out (d0.fresh z), upd_ne (fun e => by rw [e, hq] at hl; cases hl)]
      exact hl
    obtain ⟨us, o1, o2⟩ := own
    obtain ⟨vs, v1, v2⟩ := h1'
    have less : ∀ {b : Addr} {H : Hp}, Ex (hid (b :: lf :: lp :: O) H) (hid O H) := fun {b H} => (hid_less.trans hid_less).trans hid_less
    refine kr (.ref q) _ ⟨standD s.ps s.ws, ⟨q, _, rfl, ?_, .ref lp, _, rfl, ⟨lp, vs, rfl, at' _ _ z1 (e2 _ _ v1), ?_⟩, .ref a, [], rfl, ⟨a, us, rfl, at' _ _ (ex_none x1 ha) o1, ?_⟩, rfl⟩, rfl, j.ex d0 x2 hj⟩ (dom_upd (hD1.ex e2)) (hid_ex ((e1.trans e2).trans e3))
    · rw [hid_out (d0.fresh (ex_none (x1.trans e2) hq))]
      exact upd_same
    · exact v2.mono ((hid_less.trans hid_less).trans (hid_ex (e2.trans e3)))
    · exact o2.mono (less.trans (hid_ex e3))
end
end K04
/-! Cameposts: what was told and is held: owned, seen as data, spoiled -/
namespace Cp
open PySem L2 PySem.Spec PyProof.Rows
open Evl (Ex)
/-- lists of data at addresses of one's own, pairs of them -/
def JX (O : List Addr) (L : List (Addr × List PyData)) (T : List (Addr × Addr × Addr)) : Hp → Prop := fun H => (∀ x ∈ L, Own O x.1 x.2 H) ∧ ∀ t ∈ T, H t.1 = some (.tup [.ref t.2.1, .ref t.2.2])
structure XOk (O : List Addr) (p c : Addr) (L : List (Addr × List PyData)) (T : List (Addr × Addr × Addr)) : Prop where
  hp : p ∈ O
  hc : c ∈ O
  hl : ∀ x ∈ L, x.1 ∈ O ∧ x.1 ≠ p ∧ x.1 ≠ c
  ht : ∀ t ∈ T, t.1 ∈ O ∧ t.1 ≠ p ∧ t.1 ≠ c
section
variable {O : List Addr} {p c : Addr} {L L' : List (Addr × List PyData)} {T T' : List (Addr × Addr × Addr)} {K : PySem.W.Frag} {δ δ' : List Sl} {te tk : TE} {tt : TT} {t u : TS} {N : List Sl → Hp → Prop} {R : V → Hp → Prop} {x d : PyData} {i b : Nat} {ds : List PyData} {J : Hp → Prop}
theorem XOk.keep (h : XOk O p c L T) : Keep O p c (JX O L T) := ⟨h.hp, h.hc, fun H H' e ex z => ⟨fun x hx => Own.jok (h.hl x hx).1 H H' e ex (z.1 x hx), fun t ht => by rw [e t.1 (h.ht t ht).1]; exact z.2 t ht⟩,
  fun H H' kp z => ⟨fun x hx => Own.kp h.hp h.hc (h.hl x hx).2.1 (h.hl x hx).2.2 kp (z.1 x hx), fun t ht => kp t.1 _ (h.ht t ht).2.1 (h.ht t ht).2.2 (z.2 t ht)⟩⟩
theorem JX.more {a : Addr} {H H' : Hp} (h : JX O L T H) (ha : H a = none) (e : Ex H H') : JX (a :: O) L T H' := ⟨fun x hx => (h.1 x hx).more ha e, fun t ht => e _ _ (h.2 t ht)⟩
theorem pu_ex {B : Nat} {H H' : Hp} (pu : Pu p c B H) (e : Ex H H') : Pu p c B H' := by
  obtain ⟨⟨ns, t, h1, h2, h3⟩, ne⟩ := pu
  exact ⟨⟨ns, t, e _ _ h1, e _ _ h2, h3⟩, ne⟩
/-- what is held, seen as data -/
theorem ed_view (jk : Jok O J) (hv : ∀ H σ, J H → Dom O H → SD (hid O H) δ σ → SD (hid [] H) δ' σ) (h : Cp.EP [] te δ' d) (hd : ∀ H H' v, Dt H d v → Dt H' d v) : ED O J te δ d := fun σ H hJ hD hS Q k =>
  h σ H (fun a ha => by cases ha) (hv H σ hJ hD hS) _ fun v H' e hv' => k d v H' ⟨rfl, jk.ex hD e hJ⟩ (hD.ex e) (hid_ex e) (hd _ _ _ hv')
theorem td_view {bb : Bool} (jk : Jok O J) (hv : ∀ H σ, J H → Dom O H → SD (hid O H) δ σ → SD (hid [] H) δ' σ) (h : Cp.TP [] tt δ' bb) : TD O J tt δ bb := fun σ H hJ hD hS Q k =>
  h σ H (fun a ha => by cases ha) (hv H σ hJ hD hS) _ fun H' e => k bb H' ⟨rfl, jk.ex hD e hJ⟩ (hD.ex e) (hid_ex e)
/-- a look that finds nothing -/
theorem dt_ifV {JO : Hp → Prop} (V : Keep O p c JO) (hv : ∀ H σ, PJ p c JO b H → Dom O H → SD (hid O H) δ σ → SD (hid [] H) δ' σ) (h : Cp.TP [] tt δ' false) (h2 : DM O (PJ p c JO b) u δ N R) : DM O (PJ p c JO b) (tSeq (tIfS tt t tNext) u) δ N R :=
  dm_seq (N1 := fun δ' H => δ' = δ ∧ PJ p c JO b H) (dm_ifD (td_view V.jok hv h) (fun z => by cases z) fun _ => dm_next fun H hJ => ⟨rfl, hJ⟩) fun δ1 => dm_fact fun z => by rw [z]; exact h2
theorem sd_view {H : Hp} {σ : L2.St} (h : SD (hid O H) δ σ) : SD (hid [] H) δ σ := h.mono fun a o q => by
  rw [hid_out (by simp)]
  exact (hid_some q).2
theorem sd_see {H : Hp} {σ : L2.St} {q : Addr} (h : SD H δ σ) (hs : δ.getD i .no = .at q) (hx : Dt H x (.ref q)) : SD H (δ.set i (.d x)) σ := by
  refine ⟨by rw [List.length_set]; exact h.1, fun j => ?_⟩
  have hj := h.2 j
  by_cases c : i = j
  · subst c
    rw [hs] at hj
    by_cases hlen : i < δ.length
    · have e : (δ.set i (.d x)).getD i .no = .d x := by
        rw [List.getD_eq_getElem?_getD, List.getElem?_set_self hlen]
        rfl
      rw [e]
      exact ⟨.ref q, hj, hx⟩
    · rw [List.getD_eq_getElem?_getD, List.getElem?_eq_none (by omega)] at hs
      cases hs
  · have e : (δ.set i (.d x)).getD j .no = δ.getD j .no := by
      rw [List.getD_eq_getElem?_getD, List.getElem?_set_ne c, ← List.getD_eq_getElem?_getD]
    rw [e]
    exact hj
theorem own_seen {l : Addr} {H : Hp} (h : Own O l ds H) : Dt (hid [] H) (.list ds) (.ref l) := by
  obtain ⟨vs, h1, h2⟩ := h
  exact ⟨l, vs, rfl, by rw [hid_out (by simp)]; exact h1, h2.mono fun a o q => by rw [hid_out (by simp)]; exact (hid_some q).2⟩
theorem pair_seen {q a b : Addr} {H : Hp} {d1 d2 : List PyData} (h : H q = some (.tup [.ref a, .ref b])) (h1 : Own O a d1 H) (h2 : Own O b d2 H) : Dt (hid [] H) (.tuple [.list d1, .list d2]) (.ref q) :=
  ⟨q, _, rfl, by rw [hid_out (by simp)]; exact h, .ref a, _, rfl, own_seen h1, .ref b, [], rfl, own_seen h2, rfl⟩
theorem sd_less {a : Addr} {H : Hp} {σ : L2.St} (h : SD (hid (a :: O) H) δ σ) : SD (hid O H) δ σ := h.mono hid_less
end
end Cp
namespace K04
open PySem L2 PySem.Spec PyProof.Rows Cp
open Evl (Ex)
section
variable {w : World} {K : PySem.W.Frag} {mg : Str → Option Value} {base : Heap} {A : Ad}
theorem walk_tr {rs : List (Int × Int)} : ∀ (row : List (Bool × Str)) (s t : Wk), s.ps = t.ps → s.ws = t.ws → (walkE rs s row).ps = (walkE rs t row).ps ∧ (walkE rs s row).ws = (walkE rs t row).ws
  | [], s, t, h1, h2 => ⟨h1, h2⟩
  | r :: row, s, t, h1, h2 => by
    have hg : goneOf rs s r = goneOf rs t r := by unfold goneOf; rw [h1, h2]
    refine walk_tr row (step1 rs s r) (step1 rs t r) ?_ ?_
    · unfold step1
      dsimp only
      rw [h1, h2]
    · unfold step1
      dsimp only
      rw [h2, hg]
theorem facing_put {nm : Str} {e : End} : ∀ {ws : List (Str × End)}, nm ∈ ws.map (·.1) → facing (putW ws nm e) nm = e
  | [], h => by cases h
  | x :: ws, h => by
    show facing ((if x.1 = nm then (x.1, e) else x) :: putW ws nm e) nm = e
    by_cases c : x.1 = nm
    · rw [if_pos c]
      unfold facing
      rw [List.find?_cons, decide_eq_true c]
      rfl
    · rw [if_neg c]
      have ih := facing_put (e := e) (ws := ws) (by
        rcases List.mem_cons.mp h with z | z
        · exact absurd z.symm c
        · exact z)
      unfold facing at ih ⊢
      rw [List.find?_cons, decide_eq_false c]
      exact ih
def flW (S : List Str) (ws : List (Str × End)) : List (Str × End) := ws.map fun x => if x.1 ∈ S then (x.1, flipE x.2) else x
def abR (S : List Str) : List (Bool × Str) := S.map fun nm => (false, nm)
theorem flip_flip {e : End} (h : e.2 < 2) : flipE (flipE e) = e := by
  obtain ⟨a, b⟩ := e
  have h : b < 2 := h
  show (a, 1 - (1 - b)) = (a, b)
  congr 1
  omega
theorem flW_names {S : List Str} {ws : List (Str × End)} : (flW S ws).map (·.1) = ws.map (·.1) := by
  unfold flW
  rw [List.map_map]
  refine List.map_congr_left fun x _ => ?_
  show (if x.1 ∈ S then (x.1, flipE x.2) else x).1 = x.1
  split <;> rfl
theorem facing_in {ws : List (Str × End)} {nm : Str} (hp : (ws.map (·.1)).Pairwise ltS) {x : Str × End} (hx : x ∈ ws) (h : x.1 = nm) : facing ws nm = x.2 := by
  rw [← h]
  exact facing_own hp hx
theorem flW_facing {S : List Str} {ws : List (Str × End)} {nm : Str} (hp : (ws.map (·.1)).Pairwise ltS) (hm : nm ∈ ws.map (·.1)) : facing (flW S ws) nm = if nm ∈ S then flipE (facing ws nm) else facing ws nm := by
  obtain ⟨x, hx, e⟩ := List.mem_map.mp hm
  have hx2 : (if x.1 ∈ S then (x.1, flipE x.2) else x) ∈ flW S ws := List.mem_map.mpr ⟨x, hx, rfl⟩
  have h1 := facing_in (nm := nm) (by rw [flW_names]; exact hp) hx2 (by split <;> exact e)
  rw [h1, facing_in hp hx e, e]
  split <;> rfl
theorem putW_facing {ws : List (Str × End)} {nm z : Str} {e : End} (hp : (ws.map (·.1)).Pairwise ltS) (hm : z ∈ ws.map (·.1)) : facing (putW ws nm e) z = if z = nm then e else facing ws z := by
  obtain ⟨x, hx, h⟩ := List.mem_map.mp hm
  have hx2 : (if x.1 = nm then (x.1, e) else x) ∈ putW ws nm e := List.mem_map.mpr ⟨x, hx, rfl⟩
  have h1 := facing_in (nm := z) (by rw [putW_names]; exact hp) hx2 (by split <;> exact h)
  rw [h1, facing_in hp hx h, h]
  split <;> rfl
/-- lists of walkers with the same names and ends -/
theorem ws_ext {ws vs : List (Str × End)} (hn : ws.map (·.1) = vs.map (·.1)) (hp : (ws.map (·.1)).Pairwise ltS) (h : ∀ nm ∈ ws.map (·.1), facing ws nm = facing vs nm) : ws = vs := by
  have hl : ws.length = vs.length := by have := congrArg List.length hn; simpa using this
  refine List.ext_getElem hl fun i h1 h2 => ?_
  have e1 : ws[i].1 = vs[i].1 := by
    have := List.getElem_of_eq hn (i := i) (by rw [List.length_map]; exact h1)
    simpa using this
  have f1 := facing_own hp (List.getElem_mem h1)
  have f2 := facing_own (by rw [← hn]; exact hp) (List.getElem_mem h2)
  have := h ws[i].1 (List.mem_map.mpr ⟨_, List.getElem_mem h1, rfl⟩)
  rw [f1, e1, f2] at this
  exact Prod.ext e1 this
structure Same (s t : Wk) : Prop where
  p : s.ps = t.ps
  w : s.ws = t.ws
theorem Same.walk {rs : List (Int × Int)} {s t : Wk} (h : Same s t) (row : List (Bool × Str)) : Same (walkE rs s row) (walkE rs t row) := ⟨(walk_tr row s t h.p h.w).1, (walk_tr row s t h.p h.w).2⟩
theorem Same.trans {s t u : Wk} (a : Same s t) (b : Same t u) : Same s u := ⟨a.p.trans b.p, a.w.trans b.w⟩
theorem Same.symm {s t : Wk} (a : Same s t) : Same t s := ⟨a.p.symm, a.w.symm⟩
theorem Same.rfl {s : Wk} : Same s s := ⟨Eq.refl _, Eq.refl _⟩
def flS (S : List Str) (s : Wk) : Wk := ⟨s.ps, flW S s.ws, s.tr⟩
theorem walk_app {rs : List (Int × Int)} {s : Wk} {a b : List (Bool × Str)} : walkE rs s (a ++ b) = walkE rs (walkE rs s a) b := by
  unfold walkE
  rw [List.foldl_append]
theorem fl_ok {n : Int} {rs : List (Int × Int)} {s : Wk} {S : List Str} (h : StandOk n rs s.ps s.ws) : StandOk n rs (flS S s).ps (flS S s).ws := by
  refine ⟨h.pl, h.pv, by show (flW S s.ws).length ≤ 4; unfold flW; rw [List.length_map]; exact h.wl, fun x hx => ?_, by show ((flW S s.ws).map (·.1)).Pairwise ltS; rw [flW_names]; exact h.ris⟩
  have hx : x ∈ flW S s.ws := hx
  obtain ⟨y, hy, rfl⟩ := List.mem_map.mp hx
  obtain ⟨a1, a2, a3⟩ := h.wv y hy
  split
  · exact ⟨a1, a2, by show 1 - _ < 2; omega⟩
  · exact ⟨a1, a2, a3⟩
theorem face_lt {n : Int} {rs : List (Int × Int)} {s : Wk} (h : StandOk n rs s.ps s.ws) {nm : Str} (hm : nm ∈ s.ws.map (·.1)) : (facing s.ws nm).1 < rs.length ∧ (facing s.ws nm).2 < 2 := (h.wv _ (facing_mem hm)).2
theorem fl_fl {n : Int} {rs : List (Int × Int)} {s : Wk} {S : List Str} (h : StandOk n rs s.ps s.ws) : Same (flS S (flS S s)) s := ⟨rfl, by
  refine ws_ext (by show (flW S (flW S s.ws)).map (·.1) = _; rw [flW_names, flW_names]) (by show ((flW S (flW S s.ws)).map (·.1)).Pairwise ltS; rw [flW_names, flW_names]; exact h.ris) fun nm hm => ?_
  have hm : nm ∈ s.ws.map (·.1) := by have : nm ∈ (flW S (flW S s.ws)).map (·.1) := hm; rwa [flW_names, flW_names] at this
  show facing (flW S (flW S s.ws)) nm = _
  rw [flW_facing (by rw [flW_names]; exact h.ris) (by rw [flW_names]; exact hm), flW_facing h.ris hm]
  split
  · exact flip_flip (face_lt h hm).2
  · rfl⟩
theorem about_step {n : Int} {rs : List (Int × Int)} {s : Wk} {nm : Str} (h : StandOk n rs s.ps s.ws) (hm : nm ∈ s.ws.map (·.1)) : Same (step1 rs s (false, nm)) (flS [nm] s) := ⟨rfl, by
  show putW s.ws nm (flipE (facing s.ws nm)) = flW [nm] s.ws
  refine ws_ext (by rw [putW_names, flW_names]) (by rw [putW_names]; exact h.ris) fun z hz => ?_
  rw [putW_names] at hz
  rw [putW_facing h.ris hz, flW_facing h.ris hz]
  by_cases c : z = nm
  · rw [if_pos c, if_pos (by simp [c]), c]
  · rw [if_neg c, if_neg (by simp [c])]⟩
theorem fl_cons {n : Int} {rs : List (Int × Int)} {s : Wk} {nm : Str} {S : List Str} (h : StandOk n rs s.ps s.ws) (hn : nm ∉ S) : Same (flS S (flS [nm] s)) (flS (nm :: S) s) := ⟨rfl, by
  refine ws_ext (by show (flW S (flW [nm] s.ws)).map (·.1) = (flW (nm :: S) s.ws).map (·.1); rw [flW_names, flW_names, flW_names]) (by show ((flW S (flW [nm] s.ws)).map (·.1)).Pairwise ltS; rw [flW_names, flW_names]; exact h.ris) fun z hz => ?_
  have hz : z ∈ s.ws.map (·.1) := by have : z ∈ (flW S (flW [nm] s.ws)).map (·.1) := hz; rwa [flW_names, flW_names] at this
  show facing (flW S (flW [nm] s.ws)) z = facing (flW (nm :: S) s.ws) z
  rw [flW_facing (by rw [flW_names]; exact h.ris) (by rw [flW_names]; exact hz), flW_facing h.ris hz, flW_facing h.ris hz]
  by_cases c : z = nm
  · rw [if_neg (by rw [c]; exact hn), if_pos (by simp [c]), if_pos (by simp [c])]
  · by_cases c2 : z ∈ S
    · rw [if_pos c2, if_neg (by simp [c]), if_pos (by simp [c2])]
    · rw [if_neg c2, if_neg (by simp [c]), if_neg (by simp [c, c2])]⟩
theorem walk_ab {n : Int} {rs : List (Int × Int)} : ∀ (S : List Str) (s : Wk), StandOk n rs s.ps s.ws → S.Nodup → (∀ z ∈ S, z ∈ s.ws.map (·.1)) → Same (walkE rs s (abR S)) (flS S s)
  | [], s, h, _, _ => ⟨rfl, by
    show s.ws = flW [] s.ws
    unfold flW
    refine (List.map_id' s.ws).symm.trans (List.map_congr_left fun x _ => ?_)
    rw [if_neg (by simp)]⟩
  | nm :: S, s, h, hn, hm => by
    have hm0 := hm nm (by simp)
    have a := about_step h hm0
    have k : Same (walkE rs (step1 rs s (false, nm)) (abR S)) (walkE rs (flS [nm] s) (abR S)) := a.walk _
    have ih := walk_ab S (flS [nm] s) (fl_ok h) (List.nodup_cons.mp hn).2 fun z hz => by
      show z ∈ (flW [nm] s.ws).map (·.1)
      rw [flW_names]
      exact hm z (by simp [hz])
    exact (k.trans ih).trans (fl_cons h (List.nodup_cons.mp hn).1)
/-- a deed done back by one who has turned -/
theorem step_back {n : Int} {rs : List (Int × Int)} (hT : TownOk n rs) {s : Wk} {r : Bool × Str} {S : List Str} (h : StandOk n rs s.ps s.ws) (hm : r.2 ∈ s.ws.map (·.1)) (hS : r.1 = true → r.2 ∈ S) : Same (step1 rs (flS S (step1 rs s r)) r) (flS S s) := by
  obtain ⟨t1, t2, f1, f2, fv, g1, g2⟩ := step_ok hT (r := r) h hm
  have hp1 : ((step1 rs s r).ws.map (·.1)).Pairwise ltS := t1.ris
  have hm1 : r.2 ∈ (step1 rs s r).ws.map (·.1) := by rw [t2]; exact hm
  have fc : facing (step1 rs s r).ws r.2 = goneOf rs s r := facing_put hm
  have fc2 : facing (flS S (step1 rs s r)).ws r.2 = if r.2 ∈ S then flipE (goneOf rs s r) else goneOf rs s r := by
    show facing (flW S (step1 rs s r).ws) r.2 = _
    rw [flW_facing hp1 hm1, fc]
  have eps : ∀ t : Wk, (step1 rs t r).ps = if r.1 = true then t.ps.set (spotOf rs (facing t.ws r.2)).toNat (facing t.ws r.2) else t.ps := fun t => rfl
  have key : (step1 rs (flS S (step1 rs s r)) r).ps = s.ps ∧ goneOf rs (flS S (step1 rs s r)) r = if r.2 ∈ S then flipE (facing s.ws r.2) else facing s.ws r.2 := by
    by_cases c : r.1 = true
    · have cS := hS c
      obtain ⟨q1, q2, q3⟩ := h.pv _ fv
      have hg : goneOf rs s r = flipE (s.ps.getD (spotOf rs (facing s.ws r.2)).toNat (0, 0)) := by unfold goneOf; rw [if_pos c]
      have hf : facing (flS S (step1 rs s r)).ws r.2 = s.ps.getD (spotOf rs (facing s.ws r.2)).toNat (0, 0) := by
        rw [fc2, if_pos cS, hg, flip_flip q2]
      have hps : (flS S (step1 rs s r)).ps = s.ps.set (spotOf rs (facing s.ws r.2)).toNat (facing s.ws r.2) := by
        show (step1 rs s r).ps = _
        unfold step1
        dsimp only
        rw [if_pos c]
      have hsp : (spotOf rs (s.ps.getD (spotOf rs (facing s.ws r.2)).toNat (0, 0))).toNat = (spotOf rs (facing s.ws r.2)).toNat := by rw [q3]; rfl
      constructor
      · rw [eps, if_pos c, hf, hsp, hps, List.set_set, List.getD_eq_getElem?_getD, List.getElem?_eq_getElem fv]
        exact List.set_getElem_self fv
      · unfold goneOf
        rw [if_pos c, if_pos cS, hf, hsp, hps, List.getD_eq_getElem?_getD, List.getElem?_set_self fv]
        rfl
    · have hg : goneOf rs s r = flipE (facing s.ws r.2) := by unfold goneOf; rw [if_neg c]
      constructor
      · rw [eps, if_neg c]
        show (step1 rs s r).ps = _
        rw [eps, if_neg c]
      · have : goneOf rs (flS S (step1 rs s r)) r = flipE (facing (flS S (step1 rs s r)).ws r.2) := by unfold goneOf; rw [if_neg c]
        rw [this, fc2, hg]
        split
        · rw [flip_flip f2]
        · rw [flip_flip f2]
  refine ⟨key.1, ?_⟩
  show putW (flW S (putW s.ws r.2 (goneOf rs s r))) r.2 (goneOf rs (flS S (step1 rs s r)) r) = flW S s.ws
  have hpp : ((putW s.ws r.2 (goneOf rs s r)).map (·.1)).Pairwise ltS := by rw [putW_names]; exact h.ris
  refine ws_ext (by rw [putW_names, flW_names, putW_names, flW_names]) (by rw [putW_names, flW_names, putW_names]; exact h.ris) fun z hz => ?_
  rw [putW_names, flW_names, putW_names] at hz
  rw [putW_facing (by rw [flW_names]; exact hpp) (by rw [flW_names, putW_names]; exact hz), flW_facing hpp (by rw [putW_names]; exact hz), putW_facing h.ris hz, flW_facing h.ris hz, key.2]
  by_cases c : z = r.2
  · rw [if_pos c, c]
  · rw [if_neg c, if_neg c]
theorem walk_rev {n : Int} {rs : List (Int × Int)} (hT : TownOk n rs) {S : List Str} : ∀ (row : List (Bool × Str)) (s : Wk), StandOk n rs s.ps s.ws → (∀ r ∈ row, r.2 ∈ s.ws.map (·.1)) → (∀ r ∈ row, r.1 = true → r.2 ∈ S) → Same (walkE rs (flS S (walkE rs s row)) row.reverse) (flS S s)
  | [], s, h, _, _ => Same.rfl
  | r :: row, s, h, hm, hS => by
    obtain ⟨t1, t2, _⟩ := step_ok hT (r := r) h (hm r (by simp))
    have ih := walk_rev hT row (step1 rs s r) t1 (fun r' hr' => by rw [t2]; exact hm r' (by simp [hr'])) fun r' hr' => hS r' (by simp [hr'])
    rw [List.reverse_cons, walk_app]
    have k : Same (walkE rs (walkE rs (flS S (walkE rs s (r :: row))) row.reverse) [r]) (walkE rs (flS S (step1 rs s r)) [r]) := ih.walk [r]
    exact k.trans (step_back hT h (hm r (by simp)) (hS r (by simp)))
/-- there and back -/
theorem walk_back {n : Int} {rs : List (Int × Int)} (hT : TownOk n rs) {S : List Str} {s : Wk} {row : List (Bool × Str)} (h : StandOk n rs s.ps s.ws) (hm : ∀ r ∈ row, r.2 ∈ s.ws.map (·.1)) (hn : S.Nodup) (hS : ∀ r ∈ row, r.1 = true → r.2 ∈ S) (hSm : ∀ z ∈ S, z ∈ s.ws.map (·.1)) (ht : ∀ e ∈ s.tr, e.1 < rs.length ∧ e.2 < 2) :
    Same (walkE rs (walkE rs s row) (abR S ++ row.reverse ++ abR S)) s := by
  obtain ⟨w1, w2, _⟩ := walk_ok hT row s h hm ht
  rw [walk_app, walk_app]
  have a := walk_ab S (walkE rs s row) w1 hn fun z hz => by rw [w2]; exact hSm z hz
  have b := (a.walk row.reverse).trans (walk_rev hT row s h hm hS)
  have c := (b.walk (abR S)).trans (walk_ab S (flS S s) (fl_ok h) hn fun z hz => by
    show z ∈ (flW S s.ws).map (·.1)
    rw [flW_names]
    exact hSm z hz)
  exact c.trans (fl_fl h)
def stepsIn (row : List (Bool × Str)) (nm : Str) : Bool := row.any fun r => r.1 && decide (r.2 = nm)
def steppers (ws : List (Str × End)) (row : List (Bool × Str)) : List Str := (ws.map (·.1)).filter (stepsIn row)
def backR (ws : List (Str × End)) (row : List (Bool × Str)) : List (Bool × Str) := abR (steppers ws row) ++ row.reverse ++ abR (steppers ws row)
theorem eqv_de (r : Bool × Str) (nm : Str) : PyData.eqv (deD r) (.tuple [.str "step", .str nm]) = (r.1 && decide (r.2 = nm)) := by
  have h1 : PyData.eqv (deD r) (.tuple [.str "step", .str nm]) = (PyData.eqv (.str (wordS r.1)) (.str "step") && PyData.eqv (.str r.2) (.str nm)) := by
    simp [deD, PyData.eqv, PyData.eqvAll]
  rw [h1, (word_eq r.1).1]
  congr 1
theorem in_row (row : List (Bool × Str)) (nm : Str) : ((row.map deD).any fun z => PyData.eqv z (.tuple [.str "step", .str nm])) = stepsIn row nm := by
  unfold stepsIn
  rw [List.any_map]
  congr 1
  funext r
  exact eqv_de r nm
theorem fm_gen {α : Type} (l : List α) (d : α) (g : α → Option PyData) : (List.range l.length).filterMap (fun i => g (l.getD i d)) = l.filterMap g := by
  have h := getD_all l d fun x => x
  rw [List.map_id'] at h
  conv => rhs; rw [← h]
  rw [List.filterMap_map]
  rfl
theorem fm_some {α : Type} {g : α → PyData} : ∀ l : List α, (l.filterMap fun x => some (g x)) = l.map g
  | [] => rfl
  | x :: l => by rw [List.filterMap_cons, List.map_cons, fm_some l]
theorem fm_step (ws : List (Str × End)) (row : List (Bool × Str)) : (ws.filterMap fun x => if stepsIn row x.1 = true then some (PyData.str x.1) else none) = (steppers ws row).map PyData.str := by
  unfold steppers
  induction ws with
  | nil => rfl
  | cons x ws ih =>
    rw [List.filterMap_cons, List.map_cons, List.filter_cons]
    by_cases c : stepsIn row x.1 = true
    · rw [if_pos c, if_pos c, ih]; rfl
    · rw [if_neg c, if_neg c, ih]
theorem steppers_ok {n : Int} {rs : List (Int × Int)} {ps : List End} {ws : List (Str × End)} {row : List (Bool × Str)} (h : StandOk n rs ps ws) : (steppers ws row).Nodup ∧ (∀ z ∈ steppers ws row, z ∈ ws.map (·.1)) ∧ (steppers ws row).length ≤ 4 ∧ (steppers ws row).Pairwise ltS := by
  have hp : (steppers ws row).Pairwise ltS := h.ris.filter _
  refine ⟨hp.imp fun h => ltS_ne h, fun z hz => (List.mem_filter.mp hz).1, ?_, hp⟩
  have := List.length_filter_le (stepsIn row) (ws.map (·.1))
  rw [List.length_map] at this
  exact Nat.le_trans this h.wl
theorem steps_in {ws : List (Str × End)} {row : List (Bool × Str)} (hr : RowOk ws row) : ∀ r ∈ row, r.1 = true → r.2 ∈ steppers ws row := fun r hm h => List.mem_filter.mpr ⟨hr.2 r hm, List.any_eq_true.mpr ⟨r, hm, by rw [h]; simp⟩⟩
theorem back_ok {n : Int} {rs : List (Int × Int)} {ps : List End} {ws : List (Str × End)} {row : List (Bool × Str)} (h : StandOk n rs ps ws) (hr : RowOk ws row) (hl : row.length ≤ 3900) : RowOk ws (backR ws row) ∧ (backR ws row).length ≤ row.length + 8 := by
  obtain ⟨_, h2, h3, _⟩ := steppers_ok (row := row) h
  have hlen : (backR ws row).length ≤ row.length + 8 := by
    unfold backR abR
    rw [List.length_append, List.length_append, List.length_map, List.length_reverse]
    omega
  refine ⟨⟨by omega, fun r hm => ?_⟩, hlen⟩
  unfold backR abR at hm
  simp only [List.mem_append, List.mem_map, List.mem_reverse] at hm
  rcases hm with (⟨z, hz, rfl⟩ | hm) | ⟨z, hz, rfl⟩
  · exact h2 z hz
  · exact hr.2 r hm
  · exact h2 z hz
theorem en_cat {O : List Addr} {δ : List Sl} {te tk : TE} {ds es : List PyData} (h1 : Cp.EP O te δ (.list ds)) (h2 : Cp.EP O tk δ (.list es)) (hl : ds.length + es.length ≤ 100000) : EN O (tOp rAddU te tk) δ (fun a H => Own (a :: O) a (ds ++ es) H) := fun σ H hD hS Q k =>
  h1 σ H hD hS _ fun v H1 e1 hv => h2 σ H1 (hD.ex e1) (hS.mono (hid_ex e1)) _ fun w H2 e2 hw => by
    have d2 := (hD.ex e1).ex e2
    obtain ⟨a, xs, rfl, q1, q2⟩ := hv
    obtain ⟨b, ys, rfl, q3, q4⟩ := hw
    refine Or.inr ⟨a, b, xs, ys, rfl, rfl, e2 _ _ (hid_some q1).2, (hid_some q3).2, by rw [q2.length, q4.length]; exact Evl.sz_of hl, fun p hp => ?_⟩
    refine k p _ (ex_none (e1.trans e2) hp) ((e1.trans e2).trans (Ex.new hp)) (by rw [upd_same]; simp) ⟨xs ++ ys, upd_same, ?_⟩
    exact ((q2.mono (hid_ex e2)).append q4).mono (hid_new hp (Ex.new hp))
theorem td_test' {O : List Addr} {J : Hp → Prop} {δ : List Sl} {te : TE} {b c : Bool} (h : ED O J te δ (.bool b)) (q : b = c) : TD O J (tTest te) δ c := fun σ H hJ hD hS Q k => h σ H hJ hD hS _ fun d v H1 p d1 e1 hv => by
  rw [p.1] at hv
  exact ⟨b, hv, k b H1 ⟨q, p.2⟩ d1 e1⟩
theorem sup_raiseD {C : Addr} {σ : L2.St} {O : List Addr} {δ : List Sl} {H0 H : Hp} {Q : XK} {te : TE} {r : PyData} (hD : Dom O H) (hS : SD (hid O H) δ σ) (he : Cp.EP O te δ r) (e : Ex H0 H) (k : ∀ dd u H', H0 dd = none → Ex H0 H' → Dt (hid O H') r u → H' dd = some (.xd [("wrong", u)]) → Q (.ref C) (some dd) H') :
    tMkO C (spSup C) [] (tCons te tNil) σ H Q := he σ H hD hS _ fun x H1 e1 hx => by
  refine ⟨(by simp : [x].length ≤ 1000), fun a ha => ⟨a, x, rfl, upd_same, fun dx h1 h2 => ⟨rfl, dx, [("wrong", x)], ?_, upd_same, ?_, ?_⟩⟩⟩
  · rw [upd_ne (Ne.symm h2), upd_same]
  · rw [upd_ne h2] at h1
    exact h1
  · rw [upd_ne h2] at h1
    have ex : Ex H1 (upd (L2.del (upd (upd (upd H1 a (exo a C none)) a (exo a C (some dx))) dx (exd dx [("wrong", x)])) a) dx (.xd [("wrong", x)])) := fun b o q => by
      have hba : b ≠ a := fun z => by rw [z, ha] at q; cases q
      have hbd : b ≠ dx := fun z => by rw [z, h1] at q; cases q
      rw [upd_ne hbd, del_ne hba, upd_ne hbd, upd_ne hba, upd_ne hba]
      exact q
    exact k dx x _ (Evl.fresh_back (e.trans e1) h1) ((e.trans e1).trans ex) (Dt.mono (hid_ex ex) _ _ hx) upd_same
def toDe (x : PyData) : Bool × Str := match x with
  | .tuple [.str a, .str b] => (decide (a = Str.ofString "step"), b)
  | _ => (false, Str.ofString "")
def rowOf (y : PyData) : List (Bool × Str) := match y with
  | .list es => es.map toDe
  | _ => []
theorem toDe_deD (r : Bool × Str) : toDe (deD r) = r := by
  obtain ⟨b, z⟩ := r
  cases b
  · show (decide (Str.ofString "about" = Str.ofString "step"), z) = (false, z)
    rw [decide_eq_false (by decide +kernel)]
  · show (decide (Str.ofString "step" = Str.ofString "step"), z) = (true, z)
    rw [decide_eq_true rfl]
theorem rowOf_is (row : List (Bool × Str)) : rowOf (rowD row) = row := by
  show (row.map deD).map toDe = row
  rw [List.map_map]
  exact List.map_id'' (fun r => toDe_deD r) row
/-- a row back would have so many deeds -/
def backLen (ws : List (Str × (Nat × Nat))) (row : List (Bool × Str)) : Nat := row.length + 2 * (steppers ws row).length
theorem backLen_is {ws : List (Str × (Nat × Nat))} {row : List (Bool × Str)} : (backR ws row).length = backLen ws row := by
  unfold backR abR backLen
  rw [List.length_append, List.length_append, List.length_map, List.length_reverse]
  omega
def wBack (ws : List (Str × (Nat × Nat))) (y : PyData) : PyData := if isNoneB (wRow ws y) = true then (if 4000 < backLen ws (rowOf y) then .tuple [.str (Str.ofString "row")] else .none) else wRow ws y
def tBack (O : List Addr) (H : Hp) (rs : List (Int × Int)) (ps : List (Nat × Nat)) (ws : List (Str × (Nat × Nat))) (y : PyData) (v : V) (H' : Hp) : Prop := ∃ row a, y = rowD row ∧ RowOk ws row ∧ v = .ref a ∧ Ex H H' ∧ H a = none ∧ Own (a :: O) a ((backR ws row).map deD) H'
theorem G_row_back (T : Txt K mg A) (Z : Fns K A) : FnOk prg w K mg base (L2.CX prg w) 10 A.a_row_back Z.fd_row_back ["town", "standing", "row"] (spAsk A.NoTown A.NoStanding A.NoRow wBack tBack) := by
  refine Fun.okX Z.F_row_back sc_row_back (fun vs H Q E h => spAsk_len h) (fun cdv Ar outer s H vs Q E hr h => ⟨_, (pss_cons (ps_expr (pe_call (G_need_row T Z) (hr.mono (by decide)) rfl T.g_need_row T.k_need_row Z.b_need_row .nil (passes_call (takes_of rfl rfl rfl rfl) (fun _ _ _ _ h => h)) (pa_cons (pv 0) (pa_cons (pv 1) (pa_cons (pv 2) pa_nil)))))
    (pss_cons (ps_setLc (i := 3) (own := [("name", 4), ("_", 5)]) rfl sc_row_back.nd rfl rfl (sw_true rfl rfl rfl (by decide +kernel)) (kx_list (K := K) rfl (pe_ix (kx_ix (K := K) rfl) (pv 1) pe_int (fun _ _ => rfl))) (blkOk_by (own := [("name", 4), ("_", 5)]) (N := ["town", "standing", "row", "steppers", "name", "_", "abouts", "back"]) (sc := defScope s_row_back) (by decide +kernel)) (fun _ _ _ _ _ => (kx_gtup (K := K) (n := 2) rfl rfl (pgs_cons (pg_name (i := 4) sc_row_back.nd rfl (by first | exact Or.inl rfl | exact Or.inr rfl)) (pgs_cons (pg_name (i := 5) sc_row_back.nd rfl (by first | exact Or.inl rfl | exact Or.inr rfl)) pgs_nil)))) (fun _ _ _ _ _ => (pts_one (pt_cmpR (kx_inD (K := K) rfl hr.units65) (pe_tup (pa_cons pe_str (pa_cons (pv 4) pa_nil))) (pv 2) (by rfl)))) (fun _ _ _ _ _ => (pv 4)))
    (pss_cons (ps_setLc (i := 6) (own := [("name", 4)]) rfl sc_row_back.nd rfl rfl (sw_true rfl rfl rfl (by decide +kernel)) (kx_list (K := K) rfl (pv 3)) (blkOk_by (own := [("name", 4)]) (N := ["town", "standing", "row", "steppers", "name", "_", "abouts", "back"]) (sc := defScope s_row_back) (by decide +kernel)) (fun _ _ _ _ _ => (pg_name (i := 4) sc_row_back.nd rfl (by first | exact Or.inl rfl | exact Or.inr rfl))) (fun _ _ _ _ _ => pts_nil) (fun _ _ _ _ _ => (pe_tup (pa_cons pe_str (pa_cons (pv 4) pa_nil)))))
    (pss_cons (ps_set (i := 7) sc_row_back.nd rfl (by first | exact Or.inl rfl | exact Or.inr rfl) (pe_op op_addU (pe_op op_addU (pv 6) (kx_revL (K := K) rfl (pv 2))) (pv 6)))
    (pss_cons (ps_if (pt_cmpR op_gt (pe_callB (kx_len (K := K) rfl) (by rfl) T.n_len (by decide +kernel) (pa_cons (pv 7) pa_nil)) (pe_glob (v := .int 4000) rfl T.c_MOST_DEEDS.choose_spec ⟨_, rfl⟩) (nomark _)) (pss_one (ps_raise rfl (takes_of rfl rfl rfl rfl) (pmk_oex T.s_NoRow.oex T.s_NoRow.iC T.s_NoRow.tI (sup_ok T.s_NoRow T.n_super CX0 0) (hr.mono (by decide)) (sup_binds T.s_NoRow) .nil pass0 rfl T.g_NoRow (pa_cons (pe_tup (pa_cons pe_str pa_nil)) pa_nil)))) pss_nil)
    (pss_one (ps_ret (pv 7)))))))), ?_⟩)
  obtain ⟨O, d, x, y, hD, hv, hsx, hy, k1, k2⟩ := h
  have s0 : SD (hid O H) [.d d, .d x, .d y, .no, .no, .no, .no, .no] (L2.start ["town", "standing", "row", "steppers", "name", "_", "abouts", "back"] vs) := sd_start hv _ (by simp)
  obtain ⟨vd, hvd, hdd⟩ := s0.var (i := 0) rfl
  obtain ⟨vx, hvx, hdx⟩ := s0.var (i := 1) rfl
  obtain ⟨vr, hvr, hdr⟩ := s0.var (i := 2) rfl
  refine ha_seq ⟨vd, hvd, vx, hvx, vr, hvr, O, d, x, y, hD, ⟨vd, [vx, vr], rfl, hdd, vx, [vr], rfl, hdx, vr, [], rfl, hdr, rfl⟩, hsx, hy, k1, fun n rs hd hT => ⟨(k2 n rs hd hT).1, fun hz => ?_⟩⟩
  obtain ⟨ps, ws, rfl, hok, k3, k4⟩ := (k2 n rs hd hT).2 hz
  refine ⟨ps, ws, rfl, hok, fun hw => ?_, fun hw v H0 ⟨_, e0⟩ => ?_⟩
  · have e : wBack ws y = wRow ws y := by
      unfold wBack
      rw [if_neg fun z => hw (none_of z)]
    rw [← e]
    exact k3 (by rw [e]; exact hw)
  subst hd
  obtain ⟨row, rfl, hrow⟩ := row_of hw
  have hbw : wBack ws (rowD row) = if 4000 < backLen ws row then .tuple [.str (Str.ofString "row")] else .none := by
    unfold wBack
    rw [hw, rowOf_is]
    rfl
  obtain ⟨S1, S2, S3, S4⟩ := steppers_ok (row := row) hok
  have h40 := hrow.1
  have hS : SeqAt.shaped (.list (row.map deD)) = true := shaped_list fun d hd => by
    obtain ⟨r, hr, rfl⟩ := List.mem_map.mp hd
    obtain ⟨x, hx, e⟩ := List.mem_map.mp (hrow.2 r hr)
    have := deD_sh (r := r) (by rw [← e]; exact name_strOk (hok.wv x hx).1)
    exact ⟨this.1, Nat.le_trans this.2 (by decide)⟩
  have k5 : (backR ws row).length ≤ 4000 → ∀ a H', Ex H H' → H a = none → Own (a :: O) a ((backR ws row).map deD) H' → _ := fun hb a H' h1 h2 h3 => k4 (by rw [hbw, ← backLen_is, if_neg (by omega)]) (.ref a) H' ⟨row, a, rfl, hrow, rfl, h1, h2, h3⟩
  have k6 : 4000 < (backR ws row).length → RefD O H A.NoRow (.tuple [.str (Str.ofString "row")]) _ := fun hb => by
    have e : wBack ws (rowD row) = .tuple [.str (Str.ofString "row")] := by rw [hbw, ← backLen_is, if_pos hb]
    have := k3 (by rw [e]; exact fun z => by cases z)
    rwa [e] at this
  clear k3 k4 hbw
  dsimp only
  refine dm_run (J := Ex H) (N := fun _ _ => False) (R := fun v H' => ∃ a, v = .ref a ∧ (backR ws row).length ≤ 4000 ∧ Ex H H' ∧ H a = none ∧ Own (a :: O) a ((backR ws row).map deD) H') ?_ e0 (hD.ex e0) (s0.mono (hid_ex e0)) (fun _ _ _ n => n.elim) fun v H' ⟨a, e, h0, h1, h2, h3⟩ _ _ => by rw [e]; exact k5 h0 a H' h1 h2 h3
  refine dm_seq (N1 := fun δ H1 => δ = [.d (townD n rs), .d (standD ps ws), .d (rowD row), .d (.list ((steppers ws row).map PyData.str)), .no, .no, .no, .no] ∧ Ex H H1)
    (dm_asgD (ed_of jok_ex (ep_is (ep_lc (n := ws.length) (ix := [4, 5]) (vs := [4, 5]) (item := fun i => (ws.map waD).getD i .none) (f := fun i => if stepsIn row (ws.getD i ("", (0, 0))).1 = true then some (PyData.str (ws.getD i ("", (0, 0))).1) else none) (fun O' => ?_) (by have := hok.wl; omega) (by decide) fun O' i hi => ?_) ?_)) fun H1 h => ⟨rfl, h⟩) fun δ1 => dm_fact ?_
  · rw [show ws.length = (ws.map waD).length by rw [List.length_map]]
    exact wp_list (ep_op (ep_var (i := 1) (x := standD ps ws) rfl) ep_int (rp_ix2 (rp_ixT (j := 1) rfl rfl)))
  · have hx : ws.getD i ("", (0, 0)) ∈ ws := by
      rw [List.getD_eq_getElem?_getD, List.getElem?_eq_getElem hi]
      exact List.getElem_mem hi
    have e : (ws.map waD).getD i .none = .tuple [.str (ws.getD i ("", (0, 0))).1, enD (ws.getD i ("", (0, 0))).2] := by
      rw [List.getD_eq_getElem?_getD, List.getElem?_map, List.getElem?_eq_getElem hi, List.getD_eq_getElem?_getD, List.getElem?_eq_getElem hi]
      rfl
    rw [e]
    refine ⟨_, gb_tup2, tp_is (tp_test (ep_op (ep_tup (ap_cons ep_str (ap_cons (ep_var (i := 4) rfl) ap_nil)) (by simp)) (ep_var (i := 2) (x := .list (row.map deD)) rfl) (rp_inD hS ?_))) ?_, fun y hy => ?_⟩
    · have := deD_sh (r := (true, (ws.getD i ("", (0, 0))).1)) (name_strOk (hok.wv _ hx).1)
      exact Sh.shaped ⟨this.1, Nat.le_trans this.2 (by decide)⟩
    · rw [in_row]
      cases stepsIn row (ws.getD i ("", (0, 0))).1 <;> rfl
    · split at hy
      · cases hy
        exact ep_var (i := 4) rfl
      · cases hy
  · rw [fm_gen ws ("", (0, 0)) fun x => if stepsIn row x.1 = true then some (PyData.str x.1) else none, fm_step]
  rintro rfl
  have hb : (backR ws row).map deD = ((abR (steppers ws row)).map deD ++ (row.map deD).reverse) ++ (abR (steppers ws row)).map deD := by
    unfold backR
    rw [List.map_append, List.map_append, List.map_reverse]
  generalize hLB : backR ws row = LB at hb k5 k6
  generalize hSS : steppers ws row = S at S1 S2 S3 S4 hb
  refine dm_seq (N1 := fun δ H1 => δ = [.d (townD n rs), .d (standD ps ws), .d (rowD row), .d (.list (S.map PyData.str)), .no, .no, .d (.list ((abR S).map deD)), .no] ∧ Ex H H1)
    (dm_asgD (ed_of jok_ex (ep_is (ep_lc (n := S.length) (ix := [4]) (vs := [4]) (item := fun i => (S.map PyData.str).getD i .none) (f := fun i => some (deD (false, S.getD i ""))) (fun O' => ?_) (by omega) (by decide) fun O' i hi => ?_) ?_)) fun H1 h => ⟨rfl, h⟩) fun δ1 => dm_fact ?_
  · rw [show S.length = (S.map PyData.str).length by rw [List.length_map]]
    exact wp_list (ep_var (i := 3) rfl)
  · have e : (S.map PyData.str).getD i .none = .str (S.getD i "") := by
      rw [List.getD_eq_getElem?_getD, List.getElem?_map, List.getElem?_eq_getElem hi, List.getD_eq_getElem?_getD, List.getElem?_eq_getElem hi]
      rfl
    rw [e]
    refine ⟨_, gb_name, fun σ H hD hS Q k => k H (Ex.refl H), fun y hy => ?_⟩
    cases hy
    exact ep_tup (ds := [.str "about", .str (S.getD i "")]) (ap_cons ep_str (ap_cons (ep_var (i := 4) rfl) ap_nil)) (by simp)
  · rw [fm_gen S "" fun x => some (deD (false, x))]
    unfold abR
    rw [List.map_map]
    rw [fm_some]
    rfl
  rintro rfl
  have hlA : ((abR S).map deD).length = S.length := by unfold abR; rw [List.length_map, List.length_map]
  have hlR : ((row.map deD).reverse).length = row.length := by rw [List.length_reverse, List.length_map]
  rw [hb]
  refine dm_new (i := 7) jok_ex (en_cat (ep_op (ep_var (i := 6) rfl) (ep_rev (ep_var (i := 2) (x := .list (row.map deD)) rfl)) (rp_r (rp_cat (by rw [hlA, hlR]; omega)))) (ep_var (i := 6) rfl) (by rw [List.length_append, hlA, hlR]; omega)) fun l hl => ?_
  rw [← hb]
  have hlen : ((LB.map deD).length : Int) = (LB.length : Int) := by rw [List.length_map]
  have jk : Jok (l :: O) (fun H1 => Own (l :: O) l (LB.map deD) H1 ∧ ∃ H0, Ex H H0 ∧ Dom O H0 ∧ H0 l = none ∧ Ex H0 H1) := newJ (Own.jok (by simp))
  refine dm_seq (N1 := fun δ H1 => (LB.length ≤ 4000 ∧ δ = [.d (townD n rs), .d (standD ps ws), .d (rowD row), .d (.list (S.map PyData.str)), .no, .no, .d (.list ((abR S).map deD)), .at l]) ∧ Own (l :: O) l (LB.map deD) H1 ∧ ∃ H0, Ex H H0 ∧ Dom O H0 ∧ H0 l = none ∧ Ex H0 H1)
    (dm_ifD (b := decide (4000 < LB.length)) (td_test' (ed_op jk (ed_lenOwn (i := 7) (J0 := fun _ => True) rfl (fun H1 h => h.1)) (ed_of jk ep_int) (rp_bl (g := fun i j => decide (j < i)))) (by rw [hlen]; exact decide_eq_decide.mpr (by omega))) (fun z => ?_) fun z => dm_next fun H1 h => ⟨⟨by have := of_decide_eq_false z; omega, rfl⟩, h⟩) fun δ1 => dm_fact ?_
  · have z := of_decide_eq_true z
    intro σ H1 D hJ hD1 hS1 kn kr
    obtain ⟨o1, H0, x0, d0, z0, x1⟩ := hJ
    exact sup_raiseD hD1 hS1 (ep_tup (ap_cons ep_str ap_nil) (by decide)) (x0.trans x1) fun dd u H' h1 h2 h3 h4 => k6 z dd u H' h1 h2 (Dt.mono hid_less _ _ h3) h4
  rintro ⟨h4, rfl⟩
  intro σ H1 D hJ hD1 hS1 kn kr
  obtain ⟨o1, H0, x0, d0, z0, x1⟩ := hJ
  exact ⟨.ref l, hS1.loc rfl, kr (.ref l) H1 ⟨l, rfl, h4, x0.trans x1, ex_none x0 z0, o1⟩ hD1 (Ex.refl _)⟩
end
end K04
namespace K04
open PySem L2 PySem.Spec PyProof.Rows Cp
open Evl (Ex)
section
variable {w : World} {K : PySem.W.Frag} {mg : Str → Option Value} {base : Heap} {A : Ad}
/-- what is a deed of one of the names -/
def deedOk (names : List Str) (x : PyData) : Bool := match x with
  | .tuple [.str a, .str b] => (decide (a = Str.ofString "step") || decide (a = Str.ofString "about")) && decide (b ∈ names)
  | _ => false
theorem inD_is (names : List Str) (x : PyData) : inD (deedsL names) x = deedOk names x := by
  rw [Bool.eq_iff_iff]
  constructor
  · intro h
    obtain ⟨⟨b, z⟩, rfl, hr⟩ := inD_deed h
    have hr : z ∈ names := hr
    show ((decide (wordS b = Str.ofString "step") || decide (wordS b = Str.ofString "about")) && decide (z ∈ names)) = true
    rw [decide_eq_true hr, Bool.and_true]
    cases b
    · show (decide (Str.ofString "about" = Str.ofString "step") || decide (Str.ofString "about" = Str.ofString "about")) = true
      rw [decide_eq_true (p := Str.ofString "about" = Str.ofString "about") rfl, Bool.or_true]
    · show (decide (Str.ofString "step" = Str.ofString "step") || decide (Str.ofString "step" = Str.ofString "about")) = true
      rw [decide_eq_true (p := Str.ofString "step" = Str.ofString "step") rfl, Bool.true_or]
  · intro h
    have key : ∃ r : Bool × Str, x = deD r ∧ r.2 ∈ names := by
      unfold deedOk at h
      split at h
      · rename_i a b
        rw [Bool.and_eq_true, Bool.or_eq_true, decide_eq_true_eq, decide_eq_true_eq, decide_eq_true_eq] at h
        obtain ⟨h1 | h1, h2⟩ := h
        · exact ⟨(true, b), by rw [h1]; rfl, h2⟩
        · exact ⟨(false, b), by rw [h1]; rfl, h2⟩
      · cases h
    obtain ⟨⟨b, z⟩, rfl, hr⟩ := key
    refine List.any_eq_true.mpr ⟨_, mem_deedsL (r := (b, z)) hr, ?_⟩
    show ((wordS b == wordS b) && ((z == z) && true)) = true
    simp
theorem deedOk_pair {names : List Str} {x : PyData} (h : isPairD x = false) : deedOk names x = false := by
  unfold deedOk
  split
  · cases h
  · rfl
def oddStr (es : List PyData) (j : Nat) : Option PyData := if isStrB (es.getD j .none) = true then none else some (es.getD j .none)
theorem str_of {x : PyData} (h : isStrB x = true) : ∃ z, x = .str z := by
  cases x with
  | str z => exact ⟨z, rfl⟩
  | _ => cases h
theorem deedOk_str {names : List Str} {y z : PyData} (h : (isStrB y && isStrB z) = false) : deedOk names (.tuple [y, z]) = false := by
  unfold deedOk
  split
  · rename_i heq
    injection heq with heq
    injection heq with h1 heq
    injection heq with h2 _
    rw [h1, h2] at h
    cases h
  · rfl
theorem any_strs (names : List Str) (b : Str) : ((names.map PyData.str).any fun z => PyData.eqv z (.str b)) = decide (b ∈ names) := by
  rw [Bool.eq_iff_iff, List.any_eq_true, decide_eq_true_eq]
  constructor
  · rintro ⟨u, hu, e⟩
    obtain ⟨z, hz, rfl⟩ := List.mem_map.mp hu
    have e : (z == b) = true := e
    rw [← eq_of_beq e]
    exact hz
  · intro h
    refine ⟨_, List.mem_map.mpr ⟨b, h, rfl⟩, ?_⟩
    show (b == b) = true
    simp
theorem wrong_first {names : List Str} {es : List PyData} (h4 : es.length ≤ 4000) : rowWrong names (.list es) = match (List.range es.length).find? fun j => !deedOk names (es.getD j .none) with
    | some j => .tuple [.str "deed", .int j]
    | none => .none := by
  unfold rowWrong
  simp only [if_neg (show ¬ 4000 < es.length by omega)]
  unfold firstOther
  simp only [inD_is]
  cases (List.range es.length).find? fun j => !deedOk names (es.getD j .none) <;> rfl
theorem G_law_due (T : Txt K mg A) (Z : Fns K A) : FnOk prg w K mg base CX0 1 A.a_law_due Z.fd_law_due ["standing", "thing"] (spP 2 (fun ds => isWs (ds.getD 0 .none) ∧ ShL (ds.getD 1 .none)) fun ds => rowWrong (namesW (ds.getD 0 .none)) (ds.getD 1 .none)) := by
  refine Fun.ok Z.F_law_due sc_law_due (fun vs H Q E h => pure_len h) (fun cdv Ar outer s H vs Q E hr h => ⟨_, (pss_cons (ps_if (PW.pt (pw_or (pt_not (pt_val (pe_callB (kx_isi (K := K) rfl) (by rfl) T.n_isinstance (by decide +kernel) (pa_cons (pv 1) (pa_cons (pe_bltn (v := .ty "list") (by rfl) T.n_list (by decide +kernel) rfl) pa_nil))))) (pw_or1 (pt_cmpR op_gt (pe_callB (kx_len (K := K) rfl) (by rfl) T.n_len (by decide +kernel) (pa_cons (pv 1) pa_nil)) pe_int (nomark _))))) (pss_one (ps_ret (pe_tup (pa_cons pe_str pa_nil)))) pss_nil)
    (pss_cons (ps_setLc (i := 2) (own := [("name", 3), ("end", 4)]) rfl sc_law_due.nd rfl rfl (sw_true rfl rfl rfl (by decide +kernel)) (kx_list (K := K) rfl (pe_ix (kx_ix (K := K) rfl) (pv 0) pe_int (fun _ _ => rfl))) (blkOk_by (own := [("name", 3), ("end", 4)]) (N := ["standing", "thing", "names_here", "name", "end", "k", "one", "word"]) (sc := defScope s_law_due) (by decide +kernel)) (fun _ _ _ _ _ => (kx_gtup (K := K) (n := 2) rfl rfl (pgs_cons (pg_name (i := 3) sc_law_due.nd rfl (by first | exact Or.inl rfl | exact Or.inr rfl)) (pgs_cons (pg_name (i := 4) sc_law_due.nd rfl (by first | exact Or.inl rfl | exact Or.inr rfl)) pgs_nil)))) (fun _ _ _ _ _ => pts_nil) (fun _ _ _ _ _ => (pv 3)))
    (pss_cons (ps_for PassesOwn.never rfl (pi_range1 rfl T.n_range (pa_cons (pe_callB (kx_len (K := K) rfl) (by rfl) T.n_len (by decide +kernel) (pa_cons (pv 1) pa_nil)) pa_nil)) (pg_name (i := 5) sc_law_due.nd rfl (by first | exact Or.inl rfl | exact Or.inr rfl)) (pss_cons (ps_set (i := 6) sc_law_due.nd rfl (by first | exact Or.inl rfl | exact Or.inr rfl) (pe_ix (kx_ix (K := K) rfl) (pv 1) (pv 5) (fun _ _ => rfl)))
    (pss_cons (ps_if (PW.pt (pw_or (pt_not (pt_val (pe_callB (kx_isi (K := K) rfl) (by rfl) T.n_isinstance (by decide +kernel) (pa_cons (pv 6) (pa_cons (pe_bltn (v := .ty "tuple") (by rfl) T.n_tuple (by decide +kernel) rfl) pa_nil))))) (pw_or (pt_cmpR (kx_ne (K := K) rfl hr.units) (pe_callB (kx_len (K := K) rfl) (by rfl) T.n_len (by decide +kernel) (pa_cons (pv 6) pa_nil)) pe_int (nomark _)) (pw_or1 (pt_cmpR (kx_ne (K := K) rfl hr.units) (pe_lc (own := [("word", 7)]) rfl sc_law_due.nd (kx_tup (K := K) rfl (pv 6)) (blkOk_by (own := [("word", 7)]) (N := ["standing", "thing", "names_here", "name", "end", "k", "one", "word"]) (sc := defScope s_law_due) (by decide +kernel)) (fun _ _ _ _ _ => (pg_name (i := 7) sc_law_due.nd rfl (by first | exact Or.inl rfl | exact Or.inr rfl))) (fun _ _ _ _ _ => (pts_one (pt_not (pt_val (pe_callB (kx_isi (K := K) rfl) (by rfl) T.n_isinstance (by decide +kernel) (pa_cons (pv 7) (pa_cons (pe_bltn (v := .ty "str") (by rfl) T.n_str (by decide +kernel) rfl) pa_nil))))))) (fun _ _ _ _ _ => (pv 7))) (pe_lst pa_nil) (nomark _)))))) (pss_one (ps_ret (pe_tup (pa_cons pe_str (pa_cons (pv 5) pa_nil))))) pss_nil)
    (pss_one (ps_if (PW.pt (pw_or (pt_cmpR (kx_notinD (K := K) rfl hr.units65) (pe_ix (kx_ix (K := K) rfl) (pv 6) pe_int (fun _ _ => rfl)) (pe_lst (pa_cons pe_str (pa_cons pe_str pa_nil))) (by rfl)) (pw_or1 (pt_cmpR (kx_notinD (K := K) rfl hr.units65) (pe_ix (kx_ix (K := K) rfl) (pv 6) pe_int (fun _ _ => rfl)) (pv 2) (by rfl))))) (pss_one (ps_ret (pe_tup (pa_cons pe_str (pa_cons (pv 5) pa_nil))))) pss_nil)))))
    (pss_one (ps_ret pe_non))))), ?_⟩)
  refine pure_body (by decide) (fun O ds hl hp => ?_) h
  match ds, hl with
  | [a, y], _ =>
    obtain ⟨⟨ps, ws, ha, hw4, hns⟩, hy⟩ := hp
    obtain rfl : a = standD ps ws := ha
    have hy : ShL y := hy
    show DS O _ [.d (standD ps ws), .d y, .no, .no, .no, .no, .no, .no] _ (fun d => d = rowWrong (namesW (standD ps ws)) y)
    rw [namesW_is]
    have bad : ∀ {δ : List Sl} {N0 : List Sl → Prop}, rowWrong (ws.map (·.1)) y = .tuple [.str "row"] → DS O (tRet (tTup (tCons (tC (.str (Str.ofString "row"))) tNil))) δ N0 (fun d => d = rowWrong (ws.map (·.1)) y) := fun h => ds_ret (ep_tup (ap_cons ep_str ap_nil) (by decide)) h.symm
    cases y with
    | list es =>
      have hes : ∀ d ∈ es, Sh d := hy es rfl
      refine ds_seq (N1 := fun δ => δ = [.d (standD ps ws), .d (.list es), .no, .no, .no, .no, .no, .no] ∧ es.length ≤ 4000) (ds_if (tp_or (tp_not (tp_B (ep_isList (ep_var (i := 1) rfl)))) fun _ => tp_test (ep_op (ep_len (ep_var (i := 1) rfl) (Or.inl ⟨es, rfl, rfl⟩)) ep_int (rp_bl (g := fun i j => decide (j < i))))) (fun c => bad ?_) fun c => ds_next ⟨rfl, ?_⟩) ?_
      · have c : 4000 < es.length := by
          simp [isListB] at c
          omega
        unfold rowWrong
        simp only [if_pos c]
      · simp [isListB] at c
        omega
      rintro _ ⟨rfl, h4⟩
      rw [wrong_first h4]
      refine ds_seq (N1 := fun δ => δ = [.d (standD ps ws), .d (.list es), .d (.list ((ws.map (·.1)).map PyData.str)), .no, .no, .no, .no, .no])
        (ds_asg (i := 2) (ep_namesL (a := 3) (b := 4) (fun O' => ep_op (x := standD ps ws) (ep_var (i := 0) rfl) ep_int (rp_ix2 (rp_ixT (j := 1) rfl rfl))) (by omega) (by decide) (by decide) (fun σ H Q h => h) fun O' x => ep_var (i := 3) rfl) rfl) ?_
      rintro _ rfl
      have hnl : (ws.map (·.1)).length ≤ 4 := by rw [List.length_map]; exact hw4
      generalize standD ps ws = sd
      generalize ws.map (·.1) = names at hns hnl
      refine ds_seq (N1 := fun δ => ∀ j, j < es.length → deedOk names (es.getD j .none) = true)
        (ds_for (ix := [5]) (wp_rng1 (n := (es.length : Int)) (ap_cons (ep_len (ep_var (i := 1) rfl) (Or.inl ⟨es, rfl, rfl⟩)) ap_nil) (by omega)) (fun i δ => (∃ s t, δ = [.d sd, .d (.list es), .d (.list (names.map PyData.str)), .no, .no, s, t, .no]) ∧ ∀ j, j < i → deedOk names (es.getD j .none) = true) ⟨⟨_, _, rfl⟩, fun j hj => by omega⟩ (fun i δ1 hi hI => ?_) fun δ1 hI => fun j hj => hI.2 j (by omega)) fun δ hall => ds_ret ep_non (by rw [find_none fun j hj => by rw [hall j hj]; rfl])
      have hi : i < es.length := by omega
      obtain ⟨⟨s, t, rfl⟩, hall⟩ := hI
      have hgi : es[i]? = some (es.getD i .none) := by rw [List.getD_eq_getElem?_getD, List.getElem?_eq_getElem hi]; rfl
      have hshi : Sh (es.getD i .none) := hes _ (List.mem_of_getElem? hgi)
      have bad2 : deedOk names (es.getD i .none) = false → ∀ {δ : List Sl} {N0 : List Sl → Prop}, δ.getD 5 .no = .d (.int (i : Int)) → DS O (tRet (tTup (tCons (tC (.str (Str.ofString "deed"))) (tCons (tVar 5) tNil)))) δ N0 (fun d => d = match (List.range es.length).find? fun j => !deedOk names (es.getD j .none) with
          | some j => .tuple [.str "deed", .int j]
          | none => .none) := fun c {δ N0} h5 => by
        refine ds_ret (ep_tup (ap_cons ep_str (ap_cons (ep_var h5) ap_nil)) (by simp)) ?_
        rw [find_some (i := i) hi (by rw [c]; rfl) fun j hj => by rw [hall j hj]; rfl]
      have nxt : deedOk names (es.getD i .none) = true → ∀ j, j < i + 1 → deedOk names (es.getD j .none) = true := fun c j hj => by
        by_cases e : j = i
        · rw [e]; exact c
        · exact hall j (by omega)
      refine ⟨_, gb_name, ds_seq (N1 := fun δ => δ = [.d sd, .d (.list es), .d (.list (names.map PyData.str)), .no, .no, .d (.int (i : Int)), .d (es.getD i .none), .no]) (ds_asg (i := 6) (ep_op (ep_var (i := 1) rfl) (ep_var (i := 5) (x := .int (i : Int)) rfl) (rp_ix1 (rp_ixL (j := i) (ixN_nat hi) hgi))) rfl) ?_⟩
      rintro _ rfl
      generalize es.getD i .none = x at hshi bad2 nxt
      cases hx : isPairD x with
      | false =>
        refine ds_seq (N1 := fun δ => False) (ds_if (b := true) ?_ (fun c => bad2 (deedOk_pair hx) rfl) fun c => by cases c) (fun _ z => z.elim)
        cases x with
        | tuple ws =>
          refine tp_is (tp_or (a := false) (b := true) (tp_is (tp_not (tp_B (ep_isTup (ep_var rfl)))) rfl) fun _ => tp_or (a := true) (b := true) (tp_is (tp_test (ep_op (ep_len (ep_var rfl) (Or.inr ⟨ws, rfl, rfl⟩)) ep_int (rp_neD (shaped_int _) (shaped_int _)))) ?_) fun z => by cases z) rfl
          rw [eqv_int]
          have c : ¬ (ws.length = 2) := of_decide_eq_false hx
          have c' : ¬ ((ws.length : Int) = 2) := by omega
          simp [c']
        | _ => exact tp_is (tp_or (a := true) (b := true) (tp_is (tp_not (tp_B (ep_isTup (ep_var rfl)))) rfl) fun z => by cases z) rfl
      | true =>
        obtain ⟨y, z, rfl⟩ := pair_shape hx
        have hshy : ∀ d ∈ [y, z], Sh d := fun d hd => sh_tuple_mem hshi hd
        refine ds_seq (N1 := fun δ => δ = [.d sd, .d (.list es), .d (.list (names.map PyData.str)), .no, .no, .d (.int (i : Int)), .d (.tuple [y, z]), .no] ∧ isStrB y = true ∧ isStrB z = true)
          (ds_if (b := !(isStrB y && isStrB z)) ?_ (fun c => bad2 (deedOk_str (by rw [Bool.not_eq_true'] at c; exact c)) rfl) fun c => ds_next ⟨rfl, by simpa using c⟩) ?_
        · refine tp_is (tp_or (a := false) (tp_is (tp_not (tp_B (ep_isTup (ep_var rfl)))) rfl) fun _ => tp_or (a := false) (tp_is (tp_test (ep_op (ep_len (ep_var rfl) (Or.inr ⟨[y, z], rfl, rfl⟩)) ep_int (rp_neD (shaped_int _) (shaped_int _)))) (by rw [eqv_int]; rfl)) fun _ =>
            tp_test (ep_op (ep_lc (n := 2) (ix := [7]) (item := fun j => [y, z].getD j .none) (f := oddStr [y, z]) (fun O' => wp_tup (ds := [y, z]) (ep_var (i := 6) rfl)) (by decide) (by decide) fun O' j hj => ⟨_, gb_name, ?_, fun u hu => ?_⟩) (ep_lst ap_nil (by decide)) (rp_neD ?_ (shaped_ints [])))) ?_
          · refine tp_is (tp_not (tp_B (ep_isStr (ep_var (i := 7) rfl)))) ?_
            unfold oddStr
            cases isStrB ([y, z].getD j .none) <;> rfl
          · unfold oddStr at hu
            split at hu
            · cases hu
            · cases hu
              exact ep_var rfl
          · refine shaped_list fun d hd => ?_
            obtain ⟨j, hj, hd⟩ := List.mem_filterMap.mp hd
            unfold oddStr at hd
            split at hd
            · cases hd
            · cases hd
              match j, List.mem_range.mp hj with
              | 0, _ => exact hshy y (by simp)
              | 1, _ => exact hshy z (by simp)
          · rw [eqv_nil]
            have e : (List.range 2).filterMap (oddStr [y, z]) = (oddStr [y, z] 0).toList ++ (oddStr [y, z] 1).toList := by
              rw [filterMap_range_succ, filterMap_range_succ]
              rfl
            rw [e]
            unfold oddStr
            show _ = !(isStrB y && isStrB z)
            cases h1 : isStrB y <;> cases h2 : isStrB z <;> simp [h1, h2]
        rintro _ ⟨rfl, h1, h2⟩
        obtain ⟨a, rfl⟩ := str_of h1
        obtain ⟨b, rfl⟩ := str_of h2
        refine ds_if (b := !deedOk names (.tuple [.str a, .str b])) (tp_is (tp_or (tp_test (ep_op (ep_op (ep_var (i := 6) rfl) ep_int (rp_ix2 (rp_ixT (j := 0) rfl rfl))) (ep_lst (ds := [.str (Str.ofString "step"), .str (Str.ofString "about")]) (ap_cons ep_str (ap_cons ep_str ap_nil)) (by decide)) (rp_notInD (by decide +kernel) (hshy _ (by simp)).shaped))) fun _ =>
          tp_test (ep_op (ep_op (ep_var (i := 6) rfl) ep_int (rp_ix2 (rp_ixT (j := 1) rfl rfl))) (ep_var (i := 2) rfl) (rp_notInD (shaped_list fun d hd => ?_) (hshy _ (by simp)).shaped))) ?_) (fun c => bad2 (by simpa using c) rfl) fun c => ds_next ⟨⟨_, _, rfl⟩, nxt (by simpa using c)⟩
        · obtain ⟨w, hw, rfl⟩ := List.mem_map.mp hd
          exact ⟨hns w hw, by simp [PyData.depth]⟩
        · rw [any_strs]
          have e2 : ([PyData.str (Str.ofString "step"), .str (Str.ofString "about")].any fun z => PyData.eqv z (.str a)) = (decide (a = Str.ofString "step") || decide (a = Str.ofString "about")) := by
            have := any_strs [Str.ofString "step", Str.ofString "about"] a
            rw [show [Str.ofString "step", Str.ofString "about"].map PyData.str = [.str (Str.ofString "step"), .str (Str.ofString "about")] from rfl] at this
            rw [this]
            by_cases c1 : a = Str.ofString "step" <;> by_cases c2 : a = Str.ofString "about" <;> simp [c1, c2]
          rw [e2]
          show _ = !((decide (a = Str.ofString "step") || decide (a = Str.ofString "about")) && decide (b ∈ names))
          rw [Bool.not_and]
    | _ =>
      refine ds_seq (N1 := fun _ => False) (ds_if (b := true) (tp_is (tp_or (a := true) (b := true) (tp_is (tp_not (tp_B (ep_isList (ep_var (i := 1) rfl)))) rfl) fun z => by cases z) rfl) (fun _ => bad rfl) fun z => by cases z) fun _ z => z.elim
end
end K04
/-! Cameposts: a law's end where its promise wants to know that nothing is being shown -/
namespace Cp
open PySem L2 PySem.Spec PyProof.Rows
/-- the script at a, tracked but where the text itself holds it -/
def scr (a : Addr) (o : Obj) (xs : List V) (own : Bool) : Hp := fun b => if b = a ∧ own = false then some (.frz o (.lst xs)) else none
theorem scr_two (a : Addr) (o : Obj) (xs : List V) (own : Bool) (b : Addr) : scr a o xs own b = none ∨ (b = a ∧ own = false ∧ scr a o xs own b = some (.frz o (.lst xs))) := by
  unfold scr
  by_cases h : b = a ∧ own = false
  · rw [if_pos h]
    exact .inr ⟨h.1, h.2, rfl⟩
  · rw [if_neg h]
    exact .inl rfl
section
variable {P : Program} {w : World} {K : PySem.W.Frag} {mg mb : Str → Option Value} {k : Nat} {fa a : Addr} {fd : FuncData} {x : Str} {sp : Sp} {t : Shared} {us : List Value} {ns : List Int}
theorem gcall (kin : K.In t.heap) (gm : t.heap.Ns mainGlobals mg) (gb : t.heap.Ns builtinsNs mb) (bt : ∀ y : Str, y ≠ "__name__" → mb y = bootBuiltins y) (nl : t.heap.NoLimit) (ge : t.gens = #[])
    (sa : t.heap.get? a = some { cls := .type "list", data := .seq us.toArray }) (ia : IntsAre us ns) (sz : ns.length ≤ sizeLine) (rm : Room k callerA)
    (G : ∀ b : Heap, K.In b → b.Ns mainGlobals mg → GOk P w K mg b CX0 k fa fd [x] sp) (bd : ∀ (s : Shared) (u : Value), BindsTo s fd ⟨[u], []⟩ [(x, u)])
    (yes : ∀ M : Hp, SqL K M a (ns.map V.int) → sp [.ref a] M (fun v _ => v = .bl true) fun _ _ _ => False) :
    codeAny (model P w) callerA (.call (.ref fa) ⟨[.ref a], []⟩) (fun r z => r = .ok (.ret (.bool true)) ∧ OldK t.heap z.heap ∧ z.os = t.os ∧ AllBare z.gens) t := by
  have two := scr_two a { cls := .type "list", data := .seq us.toArray } (ns.map V.int) (K.lookup a).isSome
  have sq : SqL K (scr a { cls := .type "list", data := .seq us.toArray } (ns.map V.int) (K.lookup a).isSome) a (ns.map V.int) := by
    cases e : K.lookup a with
    | none => exact .inl (.inr ⟨_, if_pos ⟨rfl, rfl⟩⟩)
    | some o =>
      have z := (kin a o e).symm.trans sa
      cases z
      exact .inr ⟨_, us.toArray, _, e, rfl, rfl, rfl, by rw [List.size_toArray, ia.length]; exact sz, by simpa using vals_ints ia⟩
  have held : HOk P w (scr a { cls := .type "list", data := .seq us.toArray } (ns.map V.int) (K.lookup a).isSome) t.heap := fun b u hu => by
    rcases two b with z | ⟨e, _, z⟩
    · rw [z] at hu
      cases hu
    · rw [z] at hu
      cases hu
      subst e
      exact ⟨sa, by rw [List.length_map]; exact sz, us, _, vals_ints ia, sa⟩
  have free : ∀ b, K.lookup b ≠ none → scr a { cls := .type "list", data := .seq us.toArray } (ns.map V.int) (K.lookup a).isSome b = none := fun b hb => by
    rcases two b with z | ⟨e, q, _⟩
    · exact z
    · subst e
      rw [Option.isSome_eq_false_iff, Option.isNone_iff_eq_none] at q
      exact absurd q hb
  have dicts : ∀ {b : Addr} {m : Str → Option Value}, t.heap.Ns b m → (hidT t.heap (scr a { cls := .type "list", data := .seq us.toArray } (ns.map V.int) (K.lookup a).isSome)).Ns b m := fun {b m} h => by
    obtain ⟨o, es, ep, e, d, r⟩ := h
    refine ⟨o, es, ep, hidT_get e ?_, d, r⟩
    rcases two b with z | ⟨q, _, _⟩
    · exact z
    · subst q
      have z := e.symm.trans sa
      cases z
      cases d
  generalize scr a { cls := .type "list", data := .seq us.toArray } (ns.map V.int) (K.lookup a).isSome = M at two sq held free dicts
  have kin' : K.In (hidT t.heap M) := fun b o e => hidT_get (kin b o e) (free b (by rw [e]; simp))
  have ev : Env0 P w K mg (hidT t.heap M) callerA [] t M := by
    refine ⟨rfl, ⟨kin', dicts gm, ⟨mb, dicts gb, bt⟩, ?_⟩, fun b o e => of_hidT e, Nat.le_of_eq (hidT_size _ _), trivial, fun b hb => ?_, held, .of_eq ge⟩
    · obtain ⟨mc, n1, n2⟩ := nl
      exact ⟨mc, dicts n1, n2⟩
    · cases hb
  refine codeAny_mono ((G _ kin' (dicts gm)).2 callerA [] t M ⟨[.ref a], []⟩ [.ref a] [.ref a] _ _ rfl rm ev (bd t _) (.cons rfl .nil) (yes M sq)) fun r z hr => ?_
  match r, hr with
  | .ok (.ret u), hr =>
    obtain ⟨v, M', q1, q2, q3, q4, q5, q6⟩ := hr
    have q6 : v = .bl true := q6
    subst q6
    have q5 : u = Value.bool true := q5
    refine ⟨by rw [q5], OldK.of_keep fun b o e => ?_, q1, q2⟩
    rcases two b with n | ⟨_, _, n⟩
    · exact q3.keep b o e n (fun m => by cases m) (by simp)
    · have f := q3.frzs b _ _ n
      have c1 := (held b _ n).1
      have c2 := (q4 b _ f).1
      rw [c1] at e
      cases e
      exact c2
  | .ok .next, hr => exact hr.elim
  | .ok .brk, hr => exact hr.elim
  | .ok .cont, hr => exact hr.elim
  | .error e, hr => exact hr.elim
end
/-- what a law's head leaves, from its promise -/
theorem gwalk {l : PySem.W.OpenLaw} {n k : Nat} {q : Program} {lo : List Str} {XP : (Str → Option Value) → Heap → Prop} {YP : World → Heap → Prop} {d : DefRec} {K : Params → PySem.W.Frag} {sp : World → Sp} {x : Str}
    (h1 : l.most = some n) (h2 : n ≤ sizeLine) (h3 : d.params.defaults = []) (rm : Room k callerA) (hY : ∀ (w : World) (h : Heap), YP w h → (K w.params).In h)
    (F : ∀ (w : World) (mg : Str → Option Value) (f : Addr) (h : Heap), (K w.params).In h → h.Ns mainGlobals mg → mg d.name = some (.ref f) →
      ∃ fd : FuncData, (∀ (s : Shared) (u : Value), BindsTo s fd ⟨[u], []⟩ [(x, u)]) ∧ ∀ b : Heap, (K w.params).In b → b.Ns mainGlobals mg → GOk l.prog w (K w.params) mg b CX0 k f fd [x] (sp w))
    (yes : ∀ (w : World) (M : Hp) (a : Addr) (ns : List Int), ns.length ≤ n → SqL (K w.params) M a (ns.map V.int) → sp w [.ref a] M (fun v _ => v = .bl true) fun _ _ _ => False) :
    PySem.W.WalkO q lo XP YP l.row.toRowW d [] (fun f vs => PySem.call f vs) := by
  refine Att.attach_call h1 h3 fun w s0 t mg mb f o pm cd doc a us ns G Y ho hd hcd hm ha hi hl hg => ?_
  obtain ⟨fd, b, hF⟩ := F w mg f _ (hY w _ Y) G.T.g hm
  exact gcall (hY w _ Y) G.T.g G.T.b G.T.builtins G.T.nolimit hg ha hi (Nat.le_trans hl h2) rm hF b fun M hS => yes w M a ns hl hS
/-! ### what a fragment holds of the classes -/
section
variable {K : PySem.W.Frag} {a c : Addr} {T : String} {b : Bool}
theorem kit_same : PySem.W.kitOne K (.ref a) (.ref a) = some true := by
  unfold PySem.W.kitOne
  simp
theorem kit_type (h : PySem.W.subIn K (.ref a) (.type T) = some b) (m : PySem.W.kitMeta T = true) : PySem.W.kitOne K (.ref a) (.type T) = some b := by
  unfold PySem.W.kitOne PySem.W.kitCls
  have z : ((Value.ref a) == (Value.type T)) = false := rfl
  simp only [z, m]
  exact h
theorem kit_own (h : PySem.W.subIn K (.ref a) (.ref c) = some b) (i : PySem.W.isClsIn K c = true) (t : PySem.W.typeIn K (.ref c) = some (.type "type")) (n : a ≠ c) : PySem.W.kitOne K (.ref a) (.ref c) = some b := by
  have z : ((Value.ref a) == (Value.ref c)) = false := by
    refine Bool.eq_false_iff.mpr fun q => n ?_
    have q := eq_of_beq q
    cases q
    rfl
  have y : ((PySem.W.clsIn K c).isSome && PySem.W.typeIn K (.ref c) == some (.type "type")) = true := by
    have i : (PySem.W.clsIn K c).isSome = true := i
    rw [i, t]
    rfl
  unfold PySem.W.kitOne PySem.W.kitCls
  simp only [z, y]
  exact h
theorem kit_none (i : PySem.W.isClsIn K c = true) (t : PySem.W.typeIn K (.ref c) = some (.type "type")) : PySem.W.kitOne K (.type "NoneType") (.ref c) = some false := by
  have z : ((Value.type "NoneType") == (Value.ref c)) = false := rfl
  have y : ((PySem.W.clsIn K c).isSome && PySem.W.typeIn K (.ref c) == some (.type "type")) = true := by
    have i : (PySem.W.clsIn K c).isSome = true := i
    rw [i, t]
    rfl
  unfold PySem.W.kitOne PySem.W.kitCls
  simp only [z, y]
  rfl
theorem exm_own (e : PySem.W.subIn K (.ref c) (.type "BaseException") = some true) (i : PySem.W.isClsIn K c = true) (t : PySem.W.typeIn K (.ref c) = some (.type "type")) (h : PySem.W.subIn K (.ref a) (.ref c) = some b) :
    PySem.W.exmOne K (.ref a) (.ref c) = some b := by
  have y : ((PySem.W.clsIn K c).isSome && PySem.W.typeIn K (.ref c) == some (.type "type")) = true := by
    have i : (PySem.W.clsIn K c).isSome = true := i
    rw [i, t]
    rfl
  have x : (PySem.W.subIn K (.ref c) (.type "BaseException") == some true) = true := by
    rw [e]
    rfl
  unfold PySem.W.exmOne PySem.W.kitCls
  simp only [x, y]
  exact h
end
end Cp
namespace K04
open PySem L2 PySem.Spec PyProof.Rows Cp
open Evl (Ex)
section
variable {w : World} {K : PySem.W.Frag} {mg : Str → Option Value} {base : Heap} {A : Ad}
/-- l.insert(ti, te), both drawn -/
theorem dm_insT {O : List Addr} {p c : Addr} {JO : Hp → Prop} {δ : List Sl} {te ti : TE} {b b' b1 : Nat} {P : PyData → Prop} {i : Nat} {l : Addr} {ds : List PyData} {N : List Sl → Hp → Prop} {R : V → Hp → Prop}
    (nw : New O p c JO l) (h1 : ET (l :: O) p c (JL O JO l ds) b b1 ti δ (fun d => ∃ r : Int, d = .int r ∧ 0 ≤ r ∧ r ≤ 1000000)) (h2 : ET (l :: O) p c (JL O JO l ds) b1 b' te δ P) (hs : δ.getD i .no = .at l) (hz : ds.length < 100000) (hu : ∀ r d H, P d → PJ p c (JL O JO l (ds.take r ++ [d] ++ ds.drop r)) b' H → N δ H) :
    DM (l :: O) (PJ p c (JL O JO l ds) b) (tDrop (tBM K "list" (fun x vs H Q => ∃ (l : Addr) (xs : List V) (i : Int) (y : V), x = .ref l ∧ vs = [.int i, y] ∧ H l = some (.lst xs) ∧ xs.length < sizeLine ∧ 0 ≤ i ∧ i < 2 ^ 63 ∧ Q .non (upd H l (.lst (xs.take i.toNat ++ [y] ++ xs.drop i.toNat)))) (tVar i) (tCons ti (tCons te tNil)))) δ N R := fun σ H D hJ hD hS kn kr => by
  obtain ⟨vs0, q0, _⟩ := hJ.2.2
  refine ⟨.ref l, hS.loc hs, Or.inl ⟨rfl, vs0, SqL.of q0⟩, h1 σ H hJ hD hS _ fun x w H1 p1 d1 e1 hw => h2 σ H1 p1.2 d1 (hS.mono e1) _ fun d v H2 p2 d2 e2 hv => ?_⟩
  obtain ⟨⟨r, rfl, r0, r1⟩, _⟩ := p1
  have hw : w = .int r := hw
  subst hw
  obtain ⟨hP, hpu, hJO, vs, q1, q2⟩ := p2
  refine ⟨l, vs, r, v, rfl, rfl, q1, by rw [q2.length]; exact Evl.sz_lt hz, r0, by omega, ?_⟩
  have hh := hid_set (O := l :: O) (H := H2) (l := l) (o := .lst (vs.take r.toNat ++ [v] ++ vs.drop r.toNat)) (by simp)
  exact kn δ σ _ (hu r.toNat d _ hP ⟨hpu.same (fun a ha => upd_ne ha) nw.np nw.nc, nw.st H2 _ (fun a ha => upd_ne ha) hJO, _, upd_same, by rw [hh]; exact ((q2.take _).append (DtAll.one hv)).append (q2.drop _)⟩) (dom_upd d2) (by rw [hh]; exact e1.trans e2) (by rw [hh]; exact hS.mono (e1.trans e2))
theorem et_lenO {O : List Addr} {p c : Addr} {JO : Hp → Prop} {K : PySem.W.Frag} {δ : List Sl} {b : Nat} {i : Nat} {l : Addr} {ds : List PyData} (hs : δ.getD i .no = .at l) :
    ET (l :: O) p c (JL O JO l ds) b b (tCB (fun xs H Q => ∃ x n, xs = [x] ∧ LenV K x H n ∧ Q (V.int ↑n) H) (tCons (tVar i) tNil)) δ (fun d => d = .int (ds.length : Int)) := ed_lenOwn (J0 := fun _ => True) hs (fun H h => h.2.2)
/-- one's own list, seen as data from now on -/
theorem dm_seenO {O : List Addr} {p c : Addr} {JO : Hp → Prop} {δ : List Sl} {b b' : Nat} {P : PyData → Prop} {i : Nat} {l : Addr} {fs : List PyData} {u : TS} {N : List Sl → Hp → Prop} (nw : New O p c JO l) (hs : δ.getD i .no = .at l)
    (h : DM O (PJ p c JO b) u (δ.set i (.d (.list fs))) (fun _ _ => False) (RV O p c JO b' P)) : DM (l :: O) (PJ p c (JL O JO l fs) b) u δ N (RV O p c JO b' P) := fun σ H D hJ hD hS kn kr => by
  obtain ⟨z1, z2⟩ := own_data nw.out hJ.2.2
  have dO : Dom O H := fun a ha => hD a (by simp [ha])
  have hi : i < δ.length := by
    refine Nat.lt_of_not_le fun c => ?_
    rw [List.getD_eq_getElem?_getD, List.getElem?_eq_none c] at hs
    cases hs
  have s1 : SD (hid O H) (δ.set i (.d (.list fs))) σ := ⟨by rw [List.length_set]; exact hS.1, fun j => by
    by_cases e : j = i
    · subst e
      have := hS.2 j
      rw [hs] at this
      rw [List.getD_eq_getElem?_getD, List.getElem?_set_self hi]
      exact ⟨.ref l, this, z1⟩
    · rw [List.getD_eq_getElem?_getD, List.getElem?_set_ne (Ne.symm e), ← List.getD_eq_getElem?_getD]
      exact (hS.2 j).mono z2⟩
  refine h σ H D ⟨hJ.1, hJ.2.1⟩ dO s1 (fun _ _ _ n => n.elim) fun v H' r d' e' => ?_
  obtain ⟨vs, q, _⟩ := hJ.2.2
  have hl := e' l _ (by rw [hid_out nw.out]; exact q)
  refine kr v H' r (fun a ha => ?_) fun a o qa => ?_
  · rcases List.mem_cons.mp ha with z | z
    · rw [z, (hid_some hl).2]; simp
    · exact d' a z
  · obtain ⟨y1, y2⟩ := hid_some qa
    have y3 : a ∉ O := fun z => y1 (by simp [z])
    have := e' a o (by rw [hid_out y3]; exact y2)
    rw [hid_out y1]
    exact (hid_some this).2
def A1 (d : PyData) : Prop := d.canLay0 = true ∧ d.depth ≤ 2
theorem a_nil : ∀ x ∈ ([] : List PyData), A1 x := fun x h => by cases h
theorem a_cons {x : PyData} {xs : List PyData} (h : A1 x) (hs : ∀ y ∈ xs, A1 y) : ∀ y ∈ x :: xs, A1 y := fun y hy => by
  rcases List.mem_cons.mp hy with z | z
  · rw [z]; exact h
  · exact hs y z
theorem a_tup {xs : List PyData} (h : ∀ x ∈ xs, A1 x) : Sh (.tuple xs) := by
  refine ⟨?_, ?_⟩
  · simp only [PyData.canLay0]
    exact lay_all fun d hd => (h d hd).1
  · simp only [PyData.depth]
    have := depth_all (ds := xs) (n := 2) fun d hd => (h d hd).2
    omega
theorem a_lst {xs : List PyData} (h : ∀ x ∈ xs, A1 x) : Sh (.list xs) := by
  refine ⟨?_, ?_⟩
  · simp only [PyData.canLay0]
    exact lay_all fun d hd => (h d hd).1
  · simp only [PyData.depth]
    have := depth_all (ds := xs) (n := 2) fun d hd => (h d hd).2
    omega
theorem a_str {s : Str} (h : PyData.strOk s = true := by decide +kernel) : A1 (.str s) := ⟨h, by simp [PyData.depth]⟩
theorem a_none : A1 .none := ⟨by simp [PyData.canLay0], by simp [PyData.depth]⟩
theorem a_one : A1 (.int 1) := ⟨by decide +kernel, by simp [PyData.depth]⟩
theorem a_in {s : Str} (h : PyData.strOk s = true := by decide +kernel) : A1 (.list [.str s]) := by
  refine ⟨?_, by simp [PyData.depth, PyData.depthAll]⟩
  simp only [PyData.canLay0, PyData.canLayAll0]
  rw [h]
  rfl
theorem strOk_app {a b : Str} (h1 : PyData.strOk a = true) (h2 : PyData.strOk b = true) : PyData.strOk (a ++ b) = true := by
  unfold PyData.strOk at *
  show (a.cps ++ b.cps).all _ = true
  rw [Array.all_append, h1, h2]
  rfl
theorem shs_cons {x : PyData} {xs : List PyData} (h : Sh x) (hs : ∀ y ∈ xs, Sh y) : ∀ y ∈ x :: xs, Sh y := fun y hy => by
  rcases List.mem_cons.mp hy with z | z
  · rw [z]; exact h
  · exact hs y z
theorem shs_nil : ∀ x ∈ ([] : List PyData), Sh x := fun x h => by cases h
theorem shs_app {xs ys : List PyData} (h : ∀ x ∈ xs, Sh x) (hs : ∀ y ∈ ys, Sh y) : ∀ y ∈ xs ++ ys, Sh y := fun y hy => by
  rcases List.mem_append.mp hy with z | z
  · exact h y z
  · exact hs y z
def okLen (d : PyData) : Prop := ∀ row, d = rowD row → row.length ≤ 3900 ∨ ∀ r ∈ row, r.1 = false
def preBentR (ds : List PyData) : Prop := ∃ (row : List (Bool × Str)) (names : List Str), ds.getD 0 .none = rowD row ∧ ds.getD 1 .none = .list (names.map PyData.str) ∧ row.length ≤ 30 ∧ names.length ≤ 4 ∧ (∀ z ∈ names, nameOk z = true) ∧ ∀ r ∈ row, r.2 ∈ names
theorem rp_addS {O : List Addr} {a b : Str} (h : a.length + b.length ≤ 1000) : RP O (rOr rAddU (fun x y H Q => ∃ i j, x = .str i ∧ y = .str j ∧ i.length + j.length ≤ sizeLine ∧ Q (.str (i ++ j)) H)) (.str a) (.str b) (.str (a ++ b)) := rp_r fun v w H hD hv hw Q k => by
  cases hv
  cases hw
  exact ⟨a, b, rfl, rfl, Nat.le_trans h (by decide), k _ H (Ex.refl H) rfl⟩
theorem rep_one {k : Nat} {x y : PyData} (h : y ∈ (List.replicate k [x]).flatten) : y = x := by
  obtain ⟨l, hl, hy⟩ := List.mem_flatten.mp h
  rw [(List.mem_replicate.mp hl).2] at hy
  simpa using hy
theorem lenL {d : PyData} (h : ∀ es, d = .list es → es.length ≤ 3900) : okLen d := fun row e => Or.inl (by
  have := h _ e
  rwa [List.length_map] at this)
theorem G_law_bent (T : Txt K mg A) (Z : Fns K A) : FnOk prg w K mg base CX0 3 A.a_law_bent Z.fd_law_bent ["purse", "row", "names_here"] (spD 2 8 preBentR fun _ d => ShL d ∧ okLen d) := by
  refine Fun.ok Z.F_law_bent sc_law_bent (fun vs H Q E h => spD_len h) (fun cdv Ar outer s H vs Q E hr h => ⟨_, (pss_cons (ps_set (i := 3) sc_law_bent.nd rfl (by first | exact Or.inl rfl | exact Or.inr rfl) (pe_ix (kx_ix (K := K) rfl) (pe_op (op_or2 op_addU op_add_str) (pv 2) (pe_lst (pa_cons pe_str pa_nil))) pe_int (fun _ _ => rfl)))
    (pss_cons (ps_set (i := 4) sc_law_bent.nd rfl (by first | exact Or.inl rfl | exact Or.inr rfl) (pe_lst (pa_cons (pe_tup (pa_cons pe_str (pa_cons (pv 3) pa_nil))) (pa_cons (pe_tup (pa_cons pe_str (pa_cons pe_str pa_nil))) (pa_cons (pe_tup (pa_cons pe_str pa_nil)) (pa_cons (pe_lst (pa_cons pe_str (pa_cons (pv 3) pa_nil))) (pa_cons pe_non (pa_cons (pe_tup (pa_cons (pv 3) (pa_cons pe_str pa_nil))) (pa_cons (pe_tup (pa_cons pe_str (pa_cons pe_non pa_nil))) pa_nil)))))))))
    (pss_cons (ps_set (i := 4) sc_law_bent.nd rfl (by first | exact Or.inl rfl | exact Or.inr rfl) (pe_op (op_or2 op_addU op_add_str) (pv 4) (pe_lst (pa_cons (pe_tup (pa_cons pe_str (pa_cons (pv 3) (pa_cons (pv 3) pa_nil)))) (pa_cons (pe_tup pa_nil) (pa_cons (pe_tup (pa_cons pe_str (pa_cons (pv 3) pa_nil))) (pa_cons (pe_tup (pa_cons pe_str (pa_cons (pv 3) pa_nil))) (pa_cons (pe_tup (pa_cons pe_str (pa_cons (pv 3) pa_nil))) (pa_cons (pe_tup (pa_cons pe_str (pa_cons (pv 3) pa_nil))) (pa_cons (pe_tup (pa_cons pe_str (pa_cons (pv 3) pa_nil))) pa_nil))))))))))
    (pss_cons (ps_set (i := 4) sc_law_bent.nd rfl (by first | exact Or.inl rfl | exact Or.inr rfl) (pe_op (op_or2 op_addU op_add_str) (pv 4) (pe_lst (pa_cons (pe_tup (pa_cons pe_str (pa_cons pe_str pa_nil))) (pa_cons (pe_tup (pa_cons pe_str (pa_cons (pe_lst (pa_cons (pv 3) pa_nil)) pa_nil))) (pa_cons (pe_tup (pa_cons (pe_lst (pa_cons pe_str pa_nil)) (pa_cons (pv 3) pa_nil))) (pa_cons (pe_tup (pa_cons pe_str (pa_cons (pe_op (op_or2 op_addU op_add_str) (pv 3) pe_str) pa_nil))) (pa_cons (pe_tup (pa_cons pe_str (pa_cons (pv 3) (pa_cons pe_str pa_nil)))) pa_nil))))))))
    (pss_cons (ps_set (i := 4) sc_law_bent.nd rfl (by first | exact Or.inl rfl | exact Or.inr rfl) (pe_op (op_or2 op_addU op_add_str) (pv 4) (pe_lst (pa_cons (pe_tup (pa_cons pe_str (pa_cons pe_int pa_nil))) (pa_cons (pe_tup (pa_cons pe_str (pa_cons (pv 3) pa_nil))) (pa_cons (pe_tup (pa_cons pe_str (pa_cons (pv 3) (pa_cons pe_int pa_nil)))) (pa_cons pe_str (pa_cons (pe_tup (pa_cons pe_str (pa_cons (pv 3) pa_nil))) (pa_cons (pe_tup (pa_cons pe_non (pa_cons (pv 3) pa_nil))) pa_nil)))))))))
    (pss_cons (ps_set (i := 5) sc_law_bent.nd rfl (by first | exact Or.inl rfl | exact Or.inr rfl) (pe_callTy (kx_listOf (K := K) rfl) (by rfl) T.n_list (by decide +kernel) (pa_cons (pv 1) pa_nil)))
    (pss_cons (ps_for PassesOwn.never rfl (pi_range1 rfl T.n_range (pa_cons (pe_op (op_or2 op_addU op_add_str) pe_int (pe_call (G_law_draw T Z) (hr.mono (by decide)) rfl T.g_law_draw T.k_law_draw Z.b_law_draw .nil pass0 (pa_cons (pv 0) (pa_cons pe_int pa_nil)))) pa_nil)) (pg_name (i := 6) sc_law_bent.nd rfl (by first | exact Or.inl rfl | exact Or.inr rfl)) (pss_one (ps_expr (pe_bm PySem.F.plainAttrs_list PySem.F.slot_list_insert PySem.F.type_list_insert mt_insert (pv 5) (pa_cons (pe_call (G_law_draw T Z) (hr.mono (by decide)) rfl T.g_law_draw T.k_law_draw Z.b_law_draw .nil pass0 (pa_cons (pv 0) (pa_cons (pe_op (op_or2 op_addU op_add_str) (pe_callB (kx_len (K := K) rfl) (by rfl) T.n_len (by decide +kernel) (pa_cons (pv 5) pa_nil)) pe_int) pa_nil))) (pa_cons (pe_call (G_law_pick T Z) (hr.mono (by decide)) rfl T.g_law_pick T.k_law_pick Z.b_law_pick .nil pass0 (pa_cons (pv 0) (pa_cons (pv 4) pa_nil))) pa_nil))))))
    (pss_cons (ps_set (i := 7) sc_law_bent.nd rfl (by first | exact Or.inl rfl | exact Or.inr rfl) (pe_lst (pa_cons (pv 5) (pa_cons (pv 5) (pa_cons (pv 5) (pa_cons (pe_callTy (kx_tupOf (K := K) rfl) (by rfl) T.n_tuple (by decide +kernel) (pa_cons (pv 1) pa_nil)) (pa_cons pe_non (pa_cons pe_str (pa_cons (pe_op op_mulU (pe_lst (pa_cons (pe_tup (pa_cons pe_str (pa_cons (pv 3) pa_nil))) pa_nil)) pe_int) (pa_cons (pe_op op_mulU (pe_lst (pa_cons (pe_tup (pa_cons pe_str (pa_cons (pv 3) pa_nil))) pa_nil)) pe_int) pa_nil))))))))))
    (pss_one (ps_ret (pe_ix (kx_ix (K := K) rfl) (pv 7) (pe_call (G_law_draw T Z) (hr.mono (by decide)) rfl T.g_law_draw T.k_law_draw Z.b_law_draw .nil pass0 (pa_cons (pv 0) (pa_cons pe_int pa_nil))) (fun _ _ => rfl)))))))))))), ?_⟩)
  obtain ⟨O, p, c, B, ds, us, rfl, hm, hp, hc, hD, pu, hB, hv, hpre, kq⟩ := h
  match ds, hm, hpre with
  | [a, q], _, hpre =>
  obtain ⟨row, names, ha, hq, h30, l4, hn, hrn⟩ := hpre
  obtain rfl : a = rowD row := ha
  obtain rfl : q = .list (names.map PyData.str) := hq
  obtain ⟨u0, r0, rfl, hu0, u1, r1, rfl, hu1, hr1⟩ := hv
  cases hr1
  refine drawn (δ := [.at p, .d (rowD row), .d (.list (names.map PyData.str)), .no, .no, .no, .no, .no]) (Pq := fun d => ShL d ∧ okLen d) hp hc hD pu (sd_cons rfl (sd_cons (slok_d hu0) (sd_cons (slok_d hu1) (sd_cons trivial (sd_cons trivial (sd_cons trivial (sd_cons trivial (sd_cons trivial sd_nil)))))))) (fun JO V hst => ?_) (fun d u H' hp kp pu' hd => kq d u H' hp kp pu' hd)
  refine dt_asg (i := 3) (b' := B) (P := fun d => ∃ z, d = .str z ∧ nameOk z = true) (et_pure V (d := .str ((names ++ [Str.ofString "a"]).getD 0 (Str.ofString "a"))) (ep_op (ep_op (ep_var (i := 2) rfl) (ep_lst (ap_cons ep_str ap_nil) (by simp)) (rp_l (rp_r (rp_cat (by simp; omega))))) ep_int (rp_ix1 (rp_ixL (j := 0) (ixN_nat (by simp)) ?_))) ⟨_, rfl, ?_⟩) ?_
  · cases names <;> rfl
  · cases names with
    | nil => decide +kernel
    | cons x xs => exact hn x (by simp)
  rintro _ ⟨z, rfl, hz⟩
  have hzs := name_strOk hz
  have hzl := (nameOk_len hz).2
  have st : ∀ {δ : List Sl}, δ.getD 3 .no = .d (.str z) → Cp.EP O (tVar 3) δ (.str z) := fun h => ep_var h
  refine dt_asg (i := 4) (b' := B) (P := fun d => ∃ es, d = .list es ∧ es.length = 7 ∧ ∀ x ∈ es, Sh x) (et_pure V (ep_lst (ap_cons (ep_tup (ap_cons ep_str (ap_cons (st rfl) ap_nil)) (by simp)) (ap_cons (ep_tup (ap_cons ep_str (ap_cons ep_str ap_nil)) (by simp)) (ap_cons (ep_tup (ap_cons ep_str ap_nil) (by simp)) (ap_cons (ep_lst (ap_cons ep_str (ap_cons (st rfl) ap_nil)) (by simp)) (ap_cons ep_non
    (ap_cons (ep_tup (ap_cons (st rfl) (ap_cons ep_str ap_nil)) (by simp)) (ap_cons (ep_tup (ap_cons ep_str (ap_cons ep_non ap_nil)) (by simp)) ap_nil))))))) (by simp)) ⟨_, rfl, rfl, shs_cons (a_tup (a_cons a_str (a_cons (a_str hzs) a_nil))) (shs_cons (a_tup (a_cons a_str (a_cons a_str a_nil))) (shs_cons (a_tup (a_cons a_str a_nil)) (shs_cons (a_lst (a_cons a_str (a_cons (a_str hzs) a_nil)))
      (shs_cons ⟨a_none.1, Nat.le_trans a_none.2 (by decide)⟩ (shs_cons (a_tup (a_cons (a_str hzs) (a_cons a_str a_nil))) (shs_cons (a_tup (a_cons a_str (a_cons a_none a_nil))) shs_nil))))))⟩) ?_
  rintro _ ⟨o1, rfl, lo1, ho1⟩
  refine dt_asg (i := 4) (b' := B) (P := fun d => ∃ es, d = .list es ∧ es.length = 14 ∧ ∀ x ∈ es, Sh x) (et_pure V (ep_op (ep_var (i := 4) (x := .list o1) rfl) (ep_lst (ap_cons (ep_tup (ap_cons ep_str (ap_cons (st rfl) (ap_cons (st rfl) ap_nil))) (by simp)) (ap_cons (ep_tup ap_nil (by simp)) (ap_cons (ep_tup (ap_cons ep_str (ap_cons (st rfl) ap_nil)) (by simp)) (ap_cons (ep_tup (ap_cons ep_str (ap_cons (st rfl) ap_nil)) (by simp)) (ap_cons (ep_tup (ap_cons ep_str (ap_cons (st rfl) ap_nil)) (by simp))
    (ap_cons (ep_tup (ap_cons ep_str (ap_cons (st rfl) ap_nil)) (by simp)) (ap_cons (ep_tup (ap_cons ep_str (ap_cons (st rfl) ap_nil)) (by simp)) ap_nil))))))) (by simp)) (rp_l (rp_r (rp_cat (by simp; omega))))) ⟨_, rfl, by rw [List.length_append, lo1]; rfl, shs_app ho1 (shs_cons (a_tup (a_cons a_str (a_cons (a_str hzs) (a_cons (a_str hzs) a_nil)))) (shs_cons (a_tup a_nil) (shs_cons (a_tup (a_cons a_str (a_cons (a_str hzs) a_nil))) (shs_cons (a_tup (a_cons a_str (a_cons (a_str hzs) a_nil)))
      (shs_cons (a_tup (a_cons a_str (a_cons (a_str hzs) a_nil))) (shs_cons (a_tup (a_cons a_str (a_cons (a_str hzs) a_nil))) (shs_cons (a_tup (a_cons a_str (a_cons (a_str hzs) a_nil))) shs_nil)))))))⟩) ?_
  rintro _ ⟨o2, rfl, lo2, ho2⟩
  have hq : PyData.strOk (z ++ Str.ofString "q") = true := strOk_app hzs (by decide +kernel)
  have hadd : z.length + (Str.ofString "q").length ≤ 1000 := by
    have : (Str.ofString "q").length = 1 := by decide +kernel
    omega
  refine dt_asg (i := 4) (b' := B) (P := fun d => ∃ es, d = .list es ∧ es.length = 19 ∧ ∀ x ∈ es, Sh x) (et_pure V (ep_op (ep_var (i := 4) (x := .list o2) rfl) (ep_lst (ap_cons (ep_tup (ap_cons ep_str (ap_cons ep_str ap_nil)) (by simp)) (ap_cons (ep_tup (ap_cons ep_str (ap_cons (ep_lst (ap_cons (st rfl) ap_nil) (by simp)) ap_nil)) (by simp)) (ap_cons (ep_tup (ap_cons (ep_lst (ap_cons ep_str ap_nil) (by simp)) (ap_cons (st rfl) ap_nil)) (by simp))
    (ap_cons (ep_tup (ap_cons ep_str (ap_cons (ep_op (st rfl) ep_str (rp_addS hadd)) ap_nil)) (by simp)) (ap_cons (ep_tup (ap_cons ep_str (ap_cons (st rfl) (ap_cons ep_str ap_nil))) (by simp)) ap_nil))))) (by simp)) (rp_l (rp_r (rp_cat (by simp; omega))))) ⟨_, rfl, by rw [List.length_append, lo2]; rfl, shs_app ho2 (shs_cons (a_tup (a_cons a_str (a_cons a_str a_nil))) (shs_cons (a_tup (a_cons a_str (a_cons (a_in hzs) a_nil))) (shs_cons (a_tup (a_cons a_in (a_cons (a_str hzs) a_nil)))
      (shs_cons (a_tup (a_cons a_str (a_cons (a_str hq) a_nil))) (shs_cons (a_tup (a_cons a_str (a_cons (a_str hzs) (a_cons a_str a_nil)))) shs_nil)))))⟩) ?_
  rintro _ ⟨o3, rfl, lo3, ho3⟩
  refine dt_asg (i := 4) (b' := B) (P := fun d => ∃ es, d = .list es ∧ es.length = 25 ∧ ∀ x ∈ es, Sh x) (et_pure V (ep_op (ep_var (i := 4) (x := .list o3) rfl) (ep_lst (ap_cons (ep_tup (ap_cons ep_str (ap_cons ep_int ap_nil)) (by simp)) (ap_cons (ep_tup (ap_cons ep_str (ap_cons (st rfl) ap_nil)) (by simp)) (ap_cons (ep_tup (ap_cons ep_str (ap_cons (st rfl) (ap_cons ep_int ap_nil))) (by simp)) (ap_cons ep_str (ap_cons (ep_tup (ap_cons ep_str (ap_cons (st rfl) ap_nil)) (by simp))
    (ap_cons (ep_tup (ap_cons ep_non (ap_cons (st rfl) ap_nil)) (by simp)) ap_nil)))))) (by simp)) (rp_l (rp_r (rp_cat (by simp; omega))))) ⟨_, rfl, by rw [List.length_append, lo3]; rfl, shs_app ho3 (shs_cons (a_tup (a_cons a_str (a_cons a_one a_nil))) (shs_cons (a_tup (a_cons a_str (a_cons (a_str hzs) a_nil))) (shs_cons (a_tup (a_cons a_str (a_cons (a_str hzs) (a_cons a_one a_nil))))
      (shs_cons ⟨(a_str (s := Str.ofString "step")).1, Nat.le_trans (a_str (s := Str.ofString "step")).2 (by decide)⟩ (shs_cons (a_tup (a_cons a_str (a_cons (a_str hzs) a_nil))) (shs_cons (a_tup (a_cons a_none (a_cons (a_str hzs) a_nil))) shs_nil))))))⟩) ?_
  rintro _ ⟨odd, rfl, lod, hod⟩
  have hrs : ∀ x ∈ row.map deD, Sh x := fun x hx => by
    obtain ⟨r, hr, rfl⟩ := List.mem_map.mp hx
    have := deD_sh (name_strOk (hn _ (hrn r hr)))
    exact ⟨this.1, Nat.le_trans this.2 (by decide)⟩
  refine dt_newOf (i := 5) V hst (ds := row.map deD) (ep_var (i := 1) rfl) fun l nw => ?_
  have VL : ∀ {ds : List PyData}, Keep (l :: O) p c (JL O JO l ds) := nw.keep V
  refine dm_seq (N1 := fun δ H => ∃ fs : List PyData, ((fs.length ≤ 32 ∧ ∀ x ∈ fs, Sh x) ∧ ∃ s6, δ = [.at p, .d (rowD row), .d (.list (names.map PyData.str)), .d (.str z), .d (.list odd), .at l, s6, .no]) ∧ PJ p c (JL O JO l fs) (B + 7) H)
    (dm_forE (ix := [6]) (P := fun n H => n ≤ 2 ∧ PJ p c (JL O JO l (row.map deD)) (B + 1) H) (we_rng (et_op VL (P1 := fun d => d = .int 1) (P2 := fun d => ∃ r : Int, d = .int r ∧ 0 ≤ r ∧ r < 2) (P := fun d => ∃ r : Int, d = .int r ∧ 1 ≤ r ∧ r < 3) (et_pure VL (d := .int 1) ep_int rfl) (et_draw VL (i := 0) (m := 2) rfl (et_pure VL ep_int rfl) (by decide) (by decide) (by omega)) fun x y h1 h2 => ?_) fun d H q => by
        obtain ⟨⟨r, rfl, r0, r1⟩, hj⟩ := q
        exact ⟨r.toNat, by congr 1; omega, by omega, by omega, hj⟩)
      (fun m i δ H => ∃ fs : List PyData, ((m ≤ 2 ∧ fs.length = row.length + i ∧ ∀ x ∈ fs, Sh x) ∧ ∃ s6, δ = [.at p, .d (rowD row), .d (.list (names.map PyData.str)), .d (.str z), .d (.list odd), .at l, s6, .no]) ∧ PJ p c (JL O JO l fs) (B + 1 + 2 * i) H)
      (fun m H h => ⟨row.map deD, ⟨⟨h.1, by rw [List.length_map]; rfl, hrs⟩, _, rfl⟩, h.2⟩) (fun m i δ1 H1 hi hI => ?_) fun m δ1 H1 hI => ?_) fun δ1 => dm_ex fun fs => dm_fact ?_
  · obtain rfl := h1
    obtain ⟨r, rfl, r0, r1⟩ := h2
    exact ⟨_, rp_l (rp_l (rp_int (g := fun i j => i + j))), ⟨1 + r, rfl, by omega, by omega⟩⟩
  · obtain ⟨fs, ⟨⟨hm2, hfl, hfs⟩, s6, rfl⟩, hJ⟩ := hI
    refine ⟨_, _, gb_name, hJ, VL.jok, ?_⟩
    refine dm_insT (i := 5) (b1 := B + 1 + 2 * i + 1) (b' := B + 1 + 2 * (i + 1)) (P := Sh) nw (et_imp (et_draw VL (i := 0) (m := (fs.length : Int) + 1) rfl (et_op VL (P1 := fun d => d = .int (fs.length : Int)) (P2 := fun d => d = .int 1) (et_lenO rfl) (et_pure VL ep_int rfl) fun x y h1 h2 => by subst h1; subst h2; exact ⟨_, rp_l (rp_l (rp_int (g := fun i j => i + j))), rfl⟩) (by omega) (by omega) (by omega)) fun d hd => ?_) (et_imp (et_pick VL (i := 0) (S := fun ds => ds = odd) rfl (et_pure VL (ep_var (i := 4) rfl) ⟨_, rfl, ⟨by omega, by omega⟩, rfl⟩) (by show B + 1 + 2 * i + 1 ≤ 1000000; omega)) fun d hd => ?_) rfl (by omega) fun r d H hd hj => ?_
    · obtain ⟨r, rfl, r0, r1⟩ := hd
      exact ⟨r, rfl, r0, by omega⟩
    · obtain ⟨ds, rfl, hm⟩ := hd
      exact hod d hm
    · refine ⟨_, ⟨⟨hm2, ?_, ?_⟩, _, rfl⟩, hj⟩
      · rw [List.length_append, List.length_append, List.length_take, List.length_drop]
        simp
        omega
      · exact shs_app (shs_app (fun x hx => hfs x (List.mem_of_mem_take hx)) (shs_cons hd shs_nil)) fun x hx => hfs x (List.mem_of_mem_drop hx)
  · obtain ⟨fs, ⟨⟨hm2, hfl, hfs⟩, h6⟩, hJ⟩ := hI
    exact ⟨fs, ⟨⟨by omega, hfs⟩, h6⟩, hJ.1.mono (by omega), hJ.2⟩
  rintro ⟨⟨hfl, hfs⟩, s6, rfl⟩
  refine dm_seenO (i := 5) nw rfl ?_
  have hS1 : Sh (.tuple [.str (Str.ofString "about"), .str z]) := a_tup (a_cons a_str (a_cons (a_str hzs) a_nil))
  have rep : ∀ {δ : List Sl} {k : Int}, 0 ≤ k → k ≤ 5000 → δ.getD 3 .no = .d (.str z) → Cp.EP O (tOp rMulU (tLst (tCons (tTup (tCons (tC (.str (Str.ofString "about"))) (tCons (tVar 3) tNil))) tNil)) (tC (.int k))) δ (.list (List.replicate k.toNat [PyData.tuple [.str (Str.ofString "about"), .str z]]).flatten) := fun h0 h1 h3 =>
    ep_op (ep_lst (ap_cons (ep_tup (ap_cons ep_str (ap_cons (ep_var h3) ap_nil)) (by simp)) ap_nil) (by simp)) ep_int (rp_r (rp_rep h0 (by simp; omega) (by omega)))
  have repOk : ∀ k : Nat, ShL (.list (List.replicate k [PyData.tuple [.str (Str.ofString "about"), .str z]]).flatten) ∧ okLen (.list (List.replicate k [PyData.tuple [.str (Str.ofString "about"), .str z]]).flatten) := fun k => ⟨fun es e d hd => by
      injection e with e
      rw [← e] at hd
      rw [rep_one hd]
      exact hS1, fun row e => Or.inr fun r hr => by
      injection e with e
      have hd : deD r ∈ row.map deD := List.mem_map.mpr ⟨r, hr, rfl⟩
      rw [← e] at hd
      have := rep_one hd
      have e2 : r = toDe (deD r) := (toDe_deD r).symm
      rw [this] at e2
      rw [e2]
      show decide (Str.ofString "about" = Str.ofString "step") = false
      exact decide_eq_false (by decide +kernel)⟩
  have bentOk : ShL (.list fs) ∧ okLen (.list fs) := ⟨fun es e d hd => by
      injection e with e
      rw [← e] at hd
      exact hfs d hd, lenL fun es e => by
      injection e with e
      rw [← e]
      omega⟩
  refine dt_asg (i := 7) (b' := B + 7) (P := fun d => ∃ L, d = .list L ∧ L.length = 8 ∧ ∀ x ∈ L, ShL x ∧ okLen x) (et_pure V (ep_lst (ap_cons (ep_var (i := 5) (x := .list fs) rfl) (ap_cons (ep_var (i := 5) (x := .list fs) rfl) (ap_cons (ep_var (i := 5) (x := .list fs) rfl) (ap_cons (ep_tupOf (ep_var (i := 1) (x := .list (row.map deD)) rfl)) (ap_cons ep_non (ap_cons ep_str (ap_cons (rep (by decide) (by decide) rfl) (ap_cons (rep (by decide) (by decide) rfl) ap_nil)))))))) (by simp)) ⟨_, rfl, rfl, fun x hx => ?_⟩) ?_
  · simp only [List.mem_cons, List.not_mem_nil, or_false] at hx
    rcases hx with rfl | rfl | rfl | rfl | rfl | rfl | rfl | rfl
    · exact bentOk
    · exact bentOk
    · exact bentOk
    · exact ⟨fun es e => (by cases e), fun row e => (by cases e)⟩
    · exact ⟨fun es e => (by cases e), fun row e => (by cases e)⟩
    · exact ⟨fun es e => (by cases e), fun row e => (by cases e)⟩
    · exact repOk _
    · exact repOk _
  rintro _ ⟨L, rfl, lL, hL⟩
  refine rv_ret (et_imp (et_at V (n := 8) (S := fun ds => ds = L) (et_pure V (ep_var (i := 7) rfl) ⟨L, rfl, lL, rfl⟩) (et_draw V (i := 0) (m := 8) rfl (et_pure V ep_int rfl) (by decide) (by decide) (by omega))) fun d hd => ?_)
  obtain ⟨ds, rfl, hm⟩ := hd
  exact hL d hm
end
end K04
namespace K04
open PySem L2 PySem.Spec PyProof.Rows Cp
open Evl (Ex)
section
variable {w : World} {K : PySem.W.Frag} {mg : Str → Option Value} {base : Heap} {A : Ad}
theorem seq_nx {t u : TS} {D : Ends} {σ : L2.St} {H : Hp} (Nx : L2.St → Hp → Prop) (h1 : ∀ σ' H', Nx σ' H' → u D σ' H') (h2 : ∀ D' : Ends, (∀ σ' H', Nx σ' H' → D'.nx σ' H') → t D' σ H) : tSeq t u D σ H := h2 _ h1
def bools3 (a b c : Bool) : PyData := .list [.bool a, .bool b, .bool c]
def askW (w : Nat) (ws : List (Str × (Nat × Nat))) (y : PyData) : PyData := if w = 3 then .none else if w = 2 then wBack ws y else wRow ws y
def askR (r : PyData) : PyData := if isNoneB r = true then bools3 false false false else .list [.str (Str.ofString "row"), r]
theorem tLed_ex {O : List Addr} {H H' : Hp} {rs : List (Int × Int)} {ps : List (Nat × Nat)} {ws : List (Str × (Nat × Nat))} {y : PyData} {v : V} (h : tLed O H rs ps ws y v H') : Ex H H' := by
  obtain ⟨_, _, _, _, _, _, _, h⟩ := h
  exact h.1
theorem tTrail_ex {O : List Addr} {H H' : Hp} {rs : List (Int × Int)} {ps : List (Nat × Nat)} {ws : List (Str × (Nat × Nat))} {y : PyData} {v : V} (h : tTrail O H rs ps ws y v H') : Ex H H' := by
  obtain ⟨_, _, _, _, _, h, _⟩ := h
  exact h
theorem tBack_ex {O : List Addr} {H H' : Hp} {rs : List (Int × Int)} {ps : List (Nat × Nat)} {ws : List (Str × (Nat × Nat))} {y : PyData} {v : V} (h : tBack O H rs ps ws y v H') : Ex H H' := by
  obtain ⟨_, _, _, _, _, h, _⟩ := h
  exact h
theorem askW0 (ws : List (Str × (Nat × Nat))) (y : PyData) : askW 0 ws y = wRow ws y := by
  unfold askW
  rw [if_neg (by decide), if_neg (by decide)]
theorem askW1 (ws : List (Str × (Nat × Nat))) (y : PyData) : askW 1 ws y = wRow ws y := by
  unfold askW
  rw [if_neg (by decide), if_neg (by decide)]
theorem askW2 (ws : List (Str × (Nat × Nat))) (y : PyData) : askW 2 ws y = wBack ws y := by
  unfold askW
  rw [if_neg (by decide), if_pos rfl]
theorem askW3 (ws : List (Str × (Nat × Nat))) (y : PyData) : askR (askW 3 ws y) = bools3 false false false := by
  unfold askW
  rw [if_pos rfl]
  rfl
def AskRes (w : Nat) (d x y r : PyData) : Prop := (townWrong d ≠ .none ∧ r = bools3 true false true) ∨ (∃ n rs, d = townD n rs ∧ TownOk n rs ∧ standingWrong n rs x ≠ .none ∧ r = bools3 false true true) ∨
  (∃ n rs ps ws, d = townD n rs ∧ TownOk n rs ∧ x = standD ps ws ∧ StandOk n rs ps ws ∧ r = askR (askW w ws y))
def spRefR : Sp := fun vs H Q _ => ∃ (O : List Addr) (w : Nat) (d x y r : PyData), Dom O H ∧ DtAll (hid O H) [.int w, d, x, y] vs ∧ w < 4 ∧ shortW x ∧ ShL y ∧ AskRes w d x y r ∧ ∀ v H', Ex H H' → Dt (hid O H') r v → Q v H'
/-- what is caught, and what it tells -/
def Caught (K : PySem.W.Frag) (CT CS CR : Addr) (O : List Addr) (r : PyData) (o : Option (Option V)) (H' : Hp) : Prop := (o = some (some .non) ∧ r = bools3 false false false) ∨
  ∃ (a C dd : Addr) (u : V), o = some (some (.ref a)) ∧ Kept K H' a C ∧ H' a = some (ExcAt a (.ref C) (some dd)) ∧ H' dd = some (.xd [("wrong", u)]) ∧
    ((C = CT ∧ r = bools3 true false true) ∨ (C = CS ∧ r = bools3 false true true) ∨ (C = CR ∧ ∃ wr, Dt (hid O H') wr u ∧ r = .list [.str (Str.ofString "row"), wr]))
theorem G_law_refused (T : Txt K mg A) (Z : Fns K A) : FnOk prg w K mg base CX0 11 A.a_law_refused Z.fd_law_refused ["way_here", "town", "standing", "row"] (spRefR) := by
  refine Fun.ok Z.F_law_refused sc_law_refused (fun vs H Q E h => by obtain ⟨O, w, d, x, y, r, _, hv, _⟩ := h; exact hv.length) (fun cdv Ar outer s H vs Q E hr h => ⟨_, (pss_cons (ps_set (i := 4) sc_law_refused.nd rfl (by first | exact Or.inl rfl | exact Or.inr rfl) pe_non)
    (pss_cons (ps_try_keep (i := 5) (Wout := fun _ _ _ _ => False) rfl rfl sc_law_refused.nd rfl rfl ⟨rfl, by decide, Or.inl T.g_PostError⟩ takes0 rfl (fun W pn xe tk _ => (pss_cons (ps_if (pt_cmpR (kx_eq (K := K) rfl hr.units) (pv 0) pe_int (nomark _)) (pss_one (ps_expr (pe_callS (G_row_wrong T Z) (hr.mono (by decide)) rfl T.g_row_wrong T.k_row_wrong Z.b_row_wrong (fun σ => passAt tk σ) (pa_cons (pv 1) (pa_cons (pv 2) (pa_cons (pv 3) pa_nil)))))) pss_nil)
    (pss_cons (ps_if (pt_cmpR (kx_eq (K := K) rfl hr.units) (pv 0) pe_int (nomark _)) (pss_one (ps_expr (pe_callS (G_led_by T Z) (hr.mono (by decide)) rfl T.g_led_by T.k_led_by Z.b_led_by (fun σ => passAt tk σ) (pa_cons (pv 1) (pa_cons (pv 2) (pa_cons (pv 3) pa_nil)))))) pss_nil)
    (pss_cons (ps_if (pt_cmpR (kx_eq (K := K) rfl hr.units) (pv 0) pe_int (nomark _)) (pss_one (ps_expr (pe_callS (G_trail_of T Z) (hr.mono (by decide)) rfl T.g_trail_of T.k_trail_of Z.b_trail_of (fun σ => passAt tk σ) (pa_cons (pv 1) (pa_cons (pv 2) (pa_cons (pv 3) pa_nil)))))) pss_nil)
    (pss_one (ps_if (pt_cmpR (kx_eq (K := K) rfl hr.units) (pv 0) pe_int (nomark _)) (pss_one (ps_expr (pe_callS (G_row_back T Z) (hr.mono (by decide)) rfl T.g_row_back T.k_row_back Z.b_row_back (fun σ => passAt tk σ) (pa_cons (pv 1) (pa_cons (pv 2) (pa_cons (pv 3) pa_nil)))))) pss_nil)))))) (fun a oe cls d pn hz hf => (pss_one (ps_set (i := 4) sc_law_refused.nd rfl (by first | exact Or.inl rfl | exact Or.inr rfl) (pv 5)))))
    (pss_cons (ps_if (PW.pt (pw_and (pt_val (pe_callB (kx_isi (K := K) rfl) (by rfl) T.n_isinstance (by decide +kernel) (pa_cons (pv 4) (pa_cons (pe_glob (v := .ref A.NoRow) rfl T.g_NoRow rfl) pa_nil)))) (pw_and1 (pt_val (pe_callB (kx_isi (K := K) rfl) (by rfl) T.n_isinstance (by decide +kernel) (pa_cons (pv 4) (pa_cons (pe_bltn (v := .ty "ValueError") (by rfl) T.n_ValueError (by decide +kernel) rfl) pa_nil))))))) (pss_one (ps_ret (pe_lst (pa_cons pe_str (pa_cons (kx_kf (K := K) rfl (pv 4)) pa_nil))))) pss_nil)
    (pss_one (ps_ret (pe_lst (pa_cons (pe_callB (kx_isi (K := K) rfl) (by rfl) T.n_isinstance (by decide +kernel) (pa_cons (pv 4) (pa_cons (pe_glob (v := .ref A.NoTown) rfl T.g_NoTown rfl) pa_nil))) (pa_cons (pe_callB (kx_isi (K := K) rfl) (by rfl) T.n_isinstance (by decide +kernel) (pa_cons (pv 4) (pa_cons (pe_glob (v := .ref A.NoStanding) rfl T.g_NoStanding rfl) pa_nil))) (pa_cons (pe_callB (kx_isi (K := K) rfl) (by rfl) T.n_isinstance (by decide +kernel) (pa_cons (pv 4) (pa_cons (pe_bltn (v := .ty "ValueError") (by rfl) T.n_ValueError (by decide +kernel) rfl) pa_nil))) pa_nil))))))))), ?_⟩)
  obtain ⟨O, w, d, x, y, r, hD, hv, hw, hsx, hy, hr0, k⟩ := h
  have s0 : SD (hid O H) [.d (.int w), .d d, .d x, .d y, .no, .no] (L2.start ["way_here", "town", "standing", "row", "caught", "e"] vs) := sd_start hv _ (by simp)
  refine ha_seq ?_
  refine ha_asg (ep_non) hD s0 fun v1 H1 e1 hv1 s1 => ?_
  have d1 := hD.ex e1
  dsimp only
  refine seq_nx (fun σ' H' => Ex H H' ∧ Dom O H' ∧ Caught K A.NoTown A.NoStanding A.NoRow O r σ'[4]? H') (fun σ' H' hN => ?_) fun D' hN => ?_
  · obtain ⟨e', d', hc⟩ := hN
    have isK : ∀ {a D : Addr} {c : V} {cv : Value} {b : Bool} {H : Hp} {Q : VK}, Kept K H a D → σ'[4]? = some (some (.ref a)) → ClsV c cv → PySem.W.kitOne K (.ref D) cv = some b → Q (.bl b) H → (tCB (rIsU K) (tCons (tVar 4) (tCons (tC c) tNil))) σ' H Q := fun hk hs hc e q =>
      ⟨_, hs, Or.inr ⟨_, _, _, _, _, rfl, hk, hc, e, q⟩⟩
    have isN : ∀ {c : V} {cv : Value} {H : Hp} {Q : VK}, σ'[4]? = some (some .non) → ClsV c cv → PySem.W.kitOne K (.type "NoneType") cv = some false → Q (.bl false) H → (tCB (rIsU K) (tCons (tVar 4) (tCons (tC c) tNil))) σ' H Q := fun hs hc e q =>
      ⟨_, hs, Or.inl ⟨_, _, _, _, _, rfl, hc, dt_ty (x := .none) rfl, e, q⟩⟩
    have three : ∀ {b1 b2 b3 : Bool} {t : Addr}, r = bools3 b1 b2 b3 → H' t = none → Q (.ref t) (upd H' t (.lst [.bl b1, .bl b2, .bl b3])) := fun hr ht => k _ _ (e'.trans (Ex.new ht)) (by
      rw [hr]
      exact ⟨_, _, rfl, by rw [hid_out (d'.fresh ht)]; exact upd_same, _, _, rfl, rfl, _, _, rfl, rfl, _, _, rfl, rfl, rfl⟩)
    rcases hc with ⟨hs, hr⟩ | ⟨a, C, dd, u, hs, hk, ha, hxd, ⟨rfl, hr⟩ | ⟨rfl, hr⟩ | ⟨rfl, wr, hu, hr⟩⟩
    · refine ha_seq (isN hs (.own _) T.t_NoneType_NoRow ⟨false, rfl, ?_⟩)
      simp only [Bool.false_eq_true, if_false]
      exact isN hs (.own _) T.t_NoneType_NoTown (isN hs (.own _) T.t_NoneType_NoStanding (isN hs (.ty _) (kit_ty (by decide +kernel)) ⟨by show 3 ≤ sizeLine; decide, fun t ht => three hr ht⟩))
    · refine ha_seq (isK hk hs (.own _) T.t_NoTown_NoRow ⟨false, rfl, ?_⟩)
      simp only [Bool.false_eq_true, if_false]
      exact isK hk hs (.own _) T.t_NoTown_NoTown (isK hk hs (.own _) T.t_NoTown_NoStanding (isK hk hs (.ty _) T.t_NoTown_ValueError ⟨by show 3 ≤ sizeLine; decide, fun t ht => three hr ht⟩))
    · refine ha_seq (isK hk hs (.own _) T.t_NoStanding_NoRow ⟨false, rfl, ?_⟩)
      simp only [Bool.false_eq_true, if_false]
      exact isK hk hs (.own _) T.t_NoStanding_NoTown (isK hk hs (.own _) T.t_NoStanding_NoStanding (isK hk hs (.ty _) T.t_NoStanding_ValueError ⟨by show 3 ≤ sizeLine; decide, fun t ht => three hr ht⟩))
    · refine ha_seq (isK hk hs (.own _) T.t_NoRow_NoRow ⟨true, rfl, ?_⟩)
      refine isK hk hs (.ty _) T.t_NoRow_ValueError ⟨true, rfl, ?_⟩
      refine ⟨.ref a, hs, a, A.NoRow, dd, [("wrong", u)], u, rfl, ha, T.f_NoRow, T.s_NoRow.noW, hxd, rfl, by show 2 ≤ sizeLine; decide, fun t ht => ?_⟩
      exact k _ _ (e'.trans (Ex.new ht)) (by rw [hr]; exact ⟨t, _, rfl, by rw [hid_out (d'.fresh ht)]; exact upd_same, _, [u], rfl, rfl, u, [], rfl, Dt.mono (hid_ex (Ex.new ht)) _ _ hu, rfl⟩)
  have rT : townWrong d ≠ .none → r = bools3 true false true := fun hz => by
    rcases hr0 with ⟨_, h⟩ | ⟨n, rs, rfl, hT, _⟩ | ⟨n, rs, ps, ws, rfl, hT, _⟩
    · exact h
    · exact absurd (townWrong_ok hT) hz
    · exact absurd (townWrong_ok hT) hz
  have rS : ∀ n rs, d = townD n rs → TownOk n rs → standingWrong n rs x ≠ .none → r = bools3 false true true := fun n rs hd hT hz => by
    rcases hr0 with ⟨h, _⟩ | ⟨_, _, _, _, _, h⟩ | ⟨n', rs', ps, ws, hd', hT', hx, hok, _⟩
    · exact absurd (hd ▸ townWrong_ok hT) h
    · exact h
    · rw [hd] at hd'
      obtain ⟨rfl, rfl⟩ := townD_inj hd'
      exact absurd (hx ▸ stand_ok hok hT) hz
  have rR : ∀ n rs, d = townD n rs → TownOk n rs → standingWrong n rs x = .none → ∃ ps ws, x = standD ps ws ∧ StandOk n rs ps ws ∧ r = askR (askW w ws y) := fun n rs hd hT hz => by
    rcases hr0 with ⟨h, _⟩ | ⟨n', rs', hd', hT', h, _⟩ | ⟨n', rs', ps, ws, hd', hT', hx, hok, h⟩
    · exact absurd (hd ▸ townWrong_ok hT) h
    · rw [hd] at hd'
      obtain ⟨rfl, rfl⟩ := townD_inj hd'
      exact absurd hz h
    · rw [hd] at hd'
      obtain ⟨rfl, rfl⟩ := townD_inj hd'
      exact ⟨ps, ws, hx, hok, h⟩
  obtain ⟨vd, hvd, hdd⟩ := s1.var (i := 1) rfl
  obtain ⟨vx, hvx, hdx⟩ := s1.var (i := 2) rfl
  obtain ⟨vr, hvr, hdr⟩ := s1.var (i := 3) rfl
  have good : ∀ (C dd : Addr) (u : V) (H3 : Hp), Ex H1 H3 → H3 dd = some (.xd [("wrong", u)]) → ((C = A.NoTown ∧ r = bools3 true false true) ∨ (C = A.NoStanding ∧ r = bools3 false true true) ∨ (C = A.NoRow ∧ ∃ wr, Dt (hid O H3) wr u ∧ r = .list [.str (Str.ofString "row"), wr])) →
      L2.WE (wKeep K (.ref A.PostError) 5 (fun a cls d => tAsg (tVar 5) (gName 4)) (fun _ _ _ _ => False) D') (List.set (L2.start ["way_here", "town", "standing", "row", "caught", "e"] vs) 4 (some v1)) (.ref C) (some dd) H3 := fun C dd u H3 e3 hxd hc => by
    have hm : PySem.W.exmOne K (.ref C) (.ref A.PostError) = some true := by
      rcases hc with ⟨rfl, _⟩ | ⟨rfl, _⟩ | ⟨rfl, _⟩
      · exact T.m_NoTown_PostError
      · exact T.m_NoStanding_PostError
      · exact T.m_NoRow_PostError
    have hx : ExcC K C := by
      rcases hc with ⟨rfl, _⟩ | ⟨rfl, _⟩ | ⟨rfl, _⟩
      · exact T.e_NoTown
      · exact T.e_NoStanding
      · exact T.e_NoRow
    refine ⟨true, hm, fun _ a ha => ?_, fun z => by cases z⟩
    have hda : dd ≠ a := fun z => by rw [z, ha] at hxd; cases hxd
    have kpt : Kept K (upd H3 a (ExcAt a (.ref C) (some dd))) a C := ⟨some dd, upd_same, fun q hq => by cases hq; exact ⟨_, by rw [upd_ne hda]; exact hxd⟩, hx⟩
    refine ⟨.ref a, by simp [s1.1], fun hn => ?_⟩
    refine hN _ _ ⟨(e1.trans e3).trans (Ex.new ha), (d1.ex e3).ex (Ex.new ha), Or.inr ⟨a, C, dd, u, ?_, kpt, upd_same, by rw [upd_ne hda]; exact hxd, ?_⟩⟩
    · have hl6 : (L2.start ["way_here", "town", "standing", "row", "caught", "e"] vs).length = 6 := by
        have z := s0.1
        simpa using z
      rw [List.getElem?_set_ne (by decide), List.getElem?_set_self (by
        rw [List.length_set, List.length_set, hl6]
        decide)]
    · rcases hc with h | h | ⟨h, wr, hu, hr⟩
      · exact .inl h
      · exact .inr (.inl h)
      · exact .inr (.inr ⟨h, wr, Dt.mono (hid_ex (Ex.new ha)) _ _ hu, hr⟩)
  clear hr0
  generalize List.set (L2.start ["way_here", "town", "standing", "row", "caught", "e"] vs) 4 (some v1) = σ1 at s1 good hvd hvx hvr
  have call : ∀ {W : List (Str × (Nat × Nat)) → PyData → PyData} {T' : List Addr → Hp → List (Int × Int) → List (Nat × Nat) → List (Str × (Nat × Nat)) → PyData → V → Hp → Prop} {H2 : Hp} {Q' : VK}, (∀ ws, askW w ws y = W ws y) → (∀ {O H rs ps ws y v H'}, T' O H rs ps ws y v H' → Ex H H') → Ex H1 H2 →
      (∀ v H3, Ex H1 H3 → r = bools3 false false false → Q' v H3) → spAsk A.NoTown A.NoStanding A.NoRow W T' [vd, vx, vr] H2 Q' (L2.WE (wKeep K (.ref A.PostError) 5 (fun a cls d => tAsg (tVar 5) (gName 4)) (fun _ _ _ _ => False) D') σ1) := fun hW hTx e2 hQ =>
    ⟨O, d, x, y, d1.ex e2, ⟨vd, [vx, vr], rfl, Dt.mono (hid_ex e2) _ _ hdd, vx, [vr], rfl, Dt.mono (hid_ex e2) _ _ hdx, vr, [], rfl, Dt.mono (hid_ex e2) _ _ hdr, rfl⟩, hsx, hy, fun hz dd u H3 h1 e3 hu hxd => good _ dd u H3 (e2.trans e3) hxd (.inl ⟨rfl, rT hz⟩),
      fun n rs hd hT => ⟨fun hz dd u H3 h1 e3 hu hxd => good _ dd u H3 (e2.trans e3) hxd (.inr (.inl ⟨rfl, rS n rs hd hT hz⟩)), fun hz => by
        obtain ⟨ps, ws, hx, hok, hr⟩ := rR n rs hd hT hz
        rw [hW] at hr
        refine ⟨ps, ws, hx, hok, fun hw dd u H3 h1 e3 hu hxd => good _ dd u H3 (e2.trans e3) hxd (.inr (.inr ⟨rfl, _, hu, ?_⟩)), fun hw v H3 ht => hQ v H3 (e2.trans (hTx ht)) ?_⟩
        · rw [hr]
          unfold askR
          rw [if_neg fun z => hw (none_of z)]
        · rw [hr, hw]
          rfl⟩⟩
  have isW : ∀ {m : Int}, TP O (tTest (tOp (rEqD K) (tVar 0) (tC (.int m)))) ([Sl.d (.int (w : Int)), .d d, .d x, .d y, .no, .no].set 4 (.d .none)) ((w : Int) == m) := fun {m} => tp_is (tp_test (ep_op (ep_var (i := 0) (x := .int (w : Int)) rfl) ep_int (rp_eqD (shaped_int _) (shaped_int _)))) (eqv_int _ _)
  refine seq_nx (fun σ' H' => σ' = σ1 ∧ Ex H1 H' ∧ (w = 3 → r = bools3 false false false)) (fun σ2 H2 q2 => ?_) fun D2 hN2 => ha_if isW d1 s1 (fun c H2 e2 => ?_) fun c H2 e2 => hN2 _ _ ⟨rfl, e2, fun z => by rw [z] at c; exact absurd c (by decide)⟩
  rotate_left
  · have hw3 : w = 3 := by have := eq_of_beq c; omega
    refine ⟨vd, hvd, vx, hvx, vr, hvr, O, d, x, y, d1.ex e2, ⟨vd, [vx, vr], rfl, Dt.mono (hid_ex e2) _ _ hdd, vx, [vr], rfl, Dt.mono (hid_ex e2) _ _ hdx, vr, [], rfl, Dt.mono (hid_ex e2) _ _ hdr, rfl⟩, hsx, hy, fun hz dd u H3 h1 e3 hu hxd => good _ dd u H3 (e2.trans e3) hxd (.inl ⟨rfl, rT hz⟩),
      fun n rs hd hT => ⟨fun hz dd u H3 h1 e3 hu hxd => good _ dd u H3 (e2.trans e3) hxd (.inr (.inl ⟨rfl, rS n rs hd hT hz⟩)), fun hz => ?_⟩⟩
    obtain ⟨ps, ws, hx, hok, hr⟩ := rR n rs hd hT hz
    refine ⟨ps, ws, hx, hx ▸ ws_of hok, fun v H3 e3 hv3 => hN2 _ _ ⟨rfl, e2.trans e3, fun _ => ?_⟩⟩
    rw [hr, hw3]
    exact askW3 ws y
  obtain ⟨rfl, e2, q3⟩ := q2
  refine seq_nx (fun σ' H' => σ' = σ2 ∧ Ex H1 H' ∧ (w = 0 → r = bools3 false false false)) (fun σ3 H3 q2 => ?_) fun D2 hN2 => ha_if isW (d1.ex e2) (s1.mono (hid_ex e2)) (fun c H3 e3 => ⟨vd, hvd, vx, hvx, vr, hvr, call (W := wRow) (T' := tLed) (fun ws => by rw [show w = 0 by have := eq_of_beq c; omega]; exact askW0 ws y) tLed_ex (e2.trans e3) fun v H4 e4 hr => hN2 _ _ ⟨rfl, e4, fun _ => hr⟩⟩) fun c H3 e3 => hN2 _ _ ⟨rfl, e2.trans e3, fun z => by rw [z] at c; exact absurd c (by decide)⟩
  obtain ⟨rfl, e3, q0⟩ := q2
  refine seq_nx (fun σ' H' => σ' = σ3 ∧ Ex H1 H' ∧ (w = 1 → r = bools3 false false false)) (fun σ4 H4 q2 => ?_) fun D2 hN2 => ha_if isW (d1.ex e3) (s1.mono (hid_ex e3)) (fun c H4 e4 => ⟨vd, hvd, vx, hvx, vr, hvr, call (W := wRow) (T' := tTrail) (fun ws => by rw [show w = 1 by have := eq_of_beq c; omega]; exact askW1 ws y) tTrail_ex (e3.trans e4) fun v H4 e4 hr => hN2 _ _ ⟨rfl, e4, fun _ => hr⟩⟩) fun c H4 e4 => hN2 _ _ ⟨rfl, e3.trans e4, fun z => by rw [z] at c; exact absurd c (by decide)⟩
  obtain ⟨rfl, e4, q1⟩ := q2
  have fin : ∀ H5, Ex H1 H5 → r = bools3 false false false → D'.nx σ4 H5 := fun H5 e5 hr => hN _ _ ⟨e1.trans e5, d1.ex e5, Or.inl ⟨?_, hr⟩⟩
  · refine ha_if isW (d1.ex e4) (s1.mono (hid_ex e4)) (fun c H5 e5 => ⟨vd, hvd, vx, hvx, vr, hvr, call (W := wBack) (T' := tBack) (fun ws => by rw [show w = 2 by have := eq_of_beq c; omega]; exact askW2 ws y) tBack_ex (e4.trans e5) fun v H6 e6 hr => fin H6 e6 hr⟩) fun c H5 e5 => fin H5 (e4.trans e5) ?_
    · have : w ≠ 2 := fun z => by rw [z] at c; exact absurd c (by decide)
      have h4 : w = 0 ∨ w = 1 ∨ w = 3 := by omega
      rcases h4 with h4 | h4 | h4
      · exact q0 h4
      · exact q1 h4
      · exact q3 h4
  · obtain ⟨v, h1, h2⟩ := s1.var (i := 4) (x := .none) rfl
    cases h2
    exact h1
end
end K04
namespace K04
open PySem L2 PySem.Spec PyProof.Rows Cp
open Evl (Ex)
section
variable {w : World} {K : PySem.W.Frag} {mg : Str → Option Value} {base : Heap} {A : Ad}
theorem take_row {row : List (Bool × Str)} {k : Int} (h : 0 ≤ k) : PyData.list (Cp.cutD (row.map deD) none (some k)) = rowD (row.take k.toNat) := by
  rw [cut_take h, ← List.map_take]
  rfl
theorem bn_two {x y : PyData} (h1 : Bn 0 84 x) (h2 : Bn 0 84 y) : Bn 1 255 (.tuple [x, y]) := (bn_tuple (D := 0) (W := 84) (n := 2) (bna_cons h1 (bna_cons h2 bna_nil)) (by simp)).mono (by decide) (by decide)
theorem bn_i0 {i : Int} (h : -1000 ≤ i ∧ i ≤ 1000) : Bn 0 84 (.int i) := bn_int (by omega)
theorem bn_pair2 {x y : PyData} {D W : Nat} (hx : Bn 0 84 x) (hy : Bn D W y) : Bn (D + 1) (W + 86) (.tuple [x, y]) := bn_pair (hx.mono (Nat.zero_le _) (Nat.le_refl _)) hy
theorem bn_name {z : Str} (h : nameOk z = true) : Bn 0 84 (.str z) := by
  refine bn_str (name_strOk h) ?_ (by show z.cps.size ≤ 84; have : z.cps.size ≤ 8 := (nameOk_len h).2; omega)
  simp only [PyData.leavesShort]
  rw [List.all_eq_true]
  intro cc hcc
  obtain ⟨i, hi, e⟩ := Array.mem_iff_getElem.mp (Array.mem_toList_iff.mp hcc)
  unfold nameOk at h
  rw [Bool.and_eq_true] at h
  have hs : signOk z i = true := (List.all_eq_true.mp h.2) (signOk z i) (List.mem_map.mpr ⟨i, by simpa using hi, rfl⟩)
  unfold signOk at hs
  rw [Bool.and_eq_true] at hs
  have h2 := hs.2
  have h122 : Str.ofString "z" = ⟨#[122]⟩ := by decide +kernel
  rw [h122] at h2
  unfold leS at h2
  have h3 : ¬ (([122] : List Nat) < [z.cps.getD i 0]) := by simpa using h2
  have h4 : z.cps.getD i 0 ≤ 122 := by
    refine Nat.le_of_not_lt fun c => h3 ?_
    exact List.cons_lt_cons_iff.mpr (.inl c)
  rw [Array.getD_eq_getD_getElem?, Array.getElem?_eq_getElem hi, Option.getD_some, e] at h4
  exact decide_eq_true (Nat.lt_of_le_of_lt h4 (by decide))
section
variable {n : Int} {rs : List (Int × Int)} {δ : List Sl} {te : TE} {E : XK} {p c : Addr} {b : Nat}
theorem bn_town (hok : TownOk n rs) : Bn 4 75000 (townD n rs) := by
  have n18 : 1 ≤ n ∧ n ≤ 8 := ⟨hok.n1, hok.n8⟩
  have hl : BnA 1 255 (rs.map pr) := fun d hd => by
    obtain ⟨q, hm, rfl⟩ := List.mem_map.mp hd
    obtain ⟨r, hr, e⟩ := List.mem_iff_getElem.mp hm
    have z := in_road (hok.roads r hr)
    rw [List.getD_eq_getElem?_getD, List.getElem?_eq_getElem hr, Option.getD_some, e] at z
    obtain ⟨z1, z2, z3, z4⟩ := z
    exact bn_two (bn_int (by omega)) (bn_int (by omega))
  exact (bn_pair ((bn_int (i := n) (by omega)).mono (D' := 2) (by decide) (Nat.le_refl _)) (bn_list (D := 1) (W := 255) (n := 16) hl (by rw [List.length_map]; exact hok.r16))).mono (by decide) (by decide)
theorem et_town (hs : δ.getD 1 .no = .at p) (hB : b + 100 ≤ 1000000) : ET [p, c] p c (fun _ => True) b (b + 100) (tCall spTown [] E (tCons (tVar 1) (tCons (tC (.int 8)) tNil))) δ (fun d => ∃ n rs, d = townD n rs ∧ TownOk n rs) := fun σ H hj hD hS Q k =>
  ⟨.ref p, hS.loc hs, p, c, b, rfl, hj.1, hB, fun n rs v H' hok kp pu hv => k (townD n rs) v H' ⟨⟨n, rs, rfl, hok⟩, pu, trivial⟩ pu.dom (kp.hid (by simp) (by simp)) hv⟩
theorem et_standG (hs : δ.getD 1 .no = .at p) (hB : b + 60 ≤ 1000000) (he : Cp.EP [p, c] te δ (townD n rs)) (hT : TownOk n rs) {bd : Int} (h0 : 0 ≤ bd) (h4 : bd ≤ 4) : ET [p, c] p c (fun _ => True) b (b + 60) (tCall spStandG [] E (tCons (tVar 1) (tCons te (tCons (tC (.int bd)) tNil)))) δ (fun d => ∃ ps ws, d = standD ps ws ∧ StandOk n rs ps ws) := fun σ H hj hD hS Q k =>
  ⟨.ref p, hS.loc hs, he σ H hD hS _ fun v H1 e1 hv => by
    have hj1 := keep0.jok.ex hD e1 hj
    exact ⟨p, c, b, n, rs, v, bd, rfl, h0, h4, hj1.1, hB, hT, hv, fun ps ws u H' hok kp pu hu => k (standD ps ws) u H' ⟨⟨ps, ws, rfl, hok⟩, pu, trivial⟩ pu.dom ((hid_ex e1).trans (kp.hid (by simp) (by simp))) hu⟩⟩
theorem bn_end {e : End} (hT : TownOk n rs) (h1 : e.1 < rs.length) (h2 : e.2 < 2) : Bn 1 255 (enD e) := by
  have r16 := hT.r16
  exact bn_two (bn_i0 (by omega)) (bn_i0 (by omega))
theorem bn_stand {ps : List (Nat × Nat)} {ws : List (Str × (Nat × Nat))} (h : StandOk n rs ps ws) (hT : TownOk n rs) : Bn 5 75000 (standD ps ws) := by
  have n8 := hT.n8
  have hps : BnA 1 255 (ps.map enD) := fun d hd => by
    obtain ⟨e, he, rfl⟩ := List.mem_map.mp hd
    obtain ⟨j, hj, hje⟩ := List.mem_iff_getElem.mp he
    obtain ⟨h1, h2, _⟩ := h.pv j hj
    rw [List.getD_eq_getElem?_getD, List.getElem?_eq_getElem hj, Option.getD_some, hje] at h1 h2
    exact bn_end hT h1 h2
  have hws : BnA 2 800 (ws.map waD) := fun d hd => by
    obtain ⟨x, hx, rfl⟩ := List.mem_map.mp hd
    obtain ⟨h1, h2, h3⟩ := h.wv x hx
    exact (bn_pair2 (bn_name h1) (bn_end hT h2 h3)).mono (by decide) (by decide)
  exact (bn_tuple (D := 3) (W := 9612) (n := 2) (bna_cons ((bn_list (n := 16) hps (by rw [List.length_map, h.pl]; omega)).mono (D' := 3) (W' := 9612) (by decide) (by decide)) (bna_cons ((bn_list (n := 12) hws (by rw [List.length_map]; exact Nat.le_trans h.wl (by decide))).mono (D' := 3) (W' := 9612) (by decide) (by decide)) bna_nil)) (by simp)).mono (by decide) (by decide)
end
section
variable {O : List Addr} {δ : List Sl} {te : TE} {ta : TA} {E : XK} {n : Int} {rs : List (Int × Int)} {ps : List (Nat × Nat)} {ws : List (Str × (Nat × Nat))} {row : List (Bool × Str)} {d x y r : PyData} {w : Nat}
theorem ep_ref (hw : w < 4) (hx : shortW x) (hy : ShL y) (hr : AskRes w d x y r) (h : Cp.AP O ta δ [.int w, d, x, y]) : Cp.EP O (tCall spRefR [] E ta) δ r := fun σ H hD hS Q k => h σ H hD hS _ fun vs H1 e1 hv =>
  ⟨O, w, d, x, y, r, hD.ex e1, by rw [List.append_nil]; exact hv, hw, hx, hy, hr, fun v H' e' hv' => k v H' (e1.trans e') hv'⟩
theorem rowD_inj {a b : List (Bool × Str)} (h : rowD a = rowD b) : a = b := by
  have := congrArg rowOf h
  rwa [rowOf_is, rowOf_is] at this
theorem names_ok (hok : StandOk n rs ps ws) : ∀ z ∈ ws.map (·.1), PyData.strOk z = true := fun z hz => by
  obtain ⟨x, hx, rfl⟩ := List.mem_map.mp hz
  exact name_strOk (hok.wv x hx).1
theorem ep_ledG {CT CS CR : Addr} (hT : TownOk n rs) (hok : StandOk n rs ps ws) (hrow : RowOk ws row) (h : Cp.AP O ta δ [townD n rs, standD ps ws, rowD row]) :
    Cp.EP O (tCall (spAsk CT CS CR wRow tLed) [] E ta) δ (standD (walkE rs ⟨ps, ws, []⟩ row).ps (walkE rs ⟨ps, ws, []⟩ row).ws) := fun σ H hD hS Q k => h σ H hD hS _ fun vs H1 e1 hv =>
  ⟨O, townD n rs, standD ps ws, rowD row, hD.ex e1, by rw [List.append_nil]; exact hv, short_stand hok, rowD_sh (names_ok hok) hrow.2, fun hz => absurd (townWrong_ok hT) hz, fun n' rs' hd hT' => by
    obtain ⟨rfl, rfl⟩ := townD_inj hd
    refine ⟨fun hz => absurd (stand_ok hok hT) hz, fun _ => ⟨ps, ws, rfl, hok, fun hz => absurd (wRow_ok hok hrow) hz, fun _ v H' ht => ?_⟩⟩
    obtain ⟨row', q, a, b, e, _, rfl, e', na, nb, nq, nab, nqa, nqb, hq, ⟨xs, o1, o1'⟩, ⟨ys, o2, o2'⟩⟩ := ht
    have e := rowD_inj e
    subst e
    have d1 := hD.ex e1
    have less : Ex (hid (q :: b :: a :: O) H') (hid O H') := hid_less.trans (hid_less.trans hid_less)
    exact k (.ref q) H' (e1.trans e') ⟨q, _, rfl, by rw [hid_out (d1.fresh nq)]; exact hq, .ref a, _, rfl, ⟨a, xs, rfl, by rw [hid_out (d1.fresh na)]; exact o1, o1'.mono less⟩, .ref b, [], rfl, ⟨b, ys, rfl, by rw [hid_out (d1.fresh nb)]; exact o2, o2'.mono less⟩, rfl⟩⟩
theorem res_row (hT : TownOk n rs) (hok : StandOk n rs ps ws) (h : askR (askW w ws y) = r) : AskRes w (townD n rs) (standD ps ws) y r := Or.inr (Or.inr ⟨n, rs, ps, ws, rfl, hT, rfl, hok, h.symm⟩)
end
theorem wBack_is {n : Int} {rs : List (Int × Int)} {ps : List (Nat × Nat)} {ws : List (Str × (Nat × Nat))} {row : List (Bool × Str)} (hok : StandOk n rs ps ws) (hrow : RowOk ws row) : wBack ws (rowD row) = if 4000 < backLen ws row then .tuple [.str (Str.ofString "row")] else .none := by
  unfold wBack
  rw [wRow_ok hok hrow, rowOf_is]
  rfl
theorem take_nd {names : List Str} (hn : names.Nodup) {j : Nat} (hj : j ≤ names.length) : (names.filter fun nm => decide (nm ∈ names.take j)).length = j := by
  have e := List.take_append_drop j names
  have hd : ∀ x ∈ names.drop j, x ∉ names.take j := fun x h1 h2 => by
    rw [← e] at hn
    exact (List.nodup_append.mp hn).2.2 x h2 x h1 rfl
  have : names.filter (fun nm => decide (nm ∈ names.take j)) = names.take j := by
    generalize names.take j = T at e hd ⊢
    generalize names.drop j = D at e hd
    rw [← e, List.filter_append, List.filter_eq_self.mpr fun x hx => decide_eq_true hx, List.filter_eq_nil_iff.mpr fun x hx => by simpa using hd x hx, List.append_nil]
  rw [this, List.length_take]
  omega
theorem back_j {n : Int} {rs : List (Int × Int)} {ps : List (Nat × Nat)} {ws : List (Str × (Nat × Nat))} {row : List (Bool × Str)} (hok : StandOk n rs ps ws) {j : Nat} (hj : j ≤ (ws.map (·.1)).length) (hs : ∀ nm, stepsIn row nm = decide (nm ∈ (ws.map (·.1)).take j)) : backLen ws row = row.length + 2 * j := by
  unfold backLen steppers
  rw [List.filter_congr fun nm _ => hs nm, take_nd (hok.ris.imp fun h => ltS_ne h) hj]
/-- a step of each of some, and more of the first one -/
def stepsR (S : List Str) (m : Nat) (z : Str) : List (Bool × Str) := S.map (fun nm => (true, nm)) ++ List.replicate m (true, z)
theorem steps_of {S : List Str} {m : Nat} {z nm : Str} : stepsIn (stepsR S m z) nm = decide (nm ∈ S ∨ (0 < m ∧ nm = z)) := by
  unfold stepsIn stepsR
  rw [Bool.eq_iff_iff, List.any_eq_true, decide_eq_true_eq]
  constructor
  · rintro ⟨r, hr, e⟩
    rw [Bool.and_eq_true, decide_eq_true_eq] at e
    rcases List.mem_append.mp hr with h | h
    · obtain ⟨x, hx, rfl⟩ := List.mem_map.mp h
      exact Or.inl (by rw [← e.2]; exact hx)
    · obtain ⟨h1, rfl⟩ := List.mem_replicate.mp h
      exact Or.inr ⟨by omega, e.2.symm⟩
  · rintro (h | ⟨h, rfl⟩)
    · exact ⟨(true, nm), List.mem_append.mpr (Or.inl (List.mem_map.mpr ⟨nm, h, rfl⟩)), by simp⟩
    · exact ⟨(true, nm), List.mem_append.mpr (Or.inr (List.mem_replicate.mpr ⟨by omega, rfl⟩)), by simp⟩
theorem stepsR_len {S : List Str} {m : Nat} {z : Str} : (stepsR S m z).length = S.length + m := by
  unfold stepsR
  rw [List.length_append, List.length_map, List.length_replicate]
theorem rowD_rep (m : Nat) (r : Bool × Str) : PyData.list (List.replicate m [deD r]).flatten = rowD (List.replicate m r) := by
  unfold rowD
  rw [List.map_replicate, List.flatten_replicate_singleton]
def preBd (ds : List PyData) : Prop := ∃ (n : Int) (rs : List (Int × Int)) (ps : List (Nat × Nat)) (ws : List (Str × (Nat × Nat))), ds.getD 0 .none = townD n rs ∧ ds.getD 1 .none = standD ps ws ∧ ds.getD 2 .none = .list ((ws.map (·.1)).map PyData.str) ∧ TownOk n rs ∧ StandOk n rs ps ws ∧ ws ≠ []
def rowRow : PyData := .list [.str (Str.ofString "row"), .tuple [.str (Str.ofString "row")]]
theorem sh_fff : Sh (bools3 false false false) := ⟨by decide +kernel, by decide +kernel⟩
theorem sh_rowRow : Sh rowRow := ⟨by decide +kernel, by decide +kernel⟩
theorem sh_seen : Sh (.list [bools3 false false false, bools3 false false false, rowRow]) := ⟨by decide +kernel, by decide +kernel⟩
theorem ep_fff {O : List Addr} {δ : List Sl} : Cp.EP O (tOp rMulU (tLst (tCons (tC (.bl false)) tNil)) (tC (.int 3))) δ (bools3 false false false) := ep_is (ep_op (ep_lst (ap_cons ep_bl ap_nil) (by simp)) ep_int (rp_r (rp_rep (by decide) (by decide) (by decide)))) rfl
theorem ep_rowRow {O : List Addr} {δ : List Sl} : Cp.EP O (tLst (tCons (tC (.str (Str.ofString "row"))) (tCons (tTup (tCons (tC (.str (Str.ofString "row"))) tNil)) tNil))) δ rowRow := ep_lst (ap_cons ep_str (ap_cons (ep_tup (ap_cons ep_str ap_nil) (by simp)) ap_nil)) (by simp)
theorem G_law_bounds (T : Txt K mg A) (Z : Fns K A) : FnOk prg w K mg base CX0 12 A.a_law_bounds Z.fd_law_bounds ["town", "standing", "names_here"] (spP 3 preBd fun _ => .bool true) := by
  refine Fun.ok Z.F_law_bounds sc_law_bounds (fun vs H Q E h => pure_len h) (fun cdv Ar outer s H vs Q E hr h => ⟨_, (pss_cons (ps_set (i := 3) sc_law_bounds.nd rfl (by first | exact Or.inl rfl | exact Or.inr rfl) (pe_op op_mulU (pe_lst (pa_cons (pe_tup (pa_cons pe_str (pa_cons (pe_ix (kx_ix (K := K) rfl) (pv 2) pe_int (fun _ _ => rfl)) pa_nil))) pa_nil)) pe_int))
    (pss_cons (ps_setLc (i := 4) (own := [("way_here", 5)]) rfl sc_law_bounds.nd rfl rfl (sw_true rfl rfl rfl (by decide +kernel)) (pi_range1 rfl T.n_range (pa_cons pe_int pa_nil)) (blkOk_by (own := [("way_here", 5)]) (N := ["town", "standing", "names_here", "steps", "seen", "way_here", "j", "row", "name"]) (sc := defScope s_law_bounds) (by decide +kernel)) (fun _ _ _ _ _ => (pg_name (i := 5) sc_law_bounds.nd rfl (by first | exact Or.inl rfl | exact Or.inr rfl))) (fun _ _ _ _ _ => pts_nil) (fun _ _ _ _ _ => (pe_call (G_law_refused T Z) (hr.mono (by decide)) rfl T.g_law_refused T.k_law_refused Z.b_law_refused .nil pass0 (pa_cons (pv 5) (pa_cons (pv 0) (pa_cons (pv 1) (pa_cons (pv 3) pa_nil)))))))
    (pss_cons (ps_if (pt_cmpR (kx_ne (K := K) rfl hr.units) (pv 4) (pe_lst (pa_cons (pe_op op_mulU (pe_lst (pa_cons pe_bl pa_nil)) pe_int) (pa_cons (pe_op op_mulU (pe_lst (pa_cons pe_bl pa_nil)) pe_int) (pa_cons (pe_lst (pa_cons pe_str (pa_cons (pe_tup (pa_cons pe_str pa_nil)) pa_nil))) pa_nil)))) (nomark _)) (pss_one (ps_ret pe_bl)) pss_nil)
    (pss_cons (ps_if (pt_cmpR (kx_ne (K := K) rfl hr.units) (pe_call (E := E0) (G_led_by T Z) (hr.mono (by decide)) rfl T.g_led_by T.k_led_by Z.b_led_by .nil passL (pa_cons (pv 0) (pa_cons (pv 1) (pa_cons (pv 3) pa_nil)))) (pe_call (G_law_walked T Z) (hr.mono (by decide)) rfl T.g_law_walked T.k_law_walked Z.b_law_walked .nil pass0 (pa_cons (pv 0) (pa_cons (pv 1) (pa_cons (pv 3) pa_nil)))) (nomark _)) (pss_one (ps_ret pe_bl)) pss_nil)
    (pss_cons (ps_if (pt_cmpR (kx_ne (K := K) rfl hr.units) (pe_call (G_law_refused T Z) (hr.mono (by decide)) rfl T.g_law_refused T.k_law_refused Z.b_law_refused .nil pass0 (pa_cons pe_int (pa_cons (pv 0) (pa_cons (pv 1) (pa_cons (pe_slice (kx_sl (K := K) rfl) (pv 3) po_none (po_some pe_int)) pa_nil))))) (pe_op op_mulU (pe_lst (pa_cons pe_bl pa_nil)) pe_int) (nomark _)) (pss_one (ps_ret pe_bl)) pss_nil)
    (pss_cons (ps_if (pt_cmpR (kx_ne (K := K) rfl hr.units) (pe_call (G_law_refused T Z) (hr.mono (by decide)) rfl T.g_law_refused T.k_law_refused Z.b_law_refused .nil pass0 (pa_cons pe_int (pa_cons (pv 0) (pa_cons (pv 1) (pa_cons (pe_slice (kx_sl (K := K) rfl) (pv 3) po_none (po_some pe_int)) pa_nil))))) (pe_lst (pa_cons pe_str (pa_cons (pe_tup (pa_cons pe_str pa_nil)) pa_nil))) (nomark _)) (pss_one (ps_ret pe_bl)) pss_nil)
    (pss_cons (ps_for PassesOwn.never rfl (pi_range2 rfl T.n_range (pa_cons pe_int (pa_cons (pe_op op_addU (pe_callB (kx_len (K := K) rfl) (by rfl) T.n_len (by decide +kernel) (pa_cons (pv 2) pa_nil)) pe_int) pa_nil))) (pg_name (i := 6) sc_law_bounds.nd rfl (by first | exact Or.inl rfl | exact Or.inr rfl)) (pss_cons (ps_set (i := 7) sc_law_bounds.nd rfl (by first | exact Or.inl rfl | exact Or.inr rfl) (pe_op op_addU (pe_lc (own := [("name", 8)]) rfl sc_law_bounds.nd (kx_list (K := K) rfl (pe_slice (kx_sl (K := K) rfl) (pv 2) po_none (po_some (pv 6)))) (blkOk_by (own := [("name", 8)]) (N := ["town", "standing", "names_here", "steps", "seen", "way_here", "j", "row", "name"]) (sc := defScope s_law_bounds) (by decide +kernel)) (fun _ _ _ _ _ => (pg_name (i := 8) sc_law_bounds.nd rfl (by first | exact Or.inl rfl | exact Or.inr rfl))) (fun _ _ _ _ _ => pts_nil) (fun _ _ _ _ _ => (pe_tup (pa_cons pe_str (pa_cons (pv 8) pa_nil))))) (pe_slice (kx_sl (K := K) rfl) (pv 3) po_none (po_some (pe_op op_sub pe_int (pe_op op_mulU pe_int (pv 6)))))))
    (pss_cons (ps_if (pt_cmpR (kx_ne (K := K) rfl hr.units) (pe_call (G_law_refused T Z) (hr.mono (by decide)) rfl T.g_law_refused T.k_law_refused Z.b_law_refused .nil pass0 (pa_cons pe_int (pa_cons (pv 0) (pa_cons (pv 1) (pa_cons (pv 7) pa_nil))))) (pe_op op_mulU (pe_lst (pa_cons pe_bl pa_nil)) pe_int) (nomark _)) (pss_one (ps_ret pe_bl)) pss_nil)
    (pss_one (ps_if (pt_cmpR (kx_ne (K := K) rfl hr.units) (pe_call (G_law_refused T Z) (hr.mono (by decide)) rfl T.g_law_refused T.k_law_refused Z.b_law_refused .nil pass0 (pa_cons pe_int (pa_cons (pv 0) (pa_cons (pv 1) (pa_cons (pe_op op_addU (pv 7) (pe_slice (kx_sl (K := K) rfl) (pv 3) po_none (po_some pe_int))) pa_nil))))) (pe_lst (pa_cons pe_str (pa_cons (pe_tup (pa_cons pe_str pa_nil)) pa_nil))) (nomark _)) (pss_one (ps_ret pe_bl)) pss_nil)))))
    (pss_one (ps_ret pe_bl))))))))), ?_⟩)
  refine pure_body (by decide) (fun O ds hl hp => ?_) h
  match ds, hl with
  | [a, q, g], _ =>
  obtain ⟨n, rs, ps, ws, ha, hq, hg, hT, hok, hne⟩ := hp
  obtain rfl : a = townD n rs := ha
  obtain rfl : q = standD ps ws := hq
  obtain rfl : g = .list ((ws.map (·.1)).map PyData.str) := hg
  show DS O _ [.d (townD n rs), .d (standD ps ws), .d (.list ((ws.map (·.1)).map PyData.str)), .no, .no, .no, .no, .no, .no] _ (fun d => d = .bool true)
  have hnl : (ws.map (·.1)).length ≤ 4 := by rw [List.length_map]; exact hok.wl
  have hns := names_ok hok
  obtain ⟨z, hz0, hzm, h1⟩ : ∃ z, (ws.map (·.1))[0]? = some z ∧ z ∈ ws.map (·.1) ∧ (ws.map (·.1)).take 1 = [z] := by
    cases ws with
    | nil => exact absurd rfl hne
    | cons x ws => exact ⟨x.1, rfl, by simp, by simp⟩
  have hln : 1 ≤ (ws.map (·.1)).length := by
    refine Nat.one_le_iff_ne_zero.mpr fun e => ?_
    rw [List.length_eq_zero_iff.mp e] at hzm
    cases hzm
  have rowR : ∀ {S : List Str} {m : Nat}, (∀ x ∈ S, x ∈ ws.map (·.1)) → S.length + m ≤ 4000 → RowOk ws (stepsR S m z) := fun hS hl => ⟨by rw [stepsR_len]; exact hl, fun r hr => by
    rcases List.mem_append.mp hr with h | h
    · obtain ⟨x, hx, rfl⟩ := List.mem_map.mp h
      exact hS x hx
    · obtain ⟨_, rfl⟩ := List.mem_replicate.mp h
      exact hzm⟩
  have rep : ∀ m : Nat, List.replicate m (true, z) = stepsR [] m z := fun m => rfl
  have bl1 : ∀ m : Nat, 1 ≤ m → backLen ws (stepsR [] m z) = m + 2 := fun m hm => by
    rw [back_j hok (j := 1) hln fun nm => ?_, stepsR_len]
    · simp
    · rw [steps_of, h1]
      refine decide_eq_decide.mpr ?_
      simp
      omega
  have mem0 : ∀ x ∈ ([] : List Str), x ∈ ws.map (·.1) := fun x h => by cases h
  have w0 : ∀ {row : List (Bool × Str)}, RowOk ws row → askR (askW 0 ws (rowD row)) = bools3 false false false := fun h => by rw [askW0, wRow_ok hok h]; rfl
  have w1 : ∀ {row : List (Bool × Str)}, RowOk ws row → askR (askW 1 ws (rowD row)) = bools3 false false false := fun h => by rw [askW1, wRow_ok hok h]; rfl
  have w2 : ∀ {row : List (Bool × Str)}, RowOk ws row → backLen ws row ≤ 4000 → askR (askW 2 ws (rowD row)) = bools3 false false false := fun h hb => by
    rw [askW2, wBack_is hok h, if_neg (by omega)]; rfl
  have w2r : ∀ {row : List (Bool × Str)}, RowOk ws row → 4000 < backLen ws row → askR (askW 2 ws (rowD row)) = rowRow := fun h hb => by
    rw [askW2, wBack_is hok h, if_pos hb]; rfl
  have shr : ∀ {row : List (Bool × Str)}, RowOk ws row → ShL (rowD row) := fun h => rowD_sh hns h.2
  have hsx := short_stand hok
  have st4 : RowOk ws (stepsR [] 4000 z) := rowR mem0 (by simp)
  have hl0 : 0 < ((ws.map (·.1)).map PyData.str).length := by rw [List.length_map]; exact hln
  refine ds_seq (N1 := fun δ => δ = [.d (townD n rs), .d (standD ps ws), .d (.list ((ws.map (·.1)).map PyData.str)), .d (rowD (stepsR [] 4000 z)), .no, .no, .no, .no, .no]) (ds_asg (i := 3) (ep_is (ep_op (ep_lst (ds := [deD (true, z)]) (ap_cons (ep_tup (ap_cons ep_str (ap_cons (ep_op (ep_var (i := 2) rfl) ep_int (rp_ix1 (rp_ixL (j := 0) (ixN_nat hl0) (by rw [List.getElem?_map, hz0]; rfl)))) ap_nil)) (by simp)) ap_nil) (by simp)) ep_int (rp_r (rp_rep (k := 4000) (by decide) (by simp) (by decide)))) (rowD_rep 4000 (true, z))) rfl) ?_
  rintro _ rfl
  refine ds_seq (N1 := fun δ => δ = [.d (townD n rs), .d (standD ps ws), .d (.list ((ws.map (·.1)).map PyData.str)), .d (rowD (stepsR [] 4000 z)), .d (.list [bools3 false false false, bools3 false false false, rowRow]), .no, .no, .no, .no])
    (ds_asg (i := 4) (ep_is (ep_lc (n := 3) (ix := [5]) (vs := [5]) (item := fun i => .int (i : Int)) (f := fun i => some ([bools3 false false false, bools3 false false false, rowRow].getD i .none)) (fun O' => wp_rng1 (n := 3) (ap_cons ep_int ap_nil) (by decide)) (by decide) (by decide) fun O' i hi => ⟨_, gb_name, fun σ H hD hS Q k => k H (Ex.refl H), fun u hu => ?_⟩) rfl) rfl) ?_
  · cases hu
    refine ep_ref (w := i) (by omega) hsx (shr st4) (res_row hT hok ?_) (ap_cons (ep_var (i := 5) rfl) (ap_cons (ep_var (i := 0) rfl) (ap_cons (ep_var (i := 1) rfl) (ap_cons (ep_var (i := 3) rfl) ap_nil))))
    have h3 : i = 0 ∨ i = 1 ∨ i = 2 := by omega
    rcases h3 with rfl | rfl | rfl
    · exact w0 st4
    · exact w1 st4
    · exact w2r st4 (by rw [bl1 4000 (by decide)]; decide)
  rintro _ rfl
  refine ds_seq (N1 := fun δ => δ = [.d (townD n rs), .d (standD ps ws), .d (.list ((ws.map (·.1)).map PyData.str)), .d (rowD (stepsR [] 4000 z)), .d (.list [bools3 false false false, bools3 false false false, rowRow]), .no, .no, .no, .no])
    (ds_pass (tp_test (ep_op (ep_var (i := 4) rfl) (ep_lst (ap_cons ep_fff (ap_cons ep_fff (ap_cons ep_rowRow ap_nil))) (by simp)) (sh_ne sh_seen))) rfl) ?_
  rintro _ rfl
  have ar : ∀ {O : List Addr} {δ : List Sl}, δ.getD 0 .no = .d (townD n rs) → δ.getD 1 .no = .d (standD ps ws) → δ.getD 3 .no = .d (rowD (stepsR [] 4000 z)) → Cp.AP O (tCons (tVar 0) (tCons (tVar 1) (tCons (tVar 3) tNil))) δ [townD n rs, standD ps ws, rowD (stepsR [] 4000 z)] := fun h0 h1 h3 => ap_cons (ep_var h0) (ap_cons (ep_var h1) (ap_cons (ep_var h3) ap_nil))
  have hsw : Sh (standD (walkE rs ⟨ps, ws, []⟩ (stepsR [] 4000 z)).ps (walkE rs ⟨ps, ws, []⟩ (stepsR [] 4000 z)).ws) := by
    obtain ⟨w1, _, _, _⟩ := walk_ok hT (stepsR [] 4000 z) ⟨ps, ws, []⟩ hok st4.2 (fun e he => by cases he)
    exact (bn_stand w1 hT).sh (by decide)
  refine ds_seq (N1 := fun δ => δ = [.d (townD n rs), .d (standD ps ws), .d (.list ((ws.map (·.1)).map PyData.str)), .d (rowD (stepsR [] 4000 z)), .d (.list [bools3 false false false, bools3 false false false, rowRow]), .no, .no, .no, .no])
    (ds_pass (tp_test (ep_op (ep_ledG hT hok st4 (ar rfl rfl rfl)) (ep_lwalked hT hok st4 (ar rfl rfl rfl)) (sh_ne hsw))) rfl) ?_
  rintro _ rfl
  have tk : ∀ {O : List Addr} {δ : List Sl} {to : TO} {k : Int} (m : Nat), k = m → m ≤ 4000 → OD O to δ (some k) → δ.getD 3 .no = .d (rowD (stepsR [] 4000 z)) → Cp.EP O (tSl (rSlL K) (tVar 3) tNoPart to) δ (rowD (stepsR [] m z)) := fun m hk hm ho h3 => by
    subst hk
    refine ep_is (ep_sl (ep_var (x := .list ((stepsR [] 4000 z).map deD)) h3) od_none ho) ?_
    rw [take_row (by omega), Int.toNat_natCast, ← rep, ← rep, List.take_replicate, Nat.min_eq_left hm]
  have rf : ∀ {O : List Addr} {δ : List Sl} {te : TE} {row : List (Bool × Str)} {E : XK} {r : PyData}, RowOk ws row → askR (askW 2 ws (rowD row)) = r → δ.getD 0 .no = .d (townD n rs) → δ.getD 1 .no = .d (standD ps ws) → Cp.EP O te δ (rowD row) → Cp.EP O (tCall spRefR [] E (tCons (tC (.int 2)) (tCons (tVar 0) (tCons (tVar 1) (tCons te tNil))))) δ r := fun hr he h0 h1 h3 =>
    ep_ref (w := 2) (by decide) hsx (shr hr) (res_row hT hok he) (ap_cons ep_int (ap_cons (ep_var h0) (ap_cons (ep_var h1) (ap_cons h3 ap_nil))))
  have r98 : RowOk ws (stepsR [] 3998 z) := rowR mem0 (by simp)
  have r99 : RowOk ws (stepsR [] 3999 z) := rowR mem0 (by simp)
  refine ds_seq (N1 := fun δ => δ = [.d (townD n rs), .d (standD ps ws), .d (.list ((ws.map (·.1)).map PyData.str)), .d (rowD (stepsR [] 4000 z)), .d (.list [bools3 false false false, bools3 false false false, rowRow]), .no, .no, .no, .no])
    (ds_pass (tp_test (ep_op (rf r98 (w2 r98 (by rw [bl1 3998 (by decide)]; decide)) rfl rfl (tk 3998 rfl (by decide) (od_some ep_int) rfl)) ep_fff (sh_ne sh_fff))) rfl) ?_
  rintro _ rfl
  refine ds_seq (N1 := fun δ => δ = [.d (townD n rs), .d (standD ps ws), .d (.list ((ws.map (·.1)).map PyData.str)), .d (rowD (stepsR [] 4000 z)), .d (.list [bools3 false false false, bools3 false false false, rowRow]), .no, .no, .no, .no])
    (ds_pass (tp_test (ep_op (rf r99 (w2r r99 (by rw [bl1 3999 (by decide)]; decide)) rfl rfl (tk 3999 rfl (by decide) (od_some ep_int) rfl)) ep_rowRow (sh_ne sh_rowRow))) rfl) ?_
  rintro _ rfl
  have hlen : ((ws.map (·.1)).map PyData.str).length = (ws.map (·.1)).length := List.length_map ..
  refine ds_seq (N1 := fun _ => True) (ds_for (ix := [6]) (wp_rng2 (lo := 1) (n := ((ws.map (·.1)).length : Int) + 1) (ap_cons ep_int (ap_cons (ep_op (ep_is (ep_len (ep_var (i := 2) rfl) (Or.inl ⟨_, rfl, rfl⟩)) (by rw [hlen])) ep_int (rp_l (rp_int (g := fun i j => i + j)))) ap_nil)) (by omega)) (fun i δ => ∃ s6 s7, δ = [.d (townD n rs), .d (standD ps ws), .d (.list ((ws.map (·.1)).map PyData.str)), .d (rowD (stepsR [] 4000 z)), .d (.list [bools3 false false false, bools3 false false false, rowRow]), .no, s6, s7, .no]) ⟨_, _, rfl⟩ (fun i δ1 hi hI => ?_) fun _ _ => trivial) fun _ _ => ds_ret ep_bl rfl
  obtain ⟨s6, s7, rfl⟩ := hI
  have hi : i + 1 ≤ (ws.map (·.1)).length := by omega
  have hji : (1 : Int) + (i : Int) = ((i + 1 : Nat) : Int) := by omega
  rw [hji]
  clear hji
  generalize hj : i + 1 = j at hi
  have hj1 : 1 ≤ j := by omega
  obtain ⟨S, hS⟩ : ∃ S, (ws.map (·.1)).take j = S := ⟨_, rfl⟩
  have hSl : S.length = j := by rw [← hS, List.length_take]; omega
  have hSm : ∀ x ∈ S, x ∈ ws.map (·.1) := fun x hx => by rw [← hS] at hx; exact List.mem_of_mem_take hx
  have hzS : z ∈ S := by
    rw [← hS]
    have : z ∈ (ws.map (·.1)).take 1 := by rw [h1]; simp
    exact List.mem_of_mem_take (i := 1) (by rw [List.take_take, Nat.min_eq_left hj1]; exact this)
  have ok : ∀ m, m + j ≤ 4000 → RowOk ws (stepsR S m z) := fun m hm => rowR hSm (by rw [hSl]; omega)
  have bl : ∀ m, backLen ws (stepsR S m z) = j + m + 2 * j := fun m => by
    rw [back_j hok (j := j) hi fun nm => ?_, stepsR_len, hSl]
    rw [steps_of, hS]
    refine decide_eq_decide.mpr ⟨fun h => ?_, Or.inl⟩
    rcases h with h | ⟨_, rfl⟩
    · exact h
    · exact hzS
  refine ⟨_, gb_name, ds_seq (N1 := fun δ => δ = [.d (townD n rs), .d (standD ps ws), .d (.list ((ws.map (·.1)).map PyData.str)), .d (rowD (stepsR [] 4000 z)), .d (.list [bools3 false false false, bools3 false false false, rowRow]), .no, .d (.int (j : Int)), .d (rowD (stepsR S (4000 - 3 * j) z)), .no])
    (ds_asg (i := 7) (ep_is (ep_op (ep_is (ep_lc (n := S.length) (ix := [8]) (vs := [8]) (item := fun m => (S.map PyData.str).getD m .none) (f := fun m => some (deD (true, S.getD m ""))) (fun O' => ?_) (by omega) (by decide) fun O' m hm => ?_) ?_) (tk (4000 - 3 * j) (k := 4000 - 3 * (j : Int)) (by omega) (by omega) (od_some (ep_op ep_int (ep_op ep_int (ep_var (i := 6) rfl) (rp_l (rp_intC (g := fun i j => i * j) (cmul (a := 2) (b := 5) (by decide) (by omega))))) (rp_int (g := fun i j => i - j)))) rfl) (rp_r (rp_cat (ds := S.map fun nm => deD (true, nm)) (es := (stepsR [] (4000 - 3 * j) z).map deD) (by rw [List.length_map, List.length_map, stepsR_len]; simp; omega)))) ?_) rfl) ?_⟩
  · rw [show S.length = (S.map PyData.str).length by rw [List.length_map]]
    refine wp_list (ep_is (ep_sl (ep_var (i := 2) rfl) od_none (od_some (ep_var (i := 6) rfl))) ?_)
    rw [cut_take (by omega), Int.toNat_natCast, ← List.map_take, hS]
  · have e : (S.map PyData.str).getD m .none = .str (S.getD m "") := by
      rw [List.getD_eq_getElem?_getD, List.getElem?_map, List.getElem?_eq_getElem hm, List.getD_eq_getElem?_getD, List.getElem?_eq_getElem hm]
      rfl
    rw [e]
    exact ⟨_, gb_name, fun σ H hD hS Q k => k H (Ex.refl H), fun y hy => by
      cases hy
      exact ep_tup (ds := [.str "step", .str (S.getD m "")]) (ap_cons ep_str (ap_cons (ep_var (i := 8) rfl) ap_nil)) (by simp)⟩
  · rw [fm_gen S "" fun x => some (deD (true, x))]
    rw [fm_some]
  · have e2 : (S.map fun nm => deD (true, nm)) = (S.map fun nm => ((true, nm) : Bool × Str)).map deD := by rw [List.map_map]; rfl
    unfold rowD stepsR
    rw [e2, ← List.map_append, List.map_nil, List.nil_append]
  rintro _ rfl
  refine ds_seq (N1 := fun δ => δ = [.d (townD n rs), .d (standD ps ws), .d (.list ((ws.map (·.1)).map PyData.str)), .d (rowD (stepsR [] 4000 z)), .d (.list [bools3 false false false, bools3 false false false, rowRow]), .no, .d (.int (j : Int)), .d (rowD (stepsR S (4000 - 3 * j) z)), .no])
    (ds_pass (tp_test (ep_op (rf (ok _ (by omega)) (w2 (ok _ (by omega)) (by rw [bl]; omega)) rfl rfl (ep_var (i := 7) rfl)) ep_fff (sh_ne sh_fff))) rfl) ?_
  rintro _ rfl
  have e1 : PyData.list ((stepsR S (4000 - 3 * j) z).map deD ++ (stepsR [] 1 z).map deD) = rowD (stepsR S (4000 - 3 * j + 1) z) := by
    unfold rowD stepsR
    rw [← List.map_append, List.map_nil, List.nil_append, List.append_assoc, List.replicate_append_replicate]
  exact ds_pass (tp_test (ep_op (rf (ok (4000 - 3 * j + 1) (by omega)) (w2r (ok _ (by omega)) (by rw [bl]; omega)) rfl rfl (ep_is (ep_op (ep_var (i := 7) rfl) (tk 1 (k := 1) rfl (by decide) (od_some ep_int) rfl) (rp_r (rp_cat (ds := (stepsR S (4000 - 3 * j) z).map deD) (es := (stepsR [] 1 z).map deD) (by rw [List.length_map, List.length_map, stepsR_len, stepsR_len]; simp; omega)))) e1)) ep_rowRow (sh_ne sh_rowRow))) ⟨_, _, rfl⟩
end
end K04
namespace K04
open PySem L2 PySem.Spec PyProof.Rows Cp
open Evl (Ex)
section
variable {w : World} {K : PySem.W.Frag} {mg : Str → Option Value} {base : Heap} {A : Ad}
def spLaw (K : PySem.W.Frag) : Sp := fun vs H Q _ => ∃ (a : Addr) (ns : List Int), vs = [.ref a] ∧ SqL K H a (ns.map V.int) ∧ ns.length ≤ 63 ∧ ∀ H', Q (.bl true) H'
theorem no_town {m : Int} {l : List PyData} (h : ¬ (1 ≤ m ∧ m ≤ 8) ∨ l.length = 0) : townWrong (.tuple [.int m, .list l]) ≠ .none := by
  show tw2 (.int m) (.list l) ≠ .none
  unfold tw2
  by_cases c : 1 ≤ m ∧ m ≤ 8
  · rcases h with h | h
    · exact absurd c h
    · simp only [if_pos c]
      show (if 1 ≤ l.length ∧ l.length ≤ 16 then roadsWrong l m else PyData.tuple [PyData.str (Str.ofString "roads")]) ≠ .none
      rw [if_neg (by omega)]
      exact fun z => by cases z
  · simp only [if_neg c]
    exact fun z => by cases z
theorem wRow_cases (ws : List (Str × (Nat × Nat))) (y : PyData) : wRow ws y = .none ∨ wRow ws y = .tuple [.str (Str.ofString "row")] ∨ ∃ j : Int, wRow ws y = .tuple [.str (Str.ofString "deed"), .int j] := by
  unfold wRow rowWrong
  split
  · split
    · exact .inr (.inl rfl)
    · split
      · exact .inr (.inr ⟨_, rfl⟩)
      · exact .inl rfl
  · exact .inr (.inl rfl)
theorem a1_wRow (ws : List (Str × (Nat × Nat))) (y : PyData) : A1 (wRow ws y) := by
  rcases wRow_cases ws y with e | e | ⟨j, e⟩
  · rw [e]; exact a_none
  · rw [e]; exact ⟨by decide +kernel, by simp [PyData.depth, PyData.depthAll]⟩
  · rw [e]
    refine ⟨?_, by simp [PyData.depth, PyData.depthAll]⟩
    simp only [PyData.canLay0, PyData.canLayAll0]
    decide +kernel
theorem sh_wRow (ws : List (Str × (Nat × Nat))) (y : PyData) : Sh (wRow ws y) := ⟨(a1_wRow ws y).1, Nat.le_trans (a1_wRow ws y).2 (by decide)⟩
/-- what the law wants behind its two questions -/
def wantR (m : Nat) (r : PyData) : PyData := if (!isNoneB r && decide (m < 3)) = true then .list [.str (Str.ofString "row"), r] else bools3 false false false
theorem sh_want (m : Nat) (ws : List (Str × (Nat × Nat))) (y : PyData) : Sh (wantR m (wRow ws y)) := by
  unfold wantR
  split
  · exact a_lst (a_cons a_str (a_cons (a1_wRow ws y) a_nil))
  · exact sh_fff
theorem want_is {n : Int} {rs : List (Int × Int)} {ps : List (Nat × Nat)} {ws : List (Str × (Nat × Nat))} {y : PyData} {m : Nat} (hok : StandOk n rs ps ws) (hm : m < 4) (hl : okLen y) : askR (askW m ws y) = wantR m (wRow ws y) := by
  have h4 : m = 0 ∨ m = 1 ∨ m = 2 ∨ m = 3 := by omega
  have base : ∀ m, m < 3 → askR (wRow ws y) = wantR m (wRow ws y) := fun m h => by
    unfold askR wantR
    rw [decide_eq_true h, Bool.and_true]
    cases isNoneB (wRow ws y) <;> rfl
  rcases h4 with rfl | rfl | rfl | rfl
  · rw [askW0]; exact base 0 (by decide)
  · rw [askW1]; exact base 1 (by decide)
  · rw [askW2]
    have e : wBack ws y = wRow ws y := by
      unfold wBack
      by_cases c : isNoneB (wRow ws y) = true
      · rw [if_pos c]
        have c := none_of c
        rw [c]
        obtain ⟨row, rfl, hrow⟩ := row_of c
        rw [rowOf_is, if_neg ?_]
        have := hrow.1
        rcases hl row rfl with h | h
        · have := (steppers_ok (row := row) hok).2.2.1
          unfold backLen
          omega
        · have e : steppers ws row = [] := by
            unfold steppers
            refine List.filter_eq_nil_iff.mpr fun x _ => ?_
            unfold stepsIn
            rw [Bool.not_eq_true, List.any_eq_false]
            intro r hr
            rw [h r hr]
            simp
          unfold backLen
          rw [e]
          simp
          omega
      · rw [if_neg c]
    rw [e]
    exact base 2 (by decide)
  · rw [askW3]
    unfold wantR
    rw [decide_eq_false (by decide), Bool.and_false]
    rfl
section
variable {O : List Addr} {δ : List Sl} {te tx : TE} {ta : TA} {E : XK} {n : Int} {rs : List (Int × Int)} {ps : List (Nat × Nat)} {ws : List (Str × (Nat × Nat))} {y : PyData}
theorem ep_dueK (h : Cp.EP O te δ (standD ps ws)) (hx : Cp.EP O tx δ y) (hw : isWs (standD ps ws)) (hy : ShL y) :
    Cp.EP O (tCall (spP 2 (fun ds => isWs (ds.getD 0 .none) ∧ ShL (ds.getD 1 .none)) fun ds => rowWrong (namesW (ds.getD 0 .none)) (ds.getD 1 .none)) [] E (tCons te (tCons tx tNil))) δ (wRow ws y) := ep_findR h hx hw hy
theorem ep_rowW {CT CS : Addr} (hT : TownOk n rs) (hok : StandOk n rs ps ws) (hy : ShL y) (h : Cp.AP O ta δ [townD n rs, standD ps ws, y]) : Cp.EP O (tCall (spRowG CT CS) [] E ta) δ (wRow ws y) := fun σ H hD hS Q k => h σ H hD hS _ fun vs H1 e1 hv =>
  ⟨O, townD n rs, standD ps ws, y, hD.ex e1, by rw [List.append_nil]; exact hv, short_stand hok, hy, fun hz => absurd (townWrong_ok hT) hz, fun n' rs' hd hT' => by
    obtain ⟨rfl, rfl⟩ := townD_inj hd
    exact ⟨fun hz => absurd (stand_ok hok hT) hz, fun _ => ⟨ps, ws, rfl, ws_of hok, fun v H' e' hv' => k v H' (e1.trans e') hv'⟩⟩⟩
end
theorem bare_cut {n : Int} {rs : List (Int × Int)} {ps : List (Nat × Nat)} {ws : List (Str × (Nat × Nat))} (h : StandOk n rs ps ws) (hT : TownOk n rs) : standingWrong n rs (.tuple [.list (Cp.cutD (ps.map enD) (some 1) none), .list []]) ≠ .none := by
  have hl : ((Cp.cutD (ps.map enD) (some 1) none).length : Int) ≠ n := by
    have h1 := hT.n1
    have h2 := h.pl
    have e : Cp.cutD (ps.map enD) (some 1) none = (ps.map enD).drop 1 := by
      unfold Cp.cutD
      have e : HT.sIx (ps.map enD).length 0 (some 1) = min 1 (ps.map enD).length := HT.sIx_nat (ps.map enD).length 0 1
      rw [e, List.length_map, Nat.min_eq_left (by omega)]
      show ((ps.map enD).drop 1).take (ps.length - 1) = _
      rw [List.take_of_length_le (by rw [List.length_drop, List.length_map]; exact Nat.le_refl _)]
    rw [e, List.length_drop, List.length_map]
    omega
  have e : postsWrong n rs (Cp.cutD (ps.map enD) (some 1) none) = .tuple [.str "posts"] := by
    unfold postsWrong
    rw [if_pos hl]
  show (if isNoneB (postsWrong n rs (Cp.cutD (ps.map enD) (some 1) none)) = true then _ else postsWrong n rs (Cp.cutD (ps.map enD) (some 1) none)) ≠ .none
  rw [e]
  exact fun z => by cases z
theorem G_law (T : Txt K mg A) (Z : Fns K A) : GOk prg w K mg base CX0 13 A.a_law Z.fd_law ["script"] (spLaw K) := by
  refine Fun.okG Z.F_law sc_law (fun vs H Q E h => by obtain ⟨a, ns, rfl, _⟩ := h; rfl) (fun cdv Ar outer s H vs Q E hgd hr h => ⟨_, (pss_cons (ps_set (i := 1) sc_law.nd rfl (by first | exact Or.inl rfl | exact Or.inr rfl) (pe_call (G_law_purse T Z) (hr.mono (by decide)) rfl T.g_law_purse T.k_law_purse Z.b_law_purse .nil pass0 (pa_cons (pv 0) pa_nil)))
    (pss_cons (ps_for PassesOwn.never rfl (pi_range1 rfl T.n_range (pa_cons pe_int pa_nil)) (pg_name (i := 2) sc_law.nd rfl (by first | exact Or.inl rfl | exact Or.inr rfl)) (pss_cons (ps_set (i := 3) sc_law.nd rfl (by first | exact Or.inl rfl | exact Or.inr rfl) (pe_call (G_law_town T Z) (hr.mono (by decide)) rfl T.g_law_town T.k_law_town Z.b_law_town .nil pass0 (pa_cons (pv 1) (pa_cons pe_int pa_nil))))
    (pss_cons (ps_set (i := 4) sc_law.nd rfl (by first | exact Or.inl rfl | exact Or.inr rfl) (pe_call (G_law_standing T Z) (hr.mono (by decide)) rfl T.g_law_standing T.k_law_standing Z.b_law_standing .nil pass0 (pa_cons (pv 1) (pa_cons (pv 3) (pa_cons pe_int pa_nil)))))
    (pss_cons (ps_setLc (i := 5) (own := [("name", 6), ("end", 7)]) rfl sc_law.nd rfl rfl (sw_true rfl rfl rfl (by decide +kernel)) (kx_list (K := K) rfl (pe_ix (kx_ix (K := K) rfl) (pv 4) pe_int (fun _ _ => rfl))) (blkOk_by (own := [("name", 6), ("end", 7)]) (N := ["script", "purse", "time", "town", "standing", "names_here", "name", "end", "row", "thing", "due", "none", "bare", "way_here", "seen", "wanted_here"]) (sc := defScope s_law) (by decide +kernel)) (fun _ _ _ _ _ => (kx_gtup (K := K) (n := 2) rfl rfl (pgs_cons (pg_name (i := 6) sc_law.nd rfl (by first | exact Or.inl rfl | exact Or.inr rfl)) (pgs_cons (pg_name (i := 7) sc_law.nd rfl (by first | exact Or.inl rfl | exact Or.inr rfl)) pgs_nil)))) (fun _ _ _ _ _ => pts_nil) (fun _ _ _ _ _ => (pv 6)))
    (pss_cons (ps_set (i := 8) sc_law.nd rfl (by first | exact Or.inl rfl | exact Or.inr rfl) (pe_call (G_law_row T Z) (hr.mono (by decide)) rfl T.g_law_row T.k_law_row Z.b_law_row .nil pass0 (pa_cons (pv 1) (pa_cons (pv 5) (pa_cons pe_int pa_nil)))))
    (pss_cons (ps_for PassesOwn.never rfl (kx_list (K := K) rfl (pe_lst (pa_cons (pv 8) (pa_cons (pe_call (G_law_bent T Z) (hr.mono (by decide)) rfl T.g_law_bent T.k_law_bent Z.b_law_bent .nil pass0 (pa_cons (pv 1) (pa_cons (pv 8) (pa_cons (pv 5) pa_nil)))) (pa_cons (pe_call (G_law_bent T Z) (hr.mono (by decide)) rfl T.g_law_bent T.k_law_bent Z.b_law_bent .nil pass0 (pa_cons (pv 1) (pa_cons (pv 8) (pa_cons (pv 5) pa_nil)))) pa_nil))))) (pg_name (i := 9) sc_law.nd rfl (by first | exact Or.inl rfl | exact Or.inr rfl)) (pss_cons (ps_set (i := 10) sc_law.nd rfl (by first | exact Or.inl rfl | exact Or.inr rfl) (pe_call (G_law_due T Z) (hr.mono (by decide)) rfl T.g_law_due T.k_law_due Z.b_law_due .nil pass0 (pa_cons (pv 4) (pa_cons (pv 9) pa_nil))))
    (pss_cons (ps_if (pt_cmpR (kx_ne (K := K) rfl hr.units) (pe_call (E := E0) (G_row_wrong T Z) (hr.mono (by decide)) rfl T.g_row_wrong T.k_row_wrong Z.b_row_wrong .nil passL (pa_cons (pv 3) (pa_cons (pv 4) (pa_cons (pv 9) pa_nil)))) (pv 10) (nomark _)) (pss_one (ps_ret pe_bl)) pss_nil)
    (pss_cons (ps_set (i := 11) sc_law.nd rfl (by first | exact Or.inl rfl | exact Or.inr rfl) (pe_call (G_law_pick T Z) (hr.mono (by decide)) rfl T.g_law_pick T.k_law_pick Z.b_law_pick .nil pass0 (pa_cons (pv 1) (pa_cons (pe_lst (pa_cons pe_non (pa_cons (pe_tup (pa_cons pe_int (pa_cons (pe_lst pa_nil) pa_nil))) (pa_cons (pe_callTy (kx_listOf (K := K) rfl) (by rfl) T.n_list (by decide +kernel) (pa_cons (pv 3) pa_nil)) (pa_cons (pe_tup (pa_cons (pe_ix (kx_ix (K := K) rfl) (pv 3) pe_int (fun _ _ => rfl)) (pa_cons (pe_lst pa_nil) pa_nil))) pa_nil))))) pa_nil))))
    (pss_cons (ps_set (i := 12) sc_law.nd rfl (by first | exact Or.inl rfl | exact Or.inr rfl) (pe_call (G_law_pick T Z) (hr.mono (by decide)) rfl T.g_law_pick T.k_law_pick Z.b_law_pick .nil pass0 (pa_cons (pv 1) (pa_cons (pe_lst (pa_cons pe_non (pa_cons (pe_tup (pa_cons (pe_ix (kx_ix (K := K) rfl) (pv 4) pe_int (fun _ _ => rfl)) (pa_cons pe_non pa_nil))) (pa_cons (pe_tup (pa_cons (pe_slice (kx_sl (K := K) rfl) (pe_ix (kx_ix (K := K) rfl) (pv 4) pe_int (fun _ _ => rfl)) (po_some pe_int) po_none) (pa_cons (pe_lst pa_nil) pa_nil))) (pa_cons (pe_callTy (kx_listOf (K := K) rfl) (by rfl) T.n_list (by decide +kernel) (pa_cons (pv 4) pa_nil)) pa_nil))))) pa_nil))))
    (pss_one (ps_for PassesOwn.never rfl (pi_range1 rfl T.n_range (pa_cons pe_int pa_nil)) (pg_name (i := 13) sc_law.nd rfl (by first | exact Or.inl rfl | exact Or.inr rfl)) (pss_cons (ps_set (i := 14) sc_law.nd rfl (by first | exact Or.inl rfl | exact Or.inr rfl) (pe_lst (pa_cons (pe_call (G_law_refused T Z) (hr.mono (by decide)) rfl T.g_law_refused T.k_law_refused Z.b_law_refused .nil pass0 (pa_cons (pv 13) (pa_cons (pv 11) (pa_cons (pv 12) (pa_cons (pv 9) pa_nil))))) (pa_cons (pe_call (G_law_refused T Z) (hr.mono (by decide)) rfl T.g_law_refused T.k_law_refused Z.b_law_refused .nil pass0 (pa_cons (pv 13) (pa_cons (pv 3) (pa_cons (pv 12) (pa_cons (pv 9) pa_nil))))) pa_nil))))
    (pss_cons (ps_if (pt_cmpR (kx_ne (K := K) rfl hr.units) (pv 14) (pe_lst (pa_cons (pe_lst (pa_cons pe_bl (pa_cons pe_bl (pa_cons pe_bl pa_nil)))) (pa_cons (pe_lst (pa_cons pe_bl (pa_cons pe_bl (pa_cons pe_bl pa_nil)))) pa_nil))) (nomark _)) (pss_one (ps_ret pe_bl)) pss_nil)
    (pss_cons (ps_set (i := 15) sc_law.nd rfl (by first | exact Or.inl rfl | exact Or.inr rfl) (pe_op op_mulU (pe_lst (pa_cons pe_bl pa_nil)) pe_int))
    (pss_cons (ps_if (PW.pt (pw_and (pt_cmpR op_notN (pv 10) pe_non (nomark _)) (pw_and1 (pt_cmpR op_lt (pv 13) pe_int (nomark _))))) (pss_one (ps_set (i := 15) sc_law.nd rfl (by first | exact Or.inl rfl | exact Or.inr rfl) (pe_lst (pa_cons pe_str (pa_cons (pv 10) pa_nil))))) pss_nil)
    (pss_one (ps_if (pt_cmpR (kx_ne (K := K) rfl hr.units) (pe_call (G_law_refused T Z) (hr.mono (by decide)) rfl T.g_law_refused T.k_law_refused Z.b_law_refused .nil pass0 (pa_cons (pv 13) (pa_cons (pv 3) (pa_cons (pv 4) (pa_cons (pv 9) pa_nil))))) (pv 15) (nomark _)) (pss_one (ps_ret pe_bl)) pss_nil)))))))))))))
    (pss_one (ps_if (PW.pt (pw_and (pt_cmpR (kx_ne (K := K) rfl hr.units) (pv 5) (pe_lst pa_nil) (nomark _)) (pw_and1 (pt_not (pt_val (pe_call (G_law_bounds T Z) (hr.mono (by decide)) rfl T.g_law_bounds T.k_law_bounds Z.b_law_bounds .nil pass0 (pa_cons (pv 3) (pa_cons (pv 4) (pa_cons (pv 5) pa_nil))))))))) (pss_one (ps_ret pe_bl)) pss_nil))))))))
    (pss_one (ps_ret (pe_cmpR (kx_eq (K := K) rfl hr.units) (pe_glob (v := .int 4000) rfl T.c_MOST_DEEDS.choose_spec ⟨_, rfl⟩) pe_int (nomark _)))))), ?_⟩)
  obtain ⟨a, ns, rfl, hSq, h63, k⟩ := h
  refine ha_seq ⟨.ref a, rfl, a, ns, rfl, hSq, h63, fun p c H1 hp hc e1 pu => ?_⟩
  dsimp only [gName]
  have hD : Dom [p, c] H1 := pu.dom
  have V : Keep [p, c] p c (fun _ => True) := keep0
  have s1 : SD (hid [p, c] H1) [.no, .at p, .no, .no, .no, .no, .no, .no, .no, .no, .no, .no, .no, .no, .no, .no] ((L2.start ["script", "purse", "time", "town", "standing", "names_here", "name", "end", "row", "thing", "due", "none", "bare", "way_here", "seen", "wanted_here"] [L2.V.ref a]).set 1 (some (.ref p))) :=
    sd_cons trivial (sd_cons rfl (sd_cons trivial (sd_cons trivial (sd_cons trivial (sd_cons trivial (sd_cons trivial (sd_cons trivial (sd_cons trivial (sd_cons trivial (sd_cons trivial (sd_cons trivial (sd_cons trivial (sd_cons trivial (sd_cons trivial (sd_cons trivial sd_nil)))))))))))))))
  refine dm_run (O := [p, c]) (J := PJ p c (fun _ => True) 0) (δ := [.no, .at p, .no, .no, .no, .no, .no, .no, .no, .no, .no, .no, .no, .no, .no, .no]) (N := fun _ _ => False) (R := fun v _ => v = .bl true) ?_ ⟨pu, trivial⟩ hD s1 (fun _ _ _ z => z.elim) fun v H' r _ _ => by rw [r]; exact k H'
  refine dm_seq (N1 := fun δ H => True ∧ PJ p c (fun _ => True) 2000 H) (dm_for (ix := [2]) (wp_rng1 (n := 4) (ap_cons ep_int ap_nil) (by decide)) V.jok (fun i δ H => (∃ s2 s3 s4 s5 s8 s9 s10 s11 s12 s13 s14 s15, δ = [.no, .at p, s2, s3, s4, s5, .no, .no, s8, s9, s10, s11, s12, s13, s14, s15]) ∧ PJ p c (fun _ => True) (500 * i) H) (fun H h => ⟨⟨_, _, _, _, _, _, _, _, _, _, _, _, rfl⟩, h⟩) (fun i δ1 H1 hi hI => ?_) fun δ1 H1 hI => ⟨trivial, hI.2⟩) fun δ1 => dm_fact fun _ => dm_imp (dm_ret (ed_of V.jok (show Cp.EP _ _ _ (.bool true) from ep_is (ep_op (ep_int (i := 4000)) (ep_int (i := 4000)) (rp_eqD (shaped_int _) (shaped_int _))) (by rw [eqv_int]; rfl)))) (fun _ _ z => z) fun v H ⟨d, hd, q⟩ => by
      rw [q.1] at hd
      exact hd
  obtain ⟨⟨s2, s3, s4, s5, s8, s9, s10, s11, s12, s13, s14, s15, rfl⟩, hJ⟩ := hI
  have hi4 : i < 4 := hi
  refine ⟨_, _, gb_name, hJ, V.jok, ?_⟩
  refine dt_asg (i := 3) (b' := 500 * i + 100) (et_town rfl (by omega)) ?_
  rintro _ ⟨n, rs, rfl, hT⟩
  refine dt_asg (i := 4) (b' := 500 * i + 160) (et_standG rfl (by omega) (ep_var (i := 3) rfl) hT (by decide) (by decide)) ?_
  rintro _ ⟨ps, ws, rfl, hok⟩
  have hnl : (ws.map (·.1)).length ≤ 4 := by rw [List.length_map]; exact hok.wl
  have hnm : ∀ z ∈ ws.map (·.1), nameOk z = true := fun z hz => by
    obtain ⟨x, hx, rfl⟩ := List.mem_map.mp hz
    exact (hok.wv x hx).1
  refine dt_asg (i := 5) (b' := 500 * i + 160) (P := fun d => d = .list ((ws.map (·.1)).map PyData.str)) (et_pure V (ep_namesL (a := 6) (b := 7) (fun O' => ep_op (x := standD ps ws) (ep_var (i := 4) rfl) ep_int (rp_ix2 (rp_ixT (j := 1) rfl rfl))) (by have := hok.wl; omega) (by decide) (by decide) (fun σ H Q h => h) fun O' x => ep_var (i := 6) rfl) rfl) ?_
  rintro _ rfl
  refine dt_asg (i := 8) (b' := 500 * i + 221) (P := fun d => ∃ row, d = rowD row ∧ row.length ≤ 30 ∧ RowOk ws row) (et_imp (et_callD V (i := 1) (m := 2) (k := 61) (pre := preRow) (post := postRow) (Pl := fun ds => ds = [.list ((ws.map (·.1)).map PyData.str), .int 31]) rfl (at_ap V (ap_cons (ep_var (i := 5) rfl) (ap_cons ep_int ap_nil)) rfl) (fun ds h => ?_) (by omega)) fun d hd => ?_) ?_
  · subst h
    exact ⟨rfl, ws.map (·.1), 31, rfl, rfl, by decide, by decide, hnl, hnm⟩
  · obtain ⟨ds, rfl, row, h1, h2, xs, h3, h4⟩ := hd
    have h3 : PyData.list ((ws.map (·.1)).map PyData.str) = .list (xs.map PyData.str) := h3
    injection h3 with h3
    have hxs : ws.map (·.1) = xs := List.map_inj_right (f := PyData.str) (fun a b h => by injection h) |>.mp h3
    exact ⟨row, h1, h2, by omega, fun r hr => by rw [hxs]; exact h4 r hr⟩
  rintro _ ⟨row, rfl, h30, hrow⟩
  have hrowOk : ShL (rowD row) ∧ okLen (rowD row) := ⟨rowD_sh (names_ok hok) hrow.2, fun row' e => Or.inl (by rw [← rowD_inj e]; omega)⟩
  have bent : ∀ {b : Nat} {δ : List Sl}, b + 8 ≤ 1000000 → δ.getD 1 .no = .at p → δ.getD 8 .no = .d (rowD row) → δ.getD 5 .no = .d (.list ((ws.map (·.1)).map PyData.str)) → ET [p, c] p c (fun _ => True) b (b + 8) (tCall (spD 2 8 preBentR fun _ d => ShL d ∧ okLen d) [] E0 (tCons (tVar 1) (tCons (tVar 8) (tCons (tVar 5) tNil)))) δ (fun d => ShL d ∧ okLen d) := fun hb h1 h8 h5 =>
    et_imp (et_callD V (i := 1) (m := 2) (k := 8) (pre := preBentR) (post := fun _ d => ShL d ∧ okLen d) (Pl := fun ds => ds = [rowD row, .list ((ws.map (·.1)).map PyData.str)]) h1 (at_ap V (ap_cons (ep_var h8) (ap_cons (ep_var h5) ap_nil)) rfl) (fun ds h => by subst h; exact ⟨rfl, row, ws.map (·.1), rfl, rfl, h30, hnl, hnm, hrow.2⟩) hb) fun d hd => by
      obtain ⟨_, _, h⟩ := hd
      exact h
  refine dm_seq (N1 := fun δ H => (∃ s9 s10 s11 s12 s13 s14 s15, δ = [.no, .at p, .d (.int (i : Int)), .d (townD n rs), .d (standD ps ws), .d (.list ((ws.map (·.1)).map PyData.str)), .no, .no, .d (rowD row), s9, s10, s11, s12, s13, s14, s15]) ∧ PJ p c (fun _ => True) (500 * (i + 1)) H)
    (dm_forD (ix := [9]) (wd_et (b' := 500 * i + 237) (S := fun ds => ds.length = 3 ∧ ∀ x ∈ ds, ShL x ∧ okLen x) (et_lst V (Pl := fun ds => ds.length = 3 ∧ ∀ x ∈ ds, ShL x ∧ okLen x) (at_cons (P1 := fun d => ShL d ∧ okLen d) (P2l := fun _ ds => ds.length = 2 ∧ ∀ x ∈ ds, ShL x ∧ okLen x) (et_pure V (ep_var (i := 8) rfl) hrowOk) (fun _ _ => at_cons (P1 := fun d => ShL d ∧ okLen d) (P2l := fun _ ds => ds.length = 1 ∧ ∀ x ∈ ds, ShL x ∧ okLen x) (bent (by omega) rfl rfl rfl) (fun _ _ => at_cons (P1 := fun d => ShL d ∧ okLen d) (P2l := fun _ ds => ds = []) (bent (by omega) rfl rfl rfl) (fun _ _ => at_nil V rfl) fun x r h1 h2 => ?_) fun x r h1 h2 => ?_) fun x r h1 h2 => ?_) (fun ds h => by rw [h.1]; decide) fun ds h => ⟨ds, rfl, h⟩))
      (fun ds j δ H => ((ds.length = 3 ∧ ∀ x ∈ ds, ShL x ∧ okLen x) ∧ ∃ s9 s10 s11 s12 s13 s14 s15, δ = [.no, .at p, .d (.int (i : Int)), .d (townD n rs), .d (standD ps ws), .d (.list ((ws.map (·.1)).map PyData.str)), .no, .no, .d (rowD row), s9, s10, s11, s12, s13, s14, s15]) ∧ PJ p c (fun _ => True) (500 * i + 237 + 2 * j) H) (fun ds H h => ⟨⟨h.1, _, _, _, _, _, _, _, rfl⟩, h.2⟩) (fun ds j δ1 H1 hj hI => ?_) fun ds δ1 H1 hI => ⟨hI.1.2, hI.2.1.mono (by have := hI.1.1.1; omega), trivial⟩) fun δ1 => dm_fact ?_
  · subst h2
    exact ⟨rfl, fun y hy => by simp at hy; rw [hy]; exact h1⟩
  · exact ⟨by simp [h2.1], fun y hy => by
      rcases List.mem_cons.mp hy with z | z
      · rw [z]; exact h1
      · exact h2.2 y z⟩
  · exact ⟨by simp [h2.1], fun y hy => by
      rcases List.mem_cons.mp hy with z | z
      · rw [z]; exact h1
      · exact h2.2 y z⟩
  · obtain ⟨⟨⟨l3, hds⟩, t9, t10, t11, t12, t13, t14, t15, rfl⟩, hJ⟩ := hI
    refine ⟨_, _, gb_name, hJ, V.jok, ?_⟩
    have hx := hds (ds.getD j .none) (by
      rw [List.getD_eq_getElem?_getD, List.getElem?_eq_getElem hj]
      exact List.getElem_mem hj)
    generalize ds.getD j .none = x at hx
    obtain ⟨hxS, hxL⟩ := hx
    refine dt_asg (i := 10) (b' := 500 * i + 237 + 2 * j) (P := fun d => d = wRow ws x) (et_pure V (ep_dueK (ep_var (i := 4) rfl) (ep_var (i := 9) rfl) (ws_of hok) hxS) rfl) ?_
    rintro _ rfl
    refine dt_if (bb := false) V (tp_test (ep_op (ep_rowW hT hok hxS (ap_cons (ep_var (i := 3) rfl) (ap_cons (ep_var (i := 4) rfl) (ap_cons (ep_var (i := 9) rfl) ap_nil)))) (ep_var (i := 10) rfl) (sh_ne (sh_wRow ws x)))) (fun z => by cases z) fun _ => ?_
    have ix0 : ∀ {δ : List Sl}, δ.getD 3 .no = .d (townD n rs) → Cp.EP [p, c] (tOp (rIx K) (tVar 3) (tC (.int 0))) δ (.int n) := fun h => ep_op (ep_var h) ep_int (rp_ix2 (rp_ixT (j := 0) rfl rfl))
    refine dt_asg (i := 11) (b' := 500 * i + 237 + 2 * j + 1) (P := fun d => townWrong d ≠ .none) (et_imp (et_pick V (i := 1) (S := fun ds => ds = [.none, .tuple [.int 0, .list []], .list [.int n, .list (rs.map pr)], .tuple [.int n, .list []]]) rfl (et_pure V (ep_lst (ap_cons ep_non (ap_cons (ep_tup (ap_cons ep_int (ap_cons (ep_lst ap_nil (by simp)) ap_nil)) (by simp)) (ap_cons (ep_listT (ep_var (i := 3) (x := .tuple [.int n, .list (rs.map pr)]) rfl)) (ap_cons (ep_tup (ap_cons (ix0 rfl) (ap_cons (ep_lst ap_nil (by simp)) ap_nil)) (by simp)) ap_nil)))) (by simp)) ⟨_, rfl, by simp, rfl⟩) (by omega)) fun d hd => ?_) ?_
    · obtain ⟨L, rfl, hm⟩ := hd
      simp only [List.mem_cons, List.not_mem_nil, or_false] at hm
      rcases hm with rfl | rfl | rfl | rfl
      · exact fun z => by cases z
      · exact no_town (.inl (by omega))
      · exact fun z => by cases z
      · exact no_town (.inr rfl)
    intro nt hnt
    have iy0 : ∀ {δ : List Sl}, δ.getD 4 .no = .d (standD ps ws) → Cp.EP [p, c] (tOp (rIx K) (tVar 4) (tC (.int 0))) δ (.list (ps.map enD)) := fun h => ep_op (ep_var h) ep_int (rp_ix2 (rp_ixT (j := 0) rfl rfl))
    refine dt_asg (i := 12) (b' := 500 * i + 237 + 2 * j + 2) (P := fun d => standingWrong n rs d ≠ .none ∧ shortW d) (et_imp (et_pick V (i := 1) (S := fun ds => ds = [.none, .tuple [.list (ps.map enD), .none], .tuple [.list (Cp.cutD (ps.map enD) (some 1) none), .list []], .list [.list (ps.map enD), .list (ws.map waD)]]) rfl (et_pure V (ep_lst (ap_cons ep_non (ap_cons (ep_tup (ap_cons (iy0 rfl) (ap_cons ep_non ap_nil)) (by simp)) (ap_cons (ep_tup (ap_cons (ep_sl (iy0 rfl) (od_some ep_int) od_none) (ap_cons (ep_lst ap_nil (by simp)) ap_nil)) (by simp)) (ap_cons (ep_listT (ep_var (i := 4) (x := .tuple [.list (ps.map enD), .list (ws.map waD)]) rfl)) ap_nil)))) (by simp)) ⟨_, rfl, by simp, rfl⟩) (by omega)) fun d hd => ?_) ?_
    · obtain ⟨L, rfl, hm⟩ := hd
      simp only [List.mem_cons, List.not_mem_nil, or_false] at hm
      rcases hm with rfl | rfl | rfl | rfl
      · exact ⟨fun z => (by cases z), fun _ _ e => (by cases e)⟩
      · exact ⟨fun z => (by cases z), fun _ _ e => (by cases e)⟩
      · exact ⟨bare_cut hok hT, fun _ _ e y hy => by cases e; cases hy⟩
      · exact ⟨fun z => (by cases z), fun _ _ e => (by cases e)⟩
    intro nb ⟨hnb, hnbs⟩
    refine ds_dm (N0 := fun δ => ∃ s13 s14 s15, δ = [.no, .at p, .d (.int (i : Int)), .d (townD n rs), .d (standD ps ws), .d (.list ((ws.map (·.1)).map PyData.str)), .no, .no, .d (rowD row), .d x, .d (wRow ws x), .d nt, .d nb, s13, s14, s15]) (ds_for (ix := [13]) (wp_rng1 (n := 4) (ap_cons ep_int ap_nil) (by decide)) (fun m δ => ∃ s13 s14 s15, δ = [.no, .at p, .d (.int (i : Int)), .d (townD n rs), .d (standD ps ws), .d (.list ((ws.map (·.1)).map PyData.str)), .no, .no, .d (rowD row), .d x, .d (wRow ws x), .d nt, .d nb, s13, s14, s15]) ⟨_, _, _, rfl⟩ (fun m δ1 hm hI => ?_) fun δ1 hI => hI) V.jok fun δ' H ⟨_, _, _, h⟩ hp => ⟨⟨⟨l3, hds⟩, _, _, _, _, _, _, _, h⟩, hp.1.mono (by omega), trivial⟩
    obtain ⟨u13, u14, u15, rfl⟩ := hI
    have hm4 : m < 4 := hm
    have ar : ∀ {δ : List Sl} {k1 k2 : Nat} {d1 d2 : PyData}, δ.getD 13 .no = .d (.int (m : Int)) → δ.getD k1 .no = .d d1 → δ.getD k2 .no = .d d2 → δ.getD 9 .no = .d x → Cp.AP [p, c] (tCons (tVar 13) (tCons (tVar k1) (tCons (tVar k2) (tCons (tVar 9) tNil)))) δ [.int m, d1, d2, x] := fun h1 h2 h3 h4 => ap_cons (ep_var h1) (ap_cons (ep_var h2) (ap_cons (ep_var h3) (ap_cons (ep_var h4) ap_nil)))
    refine ⟨_, gb_name, ds_seq (N1 := fun δ => δ = [.no, .at p, .d (.int (i : Int)), .d (townD n rs), .d (standD ps ws), .d (.list ((ws.map (·.1)).map PyData.str)), .no, .no, .d (rowD row), .d x, .d (wRow ws x), .d nt, .d nb, .d (.int (m : Int)), .d (.list [bools3 true false true, bools3 false true true]), u15]) (ds_asg (i := 14) (ep_lst (ds := [bools3 true false true, bools3 false true true]) (ap_cons (ep_ref (w := m) hm4 hnbs hxS (Or.inl ⟨hnt, rfl⟩) (ar rfl rfl rfl rfl)) (ap_cons (ep_ref (w := m) hm4 hnbs hxS (Or.inr (Or.inl ⟨n, rs, rfl, hT, hnb, rfl⟩)) (ar rfl rfl rfl rfl)) ap_nil)) (by simp)) rfl) ?_⟩
    rintro _ rfl
    refine ds_seq (N1 := fun δ => δ = [.no, .at p, .d (.int (i : Int)), .d (townD n rs), .d (standD ps ws), .d (.list ((ws.map (·.1)).map PyData.str)), .no, .no, .d (rowD row), .d x, .d (wRow ws x), .d nt, .d nb, .d (.int (m : Int)), .d (.list [bools3 true false true, bools3 false true true]), u15])
      (ds_pass (tp_test (ep_op (ep_var (i := 14) rfl) (ep_lst (ds := [bools3 true false true, bools3 false true true]) (ap_cons (ep_lst (ap_cons ep_bl (ap_cons ep_bl (ap_cons ep_bl ap_nil))) (by simp)) (ap_cons (ep_lst (ap_cons ep_bl (ap_cons ep_bl (ap_cons ep_bl ap_nil))) (by simp)) ap_nil)) (by simp)) (sh_ne ⟨by decide +kernel, by decide +kernel⟩))) rfl) ?_
    rintro _ rfl
    refine ds_seq (N1 := fun δ => δ = [.no, .at p, .d (.int (i : Int)), .d (townD n rs), .d (standD ps ws), .d (.list ((ws.map (·.1)).map PyData.str)), .no, .no, .d (rowD row), .d x, .d (wRow ws x), .d nt, .d nb, .d (.int (m : Int)), .d (.list [bools3 true false true, bools3 false true true]), .d (bools3 false false false)]) (ds_asg (i := 15) ep_fff rfl) ?_
    rintro _ rfl
    refine ds_seq (N1 := fun δ => δ = [.no, .at p, .d (.int (i : Int)), .d (townD n rs), .d (standD ps ws), .d (.list ((ws.map (·.1)).map PyData.str)), .no, .no, .d (rowD row), .d x, .d (wRow ws x), .d nt, .d nb, .d (.int (m : Int)), .d (.list [bools3 true false true, bools3 false true true]), .d (wantR m (wRow ws x))])
      (ds_if (b := !isNoneB (wRow ws x) && decide (m < 3)) (tp_is (tp_and (tp_test (ep_op (ep_var (i := 10) rfl) ep_non rp_notN)) fun _ => tp_test (ep_op (ep_var (i := 13) (x := .int (m : Int)) rfl) ep_int (rp_bl (g := fun i j => decide (i < j))))) (by congr 1; exact decide_eq_decide.mpr (by omega))) (fun z => ds_asg (i := 15) (ep_lst (ap_cons ep_str (ap_cons (ep_var (i := 10) rfl) ap_nil)) (by simp)) (by unfold wantR; rw [if_pos z]; rfl)) fun z => ds_next (by unfold wantR; rw [z]; rfl)) ?_
    rintro _ rfl
    exact ds_pass (tp_test (ep_op (ep_ref (w := m) hm4 (short_stand hok) hxS (res_row hT hok (want_is hok hm4 hxL)) (ar rfl rfl rfl rfl)) (ep_var (i := 15) rfl) (sh_ne (sh_want m ws x)))) ⟨_, _, _, rfl⟩
  rintro ⟨t9, t10, t11, t12, t13, t14, t15, rfl⟩
  refine ds_dm (N0 := fun δ => ∃ s2 s3 s4 s5 s8 s9 s10 s11 s12 s13 s14 s15, δ = [.no, .at p, s2, s3, s4, s5, .no, .no, s8, s9, s10, s11, s12, s13, s14, s15]) (ds_pass (tp_is (tp_and (a := !((ws.map (·.1)).map PyData.str).isEmpty) (b := false) (tp_is (tp_test (ep_op (ep_var (i := 5) rfl) (ep_lst ap_nil (by simp)) (rp_neD (shaped_list fun d hd => ?_) (shaped_ints [])))) (by rw [eqv_nil])) fun hne => tp_is (tp_not (tp_B (ep_call (f := fun _ => .bool true) (ds := [townD n rs, standD ps ws, .list ((ws.map (·.1)).map PyData.str)]) (ap_cons (ep_var (i := 3) rfl) (ap_cons (ep_var (i := 4) rfl) (ap_cons (ep_var (i := 5) rfl) ap_nil))) rfl ⟨n, rs, ps, ws, rfl, rfl, rfl, hT, hok, fun z => ?_⟩))) rfl) (Bool.and_false _)) ⟨_, _, _, _, _, _, _, _, _, _, _, _, rfl⟩) V.jok fun δ' H h hp => ⟨h, hp⟩
  · obtain ⟨z, hz, rfl⟩ := List.mem_map.mp hd
    exact sh_name (hnm z hz)
  · rw [z] at hne
    cases hne
end
end K04
namespace K04
open PySem L2 PySem.Spec PyProof.Rows Cp
open PySem.W PySem.Calls
set_option maxHeartbeats 0 in
theorem fin {w : World} {K : PySem.W.Frag} {h : Heap} {mg : Str → Option Value} {fa : Addr} (X : K.In h) (G : h.Ns mainGlobals mg) (hfa : mg "law" = some (.ref fa))
    {xPostError xNoRow xNoStanding xNoTown xis_whole xis_below xis_pair xis_road xtown_wrong xneed_town xis_end xplace_of xis_name xis_walker xposts_wrong xwalkers_wrong xfind_standing_wrong xneed_standings xneed_standing xlaw_spot xlaw_flip xlaw_purse xlaw_draw xlaw_pick xlaw_mixed xlaw_ends xlaw_town xlaw_standing xgather_all_ends xdeeds_of xput_usual_ahead xfirst_other xfind_row_wrong xrow_wrong xneed_row xwalk xlead xled_by xtrail_of xlaw_row xlaw_walked xrow_back xlaw_due xlaw_bent xlaw_refused xlaw_bounds xlaw xiNoTown xdNoTown xcNoTown xiNoStanding xdNoStanding xcNoStanding xiNoRow xdNoRow xcNoRow : Addr} {ocis_whole kVis_whole dcis_whole pmis_whole cdis_whole ctis_whole ocis_below kVis_below dcis_below pmis_below cdis_below ctis_below ocis_pair kVis_pair dcis_pair pmis_pair cdis_pair ctis_pair ocis_road kVis_road dcis_road pmis_road cdis_road ctis_road octown_wrong kVtown_wrong dctown_wrong pmtown_wrong cdtown_wrong cttown_wrong ocneed_town kVneed_town dcneed_town pmneed_town cdneed_town ctneed_town ocis_end kVis_end dcis_end pmis_end cdis_end ctis_end ocplace_of kVplace_of dcplace_of pmplace_of cdplace_of ctplace_of ocis_name kVis_name dcis_name pmis_name cdis_name ctis_name ocis_walker kVis_walker dcis_walker pmis_walker cdis_walker ctis_walker ocposts_wrong kVposts_wrong dcposts_wrong pmposts_wrong cdposts_wrong ctposts_wrong ocwalkers_wrong kVwalkers_wrong dcwalkers_wrong pmwalkers_wrong cdwalkers_wrong ctwalkers_wrong ocfind_standing_wrong kVfind_standing_wrong dcfind_standing_wrong pmfind_standing_wrong cdfind_standing_wrong ctfind_standing_wrong ocneed_standings kVneed_standings dcneed_standings pmneed_standings cdneed_standings ctneed_standings ocneed_standing kVneed_standing dcneed_standing pmneed_standing cdneed_standing ctneed_standing oclaw_spot kVlaw_spot dclaw_spot pmlaw_spot cdlaw_spot ctlaw_spot oclaw_flip kVlaw_flip dclaw_flip pmlaw_flip cdlaw_flip ctlaw_flip oclaw_purse kVlaw_purse dclaw_purse pmlaw_purse cdlaw_purse ctlaw_purse oclaw_draw kVlaw_draw dclaw_draw pmlaw_draw cdlaw_draw ctlaw_draw oclaw_pick kVlaw_pick dclaw_pick pmlaw_pick cdlaw_pick ctlaw_pick oclaw_mixed kVlaw_mixed dclaw_mixed pmlaw_mixed cdlaw_mixed ctlaw_mixed oclaw_ends kVlaw_ends dclaw_ends pmlaw_ends cdlaw_ends ctlaw_ends oclaw_town kVlaw_town dclaw_town pmlaw_town cdlaw_town ctlaw_town oclaw_standing kVlaw_standing dclaw_standing pmlaw_standing cdlaw_standing ctlaw_standing ocgather_all_ends kVgather_all_ends dcgather_all_ends pmgather_all_ends cdgather_all_ends ctgather_all_ends ocdeeds_of kVdeeds_of dcdeeds_of pmdeeds_of cddeeds_of ctdeeds_of ocput_usual_ahead kVput_usual_ahead dcput_usual_ahead pmput_usual_ahead cdput_usual_ahead ctput_usual_ahead ocfirst_other kVfirst_other dcfirst_other pmfirst_other cdfirst_other ctfirst_other ocfind_row_wrong kVfind_row_wrong dcfind_row_wrong pmfind_row_wrong cdfind_row_wrong ctfind_row_wrong ocrow_wrong kVrow_wrong dcrow_wrong pmrow_wrong cdrow_wrong ctrow_wrong ocneed_row kVneed_row dcneed_row pmneed_row cdneed_row ctneed_row ocwalk kVwalk dcwalk pmwalk cdwalk ctwalk oclead kVlead dclead pmlead cdlead ctlead ocled_by kVled_by dcled_by pmled_by cdled_by ctled_by octrail_of kVtrail_of dctrail_of pmtrail_of cdtrail_of cttrail_of oclaw_row kVlaw_row dclaw_row pmlaw_row cdlaw_row ctlaw_row oclaw_walked kVlaw_walked dclaw_walked pmlaw_walked cdlaw_walked ctlaw_walked ocrow_back kVrow_back dcrow_back pmrow_back cdrow_back ctrow_back oclaw_due kVlaw_due dclaw_due pmlaw_due cdlaw_due ctlaw_due oclaw_bent kVlaw_bent dclaw_bent pmlaw_bent cdlaw_bent ctlaw_bent oclaw_refused kVlaw_refused dclaw_refused pmlaw_refused cdlaw_refused ctlaw_refused oclaw_bounds kVlaw_bounds dclaw_bounds pmlaw_bounds cdlaw_bounds ctlaw_bounds oclaw kVlaw dclaw pmlaw cdlaw ctlaw ocNoTown kVNoTown dcNoTown pmNoTown ctNoTown cclNoTown clNoTown ocNoStanding kVNoStanding dcNoStanding pmNoStanding ctNoStanding cclNoStanding clNoStanding ocNoRow kVNoRow dcNoRow pmNoRow ctNoRow cclNoRow clNoRow : Value} {odis_whole anis_whole odis_below anis_below odis_pair anis_pair odis_road anis_road odtown_wrong antown_wrong odneed_town anneed_town odis_end anis_end odplace_of anplace_of odis_name anis_name odis_walker anis_walker odposts_wrong anposts_wrong odwalkers_wrong anwalkers_wrong odfind_standing_wrong anfind_standing_wrong odneed_standings anneed_standings odneed_standing anneed_standing odlaw_spot anlaw_spot odlaw_flip anlaw_flip odlaw_purse anlaw_purse odlaw_draw anlaw_draw odlaw_pick anlaw_pick odlaw_mixed anlaw_mixed odlaw_ends anlaw_ends odlaw_town anlaw_town odlaw_standing anlaw_standing odgather_all_ends angather_all_ends oddeeds_of andeeds_of odput_usual_ahead anput_usual_ahead odfirst_other anfirst_other odfind_row_wrong anfind_row_wrong odrow_wrong anrow_wrong odneed_row anneed_row odwalk anwalk odlead anlead odled_by anled_by odtrail_of antrail_of odlaw_row anlaw_row odlaw_walked anlaw_walked odrow_back anrow_back odlaw_due anlaw_due odlaw_bent anlaw_bent odlaw_refused anlaw_refused odlaw_bounds anlaw_bounds odlaw anlaw odNoTown anNoTown ddNoTown cddNoTown cldNoTown odNoStanding anNoStanding ddNoStanding cddNoStanding cldNoStanding odNoRow anNoRow ddNoRow cddNoRow cldNoRow : Option Addr} {slis_whole slis_below slis_pair slis_road sltown_wrong slneed_town slis_end slplace_of slis_name slis_walker slposts_wrong slwalkers_wrong slfind_standing_wrong slneed_standings slneed_standing sllaw_spot sllaw_flip sllaw_purse sllaw_draw sllaw_pick sllaw_mixed sllaw_ends sllaw_town sllaw_standing slgather_all_ends sldeeds_of slput_usual_ahead slfirst_other slfind_row_wrong slrow_wrong slneed_row slwalk sllead slled_by sltrail_of sllaw_row sllaw_walked slrow_back sllaw_due sllaw_bent sllaw_refused sllaw_bounds sllaw slNoTown ccsNoTown cslNoTown slNoStanding ccsNoStanding cslNoStanding slNoRow ccsNoRow cslNoRow : Array (Option Value)} {nmNoTown qnNoTown cfiNoTown : Str} {NNoTown : Addr} {bsNoTown bmNoTown subNoTown : List Value} {snNoTown : List Str} {abNoTown : Bool} {colNoTown : Option Bool} {m0NoTown m1NoTown m2NoTown m3NoTown m5NoTown : Option Value} {cvsNoTown : Array Value} {ctfNoTown : Tok} {nmNoStanding qnNoStanding cfiNoStanding : Str} {NNoStanding : Addr} {bsNoStanding bmNoStanding subNoStanding : List Value} {snNoStanding : List Str} {abNoStanding : Bool} {colNoStanding : Option Bool} {m0NoStanding m1NoStanding m2NoStanding m3NoStanding m5NoStanding : Option Value} {cvsNoStanding : Array Value} {ctfNoStanding : Tok} {nmNoRow qnNoRow cfiNoRow : Str} {NNoRow : Addr} {bsNoRow bmNoRow subNoRow : List Value} {snNoRow : List Str} {abNoRow : Bool} {colNoRow : Option Bool} {m0NoRow m1NoRow m2NoRow m3NoRow m5NoRow : Option Value} {cvsNoRow : Array Value} {ctfNoRow : Tok} {vMOST_PLACES vMOST_ROADS vMOST_WALKERS vMOST_LETTERS vMOST_DEEDS vSAMPLE : Tok}
    (gPostError : PySem.W.nsIn K mainGlobals "PostError" = some (some (.ref xPostError)))
    (gNoRow : PySem.W.nsIn K mainGlobals "NoRow" = some (some (.ref xNoRow)))
    (gNoStanding : PySem.W.nsIn K mainGlobals "NoStanding" = some (some (.ref xNoStanding)))
    (gNoTown : PySem.W.nsIn K mainGlobals "NoTown" = some (some (.ref xNoTown)))
    (ais_whole : PySem.W.nsIn K mainGlobals "is_whole" = some (some (.ref xis_whole)))
    (lis_whole : K.lookup xis_whole = some ⟨ocis_whole, odis_whole, .func (PySem.W.fnOf "is_whole" "is_whole" (defArgs s_is_whole) (defBody s_is_whole) (defScope s_is_whole) .none kVis_whole dcis_whole pmis_whole anis_whole cdis_whole ctis_whole), slis_whole⟩)
    (cis_whole : PySem.W.codeIn K cdis_whole "is_whole" = true)
    (kis_whole : PySem.W.keepIn K (.ref xis_whole) = true)
    (ais_below : PySem.W.nsIn K mainGlobals "is_below" = some (some (.ref xis_below)))
    (lis_below : K.lookup xis_below = some ⟨ocis_below, odis_below, .func (PySem.W.fnOf "is_below" "is_below" (defArgs s_is_below) (defBody s_is_below) (defScope s_is_below) .none kVis_below dcis_below pmis_below anis_below cdis_below ctis_below), slis_below⟩)
    (cis_below : PySem.W.codeIn K cdis_below "is_below" = true)
    (kis_below : PySem.W.keepIn K (.ref xis_below) = true)
    (ais_pair : PySem.W.nsIn K mainGlobals "is_pair" = some (some (.ref xis_pair)))
    (lis_pair : K.lookup xis_pair = some ⟨ocis_pair, odis_pair, .func (PySem.W.fnOf "is_pair" "is_pair" (defArgs s_is_pair) (defBody s_is_pair) (defScope s_is_pair) .none kVis_pair dcis_pair pmis_pair anis_pair cdis_pair ctis_pair), slis_pair⟩)
    (cis_pair : PySem.W.codeIn K cdis_pair "is_pair" = true)
    (kis_pair : PySem.W.keepIn K (.ref xis_pair) = true)
    (ais_road : PySem.W.nsIn K mainGlobals "is_road" = some (some (.ref xis_road)))
    (lis_road : K.lookup xis_road = some ⟨ocis_road, odis_road, .func (PySem.W.fnOf "is_road" "is_road" (defArgs s_is_road) (defBody s_is_road) (defScope s_is_road) .none kVis_road dcis_road pmis_road anis_road cdis_road ctis_road), slis_road⟩)
    (cis_road : PySem.W.codeIn K cdis_road "is_road" = true)
    (kis_road : PySem.W.keepIn K (.ref xis_road) = true)
    (atown_wrong : PySem.W.nsIn K mainGlobals "town_wrong" = some (some (.ref xtown_wrong)))
    (ltown_wrong : K.lookup xtown_wrong = some ⟨octown_wrong, odtown_wrong, .func (PySem.W.fnOf "town_wrong" "town_wrong" (defArgs s_town_wrong) (defBody s_town_wrong) (defScope s_town_wrong) .none kVtown_wrong dctown_wrong pmtown_wrong antown_wrong cdtown_wrong cttown_wrong), sltown_wrong⟩)
    (ctown_wrong : PySem.W.codeIn K cdtown_wrong "town_wrong" = true)
    (ktown_wrong : PySem.W.keepIn K (.ref xtown_wrong) = true)
    (aneed_town : PySem.W.nsIn K mainGlobals "need_town" = some (some (.ref xneed_town)))
    (lneed_town : K.lookup xneed_town = some ⟨ocneed_town, odneed_town, .func (PySem.W.fnOf "need_town" "need_town" (defArgs s_need_town) (defBody s_need_town) (defScope s_need_town) .none kVneed_town dcneed_town pmneed_town anneed_town cdneed_town ctneed_town), slneed_town⟩)
    (cneed_town : PySem.W.codeIn K cdneed_town "need_town" = true)
    (kneed_town : PySem.W.keepIn K (.ref xneed_town) = true)
    (ais_end : PySem.W.nsIn K mainGlobals "is_end" = some (some (.ref xis_end)))
    (lis_end : K.lookup xis_end = some ⟨ocis_end, odis_end, .func (PySem.W.fnOf "is_end" "is_end" (defArgs s_is_end) (defBody s_is_end) (defScope s_is_end) .none kVis_end dcis_end pmis_end anis_end cdis_end ctis_end), slis_end⟩)
    (cis_end : PySem.W.codeIn K cdis_end "is_end" = true)
    (kis_end : PySem.W.keepIn K (.ref xis_end) = true)
    (aplace_of : PySem.W.nsIn K mainGlobals "place_of" = some (some (.ref xplace_of)))
    (lplace_of : K.lookup xplace_of = some ⟨ocplace_of, odplace_of, .func (PySem.W.fnOf "place_of" "place_of" (defArgs s_place_of) (defBody s_place_of) (defScope s_place_of) .none kVplace_of dcplace_of pmplace_of anplace_of cdplace_of ctplace_of), slplace_of⟩)
    (cplace_of : PySem.W.codeIn K cdplace_of "place_of" = true)
    (kplace_of : PySem.W.keepIn K (.ref xplace_of) = true)
    (ais_name : PySem.W.nsIn K mainGlobals "is_name" = some (some (.ref xis_name)))
    (lis_name : K.lookup xis_name = some ⟨ocis_name, odis_name, .func (PySem.W.fnOf "is_name" "is_name" (defArgs s_is_name) (defBody s_is_name) (defScope s_is_name) .none kVis_name dcis_name pmis_name anis_name cdis_name ctis_name), slis_name⟩)
    (cis_name : PySem.W.codeIn K cdis_name "is_name" = true)
    (kis_name : PySem.W.keepIn K (.ref xis_name) = true)
    (ais_walker : PySem.W.nsIn K mainGlobals "is_walker" = some (some (.ref xis_walker)))
    (lis_walker : K.lookup xis_walker = some ⟨ocis_walker, odis_walker, .func (PySem.W.fnOf "is_walker" "is_walker" (defArgs s_is_walker) (defBody s_is_walker) (defScope s_is_walker) .none kVis_walker dcis_walker pmis_walker anis_walker cdis_walker ctis_walker), slis_walker⟩)
    (cis_walker : PySem.W.codeIn K cdis_walker "is_walker" = true)
    (kis_walker : PySem.W.keepIn K (.ref xis_walker) = true)
    (aposts_wrong : PySem.W.nsIn K mainGlobals "posts_wrong" = some (some (.ref xposts_wrong)))
    (lposts_wrong : K.lookup xposts_wrong = some ⟨ocposts_wrong, odposts_wrong, .func (PySem.W.fnOf "posts_wrong" "posts_wrong" (defArgs s_posts_wrong) (defBody s_posts_wrong) (defScope s_posts_wrong) .none kVposts_wrong dcposts_wrong pmposts_wrong anposts_wrong cdposts_wrong ctposts_wrong), slposts_wrong⟩)
    (cposts_wrong : PySem.W.codeIn K cdposts_wrong "posts_wrong" = true)
    (kposts_wrong : PySem.W.keepIn K (.ref xposts_wrong) = true)
    (awalkers_wrong : PySem.W.nsIn K mainGlobals "walkers_wrong" = some (some (.ref xwalkers_wrong)))
    (lwalkers_wrong : K.lookup xwalkers_wrong = some ⟨ocwalkers_wrong, odwalkers_wrong, .func (PySem.W.fnOf "walkers_wrong" "walkers_wrong" (defArgs s_walkers_wrong) (defBody s_walkers_wrong) (defScope s_walkers_wrong) .none kVwalkers_wrong dcwalkers_wrong pmwalkers_wrong anwalkers_wrong cdwalkers_wrong ctwalkers_wrong), slwalkers_wrong⟩)
    (cwalkers_wrong : PySem.W.codeIn K cdwalkers_wrong "walkers_wrong" = true)
    (kwalkers_wrong : PySem.W.keepIn K (.ref xwalkers_wrong) = true)
    (afind_standing_wrong : PySem.W.nsIn K mainGlobals "find_standing_wrong" = some (some (.ref xfind_standing_wrong)))
    (lfind_standing_wrong : K.lookup xfind_standing_wrong = some ⟨ocfind_standing_wrong, odfind_standing_wrong, .func (PySem.W.fnOf "find_standing_wrong" "find_standing_wrong" (defArgs s_find_standing_wrong) (defBody s_find_standing_wrong) (defScope s_find_standing_wrong) .none kVfind_standing_wrong dcfind_standing_wrong pmfind_standing_wrong anfind_standing_wrong cdfind_standing_wrong ctfind_standing_wrong), slfind_standing_wrong⟩)
    (cfind_standing_wrong : PySem.W.codeIn K cdfind_standing_wrong "find_standing_wrong" = true)
    (kfind_standing_wrong : PySem.W.keepIn K (.ref xfind_standing_wrong) = true)
    (aneed_standings : PySem.W.nsIn K mainGlobals "need_standings" = some (some (.ref xneed_standings)))
    (lneed_standings : K.lookup xneed_standings = some ⟨ocneed_standings, odneed_standings, .func (PySem.W.fnOf "need_standings" "need_standings" (defArgs s_need_standings) (defBody s_need_standings) (defScope s_need_standings) .none kVneed_standings dcneed_standings pmneed_standings anneed_standings cdneed_standings ctneed_standings), slneed_standings⟩)
    (cneed_standings : PySem.W.codeIn K cdneed_standings "need_standings" = true)
    (kneed_standings : PySem.W.keepIn K (.ref xneed_standings) = true)
    (aneed_standing : PySem.W.nsIn K mainGlobals "need_standing" = some (some (.ref xneed_standing)))
    (lneed_standing : K.lookup xneed_standing = some ⟨ocneed_standing, odneed_standing, .func (PySem.W.fnOf "need_standing" "need_standing" (defArgs s_need_standing) (defBody s_need_standing) (defScope s_need_standing) .none kVneed_standing dcneed_standing pmneed_standing anneed_standing cdneed_standing ctneed_standing), slneed_standing⟩)
    (cneed_standing : PySem.W.codeIn K cdneed_standing "need_standing" = true)
    (kneed_standing : PySem.W.keepIn K (.ref xneed_standing) = true)
    (alaw_spot : PySem.W.nsIn K mainGlobals "_law_spot" = some (some (.ref xlaw_spot)))
    (llaw_spot : K.lookup xlaw_spot = some ⟨oclaw_spot, odlaw_spot, .func (PySem.W.fnOf "_law_spot" "_law_spot" (defArgs s_law_spot) (defBody s_law_spot) (defScope s_law_spot) .none kVlaw_spot dclaw_spot pmlaw_spot anlaw_spot cdlaw_spot ctlaw_spot), sllaw_spot⟩)
    (claw_spot : PySem.W.codeIn K cdlaw_spot "_law_spot" = true)
    (klaw_spot : PySem.W.keepIn K (.ref xlaw_spot) = true)
    (alaw_flip : PySem.W.nsIn K mainGlobals "_law_flip" = some (some (.ref xlaw_flip)))
    (llaw_flip : K.lookup xlaw_flip = some ⟨oclaw_flip, odlaw_flip, .func (PySem.W.fnOf "_law_flip" "_law_flip" (defArgs s_law_flip) (defBody s_law_flip) (defScope s_law_flip) .none kVlaw_flip dclaw_flip pmlaw_flip anlaw_flip cdlaw_flip ctlaw_flip), sllaw_flip⟩)
    (claw_flip : PySem.W.codeIn K cdlaw_flip "_law_flip" = true)
    (klaw_flip : PySem.W.keepIn K (.ref xlaw_flip) = true)
    (alaw_purse : PySem.W.nsIn K mainGlobals "_law_purse" = some (some (.ref xlaw_purse)))
    (llaw_purse : K.lookup xlaw_purse = some ⟨oclaw_purse, odlaw_purse, .func (PySem.W.fnOf "_law_purse" "_law_purse" (defArgs s_law_purse) (defBody s_law_purse) (defScope s_law_purse) .none kVlaw_purse dclaw_purse pmlaw_purse anlaw_purse cdlaw_purse ctlaw_purse), sllaw_purse⟩)
    (claw_purse : PySem.W.codeIn K cdlaw_purse "_law_purse" = true)
    (klaw_purse : PySem.W.keepIn K (.ref xlaw_purse) = true)
    (alaw_draw : PySem.W.nsIn K mainGlobals "_law_draw" = some (some (.ref xlaw_draw)))
    (llaw_draw : K.lookup xlaw_draw = some ⟨oclaw_draw, odlaw_draw, .func (PySem.W.fnOf "_law_draw" "_law_draw" (defArgs s_law_draw) (defBody s_law_draw) (defScope s_law_draw) .none kVlaw_draw dclaw_draw pmlaw_draw anlaw_draw cdlaw_draw ctlaw_draw), sllaw_draw⟩)
    (claw_draw : PySem.W.codeIn K cdlaw_draw "_law_draw" = true)
    (klaw_draw : PySem.W.keepIn K (.ref xlaw_draw) = true)
    (alaw_pick : PySem.W.nsIn K mainGlobals "_law_pick" = some (some (.ref xlaw_pick)))
    (llaw_pick : K.lookup xlaw_pick = some ⟨oclaw_pick, odlaw_pick, .func (PySem.W.fnOf "_law_pick" "_law_pick" (defArgs s_law_pick) (defBody s_law_pick) (defScope s_law_pick) .none kVlaw_pick dclaw_pick pmlaw_pick anlaw_pick cdlaw_pick ctlaw_pick), sllaw_pick⟩)
    (claw_pick : PySem.W.codeIn K cdlaw_pick "_law_pick" = true)
    (klaw_pick : PySem.W.keepIn K (.ref xlaw_pick) = true)
    (alaw_mixed : PySem.W.nsIn K mainGlobals "_law_mixed" = some (some (.ref xlaw_mixed)))
    (llaw_mixed : K.lookup xlaw_mixed = some ⟨oclaw_mixed, odlaw_mixed, .func (PySem.W.fnOf "_law_mixed" "_law_mixed" (defArgs s_law_mixed) (defBody s_law_mixed) (defScope s_law_mixed) .none kVlaw_mixed dclaw_mixed pmlaw_mixed anlaw_mixed cdlaw_mixed ctlaw_mixed), sllaw_mixed⟩)
    (claw_mixed : PySem.W.codeIn K cdlaw_mixed "_law_mixed" = true)
    (klaw_mixed : PySem.W.keepIn K (.ref xlaw_mixed) = true)
    (alaw_ends : PySem.W.nsIn K mainGlobals "_law_ends" = some (some (.ref xlaw_ends)))
    (llaw_ends : K.lookup xlaw_ends = some ⟨oclaw_ends, odlaw_ends, .func (PySem.W.fnOf "_law_ends" "_law_ends" (defArgs s_law_ends) (defBody s_law_ends) (defScope s_law_ends) .none kVlaw_ends dclaw_ends pmlaw_ends anlaw_ends cdlaw_ends ctlaw_ends), sllaw_ends⟩)
    (claw_ends : PySem.W.codeIn K cdlaw_ends "_law_ends" = true)
    (klaw_ends : PySem.W.keepIn K (.ref xlaw_ends) = true)
    (alaw_town : PySem.W.nsIn K mainGlobals "_law_town" = some (some (.ref xlaw_town)))
    (llaw_town : K.lookup xlaw_town = some ⟨oclaw_town, odlaw_town, .func (PySem.W.fnOf "_law_town" "_law_town" (defArgs s_law_town) (defBody s_law_town) (defScope s_law_town) .none kVlaw_town dclaw_town pmlaw_town anlaw_town cdlaw_town ctlaw_town), sllaw_town⟩)
    (claw_town : PySem.W.codeIn K cdlaw_town "_law_town" = true)
    (klaw_town : PySem.W.keepIn K (.ref xlaw_town) = true)
    (alaw_standing : PySem.W.nsIn K mainGlobals "_law_standing" = some (some (.ref xlaw_standing)))
    (llaw_standing : K.lookup xlaw_standing = some ⟨oclaw_standing, odlaw_standing, .func (PySem.W.fnOf "_law_standing" "_law_standing" (defArgs s_law_standing) (defBody s_law_standing) (defScope s_law_standing) .none kVlaw_standing dclaw_standing pmlaw_standing anlaw_standing cdlaw_standing ctlaw_standing), sllaw_standing⟩)
    (claw_standing : PySem.W.codeIn K cdlaw_standing "_law_standing" = true)
    (klaw_standing : PySem.W.keepIn K (.ref xlaw_standing) = true)
    (agather_all_ends : PySem.W.nsIn K mainGlobals "gather_all_ends" = some (some (.ref xgather_all_ends)))
    (lgather_all_ends : K.lookup xgather_all_ends = some ⟨ocgather_all_ends, odgather_all_ends, .func (PySem.W.fnOf "gather_all_ends" "gather_all_ends" (defArgs s_gather_all_ends) (defBody s_gather_all_ends) (defScope s_gather_all_ends) .none kVgather_all_ends dcgather_all_ends pmgather_all_ends angather_all_ends cdgather_all_ends ctgather_all_ends), slgather_all_ends⟩)
    (cgather_all_ends : PySem.W.codeIn K cdgather_all_ends "gather_all_ends" = true)
    (kgather_all_ends : PySem.W.keepIn K (.ref xgather_all_ends) = true)
    (adeeds_of : PySem.W.nsIn K mainGlobals "deeds_of" = some (some (.ref xdeeds_of)))
    (ldeeds_of : K.lookup xdeeds_of = some ⟨ocdeeds_of, oddeeds_of, .func (PySem.W.fnOf "deeds_of" "deeds_of" (defArgs s_deeds_of) (defBody s_deeds_of) (defScope s_deeds_of) .none kVdeeds_of dcdeeds_of pmdeeds_of andeeds_of cddeeds_of ctdeeds_of), sldeeds_of⟩)
    (cdeeds_of : PySem.W.codeIn K cddeeds_of "deeds_of" = true)
    (kdeeds_of : PySem.W.keepIn K (.ref xdeeds_of) = true)
    (aput_usual_ahead : PySem.W.nsIn K mainGlobals "put_usual_ahead" = some (some (.ref xput_usual_ahead)))
    (lput_usual_ahead : K.lookup xput_usual_ahead = some ⟨ocput_usual_ahead, odput_usual_ahead, .func (PySem.W.fnOf "put_usual_ahead" "put_usual_ahead" (defArgs s_put_usual_ahead) (defBody s_put_usual_ahead) (defScope s_put_usual_ahead) .none kVput_usual_ahead dcput_usual_ahead pmput_usual_ahead anput_usual_ahead cdput_usual_ahead ctput_usual_ahead), slput_usual_ahead⟩)
    (cput_usual_ahead : PySem.W.codeIn K cdput_usual_ahead "put_usual_ahead" = true)
    (kput_usual_ahead : PySem.W.keepIn K (.ref xput_usual_ahead) = true)
    (afirst_other : PySem.W.nsIn K mainGlobals "first_other" = some (some (.ref xfirst_other)))
    (lfirst_other : K.lookup xfirst_other = some ⟨ocfirst_other, odfirst_other, .func (PySem.W.fnOf "first_other" "first_other" (defArgs s_first_other) (defBody s_first_other) (defScope s_first_other) .none kVfirst_other dcfirst_other pmfirst_other anfirst_other cdfirst_other ctfirst_other), slfirst_other⟩)
    (cfirst_other : PySem.W.codeIn K cdfirst_other "first_other" = true)
    (kfirst_other : PySem.W.keepIn K (.ref xfirst_other) = true)
    (afind_row_wrong : PySem.W.nsIn K mainGlobals "find_row_wrong" = some (some (.ref xfind_row_wrong)))
    (lfind_row_wrong : K.lookup xfind_row_wrong = some ⟨ocfind_row_wrong, odfind_row_wrong, .func (PySem.W.fnOf "find_row_wrong" "find_row_wrong" (defArgs s_find_row_wrong) (defBody s_find_row_wrong) (defScope s_find_row_wrong) .none kVfind_row_wrong dcfind_row_wrong pmfind_row_wrong anfind_row_wrong cdfind_row_wrong ctfind_row_wrong), slfind_row_wrong⟩)
    (cfind_row_wrong : PySem.W.codeIn K cdfind_row_wrong "find_row_wrong" = true)
    (kfind_row_wrong : PySem.W.keepIn K (.ref xfind_row_wrong) = true)
    (arow_wrong : PySem.W.nsIn K mainGlobals "row_wrong" = some (some (.ref xrow_wrong)))
    (lrow_wrong : K.lookup xrow_wrong = some ⟨ocrow_wrong, odrow_wrong, .func (PySem.W.fnOf "row_wrong" "row_wrong" (defArgs s_row_wrong) (defBody s_row_wrong) (defScope s_row_wrong) .none kVrow_wrong dcrow_wrong pmrow_wrong anrow_wrong cdrow_wrong ctrow_wrong), slrow_wrong⟩)
    (crow_wrong : PySem.W.codeIn K cdrow_wrong "row_wrong" = true)
    (krow_wrong : PySem.W.keepIn K (.ref xrow_wrong) = true)
    (aneed_row : PySem.W.nsIn K mainGlobals "need_row" = some (some (.ref xneed_row)))
    (lneed_row : K.lookup xneed_row = some ⟨ocneed_row, odneed_row, .func (PySem.W.fnOf "need_row" "need_row" (defArgs s_need_row) (defBody s_need_row) (defScope s_need_row) .none kVneed_row dcneed_row pmneed_row anneed_row cdneed_row ctneed_row), slneed_row⟩)
    (cneed_row : PySem.W.codeIn K cdneed_row "need_row" = true)
    (kneed_row : PySem.W.keepIn K (.ref xneed_row) = true)
    (awalk : PySem.W.nsIn K mainGlobals "walk" = some (some (.ref xwalk)))
    (lwalk : K.lookup xwalk = some ⟨ocwalk, odwalk, .func (PySem.W.fnOf "walk" "walk" (defArgs s_walk) (defBody s_walk) (defScope s_walk) .none kVwalk dcwalk pmwalk anwalk cdwalk ctwalk), slwalk⟩)
    (cwalk : PySem.W.codeIn K cdwalk "walk" = true)
    (kwalk : PySem.W.keepIn K (.ref xwalk) = true)
    (alead : PySem.W.nsIn K mainGlobals "lead" = some (some (.ref xlead)))
    (llead : K.lookup xlead = some ⟨oclead, odlead, .func (PySem.W.fnOf "lead" "lead" (defArgs s_lead) (defBody s_lead) (defScope s_lead) .none kVlead dclead pmlead anlead cdlead ctlead), sllead⟩)
    (clead : PySem.W.codeIn K cdlead "lead" = true)
    (klead : PySem.W.keepIn K (.ref xlead) = true)
    (aled_by : PySem.W.nsIn K mainGlobals "led_by" = some (some (.ref xled_by)))
    (lled_by : K.lookup xled_by = some ⟨ocled_by, odled_by, .func (PySem.W.fnOf "led_by" "led_by" (defArgs s_led_by) (defBody s_led_by) (defScope s_led_by) .none kVled_by dcled_by pmled_by anled_by cdled_by ctled_by), slled_by⟩)
    (cled_by : PySem.W.codeIn K cdled_by "led_by" = true)
    (kled_by : PySem.W.keepIn K (.ref xled_by) = true)
    (atrail_of : PySem.W.nsIn K mainGlobals "trail_of" = some (some (.ref xtrail_of)))
    (ltrail_of : K.lookup xtrail_of = some ⟨octrail_of, odtrail_of, .func (PySem.W.fnOf "trail_of" "trail_of" (defArgs s_trail_of) (defBody s_trail_of) (defScope s_trail_of) .none kVtrail_of dctrail_of pmtrail_of antrail_of cdtrail_of cttrail_of), sltrail_of⟩)
    (ctrail_of : PySem.W.codeIn K cdtrail_of "trail_of" = true)
    (ktrail_of : PySem.W.keepIn K (.ref xtrail_of) = true)
    (alaw_row : PySem.W.nsIn K mainGlobals "_law_row" = some (some (.ref xlaw_row)))
    (llaw_row : K.lookup xlaw_row = some ⟨oclaw_row, odlaw_row, .func (PySem.W.fnOf "_law_row" "_law_row" (defArgs s_law_row) (defBody s_law_row) (defScope s_law_row) .none kVlaw_row dclaw_row pmlaw_row anlaw_row cdlaw_row ctlaw_row), sllaw_row⟩)
    (claw_row : PySem.W.codeIn K cdlaw_row "_law_row" = true)
    (klaw_row : PySem.W.keepIn K (.ref xlaw_row) = true)
    (alaw_walked : PySem.W.nsIn K mainGlobals "_law_walked" = some (some (.ref xlaw_walked)))
    (llaw_walked : K.lookup xlaw_walked = some ⟨oclaw_walked, odlaw_walked, .func (PySem.W.fnOf "_law_walked" "_law_walked" (defArgs s_law_walked) (defBody s_law_walked) (defScope s_law_walked) .none kVlaw_walked dclaw_walked pmlaw_walked anlaw_walked cdlaw_walked ctlaw_walked), sllaw_walked⟩)
    (claw_walked : PySem.W.codeIn K cdlaw_walked "_law_walked" = true)
    (klaw_walked : PySem.W.keepIn K (.ref xlaw_walked) = true)
    (arow_back : PySem.W.nsIn K mainGlobals "row_back" = some (some (.ref xrow_back)))
    (lrow_back : K.lookup xrow_back = some ⟨ocrow_back, odrow_back, .func (PySem.W.fnOf "row_back" "row_back" (defArgs s_row_back) (defBody s_row_back) (defScope s_row_back) .none kVrow_back dcrow_back pmrow_back anrow_back cdrow_back ctrow_back), slrow_back⟩)
    (crow_back : PySem.W.codeIn K cdrow_back "row_back" = true)
    (krow_back : PySem.W.keepIn K (.ref xrow_back) = true)
    (alaw_due : PySem.W.nsIn K mainGlobals "_law_due" = some (some (.ref xlaw_due)))
    (llaw_due : K.lookup xlaw_due = some ⟨oclaw_due, odlaw_due, .func (PySem.W.fnOf "_law_due" "_law_due" (defArgs s_law_due) (defBody s_law_due) (defScope s_law_due) .none kVlaw_due dclaw_due pmlaw_due anlaw_due cdlaw_due ctlaw_due), sllaw_due⟩)
    (claw_due : PySem.W.codeIn K cdlaw_due "_law_due" = true)
    (klaw_due : PySem.W.keepIn K (.ref xlaw_due) = true)
    (alaw_bent : PySem.W.nsIn K mainGlobals "_law_bent" = some (some (.ref xlaw_bent)))
    (llaw_bent : K.lookup xlaw_bent = some ⟨oclaw_bent, odlaw_bent, .func (PySem.W.fnOf "_law_bent" "_law_bent" (defArgs s_law_bent) (defBody s_law_bent) (defScope s_law_bent) .none kVlaw_bent dclaw_bent pmlaw_bent anlaw_bent cdlaw_bent ctlaw_bent), sllaw_bent⟩)
    (claw_bent : PySem.W.codeIn K cdlaw_bent "_law_bent" = true)
    (klaw_bent : PySem.W.keepIn K (.ref xlaw_bent) = true)
    (alaw_refused : PySem.W.nsIn K mainGlobals "_law_refused" = some (some (.ref xlaw_refused)))
    (llaw_refused : K.lookup xlaw_refused = some ⟨oclaw_refused, odlaw_refused, .func (PySem.W.fnOf "_law_refused" "_law_refused" (defArgs s_law_refused) (defBody s_law_refused) (defScope s_law_refused) .none kVlaw_refused dclaw_refused pmlaw_refused anlaw_refused cdlaw_refused ctlaw_refused), sllaw_refused⟩)
    (claw_refused : PySem.W.codeIn K cdlaw_refused "_law_refused" = true)
    (klaw_refused : PySem.W.keepIn K (.ref xlaw_refused) = true)
    (alaw_bounds : PySem.W.nsIn K mainGlobals "_law_bounds" = some (some (.ref xlaw_bounds)))
    (llaw_bounds : K.lookup xlaw_bounds = some ⟨oclaw_bounds, odlaw_bounds, .func (PySem.W.fnOf "_law_bounds" "_law_bounds" (defArgs s_law_bounds) (defBody s_law_bounds) (defScope s_law_bounds) .none kVlaw_bounds dclaw_bounds pmlaw_bounds anlaw_bounds cdlaw_bounds ctlaw_bounds), sllaw_bounds⟩)
    (claw_bounds : PySem.W.codeIn K cdlaw_bounds "_law_bounds" = true)
    (klaw_bounds : PySem.W.keepIn K (.ref xlaw_bounds) = true)
    (alaw : PySem.W.nsIn K mainGlobals "law" = some (some (.ref xlaw)))
    (llaw : K.lookup xlaw = some ⟨oclaw, odlaw, .func (PySem.W.fnOf "law" "law" (defArgs s_law) (defBody s_law) (defScope s_law) .none kVlaw dclaw pmlaw anlaw cdlaw ctlaw), sllaw⟩)
    (claw : PySem.W.codeIn K cdlaw "law" = true)
    (klaw : PySem.W.keepIn K (.ref xlaw) = true)
    (n_ValueError : PySem.W.nsIn K mainGlobals "ValueError" = some none)
    (n_abs : PySem.W.nsIn K mainGlobals "abs" = some none)
    (n_bool : PySem.W.nsIn K mainGlobals "bool" = some none)
    (n_dict : PySem.W.nsIn K mainGlobals "dict" = some none)
    (n_enumerate : PySem.W.nsIn K mainGlobals "enumerate" = some none)
    (n_int : PySem.W.nsIn K mainGlobals "int" = some none)
    (n_isinstance : PySem.W.nsIn K mainGlobals "isinstance" = some none)
    (n_len : PySem.W.nsIn K mainGlobals "len" = some none)
    (n_list : PySem.W.nsIn K mainGlobals "list" = some none)
    (n_range : PySem.W.nsIn K mainGlobals "range" = some none)
    (n_sorted : PySem.W.nsIn K mainGlobals "sorted" = some none)
    (n_str : PySem.W.nsIn K mainGlobals "str" = some none)
    (n_super : PySem.W.nsIn K mainGlobals "super" = some none)
    (n_tuple : PySem.W.nsIn K mainGlobals "tuple" = some none)
    (v_MOST_PLACES : PySem.W.nsIn K mainGlobals "MOST_PLACES" = some (some (.int 8 vMOST_PLACES)))
    (v_MOST_ROADS : PySem.W.nsIn K mainGlobals "MOST_ROADS" = some (some (.int 16 vMOST_ROADS)))
    (v_MOST_WALKERS : PySem.W.nsIn K mainGlobals "MOST_WALKERS" = some (some (.int 4 vMOST_WALKERS)))
    (v_MOST_LETTERS : PySem.W.nsIn K mainGlobals "MOST_LETTERS" = some (some (.int 8 vMOST_LETTERS)))
    (v_MOST_DEEDS : PySem.W.nsIn K mainGlobals "MOST_DEEDS" = some (some (.int 4000 vMOST_DEEDS)))
    (v_SAMPLE : PySem.W.nsIn K mainGlobals "SAMPLE" = some (some (.int 32 vSAMPLE)))
    (okNoRow : PySem.W.keepIn K (.ref xNoRow) = true)
    (osNoRow : PySem.W.subIn K (.ref xNoRow) (.type "BaseException") = some true)
    (otNoRow : PySem.W.typeIn K (.ref xNoRow) = some (.type "type"))
    (egNoRow : PySem.W.findIn K (.ref xNoRow) "__getattribute__" = some (some (.builtin "BaseException.__getattribute__")))
    (ekNoRow : PySem.W.findIn K (.ref xNoRow) "__getattr__" = some none)
    (edNoRow : PySem.W.hasDictIn K xNoRow = true)
    (eaNoRow : PySem.W.findIn K (.ref xNoRow) "__class__" = some (some (.builtin "object.__class__")))
    (emNoRow : PySem.W.mroIn K xNoRow (.type "object") = some true)
    (okNoStanding : PySem.W.keepIn K (.ref xNoStanding) = true)
    (osNoStanding : PySem.W.subIn K (.ref xNoStanding) (.type "BaseException") = some true)
    (otNoStanding : PySem.W.typeIn K (.ref xNoStanding) = some (.type "type"))
    (egNoStanding : PySem.W.findIn K (.ref xNoStanding) "__getattribute__" = some (some (.builtin "BaseException.__getattribute__")))
    (ekNoStanding : PySem.W.findIn K (.ref xNoStanding) "__getattr__" = some none)
    (edNoStanding : PySem.W.hasDictIn K xNoStanding = true)
    (eaNoStanding : PySem.W.findIn K (.ref xNoStanding) "__class__" = some (some (.builtin "object.__class__")))
    (emNoStanding : PySem.W.mroIn K xNoStanding (.type "object") = some true)
    (okNoTown : PySem.W.keepIn K (.ref xNoTown) = true)
    (osNoTown : PySem.W.subIn K (.ref xNoTown) (.type "BaseException") = some true)
    (otNoTown : PySem.W.typeIn K (.ref xNoTown) = some (.type "type"))
    (egNoTown : PySem.W.findIn K (.ref xNoTown) "__getattribute__" = some (some (.builtin "BaseException.__getattribute__")))
    (ekNoTown : PySem.W.findIn K (.ref xNoTown) "__getattr__" = some none)
    (edNoTown : PySem.W.hasDictIn K xNoTown = true)
    (eaNoTown : PySem.W.findIn K (.ref xNoTown) "__class__" = some (some (.builtin "object.__class__")))
    (emNoTown : PySem.W.mroIn K xNoTown (.type "object") = some true)
    (en : PySem.W.specialIn K (.builtin "object.__class__") "__get__" = some (some (.builtin "getset_descriptor.__get__")))
    (et : PySem.W.takesIn K (.builtin "object.__class__") = some true)
    (plNoTown : K.lookup xNoTown = some (excClassObj nmNoTown qnNoTown xNoTown NNoTown bsNoTown bmNoTown true snNoTown subNoTown abNoTown colNoTown ddNoTown m0NoTown m1NoTown m2NoTown m3NoTown m5NoTown "ValueError.__new__"))
    (prNoTown : PySem.HandSPX.refsVE bmNoTown = true)
    (paNoTown : PySem.W.findIn K (.ref xNoTown) "__setattr__" = some (some (.builtin "object.__setattr__")))
    (piNoTown : PySem.W.findIn K (.ref xNoTown) "__init__" = some (some (.ref xiNoTown)))
    (ptNoTown : PySem.W.typeIn K (.ref xiNoTown) = some (.type "function"))
    (pkNoTown : PySem.W.keepIn K (.ref xiNoTown) = true)
    (pwNoTown : PySem.W.findIn K (.ref xNoTown) "wrong" = some none)
    (pfNoTown : K.lookup xiNoTown = some ⟨ocNoTown, odNoTown, .func (ksFn "__init__" "NoTown.__init__" (supArgs (zOf (inClass (topS 4) 0))) (supBody "this is no town" (zOf (inClass (topS 4) 0))) supScope .none kVNoTown dcNoTown pmNoTown anNoTown (.ref xdNoTown) ctNoTown xcNoTown), slNoTown⟩)
    (pcNoTown : PySem.W.codeIn K (.ref xdNoTown) "NoTown.__init__" = true)
    (poNoTown : K.lookup xdNoTown = some ⟨cclNoTown, cddNoTown, .fields cvsNoTown, ccsNoTown⟩)
    (p2NoTown : cvsNoTown[2]? = some (.str cfiNoTown ctfNoTown))
    (p3NoTown : ((prg.main.file : Str) == cfiNoTown) = true)
    (peNoTown : K.lookup xcNoTown = some ⟨clNoTown, cldNoTown, .cell (some (.ref xNoTown)), cslNoTown⟩)
    (p1NoTown : PySem.W.mroIn K xNoTown (.ref xNoTown) = some true)
    (puNoTown : ks_superIn K xNoTown xNoTown "__init__" = some (some (.builtin "ValueError.__init__")))
    (pvNoTown : PySem.W.subIn K (.ref xNoTown) (.type "ValueError") = some true)
    (plNoStanding : K.lookup xNoStanding = some (excClassObj nmNoStanding qnNoStanding xNoStanding NNoStanding bsNoStanding bmNoStanding true snNoStanding subNoStanding abNoStanding colNoStanding ddNoStanding m0NoStanding m1NoStanding m2NoStanding m3NoStanding m5NoStanding "ValueError.__new__"))
    (prNoStanding : PySem.HandSPX.refsVE bmNoStanding = true)
    (paNoStanding : PySem.W.findIn K (.ref xNoStanding) "__setattr__" = some (some (.builtin "object.__setattr__")))
    (piNoStanding : PySem.W.findIn K (.ref xNoStanding) "__init__" = some (some (.ref xiNoStanding)))
    (ptNoStanding : PySem.W.typeIn K (.ref xiNoStanding) = some (.type "function"))
    (pkNoStanding : PySem.W.keepIn K (.ref xiNoStanding) = true)
    (pwNoStanding : PySem.W.findIn K (.ref xNoStanding) "wrong" = some none)
    (pfNoStanding : K.lookup xiNoStanding = some ⟨ocNoStanding, odNoStanding, .func (ksFn "__init__" "NoStanding.__init__" (supArgs (zOf (inClass (topS 3) 0))) (supBody "this is no standing" (zOf (inClass (topS 3) 0))) supScope .none kVNoStanding dcNoStanding pmNoStanding anNoStanding (.ref xdNoStanding) ctNoStanding xcNoStanding), slNoStanding⟩)
    (pcNoStanding : PySem.W.codeIn K (.ref xdNoStanding) "NoStanding.__init__" = true)
    (poNoStanding : K.lookup xdNoStanding = some ⟨cclNoStanding, cddNoStanding, .fields cvsNoStanding, ccsNoStanding⟩)
    (p2NoStanding : cvsNoStanding[2]? = some (.str cfiNoStanding ctfNoStanding))
    (p3NoStanding : ((prg.main.file : Str) == cfiNoStanding) = true)
    (peNoStanding : K.lookup xcNoStanding = some ⟨clNoStanding, cldNoStanding, .cell (some (.ref xNoStanding)), cslNoStanding⟩)
    (p1NoStanding : PySem.W.mroIn K xNoStanding (.ref xNoStanding) = some true)
    (puNoStanding : ks_superIn K xNoStanding xNoStanding "__init__" = some (some (.builtin "ValueError.__init__")))
    (pvNoStanding : PySem.W.subIn K (.ref xNoStanding) (.type "ValueError") = some true)
    (plNoRow : K.lookup xNoRow = some (excClassObj nmNoRow qnNoRow xNoRow NNoRow bsNoRow bmNoRow true snNoRow subNoRow abNoRow colNoRow ddNoRow m0NoRow m1NoRow m2NoRow m3NoRow m5NoRow "ValueError.__new__"))
    (prNoRow : PySem.HandSPX.refsVE bmNoRow = true)
    (paNoRow : PySem.W.findIn K (.ref xNoRow) "__setattr__" = some (some (.builtin "object.__setattr__")))
    (piNoRow : PySem.W.findIn K (.ref xNoRow) "__init__" = some (some (.ref xiNoRow)))
    (ptNoRow : PySem.W.typeIn K (.ref xiNoRow) = some (.type "function"))
    (pkNoRow : PySem.W.keepIn K (.ref xiNoRow) = true)
    (pwNoRow : PySem.W.findIn K (.ref xNoRow) "wrong" = some none)
    (pfNoRow : K.lookup xiNoRow = some ⟨ocNoRow, odNoRow, .func (ksFn "__init__" "NoRow.__init__" (supArgs (zOf (inClass (topS 2) 0))) (supBody "this is no row" (zOf (inClass (topS 2) 0))) supScope .none kVNoRow dcNoRow pmNoRow anNoRow (.ref xdNoRow) ctNoRow xcNoRow), slNoRow⟩)
    (pcNoRow : PySem.W.codeIn K (.ref xdNoRow) "NoRow.__init__" = true)
    (poNoRow : K.lookup xdNoRow = some ⟨cclNoRow, cddNoRow, .fields cvsNoRow, ccsNoRow⟩)
    (p2NoRow : cvsNoRow[2]? = some (.str cfiNoRow ctfNoRow))
    (p3NoRow : ((prg.main.file : Str) == cfiNoRow) = true)
    (peNoRow : K.lookup xcNoRow = some ⟨clNoRow, cldNoRow, .cell (some (.ref xNoRow)), cslNoRow⟩)
    (p1NoRow : PySem.W.mroIn K xNoRow (.ref xNoRow) = some true)
    (puNoRow : ks_superIn K xNoRow xNoRow "__init__" = some (some (.builtin "ValueError.__init__")))
    (pvNoRow : PySem.W.subIn K (.ref xNoRow) (.type "ValueError") = some true)
    (pq : PySem.W.nsIn K cStatics "thirdparty.any" = some none)
    (isPostError : PySem.W.isClsIn K xPostError = true)
    (itPostError : PySem.W.typeIn K (.ref xPostError) = some (.type "type"))
    (iePostError : PySem.W.subIn K (.ref xPostError) (.type "BaseException") = some true)
    (isNoRow : PySem.W.isClsIn K xNoRow = true)
    (itNoRow : PySem.W.typeIn K (.ref xNoRow) = some (.type "type"))
    (ieNoRow : PySem.W.subIn K (.ref xNoRow) (.type "BaseException") = some true)
    (isNoStanding : PySem.W.isClsIn K xNoStanding = true)
    (itNoStanding : PySem.W.typeIn K (.ref xNoStanding) = some (.type "type"))
    (ieNoStanding : PySem.W.subIn K (.ref xNoStanding) (.type "BaseException") = some true)
    (isNoTown : PySem.W.isClsIn K xNoTown = true)
    (itNoTown : PySem.W.typeIn K (.ref xNoTown) = some (.type "type"))
    (ieNoTown : PySem.W.subIn K (.ref xNoTown) (.type "BaseException") = some true)
    (su_NoTown_NoStanding : PySem.W.subIn K (.ref xNoTown) (.ref xNoStanding) = some false)
    (ne_NoTown_NoStanding : xNoTown ≠ xNoStanding)
    (su_NoTown_NoRow : PySem.W.subIn K (.ref xNoTown) (.ref xNoRow) = some false)
    (ne_NoTown_NoRow : xNoTown ≠ xNoRow)
    (su_NoTown_ValueError : PySem.W.subIn K (.ref xNoTown) (.type "ValueError") = some true)
    (su_NoStanding_NoTown : PySem.W.subIn K (.ref xNoStanding) (.ref xNoTown) = some false)
    (ne_NoStanding_NoTown : xNoStanding ≠ xNoTown)
    (su_NoStanding_NoRow : PySem.W.subIn K (.ref xNoStanding) (.ref xNoRow) = some false)
    (ne_NoStanding_NoRow : xNoStanding ≠ xNoRow)
    (su_NoStanding_ValueError : PySem.W.subIn K (.ref xNoStanding) (.type "ValueError") = some true)
    (su_NoRow_ValueError : PySem.W.subIn K (.ref xNoRow) (.type "ValueError") = some true)
    (su_NoTown_PostError : PySem.W.subIn K (.ref xNoTown) (.ref xPostError) = some true)
    (su_NoStanding_PostError : PySem.W.subIn K (.ref xNoStanding) (.ref xPostError) = some true)
    (su_NoRow_PostError : PySem.W.subIn K (.ref xNoRow) (.ref xPostError) = some true)
    : ∃ fd : FuncData, (∀ (s : Shared) (u : Value), BindsTo s fd ⟨[u], []⟩ [("script", u)]) ∧ ∀ b : Heap, K.In b → b.Ns mainGlobals mg → GOk prg w K mg b CX0 13 fa fd ["script"] (spLaw K) := by
  have e : xlaw = fa := by
    have z := (PySem.W.mg_of X G alaw).symm.trans hfa
    cases z
    rfl
  subst e
  let A : Ad := { a_is_whole := xis_whole, a_is_below := xis_below, a_is_pair := xis_pair, a_is_road := xis_road, a_town_wrong := xtown_wrong, a_need_town := xneed_town, a_is_end := xis_end, a_place_of := xplace_of, a_is_name := xis_name, a_is_walker := xis_walker, a_posts_wrong := xposts_wrong, a_walkers_wrong := xwalkers_wrong, a_find_standing_wrong := xfind_standing_wrong, a_need_standings := xneed_standings, a_need_standing := xneed_standing, a_law_spot := xlaw_spot, a_law_flip := xlaw_flip, a_law_purse := xlaw_purse, a_law_draw := xlaw_draw, a_law_pick := xlaw_pick, a_law_mixed := xlaw_mixed, a_law_ends := xlaw_ends, a_law_town := xlaw_town, a_law_standing := xlaw_standing, a_gather_all_ends := xgather_all_ends, a_deeds_of := xdeeds_of, a_put_usual_ahead := xput_usual_ahead, a_first_other := xfirst_other, a_find_row_wrong := xfind_row_wrong, a_row_wrong := xrow_wrong, a_need_row := xneed_row, a_walk := xwalk, a_lead := xlead, a_led_by := xled_by, a_trail_of := xtrail_of, a_law_row := xlaw_row, a_law_walked := xlaw_walked, a_row_back := xrow_back, a_law_due := xlaw_due, a_law_bent := xlaw_bent, a_law_refused := xlaw_refused, a_law_bounds := xlaw_bounds, a_law := xlaw, PostError := xPostError, NoRow := xNoRow, NoStanding := xNoStanding, NoTown := xNoTown, i_NoTown := xiNoTown, cc_NoTown := xcNoTown, cda_NoTown := xdNoTown, fd_NoTown := ksFn "__init__" "NoTown.__init__" (supArgs (zOf (inClass (topS 4) 0))) (supBody "this is no town" (zOf (inClass (topS 4) 0))) supScope .none kVNoTown dcNoTown pmNoTown anNoTown (.ref xdNoTown) ctNoTown xcNoTown, i_NoStanding := xiNoStanding, cc_NoStanding := xcNoStanding, cda_NoStanding := xdNoStanding, fd_NoStanding := ksFn "__init__" "NoStanding.__init__" (supArgs (zOf (inClass (topS 3) 0))) (supBody "this is no standing" (zOf (inClass (topS 3) 0))) supScope .none kVNoStanding dcNoStanding pmNoStanding anNoStanding (.ref xdNoStanding) ctNoStanding xcNoStanding, i_NoRow := xiNoRow, cc_NoRow := xcNoRow, cda_NoRow := xdNoRow, fd_NoRow := ksFn "__init__" "NoRow.__init__" (supArgs (zOf (inClass (topS 2) 0))) (supBody "this is no row" (zOf (inClass (topS 2) 0))) supScope .none kVNoRow dcNoRow pmNoRow anNoRow (.ref xdNoRow) ctNoRow xcNoRow }
  have T : Txt K mg A := {
    g_is_whole := PySem.W.mg_of X G ais_whole,
    k_is_whole := kis_whole,
    g_is_below := PySem.W.mg_of X G ais_below,
    k_is_below := kis_below,
    g_is_pair := PySem.W.mg_of X G ais_pair,
    k_is_pair := kis_pair,
    g_is_road := PySem.W.mg_of X G ais_road,
    k_is_road := kis_road,
    g_town_wrong := PySem.W.mg_of X G atown_wrong,
    k_town_wrong := ktown_wrong,
    g_need_town := PySem.W.mg_of X G aneed_town,
    k_need_town := kneed_town,
    g_is_end := PySem.W.mg_of X G ais_end,
    k_is_end := kis_end,
    g_place_of := PySem.W.mg_of X G aplace_of,
    k_place_of := kplace_of,
    g_is_name := PySem.W.mg_of X G ais_name,
    k_is_name := kis_name,
    g_is_walker := PySem.W.mg_of X G ais_walker,
    k_is_walker := kis_walker,
    g_posts_wrong := PySem.W.mg_of X G aposts_wrong,
    k_posts_wrong := kposts_wrong,
    g_walkers_wrong := PySem.W.mg_of X G awalkers_wrong,
    k_walkers_wrong := kwalkers_wrong,
    g_find_standing_wrong := PySem.W.mg_of X G afind_standing_wrong,
    k_find_standing_wrong := kfind_standing_wrong,
    g_need_standings := PySem.W.mg_of X G aneed_standings,
    k_need_standings := kneed_standings,
    g_need_standing := PySem.W.mg_of X G aneed_standing,
    k_need_standing := kneed_standing,
    g_law_spot := PySem.W.mg_of X G alaw_spot,
    k_law_spot := klaw_spot,
    g_law_flip := PySem.W.mg_of X G alaw_flip,
    k_law_flip := klaw_flip,
    g_law_purse := PySem.W.mg_of X G alaw_purse,
    k_law_purse := klaw_purse,
    g_law_draw := PySem.W.mg_of X G alaw_draw,
    k_law_draw := klaw_draw,
    g_law_pick := PySem.W.mg_of X G alaw_pick,
    k_law_pick := klaw_pick,
    g_law_mixed := PySem.W.mg_of X G alaw_mixed,
    k_law_mixed := klaw_mixed,
    g_law_ends := PySem.W.mg_of X G alaw_ends,
    k_law_ends := klaw_ends,
    g_law_town := PySem.W.mg_of X G alaw_town,
    k_law_town := klaw_town,
    g_law_standing := PySem.W.mg_of X G alaw_standing,
    k_law_standing := klaw_standing,
    g_gather_all_ends := PySem.W.mg_of X G agather_all_ends,
    k_gather_all_ends := kgather_all_ends,
    g_deeds_of := PySem.W.mg_of X G adeeds_of,
    k_deeds_of := kdeeds_of,
    g_put_usual_ahead := PySem.W.mg_of X G aput_usual_ahead,
    k_put_usual_ahead := kput_usual_ahead,
    g_first_other := PySem.W.mg_of X G afirst_other,
    k_first_other := kfirst_other,
    g_find_row_wrong := PySem.W.mg_of X G afind_row_wrong,
    k_find_row_wrong := kfind_row_wrong,
    g_row_wrong := PySem.W.mg_of X G arow_wrong,
    k_row_wrong := krow_wrong,
    g_need_row := PySem.W.mg_of X G aneed_row,
    k_need_row := kneed_row,
    g_walk := PySem.W.mg_of X G awalk,
    k_walk := kwalk,
    g_lead := PySem.W.mg_of X G alead,
    k_lead := klead,
    g_led_by := PySem.W.mg_of X G aled_by,
    k_led_by := kled_by,
    g_trail_of := PySem.W.mg_of X G atrail_of,
    k_trail_of := ktrail_of,
    g_law_row := PySem.W.mg_of X G alaw_row,
    k_law_row := klaw_row,
    g_law_walked := PySem.W.mg_of X G alaw_walked,
    k_law_walked := klaw_walked,
    g_row_back := PySem.W.mg_of X G arow_back,
    k_row_back := krow_back,
    g_law_due := PySem.W.mg_of X G alaw_due,
    k_law_due := klaw_due,
    g_law_bent := PySem.W.mg_of X G alaw_bent,
    k_law_bent := klaw_bent,
    g_law_refused := PySem.W.mg_of X G alaw_refused,
    k_law_refused := klaw_refused,
    g_law_bounds := PySem.W.mg_of X G alaw_bounds,
    k_law_bounds := klaw_bounds,
    g_law := PySem.W.mg_of X G alaw,
    k_law := klaw,
    n_ValueError := PySem.W.mg_none_of X G n_ValueError,
    n_abs := PySem.W.mg_none_of X G n_abs,
    n_bool := PySem.W.mg_none_of X G n_bool,
    n_dict := PySem.W.mg_none_of X G n_dict,
    n_enumerate := PySem.W.mg_none_of X G n_enumerate,
    n_int := PySem.W.mg_none_of X G n_int,
    n_isinstance := PySem.W.mg_none_of X G n_isinstance,
    n_len := PySem.W.mg_none_of X G n_len,
    n_list := PySem.W.mg_none_of X G n_list,
    n_range := PySem.W.mg_none_of X G n_range,
    n_sorted := PySem.W.mg_none_of X G n_sorted,
    n_str := PySem.W.mg_none_of X G n_str,
    n_super := PySem.W.mg_none_of X G n_super,
    n_tuple := PySem.W.mg_none_of X G n_tuple,
    c_MOST_PLACES := ⟨_, PySem.W.mg_of X G v_MOST_PLACES⟩,
    c_MOST_ROADS := ⟨_, PySem.W.mg_of X G v_MOST_ROADS⟩,
    c_MOST_WALKERS := ⟨_, PySem.W.mg_of X G v_MOST_WALKERS⟩,
    c_MOST_LETTERS := ⟨_, PySem.W.mg_of X G v_MOST_LETTERS⟩,
    c_MOST_DEEDS := ⟨_, PySem.W.mg_of X G v_MOST_DEEDS⟩,
    c_SAMPLE := ⟨_, PySem.W.mg_of X G v_SAMPLE⟩,
    g_PostError := PySem.W.mg_of X G gPostError,
    g_NoRow := PySem.W.mg_of X G gNoRow,
    g_NoStanding := PySem.W.mg_of X G gNoStanding,
    g_NoTown := PySem.W.mg_of X G gNoTown,
    s_NoTown := { oex := ⟨⟨_, _, _, _, _, _, _, _, _, _, _, _, _, _, _, plNoTown, prNoTown⟩, paNoTown, osNoTown, otNoTown, okNoTown⟩, iC := piNoTown, tI := ptNoTown, kI := pkNoTown, noW := pwNoTown, fn := ⟨_, _, _, _, _, _, _, _, rfl, pfNoTown⟩, ev := fun L => ⟨_, rfl⟩, sw := fun L => rfl, sw2 := fun L => rfl, code := pcNoTown, codeO := ⟨_, _, _, _, _, _, poNoTown, p2NoTown, p3NoTown⟩, cell := ⟨_, _, _, peNoTown⟩, sub1 := p1NoTown, sup0 := n_super, opq := pq, up := puNoTown, subV := pvNoTown, top0 := by decide +kernel },
    s_NoStanding := { oex := ⟨⟨_, _, _, _, _, _, _, _, _, _, _, _, _, _, _, plNoStanding, prNoStanding⟩, paNoStanding, osNoStanding, otNoStanding, okNoStanding⟩, iC := piNoStanding, tI := ptNoStanding, kI := pkNoStanding, noW := pwNoStanding, fn := ⟨_, _, _, _, _, _, _, _, rfl, pfNoStanding⟩, ev := fun L => ⟨_, rfl⟩, sw := fun L => rfl, sw2 := fun L => rfl, code := pcNoStanding, codeO := ⟨_, _, _, _, _, _, poNoStanding, p2NoStanding, p3NoStanding⟩, cell := ⟨_, _, _, peNoStanding⟩, sub1 := p1NoStanding, sup0 := n_super, opq := pq, up := puNoStanding, subV := pvNoStanding, top0 := by decide +kernel },
    s_NoRow := { oex := ⟨⟨_, _, _, _, _, _, _, _, _, _, _, _, _, _, _, plNoRow, prNoRow⟩, paNoRow, osNoRow, otNoRow, okNoRow⟩, iC := piNoRow, tI := ptNoRow, kI := pkNoRow, noW := pwNoRow, fn := ⟨_, _, _, _, _, _, _, _, rfl, pfNoRow⟩, ev := fun L => ⟨_, rfl⟩, sw := fun L => rfl, sw2 := fun L => rfl, code := pcNoRow, codeO := ⟨_, _, _, _, _, _, poNoRow, p2NoRow, p3NoRow⟩, cell := ⟨_, _, _, peNoRow⟩, sub1 := p1NoRow, sup0 := n_super, opq := pq, up := puNoRow, subV := pvNoRow, top0 := by decide +kernel },
    e_NoTown := ⟨egNoTown, ekNoTown, osNoTown, edNoTown, eaNoTown, en, et, emNoTown⟩,
    f_NoTown := ⟨egNoTown, ekNoTown, osNoTown, edNoTown⟩,
    e_NoStanding := ⟨egNoStanding, ekNoStanding, osNoStanding, edNoStanding, eaNoStanding, en, et, emNoStanding⟩,
    f_NoStanding := ⟨egNoStanding, ekNoStanding, osNoStanding, edNoStanding⟩,
    e_NoRow := ⟨egNoRow, ekNoRow, osNoRow, edNoRow, eaNoRow, en, et, emNoRow⟩,
    f_NoRow := ⟨egNoRow, ekNoRow, osNoRow, edNoRow⟩,
    t_NoTown_NoTown := kit_same,
    t_NoTown_NoStanding := kit_own su_NoTown_NoStanding isNoStanding itNoStanding ne_NoTown_NoStanding,
    t_NoTown_NoRow := kit_own su_NoTown_NoRow isNoRow itNoRow ne_NoTown_NoRow,
    t_NoTown_ValueError := kit_type su_NoTown_ValueError (by decide +kernel),
    t_NoStanding_NoTown := kit_own su_NoStanding_NoTown isNoTown itNoTown ne_NoStanding_NoTown,
    t_NoStanding_NoStanding := kit_same,
    t_NoStanding_NoRow := kit_own su_NoStanding_NoRow isNoRow itNoRow ne_NoStanding_NoRow,
    t_NoStanding_ValueError := kit_type su_NoStanding_ValueError (by decide +kernel),
    t_NoRow_NoRow := kit_same,
    t_NoRow_ValueError := kit_type su_NoRow_ValueError (by decide +kernel),
    t_NoneType_NoTown := kit_none isNoTown itNoTown,
    t_NoneType_NoStanding := kit_none isNoStanding itNoStanding,
    t_NoneType_NoRow := kit_none isNoRow itNoRow,
    m_NoTown_PostError := exm_own iePostError isPostError itPostError su_NoTown_PostError,
    m_NoStanding_PostError := exm_own iePostError isPostError itPostError su_NoStanding_PostError,
    m_NoRow_PostError := exm_own iePostError isPostError itPostError su_NoRow_PostError }
  have F_is_whole : Fun K "is_whole" "is_whole" s_is_whole xis_whole (PySem.W.fnOf "is_whole" "is_whole" (defArgs s_is_whole) (defBody s_is_whole) (defScope s_is_whole) .none kVis_whole dcis_whole pmis_whole anis_whole cdis_whole ctis_whole) := fun_mk lis_whole cis_whole kis_whole
  have B_is_whole := F_is_whole.binds (ps := ["thing"]) fun _ _ _ _ _ _ us hl => match us, hl with | [_], _ => rfl
  have F_is_below : Fun K "is_below" "is_below" s_is_below xis_below (PySem.W.fnOf "is_below" "is_below" (defArgs s_is_below) (defBody s_is_below) (defScope s_is_below) .none kVis_below dcis_below pmis_below anis_below cdis_below ctis_below) := fun_mk lis_below cis_below kis_below
  have B_is_below := F_is_below.binds (ps := ["thing", "limit"]) fun _ _ _ _ _ _ us hl => match us, hl with | [_, _], _ => rfl
  have F_is_pair : Fun K "is_pair" "is_pair" s_is_pair xis_pair (PySem.W.fnOf "is_pair" "is_pair" (defArgs s_is_pair) (defBody s_is_pair) (defScope s_is_pair) .none kVis_pair dcis_pair pmis_pair anis_pair cdis_pair ctis_pair) := fun_mk lis_pair cis_pair kis_pair
  have B_is_pair := F_is_pair.binds (ps := ["thing"]) fun _ _ _ _ _ _ us hl => match us, hl with | [_], _ => rfl
  have F_is_road : Fun K "is_road" "is_road" s_is_road xis_road (PySem.W.fnOf "is_road" "is_road" (defArgs s_is_road) (defBody s_is_road) (defScope s_is_road) .none kVis_road dcis_road pmis_road anis_road cdis_road ctis_road) := fun_mk lis_road cis_road kis_road
  have B_is_road := F_is_road.binds (ps := ["thing", "many"]) fun _ _ _ _ _ _ us hl => match us, hl with | [_, _], _ => rfl
  have F_town_wrong : Fun K "town_wrong" "town_wrong" s_town_wrong xtown_wrong (PySem.W.fnOf "town_wrong" "town_wrong" (defArgs s_town_wrong) (defBody s_town_wrong) (defScope s_town_wrong) .none kVtown_wrong dctown_wrong pmtown_wrong antown_wrong cdtown_wrong cttown_wrong) := fun_mk ltown_wrong ctown_wrong ktown_wrong
  have B_town_wrong := F_town_wrong.binds (ps := ["thing"]) fun _ _ _ _ _ _ us hl => match us, hl with | [_], _ => rfl
  have F_need_town : Fun K "need_town" "need_town" s_need_town xneed_town (PySem.W.fnOf "need_town" "need_town" (defArgs s_need_town) (defBody s_need_town) (defScope s_need_town) .none kVneed_town dcneed_town pmneed_town anneed_town cdneed_town ctneed_town) := fun_mk lneed_town cneed_town kneed_town
  have B_need_town := F_need_town.binds (ps := ["town"]) fun _ _ _ _ _ _ us hl => match us, hl with | [_], _ => rfl
  have F_is_end : Fun K "is_end" "is_end" s_is_end xis_end (PySem.W.fnOf "is_end" "is_end" (defArgs s_is_end) (defBody s_is_end) (defScope s_is_end) .none kVis_end dcis_end pmis_end anis_end cdis_end ctis_end) := fun_mk lis_end cis_end kis_end
  have B_is_end := F_is_end.binds (ps := ["town", "thing"]) fun _ _ _ _ _ _ us hl => match us, hl with | [_, _], _ => rfl
  have F_place_of : Fun K "place_of" "place_of" s_place_of xplace_of (PySem.W.fnOf "place_of" "place_of" (defArgs s_place_of) (defBody s_place_of) (defScope s_place_of) .none kVplace_of dcplace_of pmplace_of anplace_of cdplace_of ctplace_of) := fun_mk lplace_of cplace_of kplace_of
  have B_place_of := F_place_of.binds (ps := ["town", "end"]) fun _ _ _ _ _ _ us hl => match us, hl with | [_, _], _ => rfl
  have F_is_name : Fun K "is_name" "is_name" s_is_name xis_name (PySem.W.fnOf "is_name" "is_name" (defArgs s_is_name) (defBody s_is_name) (defScope s_is_name) .none kVis_name dcis_name pmis_name anis_name cdis_name ctis_name) := fun_mk lis_name cis_name kis_name
  have B_is_name := F_is_name.binds (ps := ["thing"]) fun _ _ _ _ _ _ us hl => match us, hl with | [_], _ => rfl
  have F_is_walker : Fun K "is_walker" "is_walker" s_is_walker xis_walker (PySem.W.fnOf "is_walker" "is_walker" (defArgs s_is_walker) (defBody s_is_walker) (defScope s_is_walker) .none kVis_walker dcis_walker pmis_walker anis_walker cdis_walker ctis_walker) := fun_mk lis_walker cis_walker kis_walker
  have B_is_walker := F_is_walker.binds (ps := ["town", "thing"]) fun _ _ _ _ _ _ us hl => match us, hl with | [_, _], _ => rfl
  have F_posts_wrong : Fun K "posts_wrong" "posts_wrong" s_posts_wrong xposts_wrong (PySem.W.fnOf "posts_wrong" "posts_wrong" (defArgs s_posts_wrong) (defBody s_posts_wrong) (defScope s_posts_wrong) .none kVposts_wrong dcposts_wrong pmposts_wrong anposts_wrong cdposts_wrong ctposts_wrong) := fun_mk lposts_wrong cposts_wrong kposts_wrong
  have B_posts_wrong := F_posts_wrong.binds (ps := ["town", "posts"]) fun _ _ _ _ _ _ us hl => match us, hl with | [_, _], _ => rfl
  have F_walkers_wrong : Fun K "walkers_wrong" "walkers_wrong" s_walkers_wrong xwalkers_wrong (PySem.W.fnOf "walkers_wrong" "walkers_wrong" (defArgs s_walkers_wrong) (defBody s_walkers_wrong) (defScope s_walkers_wrong) .none kVwalkers_wrong dcwalkers_wrong pmwalkers_wrong anwalkers_wrong cdwalkers_wrong ctwalkers_wrong) := fun_mk lwalkers_wrong cwalkers_wrong kwalkers_wrong
  have B_walkers_wrong := F_walkers_wrong.binds (ps := ["town", "walkers"]) fun _ _ _ _ _ _ us hl => match us, hl with | [_, _], _ => rfl
  have F_find_standing_wrong : Fun K "find_standing_wrong" "find_standing_wrong" s_find_standing_wrong xfind_standing_wrong (PySem.W.fnOf "find_standing_wrong" "find_standing_wrong" (defArgs s_find_standing_wrong) (defBody s_find_standing_wrong) (defScope s_find_standing_wrong) .none kVfind_standing_wrong dcfind_standing_wrong pmfind_standing_wrong anfind_standing_wrong cdfind_standing_wrong ctfind_standing_wrong) := fun_mk lfind_standing_wrong cfind_standing_wrong kfind_standing_wrong
  have B_find_standing_wrong := F_find_standing_wrong.binds (ps := ["town", "thing"]) fun _ _ _ _ _ _ us hl => match us, hl with | [_, _], _ => rfl
  have F_need_standings : Fun K "need_standings" "need_standings" s_need_standings xneed_standings (PySem.W.fnOf "need_standings" "need_standings" (defArgs s_need_standings) (defBody s_need_standings) (defScope s_need_standings) .none kVneed_standings dcneed_standings pmneed_standings anneed_standings cdneed_standings ctneed_standings) := fun_mk lneed_standings cneed_standings kneed_standings
  have B_need_standings := F_need_standings.binds (ps := ["town", "standings"]) fun _ _ _ _ _ _ us hl => match us, hl with | [_, _], _ => rfl
  have F_need_standing : Fun K "need_standing" "need_standing" s_need_standing xneed_standing (PySem.W.fnOf "need_standing" "need_standing" (defArgs s_need_standing) (defBody s_need_standing) (defScope s_need_standing) .none kVneed_standing dcneed_standing pmneed_standing anneed_standing cdneed_standing ctneed_standing) := fun_mk lneed_standing cneed_standing kneed_standing
  have B_need_standing := F_need_standing.binds (ps := ["town", "standing"]) fun _ _ _ _ _ _ us hl => match us, hl with | [_, _], _ => rfl
  have F_law_spot : Fun K "_law_spot" "_law_spot" s_law_spot xlaw_spot (PySem.W.fnOf "_law_spot" "_law_spot" (defArgs s_law_spot) (defBody s_law_spot) (defScope s_law_spot) .none kVlaw_spot dclaw_spot pmlaw_spot anlaw_spot cdlaw_spot ctlaw_spot) := fun_mk llaw_spot claw_spot klaw_spot
  have B_law_spot := F_law_spot.binds (ps := ["town", "end"]) fun _ _ _ _ _ _ us hl => match us, hl with | [_, _], _ => rfl
  have F_law_flip : Fun K "_law_flip" "_law_flip" s_law_flip xlaw_flip (PySem.W.fnOf "_law_flip" "_law_flip" (defArgs s_law_flip) (defBody s_law_flip) (defScope s_law_flip) .none kVlaw_flip dclaw_flip pmlaw_flip anlaw_flip cdlaw_flip ctlaw_flip) := fun_mk llaw_flip claw_flip klaw_flip
  have B_law_flip := F_law_flip.binds (ps := ["end"]) fun _ _ _ _ _ _ us hl => match us, hl with | [_], _ => rfl
  have F_law_purse : Fun K "_law_purse" "_law_purse" s_law_purse xlaw_purse (PySem.W.fnOf "_law_purse" "_law_purse" (defArgs s_law_purse) (defBody s_law_purse) (defScope s_law_purse) .none kVlaw_purse dclaw_purse pmlaw_purse anlaw_purse cdlaw_purse ctlaw_purse) := fun_mk llaw_purse claw_purse klaw_purse
  have B_law_purse := F_law_purse.binds (ps := ["script"]) fun _ _ _ _ _ _ us hl => match us, hl with | [_], _ => rfl
  have F_law_draw : Fun K "_law_draw" "_law_draw" s_law_draw xlaw_draw (PySem.W.fnOf "_law_draw" "_law_draw" (defArgs s_law_draw) (defBody s_law_draw) (defScope s_law_draw) .none kVlaw_draw dclaw_draw pmlaw_draw anlaw_draw cdlaw_draw ctlaw_draw) := fun_mk llaw_draw claw_draw klaw_draw
  have B_law_draw := F_law_draw.binds (ps := ["purse", "out_of"]) fun _ _ _ _ _ _ us hl => match us, hl with | [_, _], _ => rfl
  have F_law_pick : Fun K "_law_pick" "_law_pick" s_law_pick xlaw_pick (PySem.W.fnOf "_law_pick" "_law_pick" (defArgs s_law_pick) (defBody s_law_pick) (defScope s_law_pick) .none kVlaw_pick dclaw_pick pmlaw_pick anlaw_pick cdlaw_pick ctlaw_pick) := fun_mk llaw_pick claw_pick klaw_pick
  have B_law_pick := F_law_pick.binds (ps := ["purse", "things"]) fun _ _ _ _ _ _ us hl => match us, hl with | [_, _], _ => rfl
  have F_law_mixed : Fun K "_law_mixed" "_law_mixed" s_law_mixed xlaw_mixed (PySem.W.fnOf "_law_mixed" "_law_mixed" (defArgs s_law_mixed) (defBody s_law_mixed) (defScope s_law_mixed) .none kVlaw_mixed dclaw_mixed pmlaw_mixed anlaw_mixed cdlaw_mixed ctlaw_mixed) := fun_mk llaw_mixed claw_mixed klaw_mixed
  have B_law_mixed := F_law_mixed.binds (ps := ["purse", "things"]) fun _ _ _ _ _ _ us hl => match us, hl with | [_, _], _ => rfl
  have F_law_ends : Fun K "_law_ends" "_law_ends" s_law_ends xlaw_ends (PySem.W.fnOf "_law_ends" "_law_ends" (defArgs s_law_ends) (defBody s_law_ends) (defScope s_law_ends) .none kVlaw_ends dclaw_ends pmlaw_ends anlaw_ends cdlaw_ends ctlaw_ends) := fun_mk llaw_ends claw_ends klaw_ends
  have B_law_ends := F_law_ends.binds (ps := ["town", "v"]) fun _ _ _ _ _ _ us hl => match us, hl with | [_, _], _ => rfl
  have F_law_town : Fun K "_law_town" "_law_town" s_law_town xlaw_town (PySem.W.fnOf "_law_town" "_law_town" (defArgs s_law_town) (defBody s_law_town) (defScope s_law_town) .none kVlaw_town dclaw_town pmlaw_town anlaw_town cdlaw_town ctlaw_town) := fun_mk llaw_town claw_town klaw_town
  have B_law_town := F_law_town.binds (ps := ["purse", "bound"]) fun _ _ _ _ _ _ us hl => match us, hl with | [_, _], _ => rfl
  have F_law_standing : Fun K "_law_standing" "_law_standing" s_law_standing xlaw_standing (PySem.W.fnOf "_law_standing" "_law_standing" (defArgs s_law_standing) (defBody s_law_standing) (defScope s_law_standing) .none kVlaw_standing dclaw_standing pmlaw_standing anlaw_standing cdlaw_standing ctlaw_standing) := fun_mk llaw_standing claw_standing klaw_standing
  have B_law_standing := F_law_standing.binds (ps := ["purse", "town", "bound"]) fun _ _ _ _ _ _ us hl => match us, hl with | [_, _, _], _ => rfl
  have F_gather_all_ends : Fun K "gather_all_ends" "gather_all_ends" s_gather_all_ends xgather_all_ends (PySem.W.fnOf "gather_all_ends" "gather_all_ends" (defArgs s_gather_all_ends) (defBody s_gather_all_ends) (defScope s_gather_all_ends) .none kVgather_all_ends dcgather_all_ends pmgather_all_ends angather_all_ends cdgather_all_ends ctgather_all_ends) := fun_mk lgather_all_ends cgather_all_ends kgather_all_ends
  have B_gather_all_ends := F_gather_all_ends.binds (ps := ["town"]) fun _ _ _ _ _ _ us hl => match us, hl with | [_], _ => rfl
  have F_deeds_of : Fun K "deeds_of" "deeds_of" s_deeds_of xdeeds_of (PySem.W.fnOf "deeds_of" "deeds_of" (defArgs s_deeds_of) (defBody s_deeds_of) (defScope s_deeds_of) .none kVdeeds_of dcdeeds_of pmdeeds_of andeeds_of cddeeds_of ctdeeds_of) := fun_mk ldeeds_of cdeeds_of kdeeds_of
  have B_deeds_of := F_deeds_of.binds (ps := ["names"]) fun _ _ _ _ _ _ us hl => match us, hl with | [_], _ => rfl
  have F_put_usual_ahead : Fun K "put_usual_ahead" "put_usual_ahead" s_put_usual_ahead xput_usual_ahead (PySem.W.fnOf "put_usual_ahead" "put_usual_ahead" (defArgs s_put_usual_ahead) (defBody s_put_usual_ahead) (defScope s_put_usual_ahead) .none kVput_usual_ahead dcput_usual_ahead pmput_usual_ahead anput_usual_ahead cdput_usual_ahead ctput_usual_ahead) := fun_mk lput_usual_ahead cput_usual_ahead kput_usual_ahead
  have B_put_usual_ahead := F_put_usual_ahead.binds (ps := ["deeds", "row"]) fun _ _ _ _ _ _ us hl => match us, hl with | [_, _], _ => rfl
  have F_first_other : Fun K "first_other" "first_other" s_first_other xfirst_other (PySem.W.fnOf "first_other" "first_other" (defArgs s_first_other) (defBody s_first_other) (defScope s_first_other) .none kVfirst_other dcfirst_other pmfirst_other anfirst_other cdfirst_other ctfirst_other) := fun_mk lfirst_other cfirst_other kfirst_other
  have B_first_other := F_first_other.binds (ps := ["row", "deeds"]) fun _ _ _ _ _ _ us hl => match us, hl with | [_, _], _ => rfl
  have F_find_row_wrong : Fun K "find_row_wrong" "find_row_wrong" s_find_row_wrong xfind_row_wrong (PySem.W.fnOf "find_row_wrong" "find_row_wrong" (defArgs s_find_row_wrong) (defBody s_find_row_wrong) (defScope s_find_row_wrong) .none kVfind_row_wrong dcfind_row_wrong pmfind_row_wrong anfind_row_wrong cdfind_row_wrong ctfind_row_wrong) := fun_mk lfind_row_wrong cfind_row_wrong kfind_row_wrong
  have B_find_row_wrong := F_find_row_wrong.binds (ps := ["standing", "thing"]) fun _ _ _ _ _ _ us hl => match us, hl with | [_, _], _ => rfl
  have F_row_wrong : Fun K "row_wrong" "row_wrong" s_row_wrong xrow_wrong (PySem.W.fnOf "row_wrong" "row_wrong" (defArgs s_row_wrong) (defBody s_row_wrong) (defScope s_row_wrong) .none kVrow_wrong dcrow_wrong pmrow_wrong anrow_wrong cdrow_wrong ctrow_wrong) := fun_mk lrow_wrong crow_wrong krow_wrong
  have B_row_wrong := F_row_wrong.binds (ps := ["town", "standing", "thing"]) fun _ _ _ _ _ _ us hl => match us, hl with | [_, _, _], _ => rfl
  have F_need_row : Fun K "need_row" "need_row" s_need_row xneed_row (PySem.W.fnOf "need_row" "need_row" (defArgs s_need_row) (defBody s_need_row) (defScope s_need_row) .none kVneed_row dcneed_row pmneed_row anneed_row cdneed_row ctneed_row) := fun_mk lneed_row cneed_row kneed_row
  have B_need_row := F_need_row.binds (ps := ["town", "standing", "row"]) fun _ _ _ _ _ _ us hl => match us, hl with | [_, _, _], _ => rfl
  have F_walk : Fun K "walk" "walk" s_walk xwalk (PySem.W.fnOf "walk" "walk" (defArgs s_walk) (defBody s_walk) (defScope s_walk) .none kVwalk dcwalk pmwalk anwalk cdwalk ctwalk) := fun_mk lwalk cwalk kwalk
  have B_walk := F_walk.binds (ps := ["town", "standing", "row"]) fun _ _ _ _ _ _ us hl => match us, hl with | [_, _, _], _ => rfl
  have F_lead : Fun K "lead" "lead" s_lead xlead (PySem.W.fnOf "lead" "lead" (defArgs s_lead) (defBody s_lead) (defScope s_lead) .none kVlead dclead pmlead anlead cdlead ctlead) := fun_mk llead clead klead
  have B_lead := F_lead.binds (ps := ["town", "standing", "row"]) fun _ _ _ _ _ _ us hl => match us, hl with | [_, _, _], _ => rfl
  have F_led_by : Fun K "led_by" "led_by" s_led_by xled_by (PySem.W.fnOf "led_by" "led_by" (defArgs s_led_by) (defBody s_led_by) (defScope s_led_by) .none kVled_by dcled_by pmled_by anled_by cdled_by ctled_by) := fun_mk lled_by cled_by kled_by
  have B_led_by := F_led_by.binds (ps := ["town", "standing", "row"]) fun _ _ _ _ _ _ us hl => match us, hl with | [_, _, _], _ => rfl
  have F_trail_of : Fun K "trail_of" "trail_of" s_trail_of xtrail_of (PySem.W.fnOf "trail_of" "trail_of" (defArgs s_trail_of) (defBody s_trail_of) (defScope s_trail_of) .none kVtrail_of dctrail_of pmtrail_of antrail_of cdtrail_of cttrail_of) := fun_mk ltrail_of ctrail_of ktrail_of
  have B_trail_of := F_trail_of.binds (ps := ["town", "standing", "row"]) fun _ _ _ _ _ _ us hl => match us, hl with | [_, _, _], _ => rfl
  have F_law_row : Fun K "_law_row" "_law_row" s_law_row xlaw_row (PySem.W.fnOf "_law_row" "_law_row" (defArgs s_law_row) (defBody s_law_row) (defScope s_law_row) .none kVlaw_row dclaw_row pmlaw_row anlaw_row cdlaw_row ctlaw_row) := fun_mk llaw_row claw_row klaw_row
  have B_law_row := F_law_row.binds (ps := ["purse", "names_here", "bound"]) fun _ _ _ _ _ _ us hl => match us, hl with | [_, _, _], _ => rfl
  have F_law_walked : Fun K "_law_walked" "_law_walked" s_law_walked xlaw_walked (PySem.W.fnOf "_law_walked" "_law_walked" (defArgs s_law_walked) (defBody s_law_walked) (defScope s_law_walked) .none kVlaw_walked dclaw_walked pmlaw_walked anlaw_walked cdlaw_walked ctlaw_walked) := fun_mk llaw_walked claw_walked klaw_walked
  have B_law_walked := F_law_walked.binds (ps := ["town", "standing", "row"]) fun _ _ _ _ _ _ us hl => match us, hl with | [_, _, _], _ => rfl
  have F_row_back : Fun K "row_back" "row_back" s_row_back xrow_back (PySem.W.fnOf "row_back" "row_back" (defArgs s_row_back) (defBody s_row_back) (defScope s_row_back) .none kVrow_back dcrow_back pmrow_back anrow_back cdrow_back ctrow_back) := fun_mk lrow_back crow_back krow_back
  have B_row_back := F_row_back.binds (ps := ["town", "standing", "row"]) fun _ _ _ _ _ _ us hl => match us, hl with | [_, _, _], _ => rfl
  have F_law_due : Fun K "_law_due" "_law_due" s_law_due xlaw_due (PySem.W.fnOf "_law_due" "_law_due" (defArgs s_law_due) (defBody s_law_due) (defScope s_law_due) .none kVlaw_due dclaw_due pmlaw_due anlaw_due cdlaw_due ctlaw_due) := fun_mk llaw_due claw_due klaw_due
  have B_law_due := F_law_due.binds (ps := ["standing", "thing"]) fun _ _ _ _ _ _ us hl => match us, hl with | [_, _], _ => rfl
  have F_law_bent : Fun K "_law_bent" "_law_bent" s_law_bent xlaw_bent (PySem.W.fnOf "_law_bent" "_law_bent" (defArgs s_law_bent) (defBody s_law_bent) (defScope s_law_bent) .none kVlaw_bent dclaw_bent pmlaw_bent anlaw_bent cdlaw_bent ctlaw_bent) := fun_mk llaw_bent claw_bent klaw_bent
  have B_law_bent := F_law_bent.binds (ps := ["purse", "row", "names_here"]) fun _ _ _ _ _ _ us hl => match us, hl with | [_, _, _], _ => rfl
  have F_law_refused : Fun K "_law_refused" "_law_refused" s_law_refused xlaw_refused (PySem.W.fnOf "_law_refused" "_law_refused" (defArgs s_law_refused) (defBody s_law_refused) (defScope s_law_refused) .none kVlaw_refused dclaw_refused pmlaw_refused anlaw_refused cdlaw_refused ctlaw_refused) := fun_mk llaw_refused claw_refused klaw_refused
  have B_law_refused := F_law_refused.binds (ps := ["way_here", "town", "standing", "row"]) fun _ _ _ _ _ _ us hl => match us, hl with | [_, _, _, _], _ => rfl
  have F_law_bounds : Fun K "_law_bounds" "_law_bounds" s_law_bounds xlaw_bounds (PySem.W.fnOf "_law_bounds" "_law_bounds" (defArgs s_law_bounds) (defBody s_law_bounds) (defScope s_law_bounds) .none kVlaw_bounds dclaw_bounds pmlaw_bounds anlaw_bounds cdlaw_bounds ctlaw_bounds) := fun_mk llaw_bounds claw_bounds klaw_bounds
  have B_law_bounds := F_law_bounds.binds (ps := ["town", "standing", "names_here"]) fun _ _ _ _ _ _ us hl => match us, hl with | [_, _, _], _ => rfl
  have F_law : Fun K "law" "law" s_law xlaw (PySem.W.fnOf "law" "law" (defArgs s_law) (defBody s_law) (defScope s_law) .none kVlaw dclaw pmlaw anlaw cdlaw ctlaw) := fun_mk llaw claw klaw
  have B_law := F_law.binds (ps := ["script"]) fun _ _ _ _ _ _ us hl => match us, hl with | [_], _ => rfl
  let Z : Fns K A := {
    fd_is_whole := _, F_is_whole := F_is_whole, b_is_whole := B_is_whole,
    fd_is_below := _, F_is_below := F_is_below, b_is_below := B_is_below,
    fd_is_pair := _, F_is_pair := F_is_pair, b_is_pair := B_is_pair,
    fd_is_road := _, F_is_road := F_is_road, b_is_road := B_is_road,
    fd_town_wrong := _, F_town_wrong := F_town_wrong, b_town_wrong := B_town_wrong,
    fd_need_town := _, F_need_town := F_need_town, b_need_town := B_need_town,
    fd_is_end := _, F_is_end := F_is_end, b_is_end := B_is_end,
    fd_place_of := _, F_place_of := F_place_of, b_place_of := B_place_of,
    fd_is_name := _, F_is_name := F_is_name, b_is_name := B_is_name,
    fd_is_walker := _, F_is_walker := F_is_walker, b_is_walker := B_is_walker,
    fd_posts_wrong := _, F_posts_wrong := F_posts_wrong, b_posts_wrong := B_posts_wrong,
    fd_walkers_wrong := _, F_walkers_wrong := F_walkers_wrong, b_walkers_wrong := B_walkers_wrong,
    fd_find_standing_wrong := _, F_find_standing_wrong := F_find_standing_wrong, b_find_standing_wrong := B_find_standing_wrong,
    fd_need_standings := _, F_need_standings := F_need_standings, b_need_standings := B_need_standings,
    fd_need_standing := _, F_need_standing := F_need_standing, b_need_standing := B_need_standing,
    fd_law_spot := _, F_law_spot := F_law_spot, b_law_spot := B_law_spot,
    fd_law_flip := _, F_law_flip := F_law_flip, b_law_flip := B_law_flip,
    fd_law_purse := _, F_law_purse := F_law_purse, b_law_purse := B_law_purse,
    fd_law_draw := _, F_law_draw := F_law_draw, b_law_draw := B_law_draw,
    fd_law_pick := _, F_law_pick := F_law_pick, b_law_pick := B_law_pick,
    fd_law_mixed := _, F_law_mixed := F_law_mixed, b_law_mixed := B_law_mixed,
    fd_law_ends := _, F_law_ends := F_law_ends, b_law_ends := B_law_ends,
    fd_law_town := _, F_law_town := F_law_town, b_law_town := B_law_town,
    fd_law_standing := _, F_law_standing := F_law_standing, b_law_standing := B_law_standing,
    fd_gather_all_ends := _, F_gather_all_ends := F_gather_all_ends, b_gather_all_ends := B_gather_all_ends,
    fd_deeds_of := _, F_deeds_of := F_deeds_of, b_deeds_of := B_deeds_of,
    fd_put_usual_ahead := _, F_put_usual_ahead := F_put_usual_ahead, b_put_usual_ahead := B_put_usual_ahead,
    fd_first_other := _, F_first_other := F_first_other, b_first_other := B_first_other,
    fd_find_row_wrong := _, F_find_row_wrong := F_find_row_wrong, b_find_row_wrong := B_find_row_wrong,
    fd_row_wrong := _, F_row_wrong := F_row_wrong, b_row_wrong := B_row_wrong,
    fd_need_row := _, F_need_row := F_need_row, b_need_row := B_need_row,
    fd_walk := _, F_walk := F_walk, b_walk := B_walk,
    fd_lead := _, F_lead := F_lead, b_lead := B_lead,
    fd_led_by := _, F_led_by := F_led_by, b_led_by := B_led_by,
    fd_trail_of := _, F_trail_of := F_trail_of, b_trail_of := B_trail_of,
    fd_law_row := _, F_law_row := F_law_row, b_law_row := B_law_row,
    fd_law_walked := _, F_law_walked := F_law_walked, b_law_walked := B_law_walked,
    fd_row_back := _, F_row_back := F_row_back, b_row_back := B_row_back,
    fd_law_due := _, F_law_due := F_law_due, b_law_due := B_law_due,
    fd_law_bent := _, F_law_bent := F_law_bent, b_law_bent := B_law_bent,
    fd_law_refused := _, F_law_refused := F_law_refused, b_law_refused := B_law_refused,
    fd_law_bounds := _, F_law_bounds := F_law_bounds, b_law_bounds := B_law_bounds,
    fd_law := _, F_law := F_law, b_law := B_law }
  exact ⟨_, fun s u => .of_eq rfl, fun b _ _ => G_law T Z⟩
theorem walk {l : PySem.W.OpenLaw} {q : Program} {lo : List Str} {XP : (Str → Option Value) → Heap → Prop} {YP : World → Heap → Prop} {d : DefRec} {K : Params → PySem.W.Frag} (hn : l.most = some 63) (hdf : d.params.defaults = [])
    (hY : ∀ (w : World) (h : Heap), YP w h → (K w.params).In h)
    (F : ∀ (w : World) (mg : Str → Option Value) (f : Addr) (h : Heap), (K w.params).In h → h.Ns mainGlobals mg → mg d.name = some (.ref f) →
      ∃ fd : FuncData, (∀ (s : Shared) (u : Value), BindsTo s fd ⟨[u], []⟩ [("script", u)]) ∧ ∀ b : Heap, (K w.params).In b → b.Ns mainGlobals mg → GOk l.prog w (K w.params) mg b CX0 13 f fd ["script"] (spLaw (K w.params))) :
    PySem.W.WalkO q lo XP YP l.row.toRowW d [] (fun f vs => PySem.call f vs) :=
  gwalk (n := 63) (k := 13) (x := "script") (sp := fun w => spLaw (K w.params)) hn (by decide) hdf ⟨rfl, by decide, by decide⟩ hY F fun _ _ a ns hl hS => ⟨a, ns, rfl, hS, hl, fun _ => rfl⟩
end K04
open PySem PySem.W PyProof.Rows
set_option maxRecDepth 100000 in
set_option maxHeartbeats 0 in
theorem PySem.Challenge.cw_cameposts_k04_rows_looked_at_and_refused_holds : PySem.Challenge.rw_cameposts_k04_rows_looked_at_and_refused.Holds := by
  w_on; o_law; k_head; (case hw => w_witness2)
  k_fill
  refine K04.walk (l := PySem.Challenge.rw_cameposts_k04_rows_looked_at_and_refused) rfl rfl (fun w h Y => PySem.W.kIn_of Y) ?F
  case F =>
    intro w mg fa h KX G hmg
    refine' K04.fin KX G hmg ?gPostError ?gNoRow ?gNoStanding ?gNoTown ?ais_whole ?lis_whole ?cis_whole ?kis_whole ?ais_below ?lis_below ?cis_below ?kis_below ?ais_pair ?lis_pair ?cis_pair ?kis_pair ?ais_road ?lis_road ?cis_road ?kis_road ?atown_wrong ?ltown_wrong ?ctown_wrong ?ktown_wrong ?aneed_town ?lneed_town ?cneed_town ?kneed_town ?ais_end ?lis_end ?cis_end ?kis_end ?aplace_of ?lplace_of ?cplace_of ?kplace_of ?ais_name ?lis_name ?cis_name ?kis_name ?ais_walker ?lis_walker ?cis_walker ?kis_walker ?aposts_wrong ?lposts_wrong ?cposts_wrong ?kposts_wrong ?awalkers_wrong ?lwalkers_wrong ?cwalkers_wrong ?kwalkers_wrong ?afind_standing_wrong ?lfind_standing_wrong ?cfind_standing_wrong ?kfind_standing_wrong ?aneed_standings ?lneed_standings ?cneed_standings ?kneed_standings ?aneed_standing ?lneed_standing ?cneed_standing ?kneed_standing ?alaw_spot ?llaw_spot ?claw_spot ?klaw_spot ?alaw_flip ?llaw_flip ?claw_flip ?klaw_flip ?alaw_purse ?llaw_purse ?claw_purse ?klaw_purse ?alaw_draw ?llaw_draw ?claw_draw ?klaw_draw ?alaw_pick ?llaw_pick ?claw_pick ?klaw_pick ?alaw_mixed ?llaw_mixed ?claw_mixed ?klaw_mixed ?alaw_ends ?llaw_ends ?claw_ends ?klaw_ends ?alaw_town ?llaw_town ?claw_town ?klaw_town ?alaw_standing ?llaw_standing ?claw_standing ?klaw_standing ?agather_all_ends ?lgather_all_ends ?cgather_all_ends ?kgather_all_ends ?adeeds_of ?ldeeds_of ?cdeeds_of ?kdeeds_of ?aput_usual_ahead ?lput_usual_ahead ?cput_usual_ahead ?kput_usual_ahead ?afirst_other ?lfirst_other ?cfirst_other ?kfirst_other ?afind_row_wrong ?lfind_row_wrong ?cfind_row_wrong ?kfind_row_wrong ?arow_wrong ?lrow_wrong ?crow_wrong ?krow_wrong ?aneed_row ?lneed_row ?cneed_row ?kneed_row ?awalk ?lwalk ?cwalk ?kwalk ?alead ?llead ?clead ?klead ?aled_by ?lled_by ?cled_by ?kled_by ?atrail_of ?ltrail_of ?ctrail_of ?ktrail_of ?alaw_row ?llaw_row ?claw_row ?klaw_row ?alaw_walked ?llaw_walked ?claw_walked ?klaw_walked ?arow_back ?lrow_back ?crow_back ?krow_back ?alaw_due ?llaw_due ?claw_due ?klaw_due ?alaw_bent ?llaw_bent ?claw_bent ?klaw_bent ?alaw_refused ?llaw_refused ?claw_refused ?klaw_refused ?alaw_bounds ?llaw_bounds ?claw_bounds ?klaw_bounds ?alaw ?llaw ?claw ?klaw ?n_ValueError ?n_abs ?n_bool ?n_dict ?n_enumerate ?n_int ?n_isinstance ?n_len ?n_list ?n_range ?n_sorted ?n_str ?n_super ?n_tuple ?v_MOST_PLACES ?v_MOST_ROADS ?v_MOST_WALKERS ?v_MOST_LETTERS ?v_MOST_DEEDS ?v_SAMPLE ?okNoRow ?osNoRow ?otNoRow ?egNoRow ?ekNoRow ?edNoRow ?eaNoRow ?emNoRow ?okNoStanding ?osNoStanding ?otNoStanding ?egNoStanding ?ekNoStanding ?edNoStanding ?eaNoStanding ?emNoStanding ?okNoTown ?osNoTown ?otNoTown ?egNoTown ?ekNoTown ?edNoTown ?eaNoTown ?emNoTown ?en ?et ?plNoTown ?prNoTown ?paNoTown ?piNoTown ?ptNoTown ?pkNoTown ?pwNoTown ?pfNoTown ?pcNoTown ?poNoTown ?p2NoTown ?p3NoTown ?peNoTown ?p1NoTown ?puNoTown ?pvNoTown ?plNoStanding ?prNoStanding ?paNoStanding ?piNoStanding ?ptNoStanding ?pkNoStanding ?pwNoStanding ?pfNoStanding ?pcNoStanding ?poNoStanding ?p2NoStanding ?p3NoStanding ?peNoStanding ?p1NoStanding ?puNoStanding ?pvNoStanding ?plNoRow ?prNoRow ?paNoRow ?piNoRow ?ptNoRow ?pkNoRow ?pwNoRow ?pfNoRow ?pcNoRow ?poNoRow ?p2NoRow ?p3NoRow ?peNoRow ?p1NoRow ?puNoRow ?pvNoRow ?pq ?isPostError ?itPostError ?iePostError ?isNoRow ?itNoRow ?ieNoRow ?isNoStanding ?itNoStanding ?ieNoStanding ?isNoTown ?itNoTown ?ieNoTown ?su_NoTown_NoStanding ?ne_NoTown_NoStanding ?su_NoTown_NoRow ?ne_NoTown_NoRow ?su_NoTown_ValueError ?su_NoStanding_NoTown ?ne_NoStanding_NoTown ?su_NoStanding_NoRow ?ne_NoStanding_NoRow ?su_NoStanding_ValueError ?su_NoRow_ValueError ?su_NoTown_PostError ?su_NoStanding_PostError ?su_NoRow_PostError
    (case gPostError => k_is)
    (case gNoRow => k_is)
    (case gNoStanding => k_is)
    (case gNoTown => k_is)
    (case ais_whole => k_is)
    (case lis_whole => k_is)
    (case cis_whole => k_is)
    (case kis_whole => k_is)
    (case ais_below => k_is)
    (case lis_below => k_is)
    (case cis_below => k_is)
    (case kis_below => k_is)
    (case ais_pair => k_is)
    (case lis_pair => k_is)
    (case cis_pair => k_is)
    (case kis_pair => k_is)
    (case ais_road => k_is)
    (case lis_road => k_is)
    (case cis_road => k_is)
    (case kis_road => k_is)
    (case atown_wrong => k_is)
    (case ltown_wrong => k_is)
    (case ctown_wrong => k_is)
    (case ktown_wrong => k_is)
    (case aneed_town => k_is)
    (case lneed_town => k_is)
    (case cneed_town => k_is)
    (case kneed_town => k_is)
    (case ais_end => k_is)
    (case lis_end => k_is)
    (case cis_end => k_is)
    (case kis_end => k_is)
    (case aplace_of => k_is)
    (case lplace_of => k_is)
    (case cplace_of => k_is)
    (case kplace_of => k_is)
    (case ais_name => k_is)
    (case lis_name => k_is)
    (case cis_name => k_is)
    (case kis_name => k_is)
    (case ais_walker => k_is)
    (case lis_walker => k_is)
    (case cis_walker => k_is)
    (case kis_walker => k_is)
    (case aposts_wrong => k_is)
    (case lposts_wrong => k_is)
    (case cposts_wrong => k_is)
    (case kposts_wrong => k_is)
    (case awalkers_wrong => k_is)
    (case lwalkers_wrong => k_is)
    (case cwalkers_wrong => k_is)
    (case kwalkers_wrong => k_is)
    (case afind_standing_wrong => k_is)
    (case lfind_standing_wrong => k_is)
    (case cfind_standing_wrong => k_is)
    (case kfind_standing_wrong => k_is)
    (case aneed_standings => k_is)
    (case lneed_standings => k_is)
    (case cneed_standings => k_is)
    (case kneed_standings => k_is)
    (case aneed_standing => k_is)
    (case lneed_standing => k_is)
    (case cneed_standing => k_is)
    (case kneed_standing => k_is)
    (case alaw_spot => k_is)
    (case llaw_spot => k_is)
    (case claw_spot => k_is)
    (case klaw_spot => k_is)
    (case alaw_flip => k_is)
    (case llaw_flip => k_is)
    (case claw_flip => k_is)
    (case klaw_flip => k_is)
    (case alaw_purse => k_is)
    (case llaw_purse => k_is)
    (case claw_purse => k_is)
    (case klaw_purse => k_is)
    (case alaw_draw => k_is)
    (case llaw_draw => k_is)
    (case claw_draw => k_is)
    (case klaw_draw => k_is)
    (case alaw_pick => k_is)
    (case llaw_pick => k_is)
    (case claw_pick => k_is)
    (case klaw_pick => k_is)
    (case alaw_mixed => k_is)
    (case llaw_mixed => k_is)
    (case claw_mixed => k_is)
    (case klaw_mixed => k_is)
    (case alaw_ends => k_is)
    (case llaw_ends => k_is)
    (case claw_ends => k_is)
    (case klaw_ends => k_is)
    (case alaw_town => k_is)
    (case llaw_town => k_is)
    (case claw_town => k_is)
    (case klaw_town => k_is)
    (case alaw_standing => k_is)
    (case llaw_standing => k_is)
    (case claw_standing => k_is)
    (case klaw_standing => k_is)
    (case agather_all_ends => k_is)
    (case lgather_all_ends => k_is)
    (case cgather_all_ends => k_is)
    (case kgather_all_ends => k_is)
    (case adeeds_of => k_is)
    (case ldeeds_of => k_is)
    (case cdeeds_of => k_is)
    (case kdeeds_of => k_is)
    (case aput_usual_ahead => k_is)
    (case lput_usual_ahead => k_is)
    (case cput_usual_ahead => k_is)
    (case kput_usual_ahead => k_is)
    (case afirst_other => k_is)
    (case lfirst_other => k_is)
    (case cfirst_other => k_is)
    (case kfirst_other => k_is)
    (case afind_row_wrong => k_is)
    (case lfind_row_wrong => k_is)
    (case cfind_row_wrong => k_is)
    (case kfind_row_wrong => k_is)
    (case arow_wrong => k_is)
    (case lrow_wrong => k_is)
    (case crow_wrong => k_is)
    (case krow_wrong => k_is)
    (case aneed_row => k_is)
    (case lneed_row => k_is)
    (case cneed_row => k_is)
    (case kneed_row => k_is)
    (case awalk => k_is)
    (case lwalk => k_is)
    (case cwalk => k_is)
    (case kwalk => k_is)
    (case alead => k_is)
    (case llead => k_is)
    (case clead => k_is)
    (case klead => k_is)
    (case aled_by => k_is)
    (case lled_by => k_is)
    (case cled_by => k_is)
    (case kled_by => k_is)
    (case atrail_of => k_is)
    (case ltrail_of => k_is)
    (case ctrail_of => k_is)
    (case ktrail_of => k_is)
    (case alaw_row => k_is)
    (case llaw_row => k_is)
    (case claw_row => k_is)
    (case klaw_row => k_is)
    (case alaw_walked => k_is)
    (case llaw_walked => k_is)
    (case claw_walked => k_is)
    (case klaw_walked => k_is)
    (case arow_back => k_is)
    (case lrow_back => k_is)
    (case crow_back => k_is)
    (case krow_back => k_is)
    (case alaw_due => k_is)
    (case llaw_due => k_is)
    (case claw_due => k_is)
    (case klaw_due => k_is)
    (case alaw_bent => k_is)
    (case llaw_bent => k_is)
    (case claw_bent => k_is)
    (case klaw_bent => k_is)
    (case alaw_refused => k_is)
    (case llaw_refused => k_is)
    (case claw_refused => k_is)
    (case klaw_refused => k_is)
    (case alaw_bounds => k_is)
    (case llaw_bounds => k_is)
    (case claw_bounds => k_is)
    (case klaw_bounds => k_is)
    (case alaw => k_is)
    (case llaw => k_is)
    (case claw => k_is)
    (case klaw => k_is)
    (case n_ValueError => k_is)
    (case n_abs => k_is)
    (case n_bool => k_is)
    (case n_dict => k_is)
    (case n_enumerate => k_is)
    (case n_int => k_is)
    (case n_isinstance => k_is)
    (case n_len => k_is)
    (case n_list => k_is)
    (case n_range => k_is)
    (case n_sorted => k_is)
    (case n_str => k_is)
    (case n_super => k_is)
    (case n_tuple => k_is)
    (case v_MOST_PLACES => k_is)
    (case v_MOST_ROADS => k_is)
    (case v_MOST_WALKERS => k_is)
    (case v_MOST_LETTERS => k_is)
    (case v_MOST_DEEDS => k_is)
    (case v_SAMPLE => k_is)
    (case okNoRow => k_is)
    (case osNoRow => k_is)
    (case otNoRow => k_is)
    (case egNoRow => k_is)
    (case ekNoRow => k_is)
    (case edNoRow => k_is)
    (case eaNoRow => k_is)
    (case emNoRow => k_is)
    (case okNoStanding => k_is)
    (case osNoStanding => k_is)
    (case otNoStanding => k_is)
    (case egNoStanding => k_is)
    (case ekNoStanding => k_is)
    (case edNoStanding => k_is)
    (case eaNoStanding => k_is)
    (case emNoStanding => k_is)
    (case okNoTown => k_is)
    (case osNoTown => k_is)
    (case otNoTown => k_is)
    (case egNoTown => k_is)
    (case ekNoTown => k_is)
    (case edNoTown => k_is)
    (case eaNoTown => k_is)
    (case emNoTown => k_is)
    (case en => k_is)
    (case et => k_is)
    (case plNoTown => k_is)
    (case prNoTown => decide +kernel)
    (case paNoTown => k_is)
    (case piNoTown => k_is)
    (case ptNoTown => k_is)
    (case pkNoTown => k_is)
    (case pwNoTown => k_is)
    (case pfNoTown => k_is)
    (case pcNoTown => k_is)
    (case poNoTown => k_is)
    (case p2NoTown => first | rfl | decide +kernel)
    (case p3NoTown => first | rfl | decide +kernel)
    (case peNoTown => k_is)
    (case p1NoTown => k_is)
    (case puNoTown => ks_is)
    (case pvNoTown => k_is)
    (case plNoStanding => k_is)
    (case prNoStanding => decide +kernel)
    (case paNoStanding => k_is)
    (case piNoStanding => k_is)
    (case ptNoStanding => k_is)
    (case pkNoStanding => k_is)
    (case pwNoStanding => k_is)
    (case pfNoStanding => k_is)
    (case pcNoStanding => k_is)
    (case poNoStanding => k_is)
    (case p2NoStanding => first | rfl | decide +kernel)
    (case p3NoStanding => first | rfl | decide +kernel)
    (case peNoStanding => k_is)
    (case p1NoStanding => k_is)
    (case puNoStanding => ks_is)
    (case pvNoStanding => k_is)
    (case plNoRow => k_is)
    (case prNoRow => decide +kernel)
    (case paNoRow => k_is)
    (case piNoRow => k_is)
    (case ptNoRow => k_is)
    (case pkNoRow => k_is)
    (case pwNoRow => k_is)
    (case pfNoRow => k_is)
    (case pcNoRow => k_is)
    (case poNoRow => k_is)
    (case p2NoRow => first | rfl | decide +kernel)
    (case p3NoRow => first | rfl | decide +kernel)
    (case peNoRow => k_is)
    (case p1NoRow => k_is)
    (case puNoRow => ks_is)
    (case pvNoRow => k_is)
    (case pq => k_is)
    (case isPostError => k_is)
    (case itPostError => k_is)
    (case iePostError => k_is)
    (case isNoRow => k_is)
    (case itNoRow => k_is)
    (case ieNoRow => k_is)
    (case isNoStanding => k_is)
    (case itNoStanding => k_is)
    (case ieNoStanding => k_is)
    (case isNoTown => k_is)
    (case itNoTown => k_is)
    (case ieNoTown => k_is)
    (case su_NoTown_NoStanding => k_is)
    (case ne_NoTown_NoStanding => decide)
    (case su_NoTown_NoRow => k_is)
    (case ne_NoTown_NoRow => decide)
    (case su_NoTown_ValueError => k_is)
    (case su_NoStanding_NoTown => k_is)
    (case ne_NoStanding_NoTown => decide)
    (case su_NoStanding_NoRow => k_is)
    (case ne_NoStanding_NoRow => decide)
    (case su_NoStanding_ValueError => k_is)
    (case su_NoRow_ValueError => k_is)
    (case su_NoTown_PostError => k_is)
    (case su_NoStanding_PostError => k_is)
    (case su_NoRow_PostError => k_is)

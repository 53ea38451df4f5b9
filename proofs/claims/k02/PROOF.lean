import PyProof.Rows.All
import Wide.All
import OpenK.AllK
import Wide.FinOn
import HandS.ForMost
import HandS.ExcInit
import HandS.ExcField
import HandS.ExcIs
import HandS.Nested
import KE.KExcSuper
import KE.KExcIs
import HandS.ExcSuper
import PyProof.ReprRoads
import HandS.EndBits
import HandS.Exc
import HandS.TryMany
import HandS.Codes
import PySem.Challenge.RW_keptnomore_k02_words_of_events
import PyProof.StrOps2
import HandS.Style
import HandS.Walk
import HandS.Deep
import HandS.FStr
import HandS.ExcOwn
import HandS.IsInst
import HandS.WordsExc
set_option Elab.async false
set_option linter.all false
set_option maxRecDepth 100000
set_option maxHeartbeats 4000000
/-! exceptions of own classes with an own __init__, held as values -/
namespace Exv
open PySem PySem.Spec PyProof.Rows L2
/-- the class at C, called, makes an exception and hands it to its __init__ at fI -/
def MkOk (prog : Program) (w : World) (K : PySem.W.Frag) (C fI : Addr) : Prop :=
  ∀ (A : Around) (R : Result → Shared → Prop) (h : Heap) (g : Array GenState) (d : Drawn) (t : Nat) (os : OsState) (rest : List Value), K.In h → rest.length ≤ sizeLine →
    codeAny (model prog w) (A.under (.builtin "type.__call__" ⟨.ref C :: rest, []⟩)) (.call (.ref fI) ⟨.ref (h.objs.size + 1) :: rest, []⟩) (PySem.W.InitBack (h.objs.size + 1) R)
      ⟨(h.push (PySem.W.kdv_tup rest)).push (PySem.HandSPX.excO C h.objs.size), g, d, t, os⟩ →
    codeAny (model prog w) A (.call (.ref C) ⟨rest, []⟩) R ⟨h, g, d, t, os⟩
theorem mkOk_ve {prog : Program} {w : World} {K : PySem.W.Frag} {C fI : Addr} (T : OexC K C) (iC : PySem.W.findIn K (.ref C) "__init__" = some (some (.ref fI)))
    (tI : PySem.W.typeIn K (.ref fI) = some (.type "function")) : MkOk prog w K C fI := fun A R h g d t os rest KX hr q => by
  obtain ⟨nm, qq, N, bs, bm, sn, sub, ab, col, dd, k0, k1, k2, k3, k5, hC, hbm⟩ := T.cls
  exact PySem.HandSPX.call_own PySem.F.excBase_ValueError (fun Y => PySem.HandSPX.refsVE_contains Y bm hbm) (KX _ _ hC) (PySem.W.looks_findIn KX iC) (fun self => PySem.W.bind_fn KX self tI) hr q
/-- C(e, ..), C's own __init__ keeping sp: the exception as a value -/
def tMkV (C : Addr) (sp : Sp) (ta : TA) : TE := fun σ H Q => ta σ H fun vs H1 => vs.length ≤ 1000 ∧ ∀ a, H1 a = none →
  sp (.ref a :: vs) (upd H1 a (exo a C none)) (fun v H2 => v = .non ∧ Q (.ref a) H2) (fun _ _ _ => False)
section
variable {X : Cx}
theorem mkv_run {CX : CXT} {C fI : Addr} {k : Nat} {fd : FuncData} {ps : List Str} {sp : Sp} (MK : MkOk X.prog X.w X.K C fI)
    (F1 : FnOk X.prog X.w X.K X.mg X.base CX k fI fd ps sp) (hr : Room (k + 1) X.A) (hb : Binds X.K fd ps []) (hx : Passes CX X (fun _ _ _ => False))
    {pins : List (Addr × Obj)} {σ : L2.St} {H1 : Hp} {s1 : Shared} {vs : List V} {us : List Value} {Q : VK} (I1 : Inv X pins σ H1 s1) (r1 : Vals vs us) (hz : vs.length ≤ 1000)
    (q1 : ∀ a, H1 a = none → sp (.ref a :: vs) (upd H1 a (exo a C none)) (fun v H2 => v = .non ∧ Q (.ref a) H2) (fun _ _ _ => False)) :
    wpAny (model X.prog X.w) X.A (call (.ref C) us) (EP X pins σ Q) X.xe s1 := by
  obtain ⟨hp, g, dr, tk, os⟩ := s1
  have up1 : hp.objs.size ≤ hp.objs.size + 1 := Nat.le_succ _
  have hq := q1 (hp.objs.size + 1) (I1.hok.fresh up1)
  have kk : ∀ b o, hp.get? b = some o → ((hp.push (PySem.W.kdv_tup us)).push (PySem.HandSPX.excO C hp.objs.size)).get? b = some o := fun b o z =>
    Heap.get?_push_of_some _ (Heap.get?_push_of_some _ z)
  have hat : ((hp.push (PySem.W.kdv_tup us)).push (PySem.HandSPX.excO C hp.objs.size)).get? (hp.objs.size + 1) = some (PySem.HandSPX.excO C hp.objs.size) := by heap_get
  have I2 : Inv X pins σ (upd H1 (hp.objs.size + 1) (exo (hp.objs.size + 1) C none)) ⟨(hp.push (PySem.W.kdv_tup us)).push (PySem.HandSPX.excO C hp.objs.size), g, dr, tk, os⟩ :=
    I1.laid (t' := tk) (a := hp.objs.size + 1) (o := exo (hp.objs.size + 1) C none) (h' := (hp.push (PySem.W.kdv_tup us)).push (PySem.HandSPX.excO C hp.objs.size)) kk up1 (exo_ok hat)
  have r2 : Vals (V.ref (hp.objs.size + 1) :: vs) (Value.ref (hp.objs.size + 1) :: us) := .cons rfl r1
  have hl : (Value.ref (hp.objs.size + 1) :: us).length = ps.length := by
    rw [← r2.length]
    exact F1.len _ _ _ _ hq
  have hus : us.length ≤ sizeLine := by
    rw [← Paired.length r1, sizeLine_eq]
    omega
  refine wpAny_call (MK _ _ hp g dr tk os us I1.kIn hus (codeAny_mono (F1.run _ X.stack _ _ ⟨Value.ref (hp.objs.size + 1) :: us, []⟩ (Value.ref (hp.objs.size + 1) :: us) _ _ (fun _ _ _ => False)
    (hr.make C us []) (I2.env0.make C us []) (by have z := hb _ (Value.ref (hp.objs.size + 1) :: us) I2.kIn (by rw [List.append_nil]; exact hl); rw [List.append_nil] at z; exact z) r2 hq) fun r s' hq' => ?_))
  cases r with
  | error er => exact hx pins σ _ _ er s' I2 hq'
  | ok fl =>
    cases fl with
    | ret u =>
      obtain ⟨v, H2, J, rv, ev, q2⟩ := I2.after hq'
      subst ev
      exact ⟨rv, .ref (hp.objs.size + 1), H2, J, rfl, q2⟩
    | next => exact False.elim hq'
    | brk => exact False.elim hq'
    | cont => exact False.elim hq'
theorem pe_mkv {CX : CXT} {x : Str} {C fI : Addr} {k : Nat} {fd : FuncData} {ps : List Str} {sp : Sp} {e : Expr} {es : List Expr} {ta : TA} {p pos : Pos} (MK : MkOk X.prog X.w X.K C fI) (kC : PySem.W.keepIn X.K (.ref C) = true)
    (F1 : FnOk X.prog X.w X.K X.mg X.base CX k fI fd ps sp) (hr : Room (k + 1) X.A) (hb : Binds X.K fd ps []) (hx : Passes CX X (fun _ _ _ => False)) (hg : Gl X x) (hm : X.mg x = some (.ref C)) (ha : PA X (e :: es) ta)
    (hdb : (x == ("__debug__" : Str)) = false := by decide) (he : starEach (e :: es) X.env = (false, eval e X.env) :: starEach es X.env := by rfl) (hpl : (backTo pos (starEach es X.env)).any (·.1) = false := by rfl) :
    PE X (.Call (.Name x p) (e :: es) [] pos) (tMkV C sp ta) := by
  refine ⟨fun pins s σ H Q I h => wpAny_Call_Name_kw (ld_glob I hg hm ?_ hdb)⟩
  refine PySem.W.callWith_K (h₀ := X.base) I.ok.mod.kin kC (thn (ha.run pos pins s σ H _ I h) fun us s1 hh => ?_) he hpl
  obtain ⟨vs, H1, I1, r1, hz, q1⟩ := hh
  exact ⟨I1.kIn, mkv_run MK F1 hr hb hx I1 r1 hz q1⟩
theorem pe_mkv0 {CX : CXT} {x : Str} {C fI : Addr} {k : Nat} {fd : FuncData} {ps : List Str} {sp : Sp} {p pos : Pos} (MK : MkOk X.prog X.w X.K C fI) (kC : PySem.W.keepIn X.K (.ref C) = true)
    (F1 : FnOk X.prog X.w X.K X.mg X.base CX k fI fd ps sp) (hr : Room (k + 1) X.A) (hb : Binds X.K fd ps []) (hx : Passes CX X (fun _ _ _ => False)) (hg : Gl X x) (hm : X.mg x = some (.ref C))
    (hdb : (x == ("__debug__" : Str)) = false := by decide) :
    PE X (.Call (.Name x p) [] [] pos) (tMkV C sp tNil) := by
  refine ⟨fun pins s σ H Q I h => wpAny_Call_Name_kw (ld_glob I hg hm ?_ hdb)⟩
  exact PySem.W.callWith_K0 I.kIn kC (mkv_run (us := []) MK F1 hr hb hx I .nil h.1 h.2)
/-- e.f, e such an exception -/
def tAtt (C : Addr) (f : Str) (te : TE) : TE := fun σ H Q => te σ H fun x H1 => ∃ (a d : Addr) (fs : List (Str × V)) (v : V), x = .ref a ∧ H1 a = some (exo a C (some d)) ∧ H1 d = some (exd d fs) ∧ fs.lookup f = some v ∧ Q v H1
theorem pe_att {C : Addr} {f : Str} {e : Expr} {te : TE} {pos : Pos} (T : XfC X.K C) (hno : PySem.W.findIn X.K (.ref C) f = some none) (he : PE X e te)
    (hb : attributeBase e f X.env (eval e X.env) = eval e X.env := by rfl) : PE X (.Attribute e f pos) (tAtt C f te) := by
  refine ⟨fun pins s σ H Q I h => attr_of hb (thn (he.run pins s σ H _ I h) fun u s1 hh => ?_)⟩
  obtain ⟨x, H1, I1, rx, a, d, fs, v, ex, ea, ed, l, q⟩ := hh
  subst ex
  obtain rfl : u = Value.ref a := rx
  obtain ⟨t1, ha⟩ := exo_at I1.hok ea
  obtain ⟨mA, hns, hr⟩ := exd_at I1.hok ed
  obtain ⟨od, ho, hl⟩ := lookIn_ns hns
  obtain ⟨u, hu, ru⟩ := RelO.some_of (v := v) (o := mA f) (by rw [← l]; exact hr f)
  have J : PySem.W.InstAt s1.heap a _ C (some od) := ⟨ha, rfl, rfl, ho⟩
  exact PySem.HandSPX.exc_get I1.kIn J T.ga T.gg T.exC (PySem.W.findObj_own T.hdC hno rfl (by rw [hl, hu])) (handed_of ru) ⟨v, H1, I1.tok _, ru, q⟩
/-- isinstance(e, c), e such an exception -/
def rIsX (K : PySem.W.Frag) : List V → Hp → VK → Prop := fun xs H Q => ∃ (a C : Addr) (dd : Option Addr) (c : V) (cv : Value) (b : Bool), xs = [.ref a, c] ∧ H a = some (exo a C dd) ∧
  (dd = none ∨ ∃ d fs, dd = some d ∧ H d = some (exd d fs)) ∧ ExcC K C ∧ (∀ u, RelV c u → u = cv) ∧ PySem.W.kitOne K (.ref C) cv = some b ∧ Q (.bl b) H
theorem call_isX : CallR X (.builtin "isinstance") (rIsX X.K) := by
  intro pins s σ H xs us Q I r h
  obtain ⟨a, C, dd, c, cv, b, rfl, ea, hd, T, hcv, e, q⟩ := h
  cases r with
  | cons rx rr =>
    cases rr with
    | cons rt rr =>
      cases rr
      cases rx
      obtain rfl := hcv _ rt
      obtain ⟨t1, ha⟩ := exo_at I.hok ea
      have hcl : (PySem.W.clsIn X.K C).isSome = true := by
        obtain ⟨cd, hc, _⟩ := PySem.W.any_some T.hd
        rw [hc] <;> rfl
      rcases hd with rfl | ⟨d, fs, rfl, ed⟩
      · have J : PySem.W.InstAt s.heap a _ C none := ⟨ha, rfl, rfl, trivial⟩
        exact PySem.W.kia_one (PySem.W.kitx_exc hcl T.hg T.hk T.hs T.ha T.hn T.ht T.hm) I.kIn J e (fun z => nomatch z) fun tk => ⟨.bl b, H, I.kept (t' := tk) fun _ _ z => z, rfl, q⟩
      · obtain ⟨mA, ⟨o, es, ep, ho, hr⟩, _⟩ := exd_at I.hok ed
        have J : PySem.W.InstAt s.heap a _ C (some o) := ⟨ha, rfl, rfl, ho⟩
        exact PySem.W.kia_one (PySem.W.kitx_exc hcl T.hg T.hk T.hs T.ha T.hn T.ht T.hm) I.kIn J e (fun z => nomatch z) fun tk => ⟨.bl b, H, I.kept (t' := tk) fun _ _ z => z, rfl, q⟩
end
end Exv

set_option linter.all false
set_option maxRecDepth 100000
set_option maxHeartbeats 4000000
/-! stores on exceptions of own classes, whatever built-in class they are over -/
namespace Exg
open PySem PySem.Spec PyProof.Rows L2
open Builtin Builtin.ObjectAttr
/-- what is asked of the class at C for a store on its instances -/
structure EcC (K : PySem.W.Frag) (C : Addr) : Prop where
  cls : ∃ nm q N bs bm sn sub ab col dd k0 k1 k2 k3 k5 newId, K.lookup C = some (excClassObj nm q C N bs bm true sn sub ab col dd k0 k1 k2 k3 k5 newId) ∧
    (∀ self : Value, refuseLoop self "__setattr__" (.ref C :: bm) = pure ()) ∧ (Value.ref C :: bm).contains (.type "object") = true
  sa : PySem.W.findIn K (.ref C) "__setattr__" = some (some (.builtin "object.__setattr__"))
theorem ecC_ve {K : PySem.W.Frag} {C : Addr} (T : OexC K C) : EcC K C := by
  obtain ⟨nm, q, N, bs, bm, sn, sub, ab, col, dd, k0, k1, k2, k3, k5, hC, hbm⟩ := T.cls
  exact ⟨⟨nm, q, N, bs, bm, sn, sub, ab, col, dd, k0, k1, k2, k3, k5, _, hC, fun self => PySem.HandSPX.refsVE_pass self _ (show PySem.HandSPX.refsVE (.ref C :: bm) = true from hbm),
    (PySem.HandSPX.refsVE_contains "object" _ (show PySem.HandSPX.refsVE (.ref C :: bm) = true from hbm)).trans (by decide +kernel)⟩, T.sa⟩
section
variable {prog : Program} {w : World} {A : Around} {E : Value → Shared → Prop} {R : Result → Shared → Prop} {hp : Heap} {g : Array GenState} {d : Drawn} {t : Nat} {os : OsState}
/-- object.__setattr__ on it, down to the own dict -/
theorem to_dict {K : PySem.W.Frag} {name : Str} {tk : Tok} {v : Value} {x C : Addr} {ox : Obj} {od : Option Obj} {cd : ClassData} (KI : K.In hp) (I : PySem.W.InstAt hp x ox C od) (hcd : PySem.W.clsIn K C = some cd)
    (pass : ∀ self : Value, refuseLoop self "__setattr__" cd.mro = pure ()) (hob : cd.mro.contains (.type "object") = true) (ha : PySem.W.findIn K (.ref C) name = some none)
    (fin : wpAny (model prog w) A.in1 (storeInOwnDict (.ref x) (.ref C) (.str name tk) name v false)
      (fun f s' => match f with | .done r => R (.ok r) s' | .again c => c.quiet = true ∧ codeAny (model prog w) A c R s') (fun e s' => R (.error e) s') ⟨hp, g, d, t, os⟩) :
    codeAny (model prog w) A (.call (.builtin "object.__setattr__") ⟨[.ref x, .str name tk, v], []⟩) R ⟨hp, g, d, t, os⟩ := by
  have ne : cd.mro.isEmpty = false := by
    cases e : cd.mro with
    | nil =>
      rw [e] at hob
      cases hob
    | cons _ _ => rfl
  have isO : PySem.W.Looks (model prog w) hp (isInstance (.ref x) (.type "object")) true :=
    I.type.andThen (PySem.W.looks_mroIn KI (by unfold PySem.W.mroIn; rw [hcd, Option.bind_some, if_neg (by rw [ne]; decide), hob]))
  have lm : PySem.W.Looks (model prog w) hp (mroOf (.ref C)) cd.mro := (PySem.W.looks_clsIn KI hcd).andThen .now
  have ls : PySem.W.Looks (model prog w) hp (storeTaker? none) none := .now
  refine codeAny_call_builtin PySem.F.store_object.slot.plain PySem.F.store_object.entry
    (@PySem.W.check_slot (model prog w) _ _ ⟨hp, g, d, t, os⟩ "object.__setattr__" "object" "__setattr__" (.ref x) [.str name tk, v] [] _ PySem.F.store_object.kind PySem.F.store_object.split isO
      (PySem.F.store_object.args (.ref x) (.str name tk) v) ?_)
  rw [PySem.W.osa_eq, refuse_eq]
  refine wpAny_bind (wpAny_bind (I.type.at (wpAny_bind (lm.at ?_))))
  rw [pass]
  exact wpAny_pure (wpAny_bind (I.type.at (wpAny_bind ((PySem.W.looks_findIn KI ha).at (wpAny_bind (ls.at fin))))))
theorem set_first {K : PySem.W.Frag} {name : Str} {tk : Tok} {v : Value} {x C : Addr} {fv : Array Value} {cd : ClassData} (KI : K.In hp) (hx : hp.get? x = some { cls := .ref C, data := .fields fv }) (hcd : PySem.W.clsIn K C = some cd)
    (pass : ∀ self : Value, refuseLoop self "__setattr__" cd.mro = pure ()) (hob : cd.mro.contains (.type "object") = true) (hh : cd.hasDict = true) (ha : PySem.W.findIn K (.ref C) name = some none)
    (fin : ∀ h' tk' dx, (∀ b o, b ≠ x → hp.get? b = some o → h'.get? b = some o) → hp.objs.size ≤ dx → dx ≠ x → h'.get? x = some { cls := .ref C, dict := some dx, data := .fields fv } →
      h'.Ns1 dx (fun y => if y = name then some v else none) → R (.ok (.ret .none)) ⟨h', g, d, tk', os⟩) :
    codeAny (model prog w) A (.call (.builtin "object.__setattr__") ⟨[.ref x, .str name tk, v], []⟩) R ⟨hp, g, d, t, os⟩ := by
  have far : x ≠ hp.objs.size := Nat.ne_of_lt (Heap.lt_size hx)
  have lc : PySem.W.Looks (model prog w) hp (classData C) cd := PySem.W.looks_clsIn KI hcd
  refine to_dict KI (ox := { cls := .ref C, data := .fields fv }) (od := none) ⟨hx, rfl, rfl, trivial⟩ hcd pass hob ha ?_
  obtain ⟨c1, c2, c3, c4, c5, c6, c7, c8, c9, c10, c11⟩ := cd
  dsimp only at hh
  subst hh
  unfold storeInOwnDict ownDictForStores
  repeat (first | with_reducible refine PySem.HandSPX.store_in_new ?_ ?_ | with_reducible refine wpAny_loadPart_at hx ?_ | with_reducible refine lc.at ?_ | wp_step)
  · exact ⟨_, #[], _, (Heap.get?_update_ne _ _ _ _ far.symm).trans (Heap.get?_push_at rfl rfl), rfl, fun e he => absurd he (by simp), fun _ => rfl⟩
  · intro h' tk' hn' hs
    have hx1 : (hp.push { cls := .type "dict", data := .dict #[] }).get? x = some { cls := .ref C, data := .fields fv } := Heap.get?_push_of_some _ hx
    exact fin h' tk' hp.objs.size (fun b o hb ho => (hs.2 b (Nat.ne_of_lt (Heap.lt_size ho))).trans ((Heap.get?_update_ne _ _ _ _ hb).trans (Heap.get?_push_of_some _ ho))) (Nat.le_refl _) far.symm
      ((hs.2 x far).trans (Heap.get?_update_self _ hx1 rfl)) hn'
theorem set_next {K : PySem.W.Frag} {name : Str} {tk : Tok} {v : Value} {x C dx : Addr} {fv : Array Value} {cd : ClassData} {m0 : Str → Option Value} {nl : List Str} (KI : K.In hp)
    (hx : hp.get? x = some { cls := .ref C, dict := some dx, data := .fields fv }) (hns : hp.Ns1 dx m0) (hw : Within m0 nl) (hz : nl.length ≤ 1000) (hcd : PySem.W.clsIn K C = some cd)
    (pass : ∀ self : Value, refuseLoop self "__setattr__" cd.mro = pure ()) (hob : cd.mro.contains (.type "object") = true) (hh : cd.hasDict = true) (ha : PySem.W.findIn K (.ref C) name = some none)
    (fin : ∀ h' tk', (∀ b o, b ≠ dx → hp.get? b = some o → h'.get? b = some o) → h'.Ns1 dx (fun y => if y = name then some v else m0 y) → R (.ok (.ret .none)) ⟨h', g, d, tk', os⟩) :
    codeAny (model prog w) A (.call (.builtin "object.__setattr__") ⟨[.ref x, .str name tk, v], []⟩) R ⟨hp, g, d, t, os⟩ := by
  obtain ⟨oD, _, _, hoD, _, _⟩ := hns.count hw
  have lc : PySem.W.Looks (model prog w) hp (classData C) cd := PySem.W.looks_clsIn KI hcd
  refine to_dict KI (ox := { cls := .ref C, dict := some dx, data := .fields fv }) (od := some oD) ⟨hx, rfl, rfl, hoD⟩ hcd pass hob ha ?_
  obtain ⟨c1, c2, c3, c4, c5, c6, c7, c8, c9, c10, c11⟩ := cd
  dsimp only at hh
  subst hh
  unfold storeInOwnDict ownDictForStores
  repeat (first | with_reducible refine PySem.OEX.store_in_old hns hw hz ?_ | with_reducible refine wpAny_loadPart_at hx ?_ | with_reducible refine lc.at ?_ | wp_step)
  intro h' tk' hn' hs
  exact fin h' tk' (fun b o hb ho => (hs.2 b hb).trans ho) hn'
end
section
variable {X : Cx} {pins : List (Addr × Obj)} {σ : L2.St} {H : Hp} {s : Shared} {a C dx : Addr} {f : Str} {y : V} {u : Value} {fs : List (Str × V)} {Q : Unit → Shared → Prop} {E : Value → Shared → Prop} {A : Around}
/-- self.f = y, the first one -/
theorem st_first (T : EcC X.K C) (I : Inv X pins σ H s) (e : H a = some (exo a C none)) (hno : PySem.W.findIn X.K (.ref C) f = some none) (ry : RelV y u)
    (h : ∀ dx s', H dx = none → dx ≠ a → Inv X pins σ (upd (upd H dx (exd dx [(f, y)])) a (exo a C (some dx))) s' → Q () s') : wpAny (model X.prog X.w) A (setAttr (.ref a) f u) Q E s := by
  obtain ⟨nm, q, N, bs, bm, sn, sub, ab, col, dd, k0, k1, k2, k3, k5, newId, hC, pass, hob⟩ := T.cls
  have hcl : PySem.W.clsIn X.K C = some { name := nm, bases := bs, mro := .ref C :: bm, ns := N, qualname := q, hasDict := true, slotNames := sn, subclasses := sub, abstract := ab, collection := col, hasDel := false } := by
    unfold PySem.W.clsIn; rw [hC] <;> rfl
  obtain ⟨t1, ho⟩ := exo_at I.hok e
  obtain ⟨hp, g, d, t, os⟩ := s
  refine PySem.W.set_plain I.kIn (ox := { cls := .ref C, dict := none, data := .fields #[.ref t1, .none, .none, .none, .bool false, .none] }) (od := none) ⟨ho, rfl, rfl, trivial⟩ T.sa ?_
  refine set_first I.kIn ho hcl pass hob rfl hno (fun h' tk' dx k dn dne hx hn => ?_)
  have fresh : H dx = none := I.hok.fresh dn
  have nd : ∀ {b : Addr} {o : Obj}, hp.get? b = some o → b ≠ dx := fun {b o} z => Nat.ne_of_lt (Nat.lt_of_lt_of_le (Heap.lt_size z) dn)
  have na : ∀ {b : Addr}, H b = none → b ≠ a := fun {b} n z => by
    subst z
    rw [e] at n
    cases n
  have U : Un X.fs [] H (upd (upd H dx (exd dx [(f, y)])) a (exo a C (some dx))) hp h' := {
    keep := fun b o z n _ _ => k b o (na n) z
    slot := fun b o z n _ _ => ⟨o.slots, k b o (na n) z⟩
    free := fun b o z n _ => by
      rw [upd_ne (na n), upd_ne (nd z)]
      exact n
    there := fun b o z _ => by
      by_cases hb : b = a
      · subst hb
        exact ⟨_, hx⟩
      · exact ⟨o, k b o hb z⟩
    tups := fun b xs z => by
      rw [upd_ne (at_ne e z exo_tup), upd_ne (ne_of_none z fresh)]
      exact z
    frzs := fun b o v z => by
      rw [upd_ne (at_ne e z exo_frz), upd_ne (ne_of_none z fresh)]
      exact z
    tbls := fun b ps z => ⟨#[], by rw [upd_ne (at_ne e z exo_tbl), upd_ne (ne_of_none z fresh), z]; simp⟩ }
  refine h dx _ fresh dne (I.un (t' := tk') U fun b o z => ?_)
  by_cases hb : b = a
  · subst hb
    rw [upd_same] at z
    cases z
    exact exo_ok hx
  · rw [upd_ne hb] at z
    by_cases hd : b = dx
    · subst hd
      rw [upd_same] at z
      cases z
      exact exd_ok hn (relO_put (fs := []) ry fun g => True.intro)
    · rw [upd_ne hd] at z
      refine (I.hok b o z).stay (fun c v hc r => k c v ?_ r) (fun c hc => ?_) (fun c xs hc => ?_)
      · rcases hc with hc | hc
        · rw [hc]
          exact hb
        · exact at_ne e hc exo_own
      · rw [upd_ne (at_ne e hc exo_own), upd_ne (ne_of_none hc fresh)]
        exact hc
      · rw [upd_ne (at_ne e hc exo_tup), upd_ne (ne_of_none hc fresh)]
        exact hc
/-- self.f = y, a further one -/
theorem st_next (T : EcC X.K C) (I : Inv X pins σ H s) (e : H a = some (exo a C (some dx))) (ed : H dx = some (exd dx fs)) (hl : fs.length ≤ 900) (hno : PySem.W.findIn X.K (.ref C) f = some none) (ry : RelV y u)
    (h : ∀ s', Inv X pins σ (upd H dx (exd dx ((f, y) :: fs))) s' → Q () s') : wpAny (model X.prog X.w) A (setAttr (.ref a) f u) Q E s := by
  obtain ⟨nm, q, N, bs, bm, sn, sub, ab, col, dd, k0, k1, k2, k3, k5, newId, hC, pass, hob⟩ := T.cls
  have hcl : PySem.W.clsIn X.K C = some { name := nm, bases := bs, mro := .ref C :: bm, ns := N, qualname := q, hasDict := true, slotNames := sn, subclasses := sub, abstract := ab, collection := col, hasDel := false } := by
    unfold PySem.W.clsIn; rw [hC] <;> rfl
  obtain ⟨t1, ho⟩ := exo_at I.hok e
  obtain ⟨mA, hns, rel⟩ := exd_at I.hok ed
  have hw := within_of rel
  obtain ⟨hp, g, d, t, os⟩ := s
  obtain ⟨oD, _, _, hoD, _, _⟩ := hns.count hw
  refine PySem.W.set_plain I.kIn (ox := { cls := .ref C, dict := some dx, data := .fields #[.ref t1, .none, .none, .none, .bool false, .none] }) (od := some oD) ⟨ho, rfl, rfl, hoD⟩ T.sa ?_
  refine set_next I.kIn ho hns hw (by rw [List.length_map]; omega) hcl pass hob rfl hno (fun h' tk' k hn => ?_)
  obtain ⟨oN, esN, epN, eN, rN⟩ := id hn
  exact h _ (I.write (t' := tk') (x := dx) (e := dx) (o := exd dx ((f, y) :: fs)) (by rw [ed]; exact True.intro) (.inl rfl) k ⟨oN, eN⟩ (exd_ok hn (relO_put ry rel)))
/-- self.f = e -/
def tSt (K : PySem.W.Frag) (f : Str) (to te : TE) : TS := fun D σ H => te σ H fun y H1 => to σ H1 fun x H2 => ∃ a C : Addr, x = .ref a ∧ EcC K C ∧ PySem.W.findIn K (.ref C) f = some none ∧
  ((H2 a = some (exo a C none) ∧ ∀ dx, H2 dx = none → dx ≠ a → D.nx σ (upd (upd H2 dx (exd dx [(f, y)])) a (exo a C (some dx)))) ∨
    ∃ (dx : Addr) (fs : List (Str × V)), H2 a = some (exo a C (some dx)) ∧ H2 dx = some (exd dx fs) ∧ fs.length ≤ 900 ∧ D.nx σ (upd H2 dx (exd dx ((f, y) :: fs))))
theorem ps_st {o e : Expr} {to te : TE} {p' pos : Pos} (ho : PE X o to) (he : PE X e te) (hs : swapsWith e (some (.Attribute o f p')) pos.line X.env = pure false := by rfl) :
    PS X (.Assign [.Attribute o f p'] e pos) (tSt X.K f to te) := by
  refine ⟨fun pins s σ H D I h => plainObj_wpAny_Assign_Attribute (thn (he.run pins s σ H _ I h) fun v s1 hh => ?_) hs⟩
  obtain ⟨y, H1, I1, r1, q1⟩ := hh
  refine thn (ho.run pins s1 σ H1 _ I1 q1) fun u s2 hh => ?_
  obtain ⟨x, H2, I2, r2, a, C, ex, T, hno, q⟩ := hh
  subst ex
  obtain rfl : u = Value.ref a := r2
  rcases q with ⟨ea, q⟩ | ⟨dx, fs, ea, ed, hl, q⟩
  · exact st_first T I2 ea hno r1 fun dx s' n ne J => ⟨σ, _, J, q dx n ne⟩
  · exact st_next T I2 ea ed hl hno r1 fun s' J => ⟨σ, _, J, q⟩
end
end Exg

set_option linter.all false
set_option maxRecDepth 100000
set_option maxHeartbeats 4000000
/-! an own exception class over KeyError: made, its built-in __init__ called -/
namespace Ky
open PySem PySem.Calls PySem.Spec PyProof.Rows L2 Exv Exg
open PySem.W (KxsFacts)
abbrev keTail : List Value := [.type "KeyError", .type "LookupError", .type "Exception", .type "BaseException", .type "object"]
theorem initRow : Manifest.signature? "KeyError.__init__" = some ⟨.positional, "*", "KeyError", .self, [⟨"args", .varPos, false⟩]⟩ := by kernel_rfl
theorem initKind : builtinKind "KeyError.__init__" = some .slot := by kernel_rfl
theorem initSlot : Slot "KeyError" "__init__" "KeyError.__init__" := .of (owner := "KeyError") (n := "__init__")
    (by rw [typeLookup_type, builtinLookup_eq_fast]; kernel_rfl) (by decide +kernel) (by decide +kernel) (by decide +kernel)
    (by first | exact .inr (by decide +kernel) | exact .inl (by decide +kernel)) (by rw [isSubtype_type]; kernel_rfl)
theorem initEntry : entryFor table "KeyError.__init__" = some Builtin.«BaseException.__init__» :=
  entryFor_alias (id' := "BaseException.__init__") (by rw [fastTable_eq_tree]; kernel_rfl) (by first | rfl | decide +kernel) (by decide +kernel) (by rw [fastTable_eq_tree]; kernel_rfl)
theorem keyPass (self : Value) : refuseLoop self "__setattr__" keTail = pure () := by kernel_rfl
theorem keySup : KxsFacts "KeyError" "KeyError.__init__" :=
  ⟨by show builtinType _ = _; rw [builtinType_eq_fast]; kernel_rfl, by first | kernel_rfl | rfl⟩
section
variable {M : Model} {prog : Program} {w : World} {A : Around} {E : Value → Shared → Prop} {R : Result → Shared → Prop} {h : Heap} {g : Array GenState} {d : Drawn} {t : Nat} {os : OsState}
variable {nm q : Str} {C N : Addr} {bs : List Value} {hdct : Bool} {sn : List Str} {sub : List Value} {ab : Bool} {col : Option Bool} {dd : Option Addr} {k0 k1 k2 k3 k5 : Option Value}
theorem chk_bound {e : Addr} {oe : Obj} {rest bm : List Value} {newId : String} {Q : Unit → Shared → Prop}
    (hC : h.get? C = some (excClassObj nm q C N bs bm hdct sn sub ab col dd k0 k1 k2 k3 k5 newId)) (he : h.get? e = some oe) (hcls : oe.cls = .ref C) (hq : Q () ⟨h, g, d, t, os⟩) :
    wpAny M A (checkBoundCall "KeyError.__init__" ⟨.ref e :: rest, []⟩) Q E ⟨h, g, d, t, os⟩ := by
  have noStar : (("KeyError" : String) != "*") = true := by decide
  simp only [checkBoundCall, initKind, initRow]
  repeat (first | (with_reducible refine wpAny_loadPart_at he ?_; rw [hcls]) | with_reducible refine wpAny_loadPart_at hC ?_ | wp_step)
  refine wpAny_onRaise ?_
  rw [show ∀ (a b : String) (n : Nat), Bind.check ⟨.positional, "*", "KeyError", .self, [⟨"args", .varPos, false⟩]⟩ a b n (List.map (fun x => x.fst) ({ pos := Value.ref e :: rest } : Args).kw) = pure () from
    fun a b n => check_star_args _ _ _ _ _ _]
  exact wpAny_pure hq
abbrev newK : String := "LookupError.__new__"
theorem chk_new {rest : List Value} {Q : Unit → Shared → Prop} (hC : h.get? C = some (excClassObj nm q C N bs keTail hdct sn sub ab col dd k0 k1 k2 k3 k5 newK)) (hq : Q () ⟨h, g, d, t, os⟩) :
    wpAny M A (checkBuiltinCall newK ⟨.ref C :: rest, []⟩) Q E ⟨h, g, d, t, os⟩ := by
  have hB : (Value.ref C :: keTail).contains (.type "LookupError") = true := by rw [List.contains_cons, show keTail.contains (.type "LookupError") = true by decide +kernel, Bool.or_true]
  have noStar := PySem.F.excBase_LookupError.noStar
  simp only [checkBuiltinCall, PySem.F.excBase_LookupError.newKind, PySem.F.excBase_LookupError.newSplit, PySem.F.excBase_LookupError.newRow]
  repeat (first | refine wpAny_loadPart_at hC ?_ | (refine wpAny_isSubtype_exc hC ?_; rw [hB]) | refine wpAny_staticBase_exc hC ?_ | refine wpAny_madeBy_exc hC ?_ | simp only [bne_self_eq_false, Bool.false_eq_true, if_false] | wp_step)
  exact hq
theorem new_key {rest : List Value} (hC : h.get? C = some (excClassObj nm q C N bs keTail hdct sn sub ab col dd k0 k1 k2 k3 k5 newK)) (hrest : rest.length ≤ sizeLine)
    (hq : R (.ok (.ret (.ref (h.objs.size + 1)))) ⟨(h.push (PySem.W.kdv_tup rest)).push (PySem.HandSPX.excO C h.objs.size), g, d, t, os⟩) :
    codeAny (model prog w) A (.builtin newK ⟨.ref C :: rest, []⟩) R ⟨h, g, d, t, os⟩ := by
  have ends := PySem.F.excBase_LookupError.ends
  have hB : (Value.ref C :: keTail).contains (.type "LookupError") = true := by rw [List.contains_cons, show keTail.contains (.type "LookupError") = true by decide +kernel, Bool.or_true]
  have hA : (Value.ref C :: keTail).contains (.type "AttributeError") = false := by rw [List.contains_cons, show keTail.contains (.type "AttributeError") = false by decide +kernel]; rfl
  have hN : (Value.ref C :: keTail).contains (.type "NameError") = false := by rw [List.contains_cons, show keTail.contains (.type "NameError") = false by decide +kernel]; rfl
  refine codeAny_builtinAt PySem.F.excBase_LookupError.entry ?_
  unfold Builtin.«BaseException.__new__»
  refine PySem.wpAt_bind ?_
  show _root_.PySem.wpAt _ _ _ (stack >>= _) _ _ _
  refine PySem.wpAt_bind (PySem.wpAt_stack fun p below => PySem.wpAt_of_wpAny ?_)
  wp_walk
  refine PySem.wpAt_of_wpAny ?_
  rw [PySem.F.excBase_LookupError.owner]
  repeat (first | with_reducible refine wpAny_madeHere_exc PySem.F.excBase_LookupError.canon hC ?_ | with_reducible refine wpAny_loadPart_at hC ?_ |
    (with_reducible refine wpAny_isSubtype_exc hC ?_; first | rw [hB] | rw [hA] | rw [hN]) | wp_step)
  show R _ _
  rw [Heap.size_push]
  exact hq
theorem type_call_key {rest : List Value} {fI : Addr} {Q : Fin → Shared → Prop} (hC : h.get? C = some (excClassObj nm q C N bs keTail hdct sn sub ab col dd k0 k1 k2 k3 k5 newK))
    (hi : PySem.W.Looks (model prog w) h (typeLookup (.ref C) "__init__") (some (.ref fI))) (hb : ∀ self, PySem.W.Looks (model prog w) h (bindSpecial (.ref fI) self) (.ref fI, [self])) (hrest : rest.length ≤ sizeLine)
    (hq : codeAny (model prog w) A (.call (.ref fI) ⟨.ref (h.objs.size + 1) :: rest, []⟩)
      (fun r s' => match r with | .ok (.ret v) => v = .none ∧ Q (.done (.ret (.ref (h.objs.size + 1)))) s' | .ok _ => False | .error e => E e s')
      ⟨(h.push (PySem.W.kdv_tup rest)).push (PySem.HandSPX.excO C h.objs.size), g, d, t, os⟩) :
    wpAny (model prog w) A (Builtin.«type.__call__» ⟨.ref C :: rest, []⟩) Q E ⟨h, g, d, t, os⟩ := by
  repeat (first | with_reducible refine wpAny_loadPart_at hC ?_ | with_reducible refine wpAny_madeBy_exc hC ?_ | wp_step)
  refine codeAny_call_builtin_code (Code.quiet_builtin _ PySem.F.excBase_LookupError.quiet) (chk_new hC (new_key hC hrest ?_))
  show wpAny _ _ _ _ _ _
  have k : ∀ b o, h.get? b = some o → ((h.push (PySem.W.kdv_tup rest)).push (PySem.HandSPX.excO C h.objs.size)).get? b = some o := fun b o e =>
    Heap.get?_push_of_some _ (Heap.get?_push_of_some _ e)
  have hC1 := k _ _ hC
  have hat : ((h.push (PySem.W.kdv_tup rest)).push (PySem.HandSPX.excO C h.objs.size)).get? (h.objs.size + 1) = some (PySem.HandSPX.excO C h.objs.size) := by heap_get
  have hself : (Value.ref C :: keTail).contains (.ref C) = true := by simp
  have i1 := hi.keeps k
  have b1 := (hb (.ref (h.objs.size + 1))).keeps k
  unfold isInstance
  repeat (first | with_reducible refine wpAny_loadPart_at hat ?_ | (with_reducible refine wpAny_isSubtype_exc hC1 ?_; rw [hself]) | wp_step)
  show wpAny _ _ (typeLookup (.ref C) _) _ _ _
  refine i1.at (wpAny_holding (wpAny_bind (b1.at ?_)))
  refine wpAny_bind (wpAny_call (codeAny_mono hq fun r s' z => ?_))
  rcases r with e | (v | _ | _ | _) <;> first | exact z | exact z.elim | skip
  obtain ⟨rfl, z⟩ := z
  first
    | exact wpAny_pure (wpAny_pure z)
    | (wp_walk; exact z)
end
theorem mkOk_key {prog : Program} {w : World} {K : PySem.W.Frag} {C fI : Addr}
    (cls : ∃ nm q N bs sn sub ab col dd k0 k1 k2 k3 k5, K.lookup C = some (excClassObj nm q C N bs keTail true sn sub ab col dd k0 k1 k2 k3 k5 newK))
    (iC : PySem.W.findIn K (.ref C) "__init__" = some (some (.ref fI))) (tI : PySem.W.typeIn K (.ref fI) = some (.type "function")) : MkOk prog w K C fI := fun A R h g d t os rest KX hr q => by
  obtain ⟨nm, qq, N, bs, sn, sub, ab, col, dd, k0, k1, k2, k3, k5, hC0⟩ := cls
  have hC := KX _ _ hC0
  have f1 := PySem.tc_lookup
  have f2 := PySem.tc_bind (.ref C)
  have hTy : (⟨h, g, d, t, os⟩ : Shared).TypeIs (.ref C) "type" := ⟨_, hC, rfl⟩
  refine codeAny_of_tree ?_
  show wpAny _ _ (callAny (.ref C) _) _ _ _
  repeat (any_goals (first | assumption | with_reducible refine wpAny_loadPart_at hC ?_ | wp_step))
  refine ⟨rfl, ?_⟩
  refine codeAny_call_builtin_at (Code.quiet_builtin _ (by decide +kernel)) entry_typeCall (wpAny_check_type_call_sub hC (type_call_key hC (PySem.W.looks_findIn KX iC) (fun self => PySem.W.bind_fn KX self tI) hr ?_))
  refine codeAny_mono q fun r s' z => ?_
  rcases r with e | (v | _ | _ | _) <;> exact z
end Ky

set_option linter.all false
set_option maxRecDepth 100000
set_option maxHeartbeats 4000000
/-! an own exception class over ValueError whose __init__ begins with super().__init__('..') -/
namespace Sup
open PySem PySem.Spec PyProof.Rows L2 NdefX
open PySem.W (kxs_mw)
section
variable {X : Cx} {pins : List (Addr × Obj)} {σ : L2.St} {H : Hp} {s : Shared} {a C u : Addr} {A : Around} {E : Value → Shared → Prop}
theorem upd_id {o : HO} (e : H a = some o) : upd H a o = H := by
  funext b
  by_cases hb : b = a
  · subst hb
    rw [upd_same]
    exact e.symm
  · exact upd_ne hb
/-- the built-in __init__ i, bound to an exception of the class at C, is called -/
def MwOk (K : PySem.W.Frag) (C : Addr) (i : String) : Prop := ∀ (prog : Program) (w : World) (A : Around) (E : Value → Shared → Prop) (h : Heap) (g : Array GenState) (d : Drawn) (t : Nat) (os : OsState) (u e t0 : Addr) (us : List Value) (Q : Value → Shared → Prop),
  K.In h → h.get? e = some (PySem.HandSPX.excO C t0) → h.get? u = some (kxs_mw i e) → us.length ≤ sizeLine →
  (∀ h' t1, (∀ b o, b ≠ e → h.get? b = some o → h'.get? b = some o) → h'.get? e = some (PySem.HandSPX.excO C t1) → Q .none ⟨h', g, d, t, os⟩) →
  wpAny (model prog w) A (call (.ref u) us) Q E ⟨h, g, d, t, os⟩
theorem mwOk_ve {K : PySem.W.Frag} (T : OexC K C) : MwOk K C "ValueError.__init__" := fun prog w A E h g d t os u e t0 us Q KX he hu hl hq => by
  obtain ⟨nm, qq, N, bs, bm, sn, sub, ab, col, dd, k0, k1, k2, k3, k5, hC, hbm⟩ := T.cls
  refine wpAny_call (codeAny_of_tree ?_)
  show wpAny _ A.in1 (callAny (.ref u) ⟨us, []⟩) _ _ _
  simp only [callAny]
  refine wpAny_bind (wpAny_load hu ?_)
  simp only [kxs_mw, show (Value.type "method-wrapper" == Value.type "method" || Value.type "method-wrapper" == Value.type "builtin_function_or_method"
    || Value.type "method-wrapper" == Value.type "method-wrapper") = true by decide, if_true]
  refine PySem.W.KFB.if_so (by decide) (wpAny_bind (ESX.check_bound PySem.F.excBase_ValueError (KX _ _ hC) he rfl (wpAny_bind (wpAny_pure (wpAny_pure ?_)))))
  refine ⟨plainId_quiet PySem.F.excBase_ValueError.init.plain _, codeAny_builtin PySem.F.excBase_ValueError.initEntry ?_⟩
  exact PySem.W.exc_init_tree (cls := .ref C) (t0 := t0) (dv := none) (c2 := .none) (c3 := .none) (b4 := .bool false) he hl (fun h' k hx _ => hq h' _ k hx)
theorem mwOk_key {K : PySem.W.Frag} (cls : ∃ nm q N bs sn sub ab col dd k0 k1 k2 k3 k5, K.lookup C = some (excClassObj nm q C N bs Ky.keTail true sn sub ab col dd k0 k1 k2 k3 k5 Ky.newK)) : MwOk K C "KeyError.__init__" :=
  fun prog w A E h g d t os u e t0 us Q KX he hu hl hq => by
  obtain ⟨nm, qq, N, bs, sn, sub, ab, col, dd, k0, k1, k2, k3, k5, hC⟩ := cls
  refine wpAny_call (codeAny_of_tree ?_)
  show wpAny _ A.in1 (callAny (.ref u) ⟨us, []⟩) _ _ _
  simp only [callAny]
  refine wpAny_bind (wpAny_load hu ?_)
  simp only [kxs_mw, show (Value.type "method-wrapper" == Value.type "method" || Value.type "method-wrapper" == Value.type "builtin_function_or_method"
    || Value.type "method-wrapper" == Value.type "method-wrapper") = true by decide, if_true]
  refine PySem.W.KFB.if_so (by decide) (wpAny_bind (Ky.chk_bound (KX _ _ hC) he rfl (wpAny_bind (wpAny_pure (wpAny_pure ?_)))))
  refine ⟨plainId_quiet Ky.initSlot.plain _, codeAny_builtin Ky.initEntry ?_⟩
  exact PySem.W.exc_init_tree (cls := .ref C) (t0 := t0) (dv := none) (c2 := .none) (c3 := .none) (b4 := .bool false) he hl (fun h' k hx _ => hq h' _ k hx)
/-- .. over the abstract heap: nothing of it is told -/
theorem call_mw {i : String} {us : List Value} {Q : Value → Shared → Prop} (M : MwOk X.K C i) (I : Inv X pins σ H s) (e : H a = some (exo a C none))
    (hu : s.heap.get? u = some (kxs_mw i a)) (hl : us.length ≤ sizeLine) (h : ∀ s', Inv X pins σ H s' → Q .none s') :
    wpAny (model X.prog X.w) A (call (.ref u) us) Q E s := by
  obtain ⟨t1, ho⟩ := exo_at I.hok e
  have KX := I.kIn
  obtain ⟨hp, g, d, t, os⟩ := s
  refine M _ _ A E hp g d t os u a t1 us Q KX ho hu hl (fun h' t2 k hx => ?_)
  have J := I.write (t' := t) (x := a) (e := a) (o := exo a C none) (by rw [e]; exact True.intro) (.inl rfl) k ⟨_, hx⟩ (exo_ok hx)
  rw [upd_id e] at J
  exact h _ J
end

/-- what the written part says of such a class at C: its cell __class__ at cc, its __init__'s code at cda -/
structure SupF (P : Program) (K : PySem.W.Frag) (B i : String) (C cc cda : Addr) : Prop where
  KF : PySem.W.KxsFacts B i
  mw : MwOk K C i
  cls : ∃ nm q N bs bm sn sub ab col dd k0 k1 k2 k3 k5 newId, K.lookup C = some (excClassObj nm q C N bs bm true sn sub ab col dd k0 k1 k2 k3 k5 newId)
  along : PySem.W.ks_superIn K C C "__init__" = some (some (.builtin i))
  subV : PySem.W.subIn K (.ref C) (.type B) = some true
  subC : PySem.W.mroIn K C (.ref C) = some true
  cell : ∃ cl cld csl, K.lookup cc = some ⟨cl, cld, .cell (some (.ref C)), csl⟩
  code : ∃ ccl cdd vs ccs file tf, K.lookup cda = some ⟨ccl, cdd, .fields vs, ccs⟩ ∧ vs[2]? = some (.str file tf) ∧ ((P.main.file : Str) == file) = true
  third : PySem.W.nsIn K PySem.cStatics "thirdparty.any" = some none
/-- super().__init__('..') -/
abbrev stSup (p0 p1 p2 p3 p4 p5 : Pos) (j : Nat) (msg : Str) : Stmt :=
  .Expr (.Call (.Attribute (.Call (.Name "super" p0) [] [] p1) "__init__" p2) [.Constant (.str msg) j p3] [] p4) p5
section
variable {CX : CXT} {P : Program} {w : World} {K : PySem.W.Frag} {mg : Str → Option Value} {base : Heap} {N ps : List Str} {F : NF} {f C cc : Addr} {A : Around} {outer : List Env} {s0 s : Shared} {H0 H : Hp} {E : XK} {σ : L2.St} {a : Addr}
theorem sup_stmt {p0 p1 p2 p3 p4 p5 : Pos} {j : Nat} {msg : Str} {body : List Stmt} {ar : Arg} {oc : Value} {od : Option Addr} {osl : Array (Option Value)} {dV kV doc pm ct : Value} {an : Option Addr}
    {B i : String} (D : SupF P K B i C cc F.c) (hcl : F.cl = [(("__class__" : Str), cc)])
    (lk : K.lookup f = some ⟨oc, od, .func (PySem.W.fnX F.name F.qual F.params F.body F.scope F.cl dV kV doc pm an (.ref F.c) ct), osl⟩)
    (hk : F.scope.kind = .function)
    (hks : F.scope.names.lookup ("super" : Str) = some .globalImplicit) (hkc : F.scope.names.lookup ("__class__" : Str) = some .free)
    (hp : (F.params.posonlyargs ++ F.params.args).head? = some ar) (h0 : N[0]? = some ar.arg) (hka : F.scope.names.lookup ar.arg = some .local)
    {pl : Sem Bool} (hev : eval (.Call (.Attribute (.Call (.Name "super" p0) [] [] p1) "__init__" p2) [.Constant (.str msg) j p3] [] p4) (envF F f s0.heap.objs.size) = (do
      let ov ← attributeBase (.Call (.Name "super" p0) [] [] p1) "__init__" (envF F f s0.heap.objs.size) (eval (.Call (.Name "super" p0) [] [] p1) (envF F f s0.heap.objs.size))
      standAt p2.atName
      let (g, first) ← holding [ov] (getMethod ov "__init__" pl)
      callWith p4 g first (backTo p4 (starEach [.Constant (.str msg) j p3] (envF F f s0.heap.objs.size))) []))
    (hsup : mg "super" = none) (htop : (P.main.scope.names.lookup ("super" : Str)).isSome = false)
    (I : Inv (ncx CX P w K mg base N F f A outer s0 H0 E) [] σ H s) (hσ : σ[0]? = some (some (.ref a))) (hH : H a = some (exo a C none)) :
    _root_.PySem.wpAt (model P w) (A.deeper (envF F f s0.heap.objs.size)) (.func body (envF F f s0.heap.objs.size)) (exec (stSup p0 p1 p2 p3 p4 p5 j msg) (envF F f s0.heap.objs.size))
      (fun fl s' => fl = .next ∧ Inv (ncx CX P w K mg base N F f A outer s0 H0 E) [] σ H s') (ncx CX P w K mg base N F f A outer s0 H0 E).xe s := by
  obtain ⟨sh, sg, sd, st, so⟩ := s
  have KX : K.In sh := I.kIn
  obtain ⟨nm, q, Nn, bs, bm, sn, sub, ab, col, dd, k0, k1, k2, k3, k5, newId, hC⟩ := D.cls
  obtain ⟨cl, cld, csl, hcell⟩ := D.cell
  obtain ⟨ccl, cdd, vs, ccs, file, tf, hcode, hvs, hfile⟩ := D.code
  obtain ⟨mb, hb1, hb2⟩ := I.mod.blt
  obtain ⟨t1, ho⟩ := exo_at I.hok hH
  obtain ⟨m, hns, hloc⟩ := I.loc
  obtain ⟨u, ru, hu⟩ := hloc 0 ar.arg (.ref a) h0 hσ (.inl hka)
  obtain rfl : u = Value.ref a := ru
  have hm : m ar.arg = some (.ref a) := by
    rcases hu with ⟨_, z⟩ | ⟨z, _⟩
    · exact z
    · have z' : F.scope.names.lookup ar.arg = some .cell ∨ F.scope.names.lookup ar.arg = some .free := z
      rw [hka] at z'
      rcases z' with z' | z' <;> cases z'
  have hclsI : PySem.W.clsIn K C = some { name := nm, bases := bs, mro := .ref C :: bm, ns := Nn, qualname := q, hasDict := true, slotNames := sn, subclasses := sub, abstract := ab, collection := col, hasDel := false } := by
    unfold PySem.W.clsIn; rw [hC] <;> rfl
  have hi : interactive (envF F f s0.heap.objs.size) = false := by
    unfold interactive
    show (F.scope.kind == _ && _) = false
    rw [hk]
    rfl
  refine PySem.ks_wpAt_Expr_any (hi := hi) (PySem.ks_wpAt_MethodCall (pl := pl) ?_ hev)
  refine PySem.ks_wpAt_super_base (env := envF F f s0.heap.objs.size) hks hkc (by decide) rfl (KX _ _ lk) rfl hp rfl (KX _ _ hcode) rfl hvs hfile htop ?_
  refine PySem.W.ks_loadName_global hk hks (PySem.Calls.loadGlobal_builtin (env := envF F f s0.heap.objs.size) (I.mod.glob.keeps I.bk) hsup (hb1.keeps I.bk)
    ((hb2 "super" (by decide)).trans (by decide +kernel : bootBuiltins "super" = some (.type "super"))) ⟨rfl, ?_⟩)
  refine wpAny_loadName_free hk hkc (show F.cl.lookup ("__class__" : Str) = some cc by rw [hcl]; rfl) ⟨_, KX _ _ hcell, rfl⟩ ?_
  refine wpAny_loadName_local hk hka hns hm ?_
  refine PySem.ks_wpAny_isType_cls (KX _ _ hC) rfl ⟨rfl, ?_⟩
  refine PySem.ks_wpAny_call_super (KX _ _ hC) rfl ho rfl (fun c e => by cases e) (PySem.W.looks_mroIn KX D.subC) (fun h' e k => ?_)
  have X' : K.In h' := KX.keeps k
  have I1 : Inv (ncx CX P w K mg base N F f A outer s0 H0 E) [] σ H ⟨h', sg, sd, st, so⟩ := I.kept k
  have hcl2 : PySem.W.clsIn K C = some { name := nm, bases := bs, mro := .ref C :: bm, ns := Nn, qualname := q, hasDict := true, slotNames := sn, subclasses := sub, abstract := ab, collection := col, hasDel := false } := hclsI
  have al := D.along
  unfold PySem.W.ks_superIn at al
  rw [hcl2] at al
  have ho' := k _ _ ho
  have It : PySem.W.InstAt h' a { cls := .ref C, dict := none, data := .fields #[.ref t1, .none, .none, .none, .bool false, .none] } C none := ⟨ho', rfl, rfl, trivial⟩
  refine PySem.W.kxs_getMethod D.KF e (PySem.W.looks_opaque X' D.third) (l₀ := .ref C :: bm)
    (fun A Q E s k q => wpAny_bind ((PySem.W.looks_clsIn X' hcl2) A _ E s k (wpAny_pure q))) rfl X' al (It.type.andThen (PySem.W.looks_subIn X' D.subV)) (PySem.W.ks_ne X' It hcl2) (by decide) ?_
  have I2 : Inv (ncx CX P w K mg base N F f A outer s0 H0 E) [] σ H ⟨h'.push (kxs_mw i a), sg, sd, st + 1, so⟩ := I1.kept (t' := st + 1) fun b o z => Heap.get?_push_of_some _ z
  have hmw : (h'.push (kxs_mw i a)).get? h'.objs.size = some (kxs_mw i a) := Heap.get?_push_at rfl rfl
  have hargs : PA (ncx CX P w K mg base N F f A outer s0 H0 E) [.Constant (.str msg) j p3] (tCons (tC (.str msg)) tNil) := pa_cons pe_str pa_nil
  have I3 : Inv (ncx CX P w K mg base N F f A outer s0 H0 E) [(h'.objs.size, kxs_mw i a)] σ H ⟨h'.push (kxs_mw i a), sg, sd, st + 1, so⟩ :=
    I2.pins_of fun p hp => by
      obtain rfl := List.mem_singleton.mp hp
      exact ⟨hmw, I1.hok.fresh (Nat.le_refl _), Nat.ne_of_gt I1.lt, I1.nofs (Nat.le_refl _), fun v z => by cases z⟩
  have hrun := hargs.run p4 [(h'.objs.size, kxs_mw i a)] ⟨h'.push (kxs_mw i a), sg, sd, st + 1, so⟩ σ H (fun vs H1 => vs = [.str msg] ∧ H1 = H) I3 ⟨rfl, rfl⟩
  show wpAny _ _ (callWith p4 (.ref h'.objs.size) [] (backTo p4 ((false, _) :: [])) []) _ _ _
  refine PySem.W.kxs_callWith (i := i) (x := a) rfl (PySem.Calls.evalArgs_plain (wpAny_mono hrun (fun us s1 hh => ?_) fun _ _ z => z))
  obtain ⟨vs, H1, J, r, rfl, rfl⟩ := hh
  have pin := (J.pin (h'.objs.size, kxs_mw i a) (by simp)).1
  refine ⟨pin, ?_⟩
  refine call_mw (X := ncx CX P w K mg base N F f A outer s0 H0 E) (u := h'.objs.size) D.mw J hH pin ?_ fun s' J' => ⟨rfl, J'.pins_of fun p hp => absurd hp (by simp)⟩
  show us.length ≤ sizeLine
  rw [← r.length, sizeLine_eq]
  show 1 ≤ 16777216
  decide
/-- THE RULE: such an __init__, by what stands behind its first row -/
theorem ok_sup {sp : Sp} {k : Nat} {p0 p1 p2 p3 p4 p5 : Pos} {j : Nat} {msg : Str} {rest : List Stmt} {ar : Arg} {oc : Value} {od : Option Addr} {osl : Array (Option Value)} {dV kV doc pm ct : Value} {an : Option Addr}
    {B i : String} (D : SupF P K B i C cc F.c) (hcl : F.cl = [(("__class__" : Str), cc)]) (hbd : F.body = stSup p0 p1 p2 p3 p4 p5 j msg :: rest)
    (lk : K.lookup f = some ⟨oc, od, .func (PySem.W.fnX F.name F.qual F.params F.body F.scope F.cl dV kV doc pm an (.ref F.c) ct), osl⟩)
    (hcd : PySem.W.codeIn K (.ref F.c) F.qual = true) (S : NdefX.NScope N ps ["__class__"] F.scope)
    (hks : F.scope.names.lookup ("super" : Str) = some .globalImplicit)
    (hp : (F.params.posonlyargs ++ F.params.args).head? = some ar) (h0 : N[0]? = some ar.arg) (hka : F.scope.names.lookup ar.arg = some .local)
    (hev : ∀ L : Addr, ∃ pl : Sem Bool, eval (.Call (.Attribute (.Call (.Name "super" p0) [] [] p1) "__init__" p2) [.Constant (.str msg) j p3] [] p4) (envF F f L) = (do
      let ov ← attributeBase (.Call (.Name "super" p0) [] [] p1) "__init__" (envF F f L) (eval (.Call (.Name "super" p0) [] [] p1) (envF F f L))
      standAt p2.atName
      let (g, first) ← holding [ov] (getMethod ov "__init__" pl)
      callWith p4 g first (backTo p4 (starEach [.Constant (.str msg) j p3] (envF F f L))) []))
    (hsup : mg "super" = none) (htop : (P.main.scope.names.lookup ("super" : Str)).isSome = false)
    (len : ∀ vs H Q E, sp vs H Q E → vs.length = ps.length)
    (self : ∀ vs H Q E, sp vs H Q E → ∃ a r, vs = .ref a :: r ∧ H a = some (exo a C none))
    (hbody : ∀ (A : Around) (outer : List Env) (s : Shared) (H : Hp) (vs : List V) (Q : VK) (E : XK), Room k (A.deeper (envF F f s.heap.objs.size)) → sp vs H Q E →
      ∃ t, PSs (ncx CX P w K mg base N F f A outer s H E) rest t ∧ t { nx := fun _ H' => Q .non H', rt := Q } (startF N vs [none]) H) :
    FnOk P w K mg base CX (k + 1) f (PySem.W.fnX F.name F.qual F.params F.body F.scope F.cl dV kV doc pm an (.ref F.c) ct) ps sp := by
  refine ⟨len, fun A outer s H args us vs Q E hr e0 hb r hsp => ?_⟩
  have hl := len _ _ _ _ hsp
  have KX : K.In s.heap := e0.mod.kin.keeps fun b o e => (e0.bs b o e).1
  have lim : s.heap.NoLimit := e0.mod.nolimit.keeps fun b o e => (e0.bs b o e).1
  obtain ⟨cl, cld, csl, hcell⟩ := D.cell
  have hcn : H cc = none := (e0.bs _ _ (e0.mod.kin _ _ hcell)).2
  have CA : NdefX.CellsAt F.cl ["__class__"] [none] s.heap H := by
    rw [hcl]
    have one : ∀ y c, List.lookup y [(("__class__" : Str), cc)] = some c → y = ("__class__" : Str) ∧ c = cc := fun y c h => by
      have z := PySem.mem_of_lookup h
      have z' := List.mem_singleton.mp z
      exact ⟨congrArg Prod.fst z', congrArg Prod.snd z'⟩
    refine ⟨rfl, fun y c h => ?_, fun x y c h1 h2 => (one _ _ h1).1.trans (one _ _ h2).1.symm, fun i y h => ?_⟩
    · obtain ⟨_, rfl⟩ := one _ _ h
      exact ⟨hcn, some (.ref C), _, KX _ _ hcell, rfl⟩
    · match i, h with
      | 0, h =>
        obtain rfl : ("__class__" : Str) = y := Option.some.inj h
        exact ⟨cc, rfl, fun v z => by cases z⟩
  obtain ⟨t, ht, hq⟩ := hbody A outer s H vs Q E (hr.deeper _) hsp
  obtain ⟨a, rr, hva, hHa⟩ := self _ _ _ _ hsp
  obtain ⟨pl, hpl⟩ := hev s.heap.objs.size
  refine PySem.ks_codeAny_call_defAt (fd := PySem.W.fnX F.name F.qual F.params F.body F.scope F.cl dV kV doc pm an (.ref F.c) ct) (body := F.body) (binds := ps.zip us)
    hr.depth (KX _ _ lk) rfl lim (PySem.W.codeRec_of KX hcd) rfl hb S.nocell (fun ⟨n, _⟩ hy => S.par n (List.of_mem_zip hy).1) (fun h₁ hns kp => ?_) S.co S.gen S.kind
  have I : Inv (ncx CX P w K mg base N F f A outer s H E) [] (startF N vs [none]) H { s with heap := h₁, toks := s.toks + (ps.zip us).length } := inv_startN S hr.hd e0 hl r CA hns kp
  rw [hbd]
  have first := sup_stmt (p5 := p5) (body := stSup p0 p1 p2 p3 p4 p5 j msg :: rest) (CX := CX) (outer := outer) (E := E) D hcl lk S.kind hks (S.frk _ (by simp)) hp h0 hka hpl hsup htop I (a := a) (by rw [hva]; rfl) hHa
  refine PySem.ks_wpAt_execs_cons (PySem.ks_wpAt_mono first (fun fl s' hh => ?_) fun _ _ z => z)
  obtain ⟨rfl, J⟩ := hh
  refine wpAt_of_wpAny ?_
  refine wpAny_mono (ht.run [] s' (startF N vs [none]) H _ J hq) (fun fl s' hs => ?_) fun e s' hs => hs
  have fin : ∀ {σ' : L2.St} {H' : Hp} {v : V} {u : Value}, Inv (ncx CX P w K mg base N F f A outer s H E) [] σ' H' s' → L2.RelV v u → Q v H' → CE outer P w H s Q u s' :=
    fun {σ' H' v u} J rv q => ⟨v, H', J.os, J.bare, J.base, J.hok, rv, q⟩
  cases fl with
  | ret u =>
    obtain ⟨v, σ', H', J, rv, q⟩ := hs
    exact fin J rv q
  | next =>
    obtain ⟨σ', H', J, q⟩ := hs
    exact fin (v := V.non) (u := Value.none) J rfl q
  | brk =>
    obtain ⟨_, _, _, q⟩ := hs
    exact False.elim q
  | cont =>
    obtain ⟨_, _, _, q⟩ := hs
    exact False.elim q
end
end Sup

set_option linter.all false
set_option maxRecDepth 100000
set_option maxHeartbeats 4000000
/-! repr of data; promises of defs that say repr: they stand where no repr is under way -/
namespace Rg
open PySem PySem.Spec PyProof.Rows L2
/-- a promise that is kept where no repr is under way -/
structure FnG (P : Program) (w : World) (K : PySem.W.Frag) (mg : Str → Option Value) (base : Heap) (CX : CXT) (k : Nat) (f : Addr) (fd : FuncData) (ps : List Str) (sp : Sp) : Prop where
  len : ∀ vs H Q E, sp vs H Q E → vs.length = ps.length
  run : ∀ (A : Around) (outer : List Env) (s : Shared) (H : Hp) (args : Args) (us : List Value) (vs : List V) (Q : VK) (E : XK), A.guards = some [] → Room k A → Env0 P w K mg base A outer s H → BindsTo s fd args (ps.zip us) → Vals vs us → sp vs H Q E →
    codeAny (model P w) A (.call (.ref f) args) (CR CX outer P w H s Q E) s
theorem FnG.of {P : Program} {w : World} {K : PySem.W.Frag} {mg : Str → Option Value} {base : Heap} {CX : CXT} {k : Nat} {f : Addr} {fd : FuncData} {ps : List Str} {sp : Sp} (F : FnOk P w K mg base CX k f fd ps sp) : FnG P w K mg base CX k f fd ps sp :=
  ⟨F.len, fun A outer s H args us vs Q E _ => F.run A outer s H args us vs Q E⟩
theorem FnG.mono {P : Program} {w : World} {K : PySem.W.Frag} {mg : Str → Option Value} {base : Heap} {CX : CXT} {j k : Nat} {f : Addr} {fd : FuncData} {ps : List Str} {sp : Sp} (F : FnG P w K mg base CX j f fd ps sp) (h : j ≤ k) : FnG P w K mg base CX k f fd ps sp :=
  ⟨F.len, fun A outer s H args us vs Q E g hr => F.run A outer s H args us vs Q E g (hr.mono h)⟩
/-- THE RULE for such a def -/
theorem okG {P : Program} {w : World} {K : PySem.W.Frag} {mg : Str → Option Value} {base : Heap} {CX : CXT} {x qual : Str} {st : Stmt} {f : Addr} {fd : FuncData} {N ps : List Str} {k : Nat} {sp : Sp} (F : Fun K x qual st f fd) (S : FnScope N ps (defScope st))
    (len : ∀ vs H Q E, sp vs H Q E → vs.length = ps.length)
    (hbody : ∀ (cdv : Value) (A : Around) (outer : List Env) (s : Shared) (H : Hp) (vs : List V) (Q : VK) (E : XK), A.guards = some [] → Room k (A.deeper (envOfC qual (defScope st) s.heap.objs.size f cdv)) → sp vs H Q E →
      ∃ t, PSs (cxOf CX P w K mg base N qual (defScope st) f cdv A outer s H E) (defBody st) t ∧ t { nx := fun _ H' => Q .non H', rt := Q } (start N vs) H) : FnG P w K mg base CX (k + 1) f fd ps sp := by
  obtain ⟨oc, od, kV, doc, pm, an, cdv, ct, osl, rfl, lk, hcd⟩ := F.ex
  refine ⟨len, fun A outer s H args us vs Q E g hr e0 hb r hsp => ?_⟩
  have hl : vs.length = ps.length := len _ _ _ _ hsp
  have KS : K.In s.heap := e0.mod.kin.keeps fun b o e => (e0.bs b o e).1
  have NL : s.heap.NoLimit := e0.mod.nolimit.keeps fun b o e => (e0.bs b o e).1
  have kinds : ∀ y ∈ ps.zip us, (defScope st).names.lookup y.1 = some .local ∨ ((defScope st).names.lookup y.1 = some .cell ∧ ((cellsFrom (s.heap.objs.size + 1) (defScope st).names []).lookup y.1).isSome = true) := fun ⟨n, v⟩ hy => by
    rcases S.par n (List.of_mem_zip hy).1 with z | z
    · exact .inl z
    · exact .inr ⟨z, PySem.W.cellsFrom_some _ _ _ (.inl z)⟩
  refine codeAny_call_function hr.depth (KS _ _ lk) rfl S.co S.gen rfl (PySem.W.codeRec_of KS hcd) (hb _ _ _ _ (wpAny_newFunctionEnv_cells S.kind kinds fun env he s1 x => ?_))
  subst he
  refine ⟨NL.keeps x.toInCall.keep, codeAny_func ?_⟩
  obtain ⟨t, ht, hq⟩ := hbody cdv A outer s H vs Q E g (hr.deeper _) hsp
  have I : Inv (cxOf CX P w K mg base N qual (defScope st) f cdv A outer s H E) [] (start N vs) H s1 := inv_start S hr.hd e0 hl r x
  refine wpAny_mono (ht.run [] s1 (start N vs) H _ I hq) (fun fl s' hs => ?_) fun _ _ z => z
  match fl, hs with
  | .ret u, ⟨v, σ', H', J, rv, q⟩ => exact ⟨v, H', J.os, J.bare, J.base, J.hok, rv, q⟩
  | .next, ⟨σ', H', J, q⟩ => exact ⟨.non, H', J.os, J.bare, J.base, J.hok, rfl, q⟩
  | .brk, ⟨_, _, _, q⟩ => exact False.elim q
  | .cont, ⟨_, _, _, q⟩ => exact False.elim q
section
variable {X : Cx} {CX : CXT} {k : Nat} {f : Addr} {fd : FuncData} {ps : List Str} {sp : Sp} {E : XK} {x : Str} {p pos : Pos} {e : Expr} {es : List Expr} {t : TA}
theorem run_fnG {pins : List (Addr × Obj)} {σ : L2.St} {H : Hp} {s : Shared} {Q : VK} {us : List Value} {vs : List V} (F : FnG X.prog X.w X.K X.mg X.base CX k f fd ps sp) (hg : X.A.guards = some []) (hr : Room k X.A) (hb : Binds X.K fd ps []) (hx : Passes CX X E)
    (I : Inv X pins σ H s) (r : Vals vs us) (h : sp vs H Q E) : wpAny (model X.prog X.w) X.A (call (.ref f) us) (EP X pins σ Q) X.xe s := by
  have hl : us.length = ps.length := by
    rw [← r.length]
    exact F.len _ _ _ _ h
  have hbb := hb s us I.kIn (by rw [List.append_nil]; exact hl)
  rw [List.append_nil] at hbb
  refine wpAny_call (codeAny_mono (F.run X.A X.stack s H ⟨us, []⟩ us vs Q E hg hr I.env0 hbb r h) fun r s' hq => ?_)
  match r, hq with
  | .error e, hq => exact hx pins σ H s e s' I hq
  | .ok (.ret u), hq => exact I.after hq
  | .ok .next, hq => exact False.elim hq
  | .ok .brk, hq => exact False.elim hq
  | .ok .cont, hq => exact False.elim hq
/-- f(e, ..) -/
theorem pe_callG (F : FnG X.prog X.w X.K X.mg X.base CX k f fd ps sp) (hgu : X.A.guards = some []) (hr : Room k X.A) (hg : Gl X x) (hm : X.mg x = some (.ref f)) (hk : PySem.W.keepIn X.K (.ref f) = true) (hb : Binds X.K fd ps []) (hx : Passes CX X E)
    (ha : PA X (e :: es) t) (hdb : (x == ("__debug__" : Str)) = false := by decide) (he : starEach (e :: es) X.env = (false, eval e X.env) :: starEach es X.env := by rfl) (hpl : (backTo pos (starEach es X.env)).any (·.1) = false := by rfl) :
    PE X (.Call (.Name x p) (e :: es) [] pos) (tCall sp [] E t) := by
  refine ⟨fun pins s σ H Q I h => wpAny_Call_Name_kw (ld_glob I hg hm ?_ hdb)⟩
  refine PySem.W.callWith_K (h₀ := X.base) I.ok.mod.kin hk (thn (ha.run pos pins s σ H _ I h) fun us s1 hh => ?_) he hpl
  obtain ⟨vs, H1, I1, r, q⟩ := hh
  have q' : sp (vs ++ []) H1 Q E := q
  rw [List.append_nil] at q'
  exact ⟨I1.kIn, run_fnG F hgu hr hb hx I1 r q'⟩
/-- repr(e), e a list or a tuple of data -/
def rRepr (K : PySem.W.Frag) : List V → Hp → VK → Prop := fun xs H Q => ∃ (a : Addr) (d : PyData), xs = [.ref a] ∧ Dp K H (.ref a) d ∧ d.showable = true ∧ d.hasDict = false ∧ d.depth ≤ 60 ∧ d.shown.length ≤ sizeLine ∧ Q (.str d.shown) H
theorem call_repr (hg : X.A.guards = some []) (hu : X.A.units + 64 < cLine) : CallR X (.builtin "repr") (rRepr X.K) := by
  intro pins s σ H xs us Q I r h
  obtain ⟨a, d, rfl, hd, hs, hn, hdp, hz, q⟩ := h
  cases r with
  | cons rx rr =>
    cases rr
    cases rx
    obtain ⟨as, hread⟩ := Dp.reads I d _ _ hd rfl
    refine repr_of_reads' hread hs (fun z => absurd (hn.symm.trans z) (by decide)) hg (by omega) (fun _ _ z => z) (fun h' u tk k => ?_) hz
    exact ⟨.str d.shown, H, I.kept (t' := tk) k, ⟨u, rfl⟩, q⟩
end
end Rg

set_option linter.all false
set_option maxRecDepth 100000
set_option maxHeartbeats 4000000
/-! the end of a law whose own def says repr -/
namespace Rg
open PySem PySem.Spec PyProof.Rows L2
theorem lawG {P : Program} {w : World} {K : PySem.W.Frag} {mg mb : Str → Option Value} {CX : CXT} {k : Nat} {fa a : Addr} {fd : FuncData} {x : Str} {sp : Sp} {s1 : Shared} {vs : List Value} {ns : List Int}
    (KI : K.In s1.heap) (hns : s1.heap.Ns mainGlobals mg) (hb : s1.heap.Ns builtinsNs mb) (hbb : ∀ x : Str, x ≠ "__name__" → mb x = bootBuiltins x) (hlim : s1.heap.NoLimit) (hg : s1.gens = #[])
    (ha : s1.heap.get? a = some { cls := .type "list", data := .seq vs.toArray }) (hi : IntsAre vs ns) (hl : ns.length ≤ sizeLine) (hr : Room k callerA)
    (F : ∀ base : Heap, K.In base → base.Ns mainGlobals mg → FnG P w K mg base CX k fa fd [x] sp) (hbind : ∀ (s : Shared) (u : Value), BindsTo s fd ⟨[u], []⟩ [(x, u)])
    (hsp : ∀ H : Hp, Only H → SqL K H a (ns.map V.int) → sp [.ref a] H (fun v _ => v = .bl true) fun _ _ _ => False)
    (hCX : ∀ H e s', CX [] H s1 (fun _ _ _ => False) e s' → False) :
    codeAny (model P w) callerA (.call (.ref fa) ⟨[.ref a], []⟩) (fun r s' => r = .ok (.ret (.bool true)) ∧ OldK s1.heap s'.heap ∧ s'.os = s1.os ∧ AllBare s'.gens) s1 := by
  have rv := vals_ints hi
  have lenV := hi.length
  have core : ∀ H : Hp, Only H → SqL K H a (ns.map V.int) → HOk P w H s1.heap → (∀ b, H b ≠ none → b = a) → (H a ≠ none → K.lookup a = none) →
      codeAny (model P w) callerA (.call (.ref fa) ⟨[.ref a], []⟩) (fun r s' => r = .ok (.ret (.bool true)) ∧ OldK s1.heap s'.heap ∧ s'.os = s1.os ∧ AllBare s'.gens) s1 := by
    intro H hO hS hok hA hK
    have under : ∀ {b : Addr} {o : Obj}, s1.heap.get? b = some o → H b = none → (hidT s1.heap H).get? b = some o := fun e n => hidT_get e n
    have only : ∀ {b : Addr}, H b ≠ none → b = a := fun {b} z => hA b z
    have dictFree : ∀ {b : Addr} {o : Obj} {es : Array DictEntry} {ep : Nat}, s1.heap.get? b = some o → o.data = .dict es ep → H b = none := fun {b o es ep} e d => by
      cases z : H b with
      | none => rfl
      | some u =>
        obtain rfl : b = a := only (by rw [z]; simp)
        rw [ha] at e
        cases e
        have d' : Data.seq vs.toArray _ = Data.dict es ep := d
        cases d'
    have nsUnder : ∀ {b : Addr} {m : Str → Option Value}, s1.heap.Ns b m → (hidT s1.heap H).Ns b m := fun {b m} ⟨o, es, ep, e, d, r⟩ => ⟨o, es, ep, under e (dictFree e d), d, r⟩
    have kUnder : K.In (hidT s1.heap H) := fun b o e => under (KI b o e) (by
      cases z : H b with
      | none => rfl
      | some u =>
        obtain rfl : b = a := only (by rw [z]; simp)
        have n := hK (by rw [z]; simp)
        rw [n] at e
        cases e)
    have md : Mod K mg (hidT s1.heap H) := ⟨kUnder, nsUnder hns, ⟨mb, nsUnder hb, hbb⟩, let ⟨mc, h1, h2⟩ := hlim; ⟨mc, nsUnder h1, h2⟩⟩
    have e0 : Env0 P w K mg (hidT s1.heap H) callerA [] s1 H := ⟨rfl, md, fun b o e => of_hidT e, Nat.le_of_eq (hidT_size _ _), trivial, fun b hb => absurd (show b ∈ ([] : List Addr) from hb) (by simp), hok, .of_eq hg⟩
    refine codeAny_mono ((F _ kUnder (nsUnder hns)).run callerA [] s1 H ⟨[.ref a], []⟩ [.ref a] [.ref a] _ _ rfl hr e0 (hbind s1 (.ref a)) (.cons rfl .nil) (hsp H hO hS)) fun r s' h => ?_
    match r, h with
    | .error e, h => exact (hCX H e s' h).elim
    | .ok .next, h => exact False.elim h
    | .ok .brk, h => exact False.elim h
    | .ok .cont, h => exact False.elim h
    | .ok (.ret u), ⟨v, H', os, bare, un, hok', r', q⟩ =>
      obtain rfl : v = .bl true := q
      obtain rfl : u = Value.bool true := r'
      refine ⟨rfl, OldK.of_keep fun b o e => ?_, os, bare⟩
      cases z : H b with
      | none => exact un.keep b o e z (by intro y; exact absurd (show b ∈ ([] : List Addr) from y) (by simp)) (by simp)
      | some u =>
        rcases hO b with y | ⟨ob, xs, y⟩
        · rw [z] at y
          cases y
        · obtain ⟨e1, _⟩ := hok b _ y
          obtain ⟨e2, _⟩ := hok' b _ (un.frzs b ob _ y)
          rw [e] at e1
          cases e1
          exact e2
  cases hk : K.lookup a with
  | some o =>
    have e := KI a o hk
    rw [ha] at e
    cases e
    exact core (fun _ => none) (fun _ => .inl rfl) (.inr ⟨_, vs.toArray, _, hk, rfl, rfl, rfl, by rw [List.size_toArray, lenV]; exact hl, by simpa using rv⟩)
      (fun b u z => by have z' : (none : Option HO) = some u := z; cases z') (fun b z => absurd rfl z) fun z => absurd rfl z
  | none =>
    refine core (fun b => if b = a then some (.frz { cls := .type "list", data := .seq vs.toArray } (.lst (ns.map V.int))) else none) (fun b => ?_)
      (.inl (.inr ⟨{ cls := .type "list", data := .seq vs.toArray }, if_pos rfl⟩)) (fun b u z => ?_) (fun b z => ?_) fun _ => hk
    · by_cases hb : b = a
      · exact .inr ⟨_, _, if_pos hb⟩
      · exact .inl (if_neg hb)
    · by_cases hb : b = a
      · have y := (if_pos hb).symm.trans z
        cases y
        subst hb
        exact ⟨ha, by rw [List.length_map]; exact hl, vs, _, rv, ha⟩
      · have y := (if_neg hb).symm.trans z
        cases y
    · by_cases hb : b = a
      · exact hb
      · exact absurd (if_neg hb) z
theorem walkG {l : PySem.W.OpenLaw} {n k : Nat} {q : Program} {loose : List Str} {XP : (Str → Option Value) → Heap → Prop} {YP : World → Heap → Prop} {d : DefRec} {K : Params → PySem.W.Frag} {CX : World → CXT} {sp : World → Sp} {x : Str}
    (hn : l.most = some n) (hn2 : n ≤ sizeLine) (hdf : d.params.defaults = []) (hr : Room k callerA) (hY : ∀ (w : World) (h : Heap), YP w h → (K w.params).In h)
    (F : ∀ (w : World) (mg : Str → Option Value) (fa : Addr) (h : Heap), (K w.params).In h → h.Ns mainGlobals mg → mg d.name = some (.ref fa) →
      ∃ fd : FuncData, (∀ (s : Shared) (u : Value), BindsTo s fd ⟨[u], []⟩ [(x, u)]) ∧
        ∀ base : Heap, (K w.params).In base → base.Ns mainGlobals mg → FnG l.prog w (K w.params) mg base (CX w) k fa fd [x] (sp w))
    (hsp : ∀ (w : World) (H : Hp) (a : Addr) (ns : List Int), ns.length ≤ n → (∀ z ∈ ns, Builtin.Int.intBits z ≤ 1048576) → Only H → SqL (K w.params) H a (ns.map V.int) → sp w [.ref a] H (fun v _ => v = .bl true) fun _ _ _ => False)
    (hCX : ∀ (w : World) (H : Hp) (s : Shared) (e : Value) (s' : Shared), CX w [] H s (fun _ _ _ => False) e s' → False) :
    PySem.W.WalkO q loose XP YP l.row.toRowW d [] (fun f vs => PySem.call f vs) := by
  refine Att.attach_callB hn hdf fun w s0 s1 mg mb fa o pm cd doc a vs ns G Y ho hd hcd hmg hobj hints hlen hbits hg => ?_
  have KI := hY w _ Y
  obtain ⟨fd, hb, hF⟩ := F w mg fa _ KI G.T.g hmg
  exact lawG KI G.T.g G.T.b G.T.builtins G.T.nolimit hg hobj hints (Nat.le_trans hlen hn2) hr hF hb (fun H hO hS => hsp w H a ns hlen hbits hO hS) fun H e s' => hCX w H s1 e s'
end Rg

set_option linter.all false
set_option maxRecDepth 100000
set_option maxHeartbeats 4000000
/-! several except clauses, with names and without -/
namespace Tr
open PySem PySem.Spec PyProof.Rows L2
abbrev Cl := Value × Option Nat × (Addr → Value → Option Addr → TS)
/-- the ends behind a suite whose name stood in slot i -/
def ends (D : Ends) : Option Nat → Ends
  | none => D
  | some i => { nx := fun σ' H' => D.nx (σ'.set i none) H', rt := D.rt, bk := fun σ' H' => D.bk (σ'.set i none) H', ct := fun σ' H' => D.ct (σ'.set i none) H' }
def named (σ : L2.St) (a : Addr) : Option Nat → L2.St
  | none => σ
  | some i => σ.set i (some (.ref a))
def wMix (K : PySem.W.Frag) (Wout : WX) (D : Ends) : List Cl → WX
  | [] => Wout
  | (c, n, ts) :: r => fun cls d σ H => ∃ b, PySem.W.exmOne K cls c = some b ∧ (b = true → ∀ a, H a = none → ts a cls d (ends D n) (named σ a n) H) ∧ (b = false → wMix K Wout D r cls d σ H)
inductive HdX (X : Cx) : List ExceptHandler → List Cl → Prop
  | nil : HdX X [] []
  | plain {x : Str} {c : Value} {ts : Addr → Value → Option Addr → TS} {b0 : Stmt} {suite : List Stmt} {np pos' : Pos} {hds : List ExceptHandler} {l : List Cl} (hc : Names X x c)
      (hsu : ∀ (a : Addr) (oe : Obj) (cls : Value) (d : Option Addr) (pn : List (Addr × Obj)), Zc cls d oe → (∃ vs, oe.data = .fields vs) → PSs (X.suite a ((a, oe) :: pn)) (b0 :: suite) (ts a cls d)) (r : HdX X hds l) :
      HdX X (.ExceptHandler (some (.Name x np)) none (b0 :: suite) pos' :: hds) ((c, none, ts) :: l)
  | as {x n : Str} {i : Nat} {c : Value} {ts : Addr → Value → Option Addr → TS} {b0 : Stmt} {suite : List Stmt} {np pos' : Pos} {hds : List ExceptHandler} {l : List Cl} (hN : X.N.Nodup) (hi : X.N[i]? = some n) (hln : X.env.kindOf n = some .local) (hc : Names X x c)
      (hsu : ∀ (a : Addr) (oe : Obj) (cls : Value) (d : Option Addr) (pn : List (Addr × Obj)), Zc cls d oe → (∃ vs, oe.data = .fields vs) → PSs (X.suite a ((a, oe) :: pn)) (b0 :: suite) (ts a cls d)) (r : HdX X hds l) :
      HdX X (.ExceptHandler (some (.Name x np)) (some n) (b0 :: suite) pos' :: hds) ((c, some i, ts) :: l)
section
variable {X : Cx} {body : List Stmt} {h0 : ExceptHandler} {hds : List ExceptHandler} {l : List Cl} {pos : Pos} {tb : WX → TS} {Wout : WX}
theorem ps_try_mix (hs : X.stack = X.env :: X.outer) (hf : X.env.frame = some X.env.locals) (tk : Takes X Wout)
    (hb : ∀ (W : WX) (pn : List (Addr × Obj)) (xe : Value → Shared → Prop), Takes (X.tr pn xe) W → PassesOwn (model X.prog X.w) X.A X.env xe → PSs (X.tr pn xe) body (tb W))
    (hh : HdX X (h0 :: hds) l) : PS X (.Try body (h0 :: hds) [] [] pos) (fun D σ H => tb (wMix X.K Wout D l) D σ H) := by
  refine ⟨fun pins s σ H D I h => wpAny_Try_except ?_⟩
  have ok := I.ok
  have hfr : X.A.frames = some (X.env :: X.outer) := by rw [ok.frames, hs]
  refine wpAny_mono ((hb (wMix X.K Wout D l) (X.pn ++ pins) (fun e t1 => wpAny (model X.prog X.w) X.A (noteFrame e X.env) (fun _ t2 => wpAny (model X.prog X.w) X.A (setFlight e none) (fun _ t3 =>
    wpAny (model X.prog X.w) X.A (handleBy e X.env (h0 :: hds)) (SP X pins D) X.xe t3) X.xe t2) X.xe t1) (fun u s' xx => ?_) PassesOwn.looking).run [] s σ H D (I.toTry _) h) (fun f s1 hsp => ?_) (fun _ _ he => he)
  · obtain ⟨a, B, sI, pins', σ', H', cls, d, rfl, J', nb, up, sky, na, os, ag, w⟩ := xx
    have J : Inv X pins σ' H' sI := J'.ofTry ok
    have sky2 : Sky B (X.env :: X.outer) a (Zc cls d) X.env.locals s'.heap := by
      rw [← hs]
      exact sky
    show wpAny (model X.prog X.w) X.A (noteFrame (.ref a) X.env) _ _ _
    refine Sky.land Zc.steady hfr hf sky2 fun h3 fl3 up3 => ?_
    have J3 : Inv X pins σ' H' { s' with heap := h3 } := J.landed nb fl3.1 (up.trans up3) os ag
    obtain ⟨oe3, vs3, he3, hz3, hd3⟩ := fl3.there
    have off : a ∉ frs (X.env :: X.outer) := fun hm => by
      obtain ⟨_, o', e', hnf⟩ := fl3.2.2.1.mem hm
      rw [he3] at e'
      cases e'
      exact hnf _ hd3
    have nL : a ≠ X.env.locals := fun z => off (List.mem_filterMap.mpr ⟨X.env, List.mem_cons_self, by rw [hf, z]⟩)
    have nF : a ∉ X.fs := fun hm => by
      obtain ⟨e, he, q⟩ := List.mem_filterMap.mp hm
      exact off (List.mem_filterMap.mpr ⟨e, List.mem_cons_of_mem _ he, q⟩)
    have S3 := J3.suite he3 hd3 na nL nF
    have LT : PySem.W.Looks (model X.prog X.w) h3 (typeOf (.ref a)) cls := fun A Q E s k q => wpAny_typeOf_ref (k _ _ he3) (by rw [hz3.1]; exact q)
    have look : ∀ {x : Str} {c : Value} {np : Pos}, Names X x c → ∀ {Q : Value → Shared → Prop} {E : Value → Shared → Prop}, Q c { s' with heap := h3 } →
        wpAny (model X.prog X.w) (X.A.mark (some (.ref a))) (eval (.Name x np) X.env) Q E { s' with heap := h3 } := fun {x c np} hc {Q E} q => by
      obtain ⟨hg, hdbg, hm | ⟨hm, hv, hnn⟩⟩ := hc
      · exact ld_glob (X := X.suite a ((a, oe3) :: (X.pn ++ pins))) S3 hg hm q hdbg
      · exact ld_blt (X := X.suite a ((a, oe3) :: (X.pn ++ pins))) S3 hg hm hv q hnn hdbg
    have go : ∀ {hds' : List ExceptHandler} {l' : List Cl}, HdX X hds' l' → wMix X.K Wout D l' cls d σ' H' →
        wpAny (model X.prog X.w) X.A (handleBy (.ref a) X.env hds') (SP X pins D) X.xe { s' with heap := h3 } := by
      intro hds' l' hk
      induction hk with
      | nil =>
        intro w
        refine wpAny_handleBy_nil ?_
        obtain ⟨k1, k2, k3, oe, vs, T, oT, ts', he, hz, hd, h1, hr⟩ := id fl3
        unfold PySem.passOn
        refine wpAny_bind (wpAny_field he hd h1 ?_)
        rw [if_neg (show ¬ ((Value.ref T == Value.none) = true) from by simp)]
        have fin : wpAny (model X.prog X.w) X.A (setFlight (.ref a) X.env.frame) (fun _ s4 => wpAny (model X.prog X.w) X.A (throw (.ref a) : Sem Flow) (SP X pins D) X.xe s4) X.xe { s' with heap := h3 } := by
          rw [hf]
          refine HandSPX.setFlight_upZ fl3 fun h4 hh4 up4 => wpAny_throw (tk _ _ ?_)
          exact ⟨a, B, sI, pins, σ', H', cls, d, rfl, J, nb, (up.trans up3).trans up4, .inr (.inr (by rw [hs]; exact hh4)), na, os, ag, w⟩
        first
          | exact wpAny_bind (wpAny_pure (wpAny_bind fin))
          | exact wpAny_bind fin
      | @plain x c ts b0 suite np pos' hds2 l2 hc hsu r ih =>
        intro w
        obtain ⟨b, hb1, hyes, hno⟩ := w
        refine wpAny_handleBy_cons (codeAny_handlers_test (look hc ((PySem.W.exm_one (M := model X.prog X.w) J3.kIn LT hb1).here ?_))) (by intro q; cases q)
        cases b with
        | true =>
          refine codeAny_handlers_suite (HandSPX.lands_againZ fl3 fun h4 fl4 up4 => ?_)
          have J4 : Inv X pins σ' H' { s' with heap := h4 } := J.landed nb fl4.1 ((up.trans up3).trans up4) os ag
          obtain ⟨oe4, vs4, he4, hz4, hd4⟩ := fl4.there
          refine wpAny_mono ((hsu a oe4 cls d (X.pn ++ pins) hz4 ⟨_, hd4⟩).run [] _ _ H' _ (J4.suite he4 hd4 na nL nF) (hyes rfl a na)) (fun f s6 hsp => ?_) (fun _ _ z => False.elim z)
          match f, hsp with
          | .next, ⟨σ6, H6, S6, q6⟩ => exact ⟨_, _, S6.unsuite ok, q6⟩
          | .brk, ⟨σ6, H6, S6, q6⟩ => exact ⟨_, _, S6.unsuite ok, q6⟩
          | .cont, ⟨σ6, H6, S6, q6⟩ => exact ⟨_, _, S6.unsuite ok, q6⟩
          | .ret u, ⟨v6, σ6, H6, S6, r6, q6⟩ => exact ⟨_, _, _, S6.unsuite ok, r6, q6⟩
        | false =>
          show wpAny _ X.A (handleBy (.ref a) X.env hds2) _ _ _
          exact ih (hno rfl)
      | @as x n i c ts b0 suite np pos' hds2 l2 hN hi hln hc hsu r ih =>
        intro w
        obtain ⟨b, hb1, hyes, hno⟩ := w
        refine wpAny_handleBy_cons (codeAny_handlers_test (look hc ((PySem.W.exm_one (M := model X.prog X.w) J3.kIn LT hb1).here ?_))) (by intro q; cases q)
        cases b with
        | true =>
          refine codeAny_handlers_suite_as (HandSPX.lands_againZ fl3 fun h4 fl4 up4 => ?_)
          have J4 : Inv X pins σ' H' { s' with heap := h4 } := J.landed nb fl4.1 ((up.trans up3).trans up4) os ag
          obtain ⟨oe4, vs4, he4, hz4, hd4⟩ := fl4.there
          refine store_ok (X := X.suite a ((a, oe4) :: (X.pn ++ pins))) (v := .ref a) (J4.suite he4 hd4 na nL nF) hN hi (.inl hln) rfl (fun s5 S5 => ?_) (.inr hln)
          refine wpAny_mono ((hsu a oe4 cls d (X.pn ++ pins) hz4 ⟨_, hd4⟩).run [] s5 _ H' _ S5 (hyes rfl a na)) (fun f s6 hsp => ?_) (fun _ _ z => False.elim z)
          have over : ∀ {σ6 : L2.St} {H6 : Hp} {Q : Shared → Prop}, Inv (X.suite a ((a, oe4) :: (X.pn ++ pins))) [] σ6 H6 s6 → (∀ s7, Inv X pins (σ6.set i none) H6 s7 → Q s7) →
              wpAny (model X.prog X.w) X.A (do bindName X.env n .none; unbindBehindTheSuite X.env n pos') (fun _ s7 => Q s7) X.xe s6 := fun {σ6 H6 Q} S6 hq => gone_ok (S6.unsuite ok) hN hi hln hq
          match f, hsp with
          | .next, ⟨σ6, H6, S6, q6⟩ => exact over S6 fun s7 J7 => ⟨_, _, J7, q6⟩
          | .brk, ⟨σ6, H6, S6, q6⟩ => exact over S6 fun s7 J7 => ⟨_, _, J7, q6⟩
          | .cont, ⟨σ6, H6, S6, q6⟩ => exact over S6 fun s7 J7 => ⟨_, _, J7, q6⟩
          | .ret u, ⟨v6, σ6, H6, S6, r6, q6⟩ => exact over S6 fun s7 J7 => ⟨_, _, _, J7, r6, q6⟩
        | false =>
          show wpAny _ X.A (handleBy (.ref a) X.env hds2) _ _ _
          exact ih (hno rfl)
    exact go hh w
  · match f, hsp with
    | .next, ⟨σ', H', J', q⟩ => exact wpAny_execs_nil ⟨σ', H', J'.ofTry ok, q⟩
    | .brk, ⟨σ', H', J', q⟩ => exact ⟨σ', H', J'.ofTry ok, q⟩
    | .cont, ⟨σ', H', J', q⟩ => exact ⟨σ', H', J'.ofTry ok, q⟩
    | .ret u, ⟨v, σ', H', J', r, q⟩ => exact ⟨v, σ', H', J'.ofTry ok, r, q⟩
end
section
variable {X : Cx}
theorem pmk_of {CX : CXT} {x : Str} {C fI : Addr} {k : Nat} {fd : FuncData} {ps : List Str} {sp : Sp} {e : Expr} {es : List Expr} {ta : TA} {p pos : Pos} (MK : Exv.MkOk X.prog X.w X.K C fI) (kC : PySem.W.keepIn X.K (.ref C) = true) (R : Raises X (.ref C))
    (F1 : FnOk X.prog X.w X.K X.mg X.base CX k fI fd ps sp) (hr : Room (k + 1) X.A) (hb : Binds X.K fd ps []) (hx : Passes CX X (fun _ _ _ => False)) (hg : Gl X x) (hm : X.mg x = some (.ref C)) (ha : PA X (e :: es) ta)
    (hdb : (x == ("__debug__" : Str)) = false := by decide) (he : starEach (e :: es) X.env = (false, eval e X.env) :: starEach es X.env := by rfl) (hpl : (backTo pos (starEach es X.env)).any (·.1) = false := by rfl) :
    PMk X (.Call (.Name x p) (e :: es) [] pos) (tMkO C sp [] ta) := by
  intro pins s σ H Q I h
  refine wpAny_Call_Name_kw (ld_glob I hg hm ?_ hdb)
  refine PySem.W.callWith_K (h₀ := X.base) I.ok.mod.kin kC (thn (ha.run pos pins s σ H _ I h) fun us s1 hh => ?_) he hpl
  obtain ⟨vs, H1, I1, r1, hz, q1⟩ := hh
  refine ⟨I1.kIn, ?_⟩
  show wpAny _ _ (call (.ref C) us) _ _ _
  obtain ⟨hp, g, dr, tk, os⟩ := s1
  have up1 : hp.objs.size ≤ hp.objs.size + 1 := Nat.le_succ _
  have hq0 := q1 (hp.objs.size + 1) (I1.hok.fresh up1)
  rw [List.append_nil] at hq0
  have kk : ∀ b o, hp.get? b = some o → ((hp.push (PySem.W.kdv_tup us)).push (PySem.HandSPX.excO C hp.objs.size)).get? b = some o := fun b o z =>
    Heap.get?_push_of_some _ (Heap.get?_push_of_some _ z)
  have hat : ((hp.push (PySem.W.kdv_tup us)).push (PySem.HandSPX.excO C hp.objs.size)).get? (hp.objs.size + 1) = some (PySem.HandSPX.excO C hp.objs.size) := by heap_get
  have I2 : Inv X pins σ (upd H1 (hp.objs.size + 1) (exo (hp.objs.size + 1) C none)) ⟨(hp.push (PySem.W.kdv_tup us)).push (PySem.HandSPX.excO C hp.objs.size), g, dr, tk, os⟩ := I1.laid (t' := tk) (a := hp.objs.size + 1) (o := exo (hp.objs.size + 1) C none)
    (h' := (hp.push (PySem.W.kdv_tup us)).push (PySem.HandSPX.excO C hp.objs.size)) kk up1 (exo_ok hat)
  have r2 : Vals (V.ref (hp.objs.size + 1) :: vs) (Value.ref (hp.objs.size + 1) :: us) :=
    .cons rfl r1
  have hl : (Value.ref (hp.objs.size + 1) :: us).length = ps.length := by
    rw [← r2.length]
    exact F1.len _ _ _ _ hq0
  have hus : us.length ≤ sizeLine := Nat.le_trans (Nat.le_of_eq (Paired.length r1).symm) (Nat.le_trans hz (by rw [sizeLine_eq]; decide))
  refine wpAny_call (MK _ _ hp g dr tk os us I1.kIn hus (codeAny_mono (F1.run _ X.stack _ _ ⟨Value.ref (hp.objs.size + 1) :: us, []⟩ (Value.ref (hp.objs.size + 1) :: us) _ _ (fun _ _ _ => False)
    (hr.make C us []) (I2.env0.make C us []) (by have z := hb _ (Value.ref (hp.objs.size + 1) :: us) I2.kIn (by rw [List.append_nil]; exact hl); rw [List.append_nil] at z; exact z) r2 hq0) fun r s' hq' => ?_))
  match r, hq' with
  | .error er, hq' => exact hx pins σ _ _ er s' I2 hq'
  | .ok (.ret u), ⟨v, H2, os2, bare2, un2, hok2, rv, ev, d, fs, ea, ed, hd1, q2⟩ =>
    subst ev
    obtain ⟨h2, g2, d2, t2, os'⟩ := s'
    exact ⟨rv, mk_end R I1 up1 kk un2 hok2 os2 bare2 ea ed hd1 q2⟩
  | .ok .next, hq' => exact False.elim hq'
  | .ok .brk, hq' => exact False.elim hq'
  | .ok .cont, hq' => exact False.elim hq'
end
end Tr

set_option linter.all false
set_option maxRecDepth 100000
set_option maxHeartbeats 4000000
namespace K2
open PySem PySem.Spec PyProof.Rows L2
def topS (i : Nat) : Stmt := PySem.Challenge.pw_keptnomore_k02_words_of_events.main.body.getD i (.Pass ⟨0, 0, 0, 0⟩)
abbrev s_box : Stmt := topS 16
abbrev n_box : List Str := ["_law_script", "_law_k", "_law_own", "_law_cell", "_law_seed"]
theorem sc_box : FnScope n_box ["_law_script", "_law_k", "_law_own"] (defScope s_box) := ⟨rfl, rfl, rfl, by decide +kernel, rfl, by decide +kernel, by decide +kernel⟩
abbrev s_take : Stmt := topS 17
abbrev n_take : List Str := ["_law_box_here", "_law_many", "_law_digit", "_law_raw", "_law_wide"]
theorem sc_take : FnScope n_take ["_law_box_here", "_law_many"] (defScope s_take) := ⟨rfl, rfl, rfl, by decide +kernel, rfl, by decide +kernel, by decide +kernel⟩
/-- what the walk asks of the module's names -/
structure Nm (mg : Str → Option Value) : Prop where
  n_len : mg "len" = none
  n_abs : mg "abs" = none
  n_int : mg "int" = none
/-- a box: what is left of the cell, the seed, how often it was asked beyond the cell -/
def BoxAt (H : Hp) (p : Addr) (m : Nat) : Prop := ∃ c sd n : Int, H p = some (.lst [.int c, .int sd, .int n]) ∧ 0 ≤ c ∧ 0 < sd ∧ sd ≤ 2147483629 ∧ 0 ≤ n ∧ n ≤ m
def spTake : Sp := fun vs H Q _ => ∃ (p : Addr) (many : Int) (m : Nat), vs = [.ref p, .int many] ∧ BoxAt H p m ∧ m ≤ 1000000 ∧ 0 < many ∧ many < 1073741824 ∧
  ∀ (d : Int) (H' : Hp), 0 ≤ d → d < many → BoxAt H' p (m + 1) → (∀ b, b ≠ p → H' b = H b) → Q (.int d) H'
section
variable {P : Program} {w : World} {K : PySem.W.Frag} {mg : Str → Option Value} {base : Heap}
theorem ok_take {f : Addr} {fd : FuncData} (F : Fun K "_law_take" "_law_take" s_take f fd) : FnOk P w K mg base CX0 1 f fd ["_law_box_here", "_law_many"] spTake := by
  refine F.ok sc_take (fun vs H Q E h => ?_) (fun cdv A outer s H vs Q E hr h => ?_)
  · obtain ⟨p, many, m, rfl, _⟩ := h
    rfl
  · obtain ⟨p, many, m, rfl, ⟨c, sd, n, hb, hc, hs0, hs1, hn0, hn1⟩, hm, h0, h1, k⟩ := h
    refine ⟨_, (pss_cons (ps_if (pt_cmpR op_gt (pe_ix ix_list (pv 0) pe_int (fun _ _ => rfl)) pe_int (nomark _)) (pss_cons (ps_set (i := 2) sc_take.nd rfl (.inl rfl) (pe_op op_mod (pe_ix ix_list (pv 0) pe_int (fun _ _ => rfl)) (pv 1)))
  (pss_cons (ps_asg (pe_op op_fdiv (pe_ix ix_list (pv 0) pe_int (fun _ _ => rfl)) (pv 1)) (pg_sub (pv 0) pe_int set_list))
  (pss_one (ps_ret (pv 2))))) pss_nil)
  (pss_cons (ps_asg (pe_op op_add (pe_ix ix_list (pv 0) pe_int (fun _ _ => rfl)) pe_int) (pg_sub (pv 0) pe_int set_list))
  (pss_cons (ps_set (i := 3) sc_take.nd rfl (.inl rfl) (pe_op op_mod (pe_op op_mul (pe_op op_add (pe_ix ix_list (pv 0) pe_int (fun _ _ => rfl)) (pe_op op_mul pe_int (pe_ix ix_list (pv 0) pe_int (fun _ _ => rfl)))) pe_int) pe_int))
  (pss_cons (ps_asg (pe_op op_add (pe_op op_mod (pe_op op_add (pe_op op_mul (pv 3) pe_int) pe_int) pe_int) pe_int) (pg_sub (pv 0) pe_int set_list))
  (pss_cons (ps_if (pt_cmpR op_lt (pv 1) (pe_op op_pow pe_int pe_int) (nomark _)) (pss_one (ps_ret (pe_op op_mod (pe_op op_fdiv (pe_op op_add (pe_op op_mul (pv 3) pe_int) (pe_ix ix_list (pv 0) pe_int (fun _ _ => rfl))) pe_int) (pv 1)))) pss_nil)
  pss_never))))), ?_⟩
    -- if box[0] > 0
    refine ⟨_, rfl, p, _, _, _, rfl, rfl, SqL.of hb, rfl, _, _, rfl, rfl, _, rfl, ?_⟩
    refine ite2 (fun cpos => ?_) (fun cneg => ?_)
    · refine ⟨_, rfl, p, _, _, _, rfl, rfl, SqL.of hb, rfl, _, rfl, _, _, rfl, rfl, h0, ?_⟩
      refine ⟨_, rfl, p, _, _, _, rfl, rfl, SqL.of hb, rfl, _, rfl, _, _, rfl, rfl, ⟨h0, h1⟩, ?_⟩
      refine ⟨_, rfl, p, _, _, _, rfl, rfl, hb, rfl, ?_⟩
      refine ⟨_, rfl, ?_⟩
      refine k _ _ (Int.emod_nonneg _ (by omega)) (Int.emod_lt_of_pos _ h0) ⟨c / many, sd, n, upd_same, Int.ediv_nonneg hc (by omega), hs0, hs1, hn0, by omega⟩ fun b hb' => upd_ne hb'
    · -- box[2] = box[2] + 1
      refine ⟨_, rfl, p, _, _, _, rfl, rfl, SqL.of hb, rfl, _, _, rfl, rfl, ?_⟩
      refine ⟨_, rfl, p, _, _, _, rfl, rfl, hb, rfl, ?_⟩
      -- raw
      refine ⟨_, rfl, p, _, _, _, rfl, rfl, SqL.of upd_same, rfl, ?_⟩
      refine ⟨_, rfl, p, _, _, _, rfl, rfl, SqL.of upd_same, rfl, _, _, rfl, rfl, .inl ⟨by decide, by decide⟩, _, _, rfl, rfl, ?_⟩
      refine ⟨_, _, rfl, rfl, .inl ⟨by omega, by omega⟩, _, _, rfl, rfl, (by show (0 : Int) < 2147483647; decide), ?_⟩
      have hr0 := Int.emod_nonneg ((sd + 104729 * (n + 1)) * 69623) (show (2147483647 : Int) ≠ 0 by decide)
      have hr1 := Int.emod_lt_of_pos ((sd + 104729 * (n + 1)) * 69623) (show (0 : Int) < 2147483647 by decide)
      have hw : (0 : Int) < 2147483647 := by decide
      have hv : (0 : Int) < 2147483629 := by decide
      -- box[1]
      refine ⟨_, rfl, _, _, rfl, rfl, .inl ⟨by omega, by omega⟩, _, _, rfl, rfl, _, _, rfl, rfl, hv, _, _, rfl, rfl, ?_⟩
      refine ⟨_, rfl, p, _, _, _, rfl, rfl, upd_same, rfl, ?_⟩
      -- if many < 2 ** 40
      refine ⟨_, rfl, _, _, rfl, rfl, ⟨by decide, by decide, by decide⟩, _, _, rfl, rfl, _, rfl, ?_⟩
      refine ite2 (fun ct => ?_) (fun cf => ?_)
      · refine ⟨_, rfl, _, _, rfl, rfl, .inl ⟨by omega, by omega⟩, ?_⟩
        refine ⟨_, rfl, p, _, _, _, rfl, rfl, SqL.of upd_same, rfl, _, _, rfl, rfl, _, _, rfl, rfl, ⟨by decide, by decide⟩, _, rfl, _, _, rfl, rfl, h0, ?_⟩
        refine k _ _ (Int.emod_nonneg _ (by omega)) (Int.emod_lt_of_pos _ h0) ⟨c, _, n + 1, upd_same, hc, by omega, by omega, by omega, by push_cast; omega⟩ fun b hb' => ?_
        rw [upd_ne hb', upd_ne hb']
      · exfalso
        apply cf
        apply decide_eq_true
        show many < (2 : Int) ^ (40 : Nat)
        have e : (2 : Int) ^ (40 : Nat) = 1099511627776 := by decide
        omega
def spBox (K : PySem.W.Frag) : Sp := fun vs H Q _ => ∃ (l : Addr) (ns : List Int) (k own : Nat), vs = [.ref l, .int (k : Int), .int (own : Int)] ∧ SqL K H l (ns.map V.int) ∧ k ≤ 1000 ∧ own ≤ 1000 ∧
  ∀ (p : Addr) (H' : Hp), H p = none → Same H H' → BoxAt H' p 0 → Q (.ref p) H'
theorem atInt {ns : List Int} {j : Nat} (h : j < ns.length) : atI (ns.map V.int) (j : Int) = some (.int ns[j]) := by
  apply atI_nat
  rw [List.getElem?_map, List.getElem?_eq_getElem h]
  rfl
theorem abs_nn (i : Int) : 0 ≤ (if i < 0 then -i else i) := by split <;> omega
theorem ok_box {f : Addr} {fd : FuncData} (F : Fun K "_law_box" "_law_box" s_box f fd) (T : Nm mg) : FnOk P w K mg base CX0 1 f fd ["_law_script", "_law_k", "_law_own"] (spBox K) := by
  refine F.ok sc_box (fun vs H Q E h => ?_) (fun cdv A outer s H vs Q E hr h => ?_)
  · obtain ⟨l, ns, k, own, rfl, _⟩ := h
    rfl
  · obtain ⟨l, ns, k, own, rfl, hl, hk, ho, q⟩ := h
    refine ⟨_, (pss_cons (ps_set (i := 3) sc_box.nd rfl (.inl rfl) (pe_op op_add (pe_op op_add (pe_op op_mul pe_int (pv 1)) (pe_op op_mul pe_int (pv 2))) pe_int))
  (C8.pss_cut (ps_if (pt_cmpR op_lt (pv 1) (pe_callB call_len_seq (by rfl) T.n_len (by decide +kernel) (pa_cons (pv 0) pa_nil)) (nomark _)) (pss_one (ps_set (i := 3) sc_box.nd rfl (.inl rfl) (pe_callB call_abs (by rfl) T.n_abs (by decide +kernel) (pa_cons (pe_ix ix_list (pv 0) (pv 1) (fun _ _ => rfl)) pa_nil)))) (pss_one (ps_if (pt_cmpR op_gt (pe_callB call_len_seq (by rfl) T.n_len (by decide +kernel) (pa_cons (pv 0) pa_nil)) pe_int (nomark _)) (pss_one (ps_set (i := 3) sc_box.nd rfl (.inl rfl) (pe_op op_add (pv 3) (pe_op op_mul (pe_op op_mod (pe_callB call_abs (by rfl) T.n_abs (by decide +kernel) (pa_cons (pe_ix ix_list (pv 0) (pe_op op_mod (pv 1) (pe_callB call_len_seq (by rfl) T.n_len (by decide +kernel) (pa_cons (pv 0) pa_nil))) (fun _ _ => rfl)) pa_nil)) pe_int) pe_int)))) pss_nil)))
  (pss_cons (ps_set (i := 4) sc_box.nd rfl (.inl rfl) (pe_op op_add (pe_op op_mod (pe_op op_add (pe_op op_mul (pe_op op_mod (pv 3) pe_int) pe_int) (pe_op op_mul pe_int (pe_op op_add (pv 1) (pe_op op_mul pe_int (pv 2))))) pe_int) pe_int))
  (pss_one (ps_ret (pe_lst (pa_cons (pe_ix ix_list (pe_lst (pa_cons pe_int (pa_cons (pv 3) pa_nil))) (pe_callTy call_int1 (by rfl) T.n_int (by decide +kernel) (pa_cons (pe_cmpR op_ge (pv 3) (pe_op op_pow pe_int pe_int) (nomark _)) pa_nil)) (fun _ _ => rfl)) (pa_cons (pv 4) (pa_cons pe_int pa_nil))))))))), ?_⟩
    refine ⟨_, rfl, _, _, rfl, rfl, .inl ⟨by decide, by decide⟩, ?_⟩
    refine ⟨_, rfl, _, _, rfl, rfl, .inl ⟨by decide, by decide⟩, _, _, rfl, rfl, _, _, rfl, rfl, ?_⟩
    refine ⟨fun σ' H' => ∃ c : Int, σ' = [some (.ref l), some (.int (k : Int)), some (.int (own : Int)), some (.int c), none] ∧ H' = H ∧ 0 ≤ c, ?_, ?_⟩
    · have hlen : (ns.map V.int).length = ns.length := List.length_map ..
      refine ⟨_, rfl, _, rfl, l, _, rfl, .inl hl, _, _, rfl, rfl, _, rfl, ?_⟩
      refine ite2 (fun ct => ?_) (fun cf => ?_)
      · have ct' := of_decide_eq_true ct
        have hkl : k < ns.length := by omega
        refine ⟨_, rfl, _, rfl, l, _, _, _, rfl, rfl, hl, atInt hkl, _, rfl, ?_⟩
        exact ⟨_, rfl, rfl, abs_nn _⟩
      · refine ⟨_, rfl, l, _, rfl, .inl hl, _, _, rfl, rfl, _, rfl, ?_⟩
        refine ite2 (fun dt => ?_) (fun df => ?_)
        · have dt' := of_decide_eq_true dt
          have hpos : 0 < ns.length := by omega
          have hm : (k : Int) % ((ns.map V.int).length : Int) = ((k % ns.length : Nat) : Int) := by rw [hlen]; rfl
          refine ⟨_, rfl, _, rfl, _, rfl, _, rfl, l, _, rfl, .inl hl, _, _, rfl, rfl, (by show (0 : Int) < _; omega), l, _, _, _, rfl, rfl, hl, (by rw [hm]; exact atInt (Nat.mod_lt _ hpos)), _, rfl, ?_⟩
          refine ⟨_, _, rfl, rfl, (by show (0 : Int) < 2147483629; decide), _, _, rfl, rfl, .inr ⟨by decide, by decide⟩, _, _, rfl, rfl, ?_⟩
          refine ⟨_, rfl, rfl, ?_⟩
          have := Int.emod_nonneg (if ns[k % ns.length]'(Nat.mod_lt _ hpos) < 0 then -ns[k % ns.length]'(Nat.mod_lt _ hpos) else ns[k % ns.length]'(Nat.mod_lt _ hpos)) (show (2147483629 : Int) ≠ 0 by decide)
          omega
        · exact ⟨_, rfl, rfl, by omega⟩
    · rintro σ' H' ⟨c, rfl, rfl, hc⟩
      -- the seed
      refine ⟨_, rfl, _, _, rfl, rfl, (by show (0 : Int) < 2147483629; decide), _, _, rfl, rfl, .inr ⟨by decide, by decide⟩, ?_⟩
      refine ⟨_, rfl, _, rfl, _, _, rfl, rfl, .inl ⟨by decide, by decide⟩, _, _, rfl, rfl, _, _, rfl, rfl, .inl ⟨by decide, by decide⟩, _, _, rfl, rfl, ?_⟩
      refine ⟨_, _, rfl, rfl, (by show (0 : Int) < 2147483629; decide), _, _, rfl, rfl, ?_⟩
      -- [0, cell]
      refine ⟨_, rfl, (by show 2 ≤ sizeLine; decide), fun z hz => ?_⟩
      refine ⟨_, rfl, _, _, rfl, rfl, ⟨by decide, by decide, by decide⟩, _, _, rfl, rfl, .inr ⟨_, rfl, ?_⟩⟩
      have s1 : Same H' (upd H' z (.lst [.int 0, .int c])) := fun b o e => by
        rw [upd_ne (ne_of_none e hz)]
        exact e
      by_cases big : (10 : Int) ^ (18 : Nat) ≤ c
      · have ed : decide ((10 : Int) ^ (Int.toNat 18) ≤ c) = true := decide_eq_true big
        refine ⟨z, _, _, .int c, rfl, rfl, SqL.of upd_same, (by rw [ed]; rfl), _, rfl, (by show 3 ≤ sizeLine; decide), fun p hp => ?_⟩
        refine q p _ (s1.free hp) (fun b o e => ?_) ⟨c, _, 0, upd_same, hc, ?_, ?_, by decide, by decide⟩
        · rw [upd_ne (ne_of_none (s1 b o e) hp)]
          exact s1 b o e
        · omega
        · omega
      · have ed : decide ((10 : Int) ^ (Int.toNat 18) ≤ c) = false := decide_eq_false big
        refine ⟨z, _, _, .int 0, rfl, rfl, SqL.of upd_same, (by rw [ed]; rfl), _, rfl, (by show 3 ≤ sizeLine; decide), fun p hp => ?_⟩
        refine q p _ (s1.free hp) (fun b o e => ?_) ⟨0, _, 0, upd_same, by decide, ?_, ?_, by decide, by decide⟩
        · rw [upd_ne (ne_of_none (s1 b o e) hp)]
          exact s1 b o e
        · omega
        · omega
end
end K2

set_option linter.all false
set_option maxRecDepth 100000
set_option maxHeartbeats 8000000
namespace K2
open PySem PySem.Spec PyProof.Rows L2
theorem new_same {H : Hp} {p : Addr} {o : HO} (h : H p = none) : Same H (upd H p o) := fun b x e => by
  rw [upd_ne (ne_of_none e h)]
  exact e
theorem sIx {i : Int} {n : Nat} (h0 : 0 ≤ i) (h1 : i < (n : Nat)) : seqIndex? i n = some i.toNat := by
  unfold seqIndex?
  have h : ¬ i < 0 := by omega
  simp only [h, if_false]
  rw [if_pos (by rw [Bool.and_eq_true]; exact ⟨decide_eq_true h0, decide_eq_true h1⟩)]
/-! ### items in a drawn order -/
abbrev s_mixed : Stmt := topS 18
abbrev n_mixed : List Str := ["_law_box_here", "_law_items", "_law_left", "_law_found", "_law_turn"]
theorem sc_mixed : FnScope n_mixed ["_law_box_here", "_law_items"] (defScope s_mixed) := ⟨rfl, rfl, rfl, by decide +kernel, rfl, by decide +kernel, by decide +kernel⟩
structure NmM (mg : Str → Option Value) (K : PySem.W.Frag) (ft : Addr) : Prop where
  g__law_take : mg "_law_take" = some (.ref ft)
  k__law_take : PySem.W.keepIn K (.ref ft) = true
  n_list : mg "list" = none
  n_range : mg "range" = none
  n_len : mg "len" = none
def spMixed (K : PySem.W.Frag) : Sp := fun vs H Q _ => ∃ (p l : Addr) (xs : List V) (m : Nat), vs = [.ref p, .ref l] ∧ BoxAt H p m ∧ SqL K H l xs ∧ xs.length ≤ 100 ∧ m ≤ 10000 ∧
  ∀ (r : Addr) (ys : List V) (H' : Hp), H r = none → H' r = some (.lst ys) → ys.length = xs.length → (∀ y ∈ ys, y ∈ xs) → BoxAt H' p (m + xs.length) → (∀ b o, b ≠ p → H b = some o → H' b = some o) → Q (.ref r) H'
section
variable {P : Program} {w : World} {K : PySem.W.Frag} {mg : Str → Option Value} {base : Heap}
theorem ok_mixed {f ft : Addr} {fd fdt : FuncData} (F : Fun K "_law_mixed" "_law_mixed" s_mixed f fd) (T : NmM mg K ft) (G__law_take : FnOk P w K mg base CX0 1 ft fdt ["_law_box_here", "_law_many"] spTake) (b__law_take : Binds K fdt ["_law_box_here", "_law_many"] []) :
    FnOk P w K mg base CX0 2 f fd ["_law_box_here", "_law_items"] (spMixed K) := by
  refine F.ok sc_mixed (fun vs H Q E h => ?_) (fun cdv A outer s H vs Q E hr h => ?_)
  · obtain ⟨p, l, xs, m, rfl, _⟩ := h
    rfl
  · obtain ⟨p, l, xs, m, rfl, hb, hl, hn, hm, q⟩ := h
    refine ⟨_, (pss_cons (ps_par (i := 2) (j := 3) (by rfl) sc_mixed.nd rfl rfl (by decide) rfl rfl (pa_cons (pe_callTy call_list_of (by rfl) T.n_list (by decide +kernel) (pa_cons (pv 1) pa_nil)) (pa_cons (pe_lst pa_nil) pa_nil)) (by rfl))
  (pss_cons (ps_for PassesOwn.never rfl (pi_range1 (by rfl) T.n_range (pa_cons (pe_callB call_len_seq (by rfl) T.n_len (by decide +kernel) (pa_cons (pv 2) pa_nil)) pa_nil)) (pg_name (i := 4) sc_mixed.nd rfl (.inl rfl))
  (pss_one (ps_expr (pe_bm PySem.F.plainAttrs_list PySem.F.slot_list_append PySem.F.type_list_append mt_append (pv 3) (pa_cons (pe_bm PySem.F.plainAttrs_list PySem.F.slot_list_pop PySem.F.type_list_pop mt_popAt (pv 2) (pa_cons (pe_call G__law_take hr rfl T.g__law_take T.k__law_take b__law_take .nil pass0 (pa_cons (pv 0) (pa_cons (pe_callB call_len_seq (by rfl) T.n_len (by decide +kernel) (pa_cons (pv 2) pa_nil)) pa_nil))) pa_nil)) pa_nil)))))
  (pss_one (ps_ret (pv 3))))), ?_⟩
    refine ⟨_, rfl, l, xs, rfl, .inl hl, fun a na => ?_⟩
    refine ⟨Nat.zero_le _, fun r nr => ⟨_, _, rfl, ?_⟩⟩
    have ea := new_same (o := .lst []) nr a (.lst xs) upd_same
    have er : upd (upd H a (.lst xs)) r (.lst []) r = some (.lst []) := upd_same
    have S := (new_same (o := .lst xs) na).trans (new_same (o := .lst []) nr)
    have nra : r ≠ a := fun z => by rw [z, upd_same] at nr; cases nr
    have nr0 : H r = none := (new_same na).free nr
    have pa : p ≠ a := fun z => by
      obtain ⟨_, _, _, e, _⟩ := hb
      rw [z, na] at e
      cases e
    have pr : p ≠ r := fun z => by
      obtain ⟨_, _, _, e, _⟩ := hb
      rw [z, nr0] at e
      cases e
    have hb2 : BoxAt (upd (upd H a (.lst xs)) r (.lst [])) p m := by
      obtain ⟨c, sd, n, e, x⟩ := hb
      exact ⟨c, sd, n, S _ _ e, x⟩
    generalize upd (upd H a (.lst xs)) r (.lst []) = H2 at *
    refine ⟨_, rfl, a, xs, rfl, .inl (SqL.of ea), _, rfl, by omega, by omega, ?_⟩
    refine for_range (lo := 0) (n := ((xs.length : Nat) : Int).toNat) (fun i σ Hi => BoxAt Hi p (m + i) ∧ (∀ b o, b ≠ p → H b = some o → Hi b = some o) ∧
        (∃ ls fs : List V, Hi a = some (.lst ls) ∧ Hi r = some (.lst fs) ∧ ls.length + i = xs.length ∧ fs.length = i ∧ (∀ y ∈ ls, y ∈ xs) ∧ ∀ y ∈ fs, y ∈ xs) ∧ ∃ t : Option V, σ = [some (.ref p), some (.ref l), some (.ref a), some (.ref r), t])
      ⟨hb2, fun b o _ e => S _ _ e, ⟨xs, [], ea, er, rfl, rfl, fun _ h => h, fun _ h => by simp at h⟩, _, rfl⟩ (fun i σ Hi hi P => ?_) (fun σ Hi P => ?_)
    · obtain ⟨hbi, ki, ⟨ls, fs, el, ef, hl1, hf1, hl2, hf2⟩, t, rfl⟩ := P
      have hi' : i < xs.length := by omega
      refine ⟨_, rfl, .inl ⟨rfl, _, SqL.of ef⟩, ?_⟩
      refine ⟨_, rfl, .inl ⟨rfl, _, SqL.of el⟩, ?_⟩
      refine ⟨_, rfl, _, rfl, a, ls, rfl, .inl (SqL.of el), ?_⟩
      refine ⟨p, _, m + i, rfl, hbi, by omega, by omega, by omega, fun d H3 d0 d1 hb3 k3 => ?_⟩
      have el3 : H3 a = some (.lst ls) := (k3 a (Ne.symm pa)).trans el
      have ef3 : H3 r = some (.lst fs) := (k3 r (Ne.symm pr)).trans ef
      obtain ⟨k, rfl⟩ : ∃ k : Nat, d = (k : Int) := ⟨d.toNat, by omega⟩
      have hk : k < ls.length := by omega
      refine ⟨a, ls, _, k, ls[k], rfl, rfl, el3, by omega, by omega, by rw [sIx (by omega) (by omega)]; rfl, List.getElem?_eq_getElem hk, ?_⟩
      refine ⟨r, fs, _, rfl, rfl, ?_, by rw [hf1]; exact small1000 (by omega), ?_⟩
      · rw [upd_ne nra]
        exact ef3
      refine ⟨?_, fun b o bp e => ?_, ⟨ls.eraseIdx k, fs ++ [ls[k]], ?_, upd_same, ?_, ?_, fun y hy => hl2 y (List.mem_of_mem_eraseIdx hy), fun y hy => ?_⟩, _, rfl⟩
      · obtain ⟨c, sd, n, e, x⟩ := hb3
        exact ⟨c, sd, n, by rw [upd_ne pr, upd_ne pa]; exact e, x⟩
      · rw [upd_ne (ne_of_none e nr0), upd_ne (ne_of_none e na), k3 b bp]
        exact ki b o bp e
      · rw [upd_ne (Ne.symm nra), upd_same]
      · rw [List.length_eraseIdx, if_pos hk]
        omega
      · rw [List.length_append, hf1]
        rfl
      · rcases List.mem_append.mp hy with hy | hy
        · exact hf2 y hy
        · rw [List.mem_singleton.mp hy]
          exact hl2 _ (List.getElem_mem hk)
    · obtain ⟨hbi, ki, ⟨ls, fs, el, ef, hl1, hf1, hl2, hf2⟩, t, rfl⟩ := P
      exact ⟨_, rfl, q r fs Hi nr0 ef (by omega) hf2 (by rw [Int.toNat_natCast] at hbi; exact hbi) ki⟩
end
end K2

set_option linter.all false
set_option maxRecDepth 100000
set_option maxHeartbeats 8000000
namespace K2
open PySem PySem.Spec PyProof.Rows L2
/-! ### a sign some times over -/
def repS (c n : Nat) : Str := ⟨(List.replicate n c).toArray⟩
theorem fold_rep (c : Nat) : ∀ (n : Nat) (a : Array Nat), (List.replicate n #[c]).foldl (· ++ ·) a = a ++ (List.replicate n c).toArray
  | 0, a => by simp
  | n + 1, a => by
    rw [List.replicate_succ, List.foldl_cons, fold_rep c n, List.replicate_succ]
    apply Array.ext'
    simp
def rRepS : R2 := fun x y H Q => ∃ (c n : Nat), x = .str ⟨#[c]⟩ ∧ y = .int (n : Nat) ∧ 1 ≤ n ∧ n ≤ 1000 ∧ Q (.str (repS c n)) H
theorem op_repS {X : Cx} : OpR X (binaryOp .Mult) rRepS := by
  intro pins s σ H x y v u Q I rx ry h
  obtain ⟨c, n, rfl, rfl, h1, h2, q⟩ := h
  obtain ⟨t, rfl⟩ := rx
  obtain ⟨t', rfl⟩ := ry
  have hl : (⟨#[c]⟩ : Str).length = 1 := rfl
  refine PySem.P.mul_str ?_ ?_ ?_ ?_
  · rw [decide_eq_false (by omega), decide_eq_false (by omega)]
    rfl
  · intro _ _
    rw [hl]
    have : (0 : Int) < (n : Nat) := by omega
    intro hh
    have h3 : ((2 : Int) ^ 63 - 1) / (n : Nat) < 1 := by exact hh
    have h4 : ((2 : Int) ^ 63 - 1) < 1 * (n : Nat) := (Int.ediv_lt_iff_lt_mul this).mp h3
    omega
  · intro _ _
    rw [hl, Int.toNat_natCast, Nat.one_mul]
    unfold PySem.Builtin.Str.tooLong
    exact decide_eq_false (by rw [sizeLine_eq]; omega)
  · rw [if_neg (by omega)]
    split
    · rename_i hc
      have e1 : n = 1 := by
        simp [hl] at hc
        omega
      subst e1
      exact ⟨.str (repS c 1), H, I.tok _, ⟨_, rfl⟩, q⟩
    · rw [Int.toNat_natCast, show (List.replicate n (⟨#[c]⟩ : Str).cps).foldl (· ++ ·) #[] = (List.replicate n c).toArray from by rw [fold_rep]; simp]
      exact ⟨by show (List.replicate n c).toArray.size ≤ sizeLine; rw [List.size_toArray, List.length_replicate, sizeLine_eq]; omega, .str (repS c n), H, I.tok _, ⟨_, rfl⟩, q⟩
end K2

set_option linter.all false
set_option maxRecDepth 100000
set_option maxHeartbeats 8000000
namespace K2
open PySem PySem.Spec PyProof.Rows L2
/-! ### names -/
/-- a name of a node -/
def nameB (z : Str) : Bool := decide (0 < z.cps.size) && (decide (z.cps.size < 9) && (z.cps.toList.all (fun c => decide (97 ≤ c) && decide (c ≤ 122)) && (!decide (z = "any") && (!decide (z = "other") && !decide (z = "where")))))
theorem repS_size (c n : Nat) : (repS c n).cps.size = n := by
  show (List.replicate n c).toArray.size = n
  rw [List.size_toArray, List.length_replicate]
theorem repS_ne {c n : Nat} {z : Str} {i j a b : Nat} (hi : z.cps[i]? = some a) (hj : z.cps[j]? = some b) (hab : a ≠ b) : repS c n ≠ z := fun e => by
  subst e
  have h1 : (List.replicate n c)[i]? = some a := by rw [← List.getElem?_toArray]; exact hi
  have h2 : (List.replicate n c)[j]? = some b := by rw [← List.getElem?_toArray]; exact hj
  have e1 := List.eq_of_mem_replicate (List.mem_of_getElem? h1)
  have e2 := List.eq_of_mem_replicate (List.mem_of_getElem? h2)
  exact hab (e1.trans e2.symm)
theorem nameB_rep {c n : Nat} (h0 : 97 ≤ c) (h1 : c ≤ 122) (h2 : 1 ≤ n) (h3 : n ≤ 8) : nameB (repS c n) = true := by
  unfold nameB
  rw [repS_size]
  simp only [Bool.and_eq_true, decide_eq_true_eq, Bool.not_eq_true', decide_eq_false_iff_not]
  refine ⟨by omega, by omega, ?_, ?_, ?_, ?_⟩
  · rw [List.all_eq_true]
    intro x hx
    have e : x = c := List.eq_of_mem_replicate (show x ∈ List.replicate n c from hx)
    rw [e, Bool.and_eq_true]
    exact ⟨decide_eq_true h0, decide_eq_true h1⟩
  · exact repS_ne (i := 0) (j := 1) (a := 97) (b := 110) (by decide +kernel) (by decide +kernel) (by decide)
  · exact repS_ne (i := 0) (j := 1) (a := 111) (b := 116) (by decide +kernel) (by decide +kernel) (by decide)
  · exact repS_ne (i := 0) (j := 1) (a := 119) (b := 104) (by decide +kernel) (by decide +kernel) (by decide)
theorem BoxAt.le {H : Hp} {p : Addr} {m m' : Nat} (h : BoxAt H p m) (k : m ≤ m') : BoxAt H p m' := by
  obtain ⟨c, sd, n, e, a, b, d, f, g⟩ := h
  exact ⟨c, sd, n, e, a, b, d, f, by omega⟩
theorem BoxAt.mono {H H' : Hp} {p : Addr} {m : Nat} (h : BoxAt H p m) (s : Same H H') : BoxAt H' p m := by
  obtain ⟨c, sd, n, e, a⟩ := h
  exact ⟨c, sd, n, s _ _ e, a⟩
theorem BoxAt.ne {H : Hp} {p q : Addr} {m : Nat} (h : BoxAt H p m) (n : H q = none) : p ≠ q := fun z => by
  obtain ⟨_, _, _, e, _⟩ := h
  rw [z, n] at e
  cases e
abbrev s_names : Stmt := topS 19
abbrev n_names : List Str := ["_law_box_here", "_law_many", "_law_letters", "_law_first", "_law_form", "_law_found", "_law_k"]
theorem sc_names : FnScope n_names ["_law_box_here", "_law_many"] (defScope s_names) := ⟨rfl, rfl, rfl, by decide +kernel, rfl, by decide +kernel, by decide +kernel⟩
theorem letters_at : ∀ i, i < 26 → ("abcdefghijklmnopqrstuvwxyz" : Str).cps.toList[i]? = some (97 + i) := by decide +kernel
theorem keep1' {σ : L2.St} {H : Hp} {A B : Hp → Prop} (h : A H) : tYes σ H (fun b H3 => if b = true then A H3 else B H3) := by
  show (if true = true then A H else B H)
  rw [if_pos rfl]
  exact h
structure NmN (mg : Str → Option Value) (K : PySem.W.Frag) (ft fx : Addr) : Prop where
  g__law_take : mg "_law_take" = some (.ref ft)
  k__law_take : PySem.W.keepIn K (.ref ft) = true
  g__law_mixed : mg "_law_mixed" = some (.ref fx)
  k__law_mixed : PySem.W.keepIn K (.ref fx) = true
  n_int : mg "int" = none
  n_range : mg "range" = none
def spNames : Sp := fun vs H Q _ => ∃ (p : Addr) (many m : Nat), vs = [.ref p, .int (many : Nat)] ∧ BoxAt H p m ∧ m ≤ 1000 ∧ 1 ≤ many ∧ many ≤ 8 ∧
  ∀ (r : Addr) (zs : List Str) (H' : Hp), H r = none → H' r = some (.lst (zs.map V.str)) → zs.length = many → (∀ z ∈ zs, nameB z = true) → BoxAt H' p (m + 20) → (∀ b o, b ≠ p → H b = some o → H' b = some o) → Q (.ref r) H'
section
variable {P : Program} {w : World} {K : PySem.W.Frag} {mg : Str → Option Value} {base : Heap}
theorem ok_names {f ft fx : Addr} {fd fdt fdx : FuncData} (F : Fun K "_law_names" "_law_names" s_names f fd) (T : NmN mg K ft fx) (G__law_take : FnOk P w K mg base CX0 2 ft fdt ["_law_box_here", "_law_many"] spTake) (b__law_take : Binds K fdt ["_law_box_here", "_law_many"] [])
    (G__law_mixed : FnOk P w K mg base CX0 2 fx fdx ["_law_box_here", "_law_items"] (spMixed K)) (b__law_mixed : Binds K fdx ["_law_box_here", "_law_items"] []) :
    FnOk P w K mg base CX0 3 f fd ["_law_box_here", "_law_many"] spNames := by
  refine F.ok sc_names (fun vs H Q E h => ?_) (fun cdv A outer s H vs Q E hr h => ?_)
  · obtain ⟨p, many, m, rfl, _⟩ := h
    rfl
  · obtain ⟨p, many, m, rfl, hb, hm, hn1, hn2, q⟩ := h
    refine ⟨_, (pss_cons (ps_asg (pe_tup (pa_cons pe_str (pa_cons (pe_call G__law_take hr rfl T.g__law_take T.k__law_take b__law_take .nil pass0 (pa_cons (pv 0) (pa_cons pe_int pa_nil))) (pa_cons (pe_call G__law_take hr rfl T.g__law_take T.k__law_take b__law_take .nil pass0 (pa_cons (pv 0) (pa_cons pe_int pa_nil))) pa_nil)))) (pg_tup rfl (pgs_cons (pg_name (i := 2) sc_names.nd rfl (.inr rfl)) (pgs_cons (pg_name (i := 3) sc_names.nd rfl (.inr rfl)) (pgs_cons (pg_name (i := 4) sc_names.nd rfl (.inr rfl)) pgs_nil)))))
  (pss_cons (ps_setLc (i := 5) (own := [("_law_k", 6)]) (g := gName 6) (tt := tYes) rfl sc_names.nd rfl rfl (sw_true rfl rfl rfl (by decide +kernel)) (pi_range1 (by rfl) T.n_range (pa_cons pe_int pa_nil)) (blkOk_by (own := [("_law_k", 6)]) (N := n_names) (sc := defScope s_names) (by decide +kernel)) (fun _ _ _ _ _ => (pg_name (i := 6) sc_names.nd rfl (.inl rfl))) (fun _ _ _ _ _ => pts_nil) (fun _ _ _ _ _ => (pe_op op_repS (pe_ix ix_str (pv 2) (pe_op op_mod (pe_op op_add (pv 3) (pe_op op_mul pe_int (pv 6))) pe_int) (fun _ _ => rfl)) (pe_op op_add pe_int (pe_op op_mul (pv 6) (pe_callTy call_int1 (by rfl) T.n_int (by decide +kernel) (pa_cons (pe_cmpR op_eq (pv 4) pe_int (nomark _)) pa_nil)))))))
  (pss_cons (ps_if (pt_cmpR op_eq (pv 4) pe_int (nomark _)) (pss_one (ps_set (i := 5) sc_names.nd rfl (.inl rfl) (pe_split pe_str pe_str))) pss_nil)
  (pss_cons (ps_if (pt_cmpR op_eq (pv 4) pe_int (nomark _)) (pss_one (ps_set (i := 5) sc_names.nd rfl (.inl rfl) (pe_split pe_str pe_str))) pss_nil)
  (pss_one (ps_ret (pe_slice sl_list (pe_call G__law_mixed hr rfl T.g__law_mixed T.k__law_mixed b__law_mixed .nil pass0 (pa_cons (pv 0) (pa_cons (pv 5) pa_nil))) po_none (po_some (pv 1))))))))), ?_⟩
    have tail : ∀ (L : Addr) (zs : List Str) (Hx : Hp) (b2 b3 b4 b6 : Option V), Hx L = some (.lst (zs.map V.str)) → 8 ≤ zs.length → zs.length ≤ 14 → (∀ z ∈ zs, nameB z = true) → BoxAt Hx p (m + 2) → (∀ b o, b ≠ p → H b = some o → Hx b = some o) →
        (tSl (rSlL K) (tCall (spMixed K) [] E0 (tCons (tVar 0) (tCons (tVar 5) tNil))) tNoPart (tPart (tVar 1))) [some (.ref p), some (.int (many : Nat)), b2, b3, b4, some (.ref L), b6] Hx Q := by
      intro L zs Hx b2 b3 b4 b6 eL z8 z14 zn hbx kx
      refine ⟨_, rfl, _, rfl, p, L, zs.map V.str, m + 2, rfl, hbx, SqL.of eL, by rw [List.length_map]; omega, by omega, fun r ys H4 nr er ly my hb4 k4 => ?_⟩
      refine ⟨_, rfl, _, rfl, r, ys, rfl, SqL.of er, fun r2 n2 => ?_⟩
      rw [List.length_map] at ly hb4
      obtain ⟨ws, rfl, hws⟩ : ∃ ws : List Str, ys = ws.map V.str ∧ ∀ w ∈ ws, w ∈ zs := by
        clear q eL er ly
        induction ys with
        | nil => exact ⟨[], rfl, fun _ h => by simp at h⟩
        | cons y ys ih =>
          obtain ⟨ws, rfl, hw⟩ := ih fun y hy => my y (List.mem_cons_of_mem _ hy)
          obtain ⟨z, hz, rfl⟩ := List.mem_map.mp (my y (List.mem_cons_self ..))
          exact ⟨z :: ws, rfl, fun w hw' => by
            rcases List.mem_cons.mp hw' with rfl | h
            · exact hz
            · exact hw w h⟩
      rw [List.length_map] at ly
      have ec : cutV (ws.map V.str) none (some ((many : Nat) : Int)) = (ws.take many).map V.str := by
        unfold cutV
        rw [HT.sIx_none, HT.sIx_nat, List.drop_zero, Nat.sub_zero, List.length_map, Nat.min_eq_left (by omega), List.map_take]
      rw [ec]
      have nr2 : H r2 = none := by
        cases e : H r2 with
        | none => rfl
        | some o =>
          by_cases hp : r2 = p
          · exact absurd hp.symm (hb4.ne n2)
          · rw [k4 r2 o hp (kx r2 o hp e)] at n2
            cases n2
      refine q r2 (ws.take many) _ nr2 upd_same (by rw [List.length_take]; omega) (fun z hz => zn z (hws z (List.mem_of_mem_take hz))) ((hb4.mono (new_same n2)).le (by omega)) fun b o hp e => new_same n2 _ _ (k4 b o hp (kx b o hp e))
    -- letters, first, form
    refine ⟨_, rfl, p, 26, m, rfl, hb, by omega, by decide, by decide, fun d1 H1 d10 d11 hb1 k1 => ?_⟩
    refine ⟨_, rfl, p, 4, m + 1, rfl, hb1, by omega, by decide, by decide, fun d2 H2 d20 d21 hb2 k2 => ?_⟩
    refine ⟨(by show 3 ≤ sizeLine; decide), fun t nt => ?_⟩
    refine ⟨t, _, rfl, SqT.of upd_same, rfl, _, _, rfl, _, _, rfl, _, _, rfl, rfl, ?_⟩
    have kk : ∀ b o, b ≠ p → H b = some o → upd H2 t (.tup [.str "abcdefghijklmnopqrstuvwxyz", .int d1, .int d2]) b = some o := fun b o hp e => new_same nt _ _ (by rw [k2 b hp, k1 b hp]; exact e)
    have hb3 := hb2.mono (new_same (o := .tup [.str "abcdefghijklmnopqrstuvwxyz", .int d1, .int d2]) nt)
    generalize upd H2 t (.tup [.str "abcdefghijklmnopqrstuvwxyz", .int d1, .int d2]) = H3 at *
    obtain ⟨a, rfl⟩ : ∃ a : Nat, d1 = (a : Int) := ⟨d1.toNat, by omega⟩
    obtain ⟨f0, rfl⟩ : ∃ f : Nat, d2 = (f : Int) := ⟨d2.toNat, by omega⟩
    -- found
    refine ⟨_, rfl, by decide, by decide, fun D nD => ?_⟩
    have pD := hb3.ne nD
    refine lc_range (lo := 0) (n := 8) (fun i Hi => Same (upd H3 D (.lst [])) (upd Hi D (.lst [])) ∧ ∃ zs : List Str, Hi D = some (.lst (zs.map V.str)) ∧ zs.length = i ∧ ∀ z ∈ zs, nameB z = true)
      ⟨fun b o e => by
        by_cases hb : b = D
        · rw [hb, upd_same] at e ⊢
          exact e
        · rw [upd_ne hb] at e ⊢
          rw [upd_ne hb]
          exact e, [], upd_same, rfl, fun _ h => by simp at h⟩ (fun k Hi hk P => ?_) (fun Hi P => ?_)
    · obtain ⟨sk, zs, ez, lz, nz⟩ := P
      refine ⟨rfl, keep1' ?_⟩
      refine ⟨_, rfl, _, rfl, _, rfl, _, _, rfl, rfl, .inl ⟨by decide, by decide⟩, _, _, rfl, rfl, _, _, rfl, rfl, (by show (0 : Int) < 26; decide), ?_⟩
      have ei : ((a : Int) + 7 * (0 + (k : Nat))) % 26 = (((a + 7 * k) % 26 : Nat) : Int) := by omega
      have hc : ("abcdefghijklmnopqrstuvwxyz" : Str).cps.toList[(a + 7 * k) % 26]? = some (97 + (a + 7 * k) % 26) := letters_at _ (Nat.mod_lt _ (by decide))
      refine ⟨_, _, 97 + (a + 7 * k) % 26, rfl, rfl, (by rw [sizeLine_eq]; decide +kernel), (by rw [ei]; exact atI_nat hc), ?_⟩
      refine ⟨_, rfl, _, rfl, rfl, .inr ⟨_, rfl, _, _, rfl, rfl, .inl ⟨by omega, by omega⟩, _, _, rfl, rfl, ?_⟩⟩
      have en : (1 : Int) + (0 + (k : Nat)) * (if decide (V.int (f0 : Nat) = V.int 1) = true then 1 else 0) = ((1 + k * (if f0 = 1 then 1 else 0) : Nat) : Int) := by
        by_cases h : f0 = 1
        · subst h
          rw [if_pos (by rw [decide_eq_true_eq]; rfl), if_pos rfl]
          omega
        · rw [if_neg (by rw [decide_eq_true_eq]; intro z; have := V.int.inj z; omega), if_neg h]
          omega
      have hn : 1 + k * (if f0 = 1 then 1 else 0) ≤ 8 := by split <;> omega
      refine ⟨97 + (a + 7 * k) % 26, 1 + k * (if f0 = 1 then 1 else 0), rfl, congrArg V.int en, by omega, by omega, ?_⟩
      refine ⟨zs.map V.str, ez, by rw [List.length_map, lz]; exact small1000 (by omega), ?_, zs ++ [repS (97 + (a + 7 * k) % 26) (1 + k * (if f0 = 1 then 1 else 0))], ?_, ?_, fun z hz => ?_⟩
      · intro b o e
        have e2 := sk b o e
        by_cases hb : b = D
        · rw [hb, upd_same] at e2 ⊢
          exact e2
        · rw [upd_ne hb] at e2 ⊢
          rw [upd_ne hb]
          exact e2
      · rw [upd_same, List.map_append]
        rfl
      · rw [List.length_append, lz]
        rfl
      · rcases List.mem_append.mp hz with hz | hz
        · exact nz z hz
        · rw [List.mem_singleton.mp hz]
          exact nameB_rep (by omega) (by omega) (by omega) hn
    obtain ⟨sk, zs, ez, lz, nz⟩ := P
    have kx : ∀ b o, b ≠ p → H b = some o → Hi b = some o := fun b o hp e => by
      have bD : b ≠ D := ne_of_none (kk b o hp e) nD
      have e2 := sk b o (by rw [upd_ne bD]; exact kk b o hp e)
      rw [upd_ne bD] at e2
      exact e2
    have hbi : BoxAt Hi p (m + 2) := by
      obtain ⟨c, sd, n, e, r⟩ := hb3
      have e2 := sk p _ (by rw [upd_ne pD]; exact e)
      rw [upd_ne pD] at e2
      exact ⟨c, sd, n, e2, r⟩
    refine ⟨_, rfl, rfl, _, rfl, ?_⟩
    by_cases h2 : f0 = 2
    · subst h2
      refine iteT ?_
      refine ⟨⟨_, rfl⟩, _, _, rfl, rfl, by decide +kernel, (by rw [sizeLine_eq]; decide +kernel), fun L nL => ?_⟩
      refine ⟨_, rfl, rfl, _, rfl, iteF ?_⟩
      exact tail L (Txt.split "kind of some every not mod open close root parent above earlier later all" " ") _ _ _ _ _ upd_same (by decide +kernel) (by decide +kernel) (by decide +kernel) (hbi.mono (new_same nL)) fun b o hp e => new_same nL _ _ (kx b o hp e)
    · rw [decide_eq_false (fun z => h2 (by have := V.int.inj z; omega))]
      refine iteF ?_
      refine ⟨_, rfl, rfl, _, rfl, ?_⟩
      by_cases h3 : f0 = 3
      · subst h3
        refine iteT ?_
        refine ⟨⟨_, rfl⟩, _, _, rfl, rfl, by decide +kernel, (by rw [sizeLine_eq]; decide +kernel), fun L nL => ?_⟩
        exact tail L (Txt.split "a aa b bounds zz others anyone c" " ") _ _ _ _ _ upd_same (by decide +kernel) (by decide +kernel) (by decide +kernel) (hbi.mono (new_same nL)) fun b o hp e => new_same nL _ _ (kx b o hp e)
      · rw [decide_eq_false (fun z => h3 (by have := V.int.inj z; omega))]
        refine iteF ?_
        exact tail D zs Hi _ _ _ _ ez (by omega) (by omega) nz hbi kx
end
end K2

set_option linter.all false
set_option maxRecDepth 100000
set_option maxHeartbeats 8000000
namespace K2
open PySem PySem.Spec PyProof.Rows L2
/-! ### events and rows of them -/
/-- a close, or an open with a name and a mark -/
abbrev Ev := Option (Str × Nat)
def evV : Ev → List V
  | none => [.str "close"]
  | some (z, m) => [.str "open", .str z, .int (m : Nat)]
def evD : Ev → PyData
  | none => .tuple [.str "close"]
  | some (z, m) => .tuple [.str "open", .str z, .int (m : Nat)]
def EvOk : Ev → Prop
  | none => True
  | some (z, m) => nameB z = true ∧ m < 10 ^ 9
/-- an event stands at the value -/
def EvAt (H : Hp) (v : V) (e : Ev) : Prop := ∃ a, v = .ref a ∧ H a = some (.tup (evV e))
inductive EvsAt (H : Hp) : List V → List Ev → Prop
  | nil : EvsAt H [] []
  | cons {v : V} {vs : List V} {e : Ev} {es : List Ev} : EvAt H v e → EvsAt H vs es → EvsAt H (v :: vs) (e :: es)
theorem EvAt.mono {H H' : Hp} {v : V} {e : Ev} (h : EvAt H v e) (s : ∀ a xs, H a = some (.tup xs) → H' a = some (.tup xs)) : EvAt H' v e := by
  obtain ⟨a, rfl, ha⟩ := h
  exact ⟨a, rfl, s _ _ ha⟩
theorem EvsAt.mono {H H' : Hp} {vs : List V} {es : List Ev} (h : EvsAt H vs es) (s : ∀ a xs, H a = some (.tup xs) → H' a = some (.tup xs)) : EvsAt H' vs es := by
  induction h with
  | nil => exact .nil
  | cons a _ ih => exact .cons (a.mono s) ih
theorem EvsAt.snoc {H : Hp} {vs : List V} {es : List Ev} {v : V} {e : Ev} (h : EvsAt H vs es) (k : EvAt H v e) : EvsAt H (vs ++ [v]) (es ++ [e]) := by
  induction h with
  | nil => exact .cons k .nil
  | cons a _ ih => exact .cons a ih
theorem EvsAt.length {H : Hp} {vs : List V} {es : List Ev} (h : EvsAt H vs es) : vs.length = es.length := by
  induction h with
  | nil => rfl
  | cons _ _ ih => rw [List.length_cons, List.length_cons, ih]
theorem EvsAt.get {H : Hp} {vs : List V} {es : List Ev} (h : EvsAt H vs es) : ∀ {i : Nat} {v : V}, vs[i]? = some v → ∃ e, es[i]? = some e ∧ EvAt H v e := by
  induction h with
  | nil => intro i v hv; simp at hv
  | cons a _ ih =>
    intro i v hv
    cases i with
    | zero =>
      have z := Option.some.inj hv
      exact ⟨_, rfl, by rw [← z]; exact a⟩
    | succ i => exact ih hv
/-- keeps everything but the box: the tuples too -/
theorem keepT {H H' : Hp} {p : Addr} {m : Nat} (hb : BoxAt H p m) (k : ∀ b o, b ≠ p → H b = some o → H' b = some o) : ∀ a xs, H a = some (.tup xs) → H' a = some (.tup xs) := fun a xs e => k a _ (fun z => by
  obtain ⟨_, _, _, e2, _⟩ := hb
  rw [z, e2] at e
  cases e) e
abbrev s_row : Stmt := topS 21
abbrev n_row : List Str := ["_law_box_here", "_law_names_here", "_law_found", "_law_turn", "_law_mark", "_law_event_here"]
theorem sc_row : FnScope n_row ["_law_box_here", "_law_names_here"] (defScope s_row) := ⟨rfl, rfl, rfl, by decide +kernel, rfl, by decide +kernel, by decide +kernel⟩
structure NmR (mg : Str → Option Value) (K : PySem.W.Frag) (ft : Addr) : Prop where
  g__law_take : mg "_law_take" = some (.ref ft)
  k__law_take : PySem.W.keepIn K (.ref ft) = true
  n_range : mg "range" = none
  n_len : mg "len" = none
def spRow : Sp := fun vs H Q _ => ∃ (p l : Addr) (zs : List Str) (m : Nat), vs = [.ref p, .ref l] ∧ BoxAt H p m ∧ H l = some (.lst (zs.map V.str)) ∧ 1 ≤ zs.length ∧ zs.length ≤ 100 ∧ (∀ z ∈ zs, nameB z = true) ∧ m ≤ 10000 ∧
  ∀ (r : Addr) (vs' : List V) (es : List Ev) (H' : Hp), H r = none → H' r = some (.lst vs') → EvsAt H' vs' es → es.length ≤ 20 → (∀ e ∈ es, EvOk e) → BoxAt H' p (m + 100) → (∀ b o, b ≠ p → H b = some o → H' b = some o) → Q (.ref r) H'
section
variable {P : Program} {w : World} {K : PySem.W.Frag} {mg : Str → Option Value} {base : Heap}
theorem ok_row {f ft : Addr} {fd fdt : FuncData} (F : Fun K "_law_row" "_law_row" s_row f fd) (T : NmR mg K ft) (G__law_take : FnOk P w K mg base CX0 1 ft fdt ["_law_box_here", "_law_many"] spTake) (b__law_take : Binds K fdt ["_law_box_here", "_law_many"] []) :
    FnOk P w K mg base CX0 2 f fd ["_law_box_here", "_law_names_here"] spRow := by
  refine F.ok sc_row (fun vs H Q E h => ?_) (fun cdv A outer s H vs Q E hr h => ?_)
  · obtain ⟨p, l, zs, m, rfl, _⟩ := h
    rfl
  · obtain ⟨p, l, zs, m, rfl, hb, hl, hz1, hz2, hzn, hm, q⟩ := h
    refine ⟨_, (pss_cons (ps_set (i := 2) sc_row.nd rfl (.inl rfl) (pe_lst pa_nil))
  (pss_cons (ps_for PassesOwn.never rfl (pi_range1 (by rfl) T.n_range (pa_cons (pe_call G__law_take hr rfl T.g__law_take T.k__law_take b__law_take .nil pass0 (pa_cons (pv 0) (pa_cons pe_int pa_nil))) pa_nil)) (pg_name (i := 3) sc_row.nd rfl (.inl rfl))
  (pss_cons (ps_set (i := 4) sc_row.nd rfl (.inl rfl) (pe_ix ix_list (pe_lst (pa_cons (pv 3) (pa_cons (pe_op op_add (pe_op op_mul (pe_op op_pow pe_int pe_int) (pe_op op_add (pv 3) pe_int)) (pe_call G__law_take hr rfl T.g__law_take T.k__law_take b__law_take .nil pass0 (pa_cons (pv 0) (pa_cons (pe_op op_pow pe_int pe_int) pa_nil)))) pa_nil))) (pe_call G__law_take hr rfl T.g__law_take T.k__law_take b__law_take .nil pass0 (pa_cons (pv 0) (pa_cons pe_int pa_nil))) (fun _ _ => rfl)))
  (pss_cons (ps_set (i := 5) sc_row.nd rfl (.inl rfl) (pe_tup (pa_cons pe_str (pa_cons (pe_ix ix_list (pv 1) (pe_call G__law_take hr rfl T.g__law_take T.k__law_take b__law_take .nil pass0 (pa_cons (pv 0) (pa_cons (pe_callB call_len_seq (by rfl) T.n_len (by decide +kernel) (pa_cons (pv 1) pa_nil)) pa_nil))) (fun _ _ => rfl)) (pa_cons (pv 4) pa_nil)))))
  (pss_one (ps_expr (pe_bm PySem.F.plainAttrs_list PySem.F.slot_list_append PySem.F.type_list_append mt_append (pv 2) (pa_cons (pe_ix ix_list (pe_lst (pa_cons (pv 5) (pa_cons (pe_tup (pa_cons pe_str pa_nil)) pa_nil))) (pe_call G__law_take hr rfl T.g__law_take T.k__law_take b__law_take .nil pass0 (pa_cons (pv 0) (pa_cons pe_int pa_nil))) (fun _ _ => rfl)) pa_nil)))))))
  (pss_one (ps_ret (pv 2))))), ?_⟩
    refine ⟨Nat.zero_le _, fun r nr => ?_⟩
    have er : upd H r (.lst []) r = some (.lst []) := upd_same
    have lp : l ≠ p := fun z => by
      obtain ⟨_, _, _, e, _⟩ := hb
      rw [z, e] at hl
      match zs, hz1 with
      | y :: ys, _ => cases hl
    have S := new_same (o := .lst []) nr
    have pr := hb.ne nr
    have hb2 := hb.mono S
    generalize upd H r (.lst []) = H2 at *
    refine ⟨_, rfl, p, 21, m, rfl, hb2, by omega, by decide, by decide, fun d H3 d0 d1 hb3 k3 => ?_⟩
    refine ⟨_, rfl, by omega, by omega, ?_⟩
    obtain ⟨n, rfl⟩ : ∃ n : Nat, d = (n : Int) := ⟨d.toNat, by omega⟩
    rw [Int.toNat_natCast]
    have er3 : H3 r = some (.lst []) := (k3 r (Ne.symm pr)).trans er
    refine for_range (lo := 0) (n := n) (fun i σ Hi => BoxAt Hi p (m + 1 + 4 * i) ∧ (∀ b o, b ≠ p → H b = some o → Hi b = some o) ∧
        (∃ (vs : List V) (es : List Ev), Hi r = some (.lst vs) ∧ EvsAt Hi vs es ∧ es.length = i ∧ ∀ e ∈ es, EvOk e) ∧ ∃ t4 t5 t6 : Option V, σ = [some (.ref p), some (.ref l), some (.ref r), t4, t5, t6])
      ⟨hb3, fun b o bp e => by rw [k3 b bp]; exact S _ _ e, ⟨[], [], er3, .nil, rfl, fun _ h => by simp at h⟩, _, _, _, rfl⟩ (fun i σ Hi hi P => ?_) (fun σ Hi P => ?_)
    · obtain ⟨hbi, ki, ⟨vs, es, ev, hev, le, oe⟩, t4, t5, t6, rfl⟩ := P
      -- the mark
      refine ⟨_, rfl, _, _, rfl, rfl, ⟨by decide, by decide, by decide⟩, _, rfl, _, _, rfl, rfl, _, _, rfl, rfl, .inl ⟨by decide, by decide⟩, ?_⟩
      refine ⟨_, rfl, _, _, rfl, rfl, ⟨by decide, by decide, by decide⟩, p, _, m + 1 + 4 * i, rfl, hbi, by omega, (by show (0 : Int) < 10 ^ 6; decide), (by show (10 : Int) ^ 6 < 1073741824; decide), fun e1 H4 e10 e11 hb4 k4 => ?_⟩
      refine ⟨_, _, rfl, rfl, (by show 2 ≤ sizeLine; decide), fun a na => ?_⟩
      have pa := hb4.ne na
      have ea : upd H4 a (.lst [.int (0 + (i : Nat)), .int (10 ^ (6 : Int).toNat * (0 + (i : Nat) + 1) + e1)]) a = some (.lst [.int (0 + (i : Nat)), .int (10 ^ (6 : Int).toNat * (0 + (i : Nat) + 1) + e1)]) := upd_same
      have hb5 := hb4.mono (new_same (o := .lst [.int (0 + (i : Nat)), .int (10 ^ (6 : Int).toNat * (0 + (i : Nat) + 1) + e1)]) na)
      have K5 : ∀ b o, b ≠ p → Hi b = some o → upd H4 a (.lst [.int (0 + (i : Nat)), .int (10 ^ (6 : Int).toNat * (0 + (i : Nat) + 1) + e1)]) b = some o := fun b o bp e => new_same na _ _ (by rw [k4 b bp]; exact e)
      generalize upd H4 a (.lst [.int (0 + (i : Nat)), .int (10 ^ (6 : Int).toNat * (0 + (i : Nat) + 1) + e1)]) = H5 at *
      refine ⟨_, rfl, p, 2, _, rfl, hb5, by omega, by decide, by decide, fun e2 H6 e20 e21 hb6 k6 => ?_⟩
      obtain ⟨mk, hmk, hmk9⟩ : ∃ mk : Nat, atI [V.int (0 + (i : Nat)), .int (10 ^ (6 : Int).toNat * (0 + (i : Nat) + 1) + e1)] e2 = some (.int (mk : Nat)) ∧ mk < 10 ^ 9 := by
        have e11' : e1 < 1000000 := e11
        have h6 : (10 : Int) ^ (6 : Int).toNat = 1000000 := by decide
        have hc : e2 = ((0 : Nat) : Int) ∨ e2 = ((1 : Nat) : Int) := by omega
        rcases hc with rfl | rfl
        · refine ⟨i, ?_, by omega⟩
          rw [atI_nat (j := 0) rfl, Int.zero_add]
        · refine ⟨(1000000 * (0 + (i : Nat) + 1) + e1 : Int).toNat, ?_, by omega⟩
          rw [atI_nat (j := 1) rfl, h6, Int.toNat_of_nonneg (by omega)]
      refine ⟨a, _, _, _, rfl, rfl, SqL.of ((k6 a (Ne.symm pa)).trans ea), hmk, ?_⟩
      have K6 : ∀ b o, b ≠ p → Hi b = some o → H6 b = some o := fun b o bp e => by rw [k6 b bp]; exact K5 b o bp e
      -- the event
      have hl6 : H6 l = some (.lst (zs.map V.str)) := K6 l _ lp (ki l _ lp hl)
      refine ⟨_, rfl, _, rfl, _, rfl, l, _, rfl, .inl (SqL.of hl6), ?_⟩
      rw [List.length_map]
      refine ⟨p, _, _, rfl, hb6, by omega, by omega, by omega, fun e3 H7 e30 e31 hb7 k7 => ?_⟩
      obtain ⟨j, rfl⟩ : ∃ j : Nat, e3 = (j : Int) := ⟨e3.toNat, by omega⟩
      have hj : j < zs.length := by omega
      have hz : (zs.map V.str)[j]? = some (.str zs[j]) := by
        rw [List.getElem?_map, List.getElem?_eq_getElem hj]
        rfl
      refine ⟨l, _, _, _, rfl, rfl, SqL.of ((k7 l lp).trans hl6), atI_nat hz, ?_⟩
      refine ⟨_, rfl, (by show 3 ≤ sizeLine; decide), fun t nt => ?_⟩
      have K7 : ∀ b o, b ≠ p → Hi b = some o → upd H7 t (.tup [.str "open", .str zs[j], .int (mk : Nat)]) b = some o := fun b o bp e => new_same nt _ _ (by rw [k7 b bp]; exact K6 b o bp e)
      have et : upd H7 t (.tup [.str "open", .str zs[j], .int (mk : Nat)]) t = some (.tup [.str "open", .str zs[j], .int (mk : Nat)]) := upd_same
      have hb8 := hb7.mono (new_same (o := .tup [.str "open", .str zs[j], .int (mk : Nat)]) nt)
      generalize upd H7 t (.tup [.str "open", .str zs[j], .int (mk : Nat)]) = H8 at *
      -- one of both
      refine ⟨_, rfl, .inl ⟨rfl, _, SqL.of (K7 r _ (Ne.symm pr) ev)⟩, ?_⟩
      refine ⟨_, rfl, (by show 1 ≤ sizeLine; decide), fun t2 nt2 => ?_⟩
      refine ⟨(by show 2 ≤ sizeLine; decide), fun a2 na2 => ?_⟩
      have S9 := (new_same (o := .tup [.str "close"]) nt2).trans (new_same (o := .lst [.ref t, .ref t2]) na2)
      have et2 := new_same (o := .lst [.ref t, .ref t2]) na2 t2 (.tup [.str "close"]) upd_same
      have ea2 : upd (upd H8 t2 (.tup [.str "close"])) a2 (.lst [.ref t, .ref t2]) a2 = some (.lst [.ref t, .ref t2]) := upd_same
      have hb9 := hb8.mono S9
      have pt := hb8.ne nt2
      have pa2 := (hb8.mono (new_same (o := .tup [.str "close"]) nt2)).ne na2
      generalize upd (upd H8 t2 (.tup [.str "close"])) a2 (.lst [.ref t, .ref t2]) = H9 at *
      refine ⟨_, rfl, p, 2, _, rfl, hb9, by omega, by decide, by decide, fun e4 H10 e40 e41 hb10 k10 => ?_⟩
      have K10 : ∀ b o, b ≠ p → Hi b = some o → H10 b = some o := fun b o bp e => by rw [k10 b bp]; exact S9 _ _ (K7 b o bp e)
      have tp : ∀ b xs, H9 b = some (.tup xs) → H10 b = some (.tup xs) := fun b xs e => by
        rw [k10 b (fun z => by
          obtain ⟨_, _, _, e2, _⟩ := hb9
          rw [z, e2] at e
          cases e)]
        exact e
      obtain ⟨x, e, hx, hex, oke⟩ : ∃ (x : V) (e : Ev), atI [V.ref t, .ref t2] e4 = some x ∧ EvAt H10 x e ∧ EvOk e := by
        have hc : e4 = ((0 : Nat) : Int) ∨ e4 = ((1 : Nat) : Int) := by omega
        rcases hc with rfl | rfl
        · exact ⟨.ref t, some (zs[j], mk), atI_nat (j := 0) rfl, ⟨t, rfl, tp _ _ (S9 _ _ et)⟩, hzn _ (List.getElem_mem hj), hmk9⟩
        · exact ⟨.ref t2, none, atI_nat (j := 1) rfl, ⟨t2, rfl, tp _ _ et2⟩, True.intro⟩
      refine ⟨a2, _, _, _, rfl, rfl, SqL.of ((k10 a2 (Ne.symm pa2)).trans ea2), hx, ?_⟩
      have er10 : H10 r = some (.lst vs) := K10 r _ (Ne.symm pr) ev
      refine ⟨r, vs, _, rfl, rfl, er10, by rw [hev.length, le]; exact small1000 (by omega), ?_⟩
      have tr : ∀ b xs, H10 b = some (.tup xs) → upd H10 r (.lst (vs ++ [x])) b = some (.tup xs) := fun b xs e => by
        rw [upd_ne (fun z => by rw [z, er10] at e; cases e)]
        exact e
      refine ⟨?_, fun b o bp e => ?_, ⟨vs ++ [x], es ++ [e], upd_same, ?_, by rw [List.length_append, le]; rfl, fun y hy => ?_⟩, _, _, _, rfl⟩
      · obtain ⟨c, sd, n', ep, rest⟩ := hb10.le (m' := m + 1 + 4 * (i + 1)) (by omega)
        exact ⟨c, sd, n', by rw [upd_ne pr]; exact ep, rest⟩
      · rw [upd_ne (ne_of_none e nr)]
        exact K10 b o bp (ki b o bp e)
      · exact ((hev.mono fun b xs e => K10 b _ (fun z => by
          obtain ⟨_, _, _, e2, _⟩ := hbi
          rw [z, e2] at e
          cases e) e).snoc hex).mono tr
      · rcases List.mem_append.mp hy with hy | hy
        · exact oe y hy
        · rw [List.mem_singleton.mp hy]
          exact oke
    · obtain ⟨hbi, ki, ⟨vs, es, ev, hev, le, oe⟩, t4, t5, t6, rfl⟩ := P
      exact ⟨_, rfl, q r vs es Hi nr ev hev (by omega) oe (hbi.le (by omega)) ki⟩
end
end K2

set_option linter.all false
set_option maxRecDepth 100000
set_option maxHeartbeats 8000000
namespace K2
open PySem PySem.Spec PyProof.Rows L2
/-! ### what an event is written as -/
def wordS : Ev → Str
  | none => "/"
  | some (z, m) => z ++ ":" ++ (toString ((m : Nat) : Int) : String)
def textS (es : List Ev) : Str := Txt.join " " (es.map wordS)
theorem num_len {m : Nat} (h : m < 10 ^ 9) : ((toString ((m : Nat) : Int) : String) : Str).length ≤ 9 := by
  have e := TL.numL_len (n := m) (k := 9) (by decide) h
  rw [← TL.tl_num] at e
  exact e
theorem name_len {z : Str} (h : nameB z = true) : z.length ≤ 8 := by
  unfold nameB at h
  simp only [Bool.and_eq_true, decide_eq_true_eq] at h
  have := h.2.1
  show z.cps.size ≤ 8
  omega
theorem len_app (x y : Str) : (x ++ y).length = x.length + y.length := by
  show (x.cps ++ y.cps).size = _
  rw [Array.size_append]
  rfl
theorem word_len {e : Ev} (h : EvOk e) : (wordS e).length ≤ 18 := by
  match e, h with
  | none, _ => exact (by decide +kernel : ("/" : Str).length ≤ 18)
  | some (z, m), h =>
    have h1 := name_len h.1
    have h2 := num_len h.2
    have h3 : (":" : Str).length = 1 := by decide +kernel
    show (z ++ ":" ++ _).length ≤ 18
    rw [len_app, len_app]
    omega
theorem words_len : ∀ {es : List Ev}, (∀ e ∈ es, EvOk e) → ((es.map wordS).map (·.length)).sum ≤ 18 * es.length
  | [], _ => Nat.zero_le _
  | e :: es, h => by
    have h1 := word_len (h e (List.mem_cons_self ..))
    have h2 := words_len (es := es) fun x hx => h x (List.mem_cons_of_mem _ hx)
    rw [List.map_cons, List.map_cons, List.sum_cons, List.length_cons]
    omega
theorem take_snoc {α : Type} {l : List α} {i : Nat} {x : α} (h : l[i]? = some x) : l.take (i + 1) = l.take i ++ [x] := by
  rw [List.take_add_one, h]
  rfl
abbrev s_text : Stmt := topS 20
abbrev n_text : List Str := ["_law_events", "_law_event_here"]
theorem sc_text : FnScope n_text ["_law_events"] (defScope s_text) := ⟨rfl, rfl, rfl, by decide +kernel, rfl, by decide +kernel, by decide +kernel⟩
structure NmT (mg : Str → Option Value) : Prop where
  n_len : mg "len" = none
  n_str : mg "str" = none
def rLenK (K : PySem.W.Frag) : List V → Hp → VK → Prop := fun xs H Q => ∃ p ys, xs = [.ref p] ∧ (SqL K H p ys ∨ SqT K H p ys) ∧ Q (.int ys.length) H
def rAddStr : R2 := fun x y H Q => ∃ i j, x = .str i ∧ y = .str j ∧ i.length + j.length ≤ sizeLine ∧ Q (.str (i ++ j)) H
def rStrI : List V → Hp → VK → Prop := fun xs H Q => ∃ i, xs = [.int i] ∧ i.natAbs.log2 < 1920 ∧ Q (.str (toString i)) H
def teText (K : PySem.W.Frag) : TE := tIf (tTest (tOp (rI0 fun i j => .bl (decide (j < i))) (tCB (rLenK K) (tCons (tVar 1) tNil)) (tC (.int 1)))) (tOp rAddStr (tOp rAddStr (tOp (rIxT K) (tVar 1) (tC (.int 1))) (tC (.str ":"))) (tCB rStrI (tCons (tOp (rIxT K) (tVar 1) (tC (.int 2))) tNil))) (tC (.str "/"))
def spText : Sp := fun vs H Q _ => ∃ (r : Addr) (vs' : List V) (es : List Ev), vs = [.ref r] ∧ H r = some (.lst vs') ∧ EvsAt H vs' es ∧ es.length ≤ 1000 ∧ (∀ e ∈ es, EvOk e) ∧ ∀ H' : Hp, Same H H' → Q (.str (textS es)) H'
section
variable {P : Program} {w : World} {K : PySem.W.Frag} {mg : Str → Option Value} {base : Heap}
theorem ok_text {f : Addr} {fd : FuncData} (F : Fun K "_law_text" "_law_text" s_text f fd) (T : NmT mg) : FnOk P w K mg base CX0 1 f fd ["_law_events"] spText := by
  refine F.ok sc_text (fun vs H Q E h => ?_) (fun cdv A outer s H vs Q E hr h => ?_)
  · obtain ⟨r, vs', es, rfl, _⟩ := h
    rfl
  · obtain ⟨r, vs', es, rfl, hr0, hes, hn, hok, q⟩ := h
    refine ⟨_, (pss_one (ps_ret (pe_join pe_str (pe_lc (own := [("_law_event_here", 1)]) (g := gName 1) (tt := tYes) (te := teText K) rfl sc_text.nd (pi_list (pv 0)) (blkOk_by (own := [("_law_event_here", 1)]) (N := n_text) (sc := defScope s_text) (by decide +kernel)) (fun _ _ _ _ _ => (pg_name (i := 1) sc_text.nd rfl (.inl rfl))) (fun _ _ _ _ _ => pts_nil)
      (fun _ _ _ _ _ => (pe_ifExp (pt_cmpR op_gt (pe_callB call_len_seq (by rfl) T.n_len (by decide +kernel) (pa_cons (pv 1) pa_nil)) pe_int (nomark _)) (pe_op op_add_str (pe_op op_add_str (pe_ix ix_tup (pv 1) pe_int (fun _ _ => rfl)) pe_str) (pe_callTy call_str_int (by rfl) T.n_str (by decide +kernel) (pa_cons (pe_ix ix_tup (pv 1) pe_int (fun _ _ => rfl)) pa_nil))) pe_str)))))), ?_⟩
    refine ⟨⟨_, rfl⟩, _, rfl, r, rfl, ⟨_, SqL.of hr0⟩, fun D nD => ?_⟩
    refine lc_list (K := K) (a := r) (xs := vs') (fun i Hi => (∀ b o, b ≠ D → H b = some o → Hi b = some o) ∧ Hi D = some (.lst (((es.take i).map wordS).map V.str)))
      ⟨fun b o z e => by rw [upd_ne z]; exact e, upd_same⟩ (fun i Hi _ p => SqL.of (p.1 _ _ (ne_of_none hr0 nD) hr0)) (fun i x Hi hx p => ?_) (fun Hi p => ?_)
    · obtain ⟨e, he, a, rfl, ha⟩ := hes.get hx
      have ha' : Hi a = some (.tup (evV e)) := p.1 _ _ (ne_of_none ha nD) ha
      have hoke := hok e (List.mem_of_getElem? he)
      have hi : i < es.length := (List.getElem?_eq_some_iff.mp he).1
      have fin : ∀ acc : List Str, acc = (es.take i).map wordS → Hi D = some (.lst (acc.map V.str)) → ∃ acc' : List V, Hi D = some (.lst acc') ∧ acc'.length < sizeLine ∧ ((∀ b o, b ≠ D → H b = some o → upd Hi D (.lst (acc' ++ [.str (wordS e)])) b = some o) ∧ upd Hi D (.lst (acc' ++ [.str (wordS e)])) D = some (.lst (((es.take (i + 1)).map wordS).map V.str))) := by
        intro acc ea eD
        refine ⟨_, eD, ?_, fun b o z h => by rw [upd_ne z]; exact p.1 _ _ z h, ?_⟩
        · rw [List.length_map, ea, List.length_map, List.length_take]
          exact small1000 (by omega)
        · rw [upd_same, take_snoc he, ea, List.map_append, List.map_append]
          rfl
      refine ⟨rfl, keep1' ?_⟩
      match e, ha', hoke, fin with
      | none, ha', hoke, fin =>
        refine ⟨_, rfl, a, _, rfl, .inr (SqT.of ha'), _, _, rfl, rfl, _, rfl, iteF ?_⟩
        exact fin _ rfl p.2
      | some (z, m), ha', hoke, fin =>
        refine ⟨_, rfl, a, _, rfl, .inr (SqT.of ha'), _, _, rfl, rfl, _, rfl, iteT ?_⟩
        have h1 := name_len hoke.1
        have h2 := num_len hoke.2
        have h3 : (":" : Str).length = 1 := by decide +kernel
        refine ⟨_, rfl, a, _, _, _, rfl, rfl, SqT.of ha', atI_nat (j := 1) rfl, _, _, rfl, rfl, by rw [sizeLine_eq]; omega, ?_⟩
        refine ⟨_, rfl, a, _, _, _, rfl, rfl, SqT.of ha', atI_nat (j := 2) rfl, ?_⟩
        refine ⟨_, rfl, ?_, _, _, rfl, rfl, by rw [len_app, sizeLine_eq]; omega, ?_⟩
        · have := hoke.2
          rw [Int.natAbs_natCast]
          by_cases hm : m = 0
          · rw [hm]
            decide
          · exact Nat.lt_of_lt_of_le ((Nat.log2_lt hm).mpr (Nat.lt_of_lt_of_le this (by decide : 10 ^ 9 ≤ 2 ^ 30))) (by decide)
        exact fin _ rfl p.2
    · have hlen := hes.length
      refine ⟨_, D, es.map wordS, rfl, rfl, .inl (SqL.of ?_), ?_, ?_⟩
      · have e := p.2
        rw [hlen, List.take_length] at e
        exact e
      · have h1 := words_len hok
        have h2 : (" " : Str).length = 1 := by decide +kernel
        rw [h2, List.length_map]
        omega
      · exact q Hi fun b o e => p.1 b o (ne_of_none e nD) e
end
end K2

set_option linter.all false
set_option maxRecDepth 100000
set_option maxHeartbeats 8000000
namespace K2
open PySem PySem.Spec PyProof.Rows L2
/-! ### names and figures, as the law finds them -/
abbrev s_lname : Stmt := topS 22
abbrev n_lname : List Str := ["_law_word", "_law_letters", "_law_sign"]
theorem sc_lname : FnScope n_lname ["_law_word"] (defScope s_lname) := ⟨rfl, rfl, rfl, by decide +kernel, rfl, by decide +kernel, by decide +kernel⟩
/-- plain signs -/
def Asc (z : Str) : Prop := ∀ c ∈ z.cps.toList, c < 256
theorem in3 (z a b c : Str) : inV (.str z) [.str a, .str b, .str c] = (decide (a = z) || (decide (b = z) || decide (c = z))) := by
  show ((a == z) || ((b == z) || ((c == z) || false))) = _
  rw [Bool.or_false]
  rfl
theorem depth_strs : ∀ ss : List Str, PyData.depthAll (ss.map PyData.str) = 0
  | [] => rfl
  | x :: ss => by
    rw [List.map_cons]
    unfold PyData.depthAll
    rw [depth_strs ss]
    rfl
theorem shaped_strs {ss : List Str} (h : ∀ z ∈ ss, Asc z) : SeqAt.shaped (.list (ss.map PyData.str)) = true := by
  unfold SeqAt.shaped
  rw [Bool.and_eq_true]
  refine ⟨?_, decide_eq_true ?_⟩
  · show PyData.canLayAll0 _ = true
    rw [canLayAll_strs', List.all_eq_true]
    intro z hz
    show z.cps.all _ = true
    rw [← Array.all_toList, List.all_eq_true]
    intro c hc
    have := h z hz c hc
    exact decide_eq_true (by omega)
  · unfold PyData.depth
    rw [depth_strs]
    decide
theorem dp_strs {K : PySem.W.Frag} {H : Hp} : ∀ ss : List Str, DpAll K H (ss.map V.str) (ss.map PyData.str)
  | [] => .nil
  | x :: ss => .cons (.str x) (dp_strs ss)
theorem eqv_nil (ss : List Str) : PyData.eqv (.list (ss.map PyData.str)) (.list []) = ss.isEmpty := by
  cases ss with
  | nil => rfl
  | cons x ss => rfl
def signs (L : List Nat) : List Str := L.map fun c => ⟨#[c]⟩
theorem nameB_eq (z : Str) : nameB z = (!(decide ("any" = z) || (decide ("other" = z) || decide ("where" = z))) && (decide (0 < z.length) && (decide (z.length < 9) && z.cps.toList.all fun c => decide (97 ≤ c) && decide (c ≤ 122)))) := by
  unfold nameB
  have e1 : decide (z = "any") = decide ("any" = z) := decide_eq_decide.mpr eq_comm
  have e2 : decide (z = "other") = decide ("other" = z) := decide_eq_decide.mpr eq_comm
  have e3 : decide (z = "where") = decide ("where" = z) := decide_eq_decide.mpr eq_comm
  rw [e1, e2, e3]
  show (decide (0 < z.length) && (decide (z.length < 9) && _)) = _
  generalize decide (0 < z.length) = a
  generalize decide (z.length < 9) = b
  generalize (z.cps.toList.all fun c => decide (97 ≤ c) && decide (c ≤ 122)) = c
  generalize decide ("any" = z) = x
  generalize decide ("other" = z) = y
  generalize decide ("where" = z) = u
  cases a <;> cases b <;> cases c <;> cases x <;> cases y <;> cases u <;> rfl
theorem letters_mem (c : Nat) : (c ∈ ("abcdefghijklmnopqrstuvwxyz" : Str).cps.toList) ↔ 97 ≤ c ∧ c ≤ 122 := by
  constructor
  · intro h
    exact (by decide +kernel : ∀ x ∈ ("abcdefghijklmnopqrstuvwxyz" : Str).cps.toList, 97 ≤ x ∧ x ≤ 122) c h
  · intro ⟨h1, h2⟩
    have h := letters_at (c - 97) (by omega)
    rw [show 97 + (c - 97) = c from by omega] at h
    exact List.mem_of_getElem? h
theorem filter_nil {L : List Nat} {p q : Nat → Bool} (h : ∀ c ∈ L, p c = !q c) : (signs (L.filter p)).isEmpty = L.all q := by
  induction L with
  | nil => rfl
  | cons c L ih =>
    rw [List.filter_cons, List.all_cons]
    have hc := h c (List.mem_cons_self ..)
    have := ih fun x hx => h x (List.mem_cons_of_mem _ hx)
    cases hq : q c with
    | true =>
      rw [hq] at hc
      rw [hc]
      exact this
    | false =>
      rw [hq] at hc
      rw [hc]
      rfl
def spIs (B : Str → Bool) : Sp := fun vs H Q _ => ∃ z : Str, vs = [.str z] ∧ z.length ≤ 1000 ∧ Asc z ∧ ∀ H' : Hp, Same H H' → Q (.bl (B z)) H'
def ttNot (j : Nat) : TT := tTest (tOp (fun x y H Q => ∃ (c : Nat) (z : Str), x = .str ⟨#[c]⟩ ∧ y = .str z ∧ Q (.bl (!decide (c ∈ z.cps.toList))) H) (tVar 2) (tVar 1))
section
variable {P : Program} {w : World} {K : PySem.W.Frag} {mg : Str → Option Value} {base : Heap}
theorem ok_lname {f : Addr} {fd : FuncData} (F : Fun K "_law_is_name" "_law_is_name" s_lname f fd) (n_len : mg "len" = none) : FnOk P w K mg base CX0 1 f fd ["_law_word"] (spIs nameB) := by
  refine F.ok sc_lname (fun vs H Q E h => ?_) (fun cdv A outer s H vs Q E hr h => ?_)
  · obtain ⟨z, rfl, _⟩ := h
    rfl
  · obtain ⟨z, rfl, hz, hA, q⟩ := h
    have hu64 := hr.units
    refine ⟨_, pss_cons (ps_set (i := 1) sc_lname.nd rfl (.inr rfl) pe_str)
      (pss_cons (ps_if (PW.pt (pw_or (pt_cmpR op_in_seq (pv 0) (pe_tup (pa_cons pe_str (pa_cons pe_str (pa_cons pe_str pa_nil)))) (by rfl)) (pw_or1 (pt_not (pt_chain op_lt op_lt pe_int (pe_callB call_len_str (by rfl) n_len (by decide +kernel) (pa_cons (pv 0) pa_nil)) pe_int))))) (pss_one (ps_ret pe_bl)) pss_nil)
      (pss_one (ps_ret (pe_cmpR (op_eqD hu64) (pe_lc (own := [("_law_sign", 2)]) (g := gName 2) (tt := ttNot 2) rfl sc_lname.nd (pi_str (pv 0)) (blkOk_by (own := [("_law_sign", 2)]) (N := n_lname) (sc := defScope s_lname) (by decide +kernel)) (fun _ _ _ _ _ => (pg_name (i := 2) sc_lname.nd rfl (.inl rfl))) (fun _ _ _ _ _ => pts_one (pt_cmpR op_notIn_sign (pv 2) (pv 1) (by rfl))) (fun _ _ _ _ _ => (pv 2))) (pe_lst pa_nil) (nomark _))))), ?_⟩
    have hz' : z.length ≤ sizeLine := Nat.le_of_lt (small1000 hz)
    refine ⟨_, rfl, (by show 3 ≤ sizeLine; decide), fun t nt => ?_⟩
    have S1 := new_same (o := .tup [.str "any", .str "other", .str "where"]) nt
    refine ⟨t, _, rfl, .inr (SqT.of upd_same), rfl, by decide, _, rfl, ite2 (fun hin => ?_) (fun hin => ?_)⟩
    · have e : nameB z = false := by
        rw [nameB_eq, ← in3, show inV (V.str z) [.str "any", .str "other", .str "where"] = true from hin]
        rfl
      rw [e] at q
      exact iteT (q _ S1)
    have hin2 : inV (V.str z) [.str "any", .str "other", .str "where"] = false := Bool.eq_false_iff.mpr hin
    refine ⟨_, rfl, z, rfl, hz', _, _, rfl, rfl, _, rfl, ite2 (fun h0 => ?_) (fun h0 => ?_)⟩
    · have h0' : 0 < z.length := by
        have := of_decide_eq_true h0
        omega
      refine ⟨_, _, rfl, rfl, _, rfl, ite2 (fun h1 => ?_) (fun h1 => ?_)⟩
      · have e : nameB z = false := by
          have h2 : ¬ z.length < 9 := fun h => by
            have h3 : decide ((z.length : Int) < 9) = true := decide_eq_true (by omega)
            rw [h3] at h1
            cases h1
          rw [nameB_eq, decide_eq_false h2, Bool.false_and, Bool.and_false, Bool.and_false]
        rw [e] at q
        exact q _ S1
      · have h9 : z.length < 9 := by
          by_cases h : z.length < 9
          · exact h
          · exfalso
            apply h1
            rw [decide_eq_false (by omega)]
            rfl
        have eN : nameB z = z.cps.toList.all fun c => decide (97 ≤ c) && decide (c ≤ 122) := by
          rw [nameB_eq, ← in3, hin2, decide_eq_true h0', decide_eq_true h9]
          rfl
        refine ⟨_, rfl, z, rfl, fun D nD => ?_⟩
        refine lc_it walk_str (fun i Hi => (∀ b o, b ≠ D → upd H t (.tup [.str "any", .str "other", .str "where"]) b = some o → Hi b = some o) ∧ Hi D = some (.lst ((signs ((z.cps.toList.take i).filter fun c => !decide (c ∈ ("abcdefghijklmnopqrstuvwxyz" : Str).cps.toList))).map V.str)))
          ⟨fun b o x e => by rw [upd_ne x]; exact e, upd_same⟩ (fun _ _ _ _ => True.intro) (fun i x Hi Hj hi p y => ?_) (fun Hi p => ?_)
        · obtain ⟨rfl, c, hc, rfl⟩ := y
          have hcl : z.cps.toList[i]? = some c := by rw [Array.getElem?_toList]; exact hc
          refine ⟨rfl, _, rfl, _, rfl, c, _, rfl, rfl, _, rfl, ite2 (fun hb => ?_) (fun hb => ?_)⟩
          · refine ⟨_, rfl, _, p.2, ?_, fun b o x e => by rw [upd_ne x]; exact p.1 b o x e, ?_⟩
            · rw [List.length_map]
              unfold signs
              rw [List.length_map]
              have h1 := List.length_filter_le (fun c => !decide (c ∈ ("abcdefghijklmnopqrstuvwxyz" : Str).cps.toList)) (z.cps.toList.take i)
              rw [List.length_take] at h1
              exact small1000 (Nat.le_trans h1 (Nat.le_trans (Nat.min_le_right _ _) hz))
            · rw [upd_same, take_snoc hcl, List.filter_append, List.filter_cons, hb]
              unfold signs
              rw [List.map_append, List.map_append]
              rfl
          · refine ⟨p.1, ?_⟩
            have hb' : (!decide (c ∈ ("abcdefghijklmnopqrstuvwxyz" : Str).cps.toList)) = false := Bool.eq_false_iff.mpr hb
            rw [take_snoc hcl, List.filter_append, List.filter_cons, hb']
            show _ = some (HO.lst ((signs (_ ++ [])).map V.str))
            rw [List.append_nil]
            exact p.2
        · refine ⟨Nat.zero_le _, fun e0 n0 => ?_⟩
          have eD := p.2
          rw [show z.cps.size = z.cps.toList.length from rfl, List.take_length] at eD
          have hF : ∀ x ∈ signs (z.cps.toList.filter fun c => !decide (c ∈ ("abcdefghijklmnopqrstuvwxyz" : Str).cps.toList)), Asc x := fun x hx => by
            obtain ⟨c, hc, rfl⟩ := List.mem_map.mp hx
            intro d hd
            rw [List.mem_singleton.mp hd]
            exact hA c (List.mem_filter.mp hc).1
          refine ⟨_, .list [], .lst (SqL.of (new_same n0 _ _ eD)) (dp_strs _), .lst (SqL.of upd_same) .nil, shaped_strs hF, rfl, ?_⟩
          rw [eqv_nil, filter_nil (q := fun c => decide (97 ≤ c) && decide (c ≤ 122)) (fun c _ => by
            congr 1
            rw [← Bool.decide_and]
            exact decide_eq_decide.mpr (letters_mem c)), ← eN]
          refine q _ fun b o e => new_same n0 _ _ (p.1 b o (fun x => ?_) (S1 b o e))
          rw [x] at e
          rw [S1 _ _ e] at nD
          cases nD
    · have e : nameB z = false := by
        have h2 : ¬ 0 < z.length := fun h => h0 (decide_eq_true (by omega))
        rw [nameB_eq, decide_eq_false h2, Bool.false_and, Bool.and_false]
      rw [e] at q
      exact ⟨_, rfl, iteT (q _ S1)⟩
end
end K2

set_option linter.all false
set_option maxRecDepth 100000
set_option maxHeartbeats 8000000
namespace K2
open PySem PySem.Spec PyProof.Rows L2
/-- a figure -/
def figB (z : Str) : Bool := decide (0 < z.length) && (decide (z.length < 13) && ((z.cps.toList.all fun c => decide (48 ≤ c) && decide (c ≤ 57)) && (decide (z = "0") || !decide (z.cps.toList[0]? = some 48))))
theorem digits_mem (c : Nat) : (c ∈ ("0123456789" : Str).cps.toList) ↔ 48 ≤ c ∧ c ≤ 57 := by
  constructor
  · intro h
    exact (by decide +kernel : ∀ x ∈ ("0123456789" : Str).cps.toList, 48 ≤ x ∧ x ≤ 57) c h
  · intro ⟨h1, h2⟩
    have h := (by decide +kernel : ∀ i, i < 10 → ("0123456789" : Str).cps.toList[i]? = some (48 + i)) (c - 48) (by omega)
    rw [show 48 + (c - 48) = c from by omega] at h
    exact List.mem_of_getElem? h
abbrev s_lfig : Stmt := topS 23
abbrev n_lfig : List Str := ["_law_word", "_law_sign"]
theorem sc_lfig : FnScope n_lfig ["_law_word"] (defScope s_lfig) := ⟨rfl, rfl, rfl, by decide +kernel, rfl, by decide +kernel, by decide +kernel⟩
def ttDig : TT := tTest (tOp (fun x y H Q => ∃ (c : Nat) (z : Str), x = .str ⟨#[c]⟩ ∧ y = .str z ∧ Q (.bl (!decide (c ∈ z.cps.toList))) H) (tVar 1) (tC (.str "0123456789")))
section
variable {P : Program} {w : World} {K : PySem.W.Frag} {mg : Str → Option Value} {base : Heap}
theorem ok_lfig {f : Addr} {fd : FuncData} (F : Fun K "_law_is_figure" "_law_is_figure" s_lfig f fd) (n_len : mg "len" = none) : FnOk P w K mg base CX0 1 f fd ["_law_word"] (spIs figB) := by
  refine F.ok sc_lfig (fun vs H Q E h => ?_) (fun cdv A outer s H vs Q E hr h => ?_)
  · obtain ⟨z, rfl, _⟩ := h
    rfl
  · obtain ⟨z, rfl, hz, hA, q⟩ := h
    have hu64 := hr.units
    refine ⟨_, pss_cons (ps_if (PW.pt (pw_or (pt_not (pt_chain op_lt op_lt pe_int (pe_callB call_len_str (by rfl) n_len (by decide +kernel) (pa_cons (pv 0) pa_nil)) pe_int))
        (pw_or1 (pt_cmpR (op_neD hu64) (pe_lc (own := [("_law_sign", 1)]) (g := gName 1) (tt := ttDig) rfl sc_lfig.nd (pi_str (pv 0)) (blkOk_by (own := [("_law_sign", 1)]) (N := n_lfig) (sc := defScope s_lfig) (by decide +kernel)) (fun _ _ _ _ _ => (pg_name (i := 1) sc_lfig.nd rfl (.inl rfl))) (fun _ _ _ _ _ => pts_one (pt_cmpR op_notIn_sign (pv 1) pe_str (by rfl))) (fun _ _ _ _ _ => (pv 1))) (pe_lst pa_nil) (nomark _))))) (pss_one (ps_ret pe_bl)) pss_nil)
      (pss_one (ps_ret (pe_or (pe_cmpR op_eq (pv 0) pe_str (nomark _)) (pe_one (pe_cmpR op_ne (pe_ix ix_str (pv 0) pe_int (fun _ _ => rfl)) pe_str (nomark _)))))), ?_⟩
    have hz' : z.length ≤ sizeLine := Nat.le_of_lt (small1000 hz)
    refine ⟨_, rfl, z, rfl, hz', _, _, rfl, rfl, _, rfl, ite2 (fun h0 => ?_) (fun h0 => ?_)⟩
    · have h0' : 0 < z.length := by
        have := of_decide_eq_true h0
        omega
      refine ⟨_, _, rfl, rfl, _, rfl, ite2 (fun h1 => ?_) (fun h1 => ?_)⟩
      · have e : figB z = false := by
          have h2 : ¬ z.length < 13 := fun h => by
            have h3 : decide ((z.length : Int) < 13) = true := decide_eq_true (by omega)
            rw [h3] at h1
            cases h1
          unfold figB
          rw [decide_eq_false h2, Bool.false_and, Bool.and_false]
        rw [e] at q
        exact iteT (q _ (Same.refl H))
      · have h9 : z.length < 13 := by
          by_cases h : z.length < 13
          · exact h
          · exfalso
            apply h1
            rw [decide_eq_false (by omega)]
            rfl
        refine ⟨_, rfl, z, rfl, fun D nD => ?_⟩
        refine lc_it walk_str (fun i Hi => (∀ b o, b ≠ D → H b = some o → Hi b = some o) ∧ Hi D = some (.lst ((signs ((z.cps.toList.take i).filter fun c => !decide (c ∈ ("0123456789" : Str).cps.toList))).map V.str)))
          ⟨fun b o x e => by rw [upd_ne x]; exact e, upd_same⟩ (fun _ _ _ _ => True.intro) (fun i x Hi Hj hi p y => ?_) (fun Hi p => ?_)
        · obtain ⟨rfl, c, hc, rfl⟩ := y
          have hcl : z.cps.toList[i]? = some c := by rw [Array.getElem?_toList]; exact hc
          refine ⟨rfl, _, rfl, c, _, rfl, rfl, _, rfl, ite2 (fun hb => ?_) (fun hb => ?_)⟩
          · refine ⟨_, rfl, _, p.2, ?_, fun b o x e => by rw [upd_ne x]; exact p.1 b o x e, ?_⟩
            · rw [List.length_map]
              unfold signs
              rw [List.length_map]
              have h1 := List.length_filter_le (fun c => !decide (c ∈ ("0123456789" : Str).cps.toList)) (z.cps.toList.take i)
              rw [List.length_take] at h1
              exact small1000 (Nat.le_trans h1 (Nat.le_trans (Nat.min_le_right _ _) hz))
            · rw [upd_same, take_snoc hcl, List.filter_append, List.filter_cons, hb]
              unfold signs
              rw [List.map_append, List.map_append]
              rfl
          · refine ⟨p.1, ?_⟩
            have hb' : (!decide (c ∈ ("0123456789" : Str).cps.toList)) = false := Bool.eq_false_iff.mpr hb
            rw [take_snoc hcl, List.filter_append, List.filter_cons, hb']
            show _ = some (HO.lst ((signs (_ ++ [])).map V.str))
            rw [List.append_nil]
            exact p.2
        · refine ⟨Nat.zero_le _, fun e0 n0 => ?_⟩
          have eD := p.2
          rw [show z.cps.size = z.cps.toList.length from rfl, List.take_length] at eD
          have hF : ∀ x ∈ signs (z.cps.toList.filter fun c => !decide (c ∈ ("0123456789" : Str).cps.toList)), Asc x := fun x hx => by
            obtain ⟨c, hc, rfl⟩ := List.mem_map.mp hx
            intro d hd
            rw [List.mem_singleton.mp hd]
            exact hA c (List.mem_filter.mp hc).1
          have eN : PyData.eqv (.list ((signs (z.cps.toList.filter fun c => !decide (c ∈ ("0123456789" : Str).cps.toList))).map PyData.str)) (.list []) = z.cps.toList.all fun c => decide (48 ≤ c) && decide (c ≤ 57) := by
            rw [eqv_nil]
            exact filter_nil (q := fun c => decide (48 ≤ c) && decide (c ≤ 57)) (fun c _ => by
              congr 1
              rw [← Bool.decide_and]
              exact decide_eq_decide.mpr (digits_mem c))
          have S9 : Same H (upd Hi e0 (.lst [])) := fun b o e => new_same n0 _ _ (p.1 b o (ne_of_none e nD) e)
          refine ⟨_, .list [], .lst (SqL.of (new_same n0 _ _ eD)) (dp_strs _), .lst (SqL.of upd_same) .nil, shaped_strs hF, rfl, _, rfl, ite2 (fun hb => ?_) (fun hb => ?_)⟩
          · rw [eN] at hb
            have e : figB z = false := by
              unfold figB
              rw [show (z.cps.toList.all fun c => decide (48 ≤ c) && decide (c ≤ 57)) = false from by simpa using hb, Bool.false_and, Bool.and_false, Bool.and_false]
            rw [e] at q
            exact q _ S9
          · rw [eN] at hb
            have ed : (z.cps.toList.all fun c => decide (48 ≤ c) && decide (c ≤ 57)) = true := by
              cases h : (z.cps.toList.all fun c => decide (48 ≤ c) && decide (c ≤ 57)) with
              | true => rfl
              | false => rw [h] at hb; exact absurd rfl hb
            have eF : figB z = (decide (z = "0") || !decide (z.cps.toList[0]? = some 48)) := by
              unfold figB
              rw [ed, decide_eq_true h0', decide_eq_true h9]
              rfl
            obtain ⟨c, hc⟩ : ∃ c, z.cps.toList[0]? = some c := ⟨_, List.getElem?_eq_getElem (show 0 < z.cps.toList.length from h0')⟩
            refine ⟨_, rfl, rfl, _, rfl, ite2 (fun hb2 => ?_) (fun hb2 => ?_)⟩
            · have h5 : z = "0" := V.str.inj (of_decide_eq_true hb2)
              rw [eF, decide_eq_true h5, Bool.true_or] at q
              exact q _ S9
            · have h5 : ¬ z = "0" := fun h => hb2 (decide_eq_true (congrArg V.str h))
              rw [eF, decide_eq_false h5, Bool.false_or, hc] at q
              refine ⟨_, rfl, z, _, c, rfl, rfl, hz', atI_nat (j := 0) hc, rfl, ?_⟩
              have h6 : decide (V.str ⟨#[c]⟩ = V.str "0") = decide (some c = some 48) := decide_eq_decide.mpr ⟨fun h => by
                have h7 : (⟨#[c]⟩ : Str) = "0" := V.str.inj h
                have h8 : (⟨#[c]⟩ : Str).cps.toList[0]? = some 48 := by rw [h7]; decide +kernel
                exact h8, fun h => by
                cases h
                exact congrArg V.str (by decide +kernel)⟩
              rw [h6]
              exact q _ S9
    · have e : figB z = false := by
        have h2 : ¬ 0 < z.length := fun h => h0 (decide_eq_true (by omega))
        unfold figB
        rw [decide_eq_false h2, Bool.false_and]
      rw [e] at q
      exact ⟨_, rfl, iteT (iteT (q _ (Same.refl H)))⟩
end
end K2

set_option linter.all false
set_option maxRecDepth 100000
set_option maxHeartbeats 8000000
namespace K2
open PySem PySem.Spec PyProof.Rows L2
/-! ### the event that a word writes -/
def mkS (L : List Nat) : Str := ⟨L.toArray⟩
/-- at the first colon -/
def cut : List Nat → Option (List Nat × List Nat)
  | [] => none
  | c :: r => if c = 58 then some ([], r) else (cut r).map fun p => (c :: p.1, p.2)
theorem cut_some : ∀ {L a b : List Nat}, cut L = some (a, b) → L = a ++ 58 :: b ∧ 58 ∉ a
  | [], _, _, h => by cases h
  | c :: r, a, b, h => by
    unfold cut at h
    by_cases hc : c = 58
    · rw [if_pos hc] at h
      cases h
      exact ⟨by rw [hc]; rfl, by simp⟩
    · rw [if_neg hc] at h
      obtain ⟨p, hp, e⟩ := Option.map_eq_some_iff.mp h
      cases e
      obtain ⟨h1, h2⟩ := cut_some (L := r) (a := p.1) (b := p.2) hp
      refine ⟨by rw [h1]; rfl, fun hm => ?_⟩
      rcases List.mem_cons.mp hm with hm | hm
      · exact hc hm.symm
      · exact h2 hm
theorem cut_none : ∀ {L : List Nat}, cut L = none → 58 ∉ L
  | [], _ => by simp
  | c :: r, h => by
    unfold cut at h
    by_cases hc : c = 58
    · rw [if_pos hc] at h
      cases h
    · rw [if_neg hc] at h
      have h1 := cut_none (L := r) (Option.map_eq_none_iff.mp h)
      intro hm
      rcases List.mem_cons.mp hm with hm | hm
      · exact hc hm.symm
      · exact h1 hm
theorem colon : (":" : Str) = ⟨#[58]⟩ := by decide +kernel
theorem find_cut (z : Str) : (cut z.cps.toList = none ∧ Txt.find z ":" = -1) ∨ ∃ a b, cut z.cps.toList = some (a, b) ∧ Txt.find z ":" = (a.length : Nat) := by
  rw [colon]
  unfold Txt.find
  have at_iff : ∀ i, PySem.StrLaws.At z ⟨#[58]⟩ z.length i ↔ z.cps.toList[i]? = some 58 := fun i => PySem.StrLaws.subAt_one z 58 i
  rcases PySem.StrLaws.occ_head z ⟨#[58]⟩ 1 (by decide) with ⟨h0, hn⟩ | ⟨i, r, h0, hi, hk⟩
  · rw [h0]
    refine .inl ⟨?_, rfl⟩
    cases hc : cut z.cps.toList with
    | none => rfl
    | some p =>
      obtain ⟨h1, _⟩ := cut_some (a := p.1) (b := p.2) hc
      exact absurd ((at_iff p.1.length).mpr (by rw [h1]; simp)) (hn _)
  · rw [h0]
    have hi' := (at_iff i).mp hi
    cases hc : cut z.cps.toList with
    | none => exact absurd (List.mem_of_getElem? hi') (cut_none hc)
    | some p =>
      obtain ⟨h1, h2⟩ := cut_some (a := p.1) (b := p.2) hc
      refine .inr ⟨p.1, p.2, rfl, ?_⟩
      show ((i : Nat) : Int) = _
      have e : i = p.1.length := by
        rcases Nat.lt_trichotomy i p.1.length with h | h | h
        · rw [h1, List.getElem?_append_left h] at hi'
          exact absurd (List.mem_of_getElem? hi') h2
        · exact h
        · exact absurd ((at_iff p.1.length).mpr (by rw [h1]; simp)) (hk _ h)
      rw [e]
def evOf (z : Str) : Option Ev := if z = "/" then some none else match cut z.cps.toList with
  | none => none
  | some (a, b) => if (nameB (mkS a) && figB (mkS b)) = true then some (some (mkS a, NumText.digitsVal b)) else none
end K2

set_option linter.all false
set_option maxRecDepth 100000
set_option maxHeartbeats 8000000
namespace K2
open PySem PySem.Spec PyProof.Rows L2
/-- None, or an event -/
def OptAt (H : Hp) (v : V) : Option Ev → Prop
  | none => v = .non
  | some e => EvAt H v e
def spEvent : Sp := fun vs H Q _ => ∃ z : Str, vs = [.str z] ∧ z.length ≤ 1000 ∧ Asc z ∧ ∀ (v : V) (H' : Hp), Same H H' → OptAt H' v (evOf z) → Q v H'
theorem mkS_len (L : List Nat) : (mkS L).length = L.length := rfl
theorem cut_lo {z : Str} {a b : List Nat} (h : z.cps.toList = a ++ 58 :: b) : cutS z none (some ((a.length : Nat) : Int)) = mkS a := by
  unfold cutS mkS
  rw [HT.sIx_none, HT.sIx_nat, List.drop_zero, Nat.sub_zero]
  have hl : z.length = a.length + (b.length + 1) := by
    show z.cps.toList.length = _
    rw [h, List.length_append, List.length_cons]
  rw [hl, Nat.min_eq_left (by omega), h, List.take_left' rfl]
theorem cut_hi {z : Str} {a b : List Nat} (h : z.cps.toList = a ++ 58 :: b) : cutS z (some (((a.length : Nat) : Int) + 1)) none = mkS b := by
  unfold cutS mkS
  have hl : z.length = a.length + (b.length + 1) := by
    show z.cps.toList.length = _
    rw [h, List.length_append, List.length_cons]
  rw [show ((a.length : Nat) : Int) + 1 = ((a.length + 1 : Nat) : Int) from by omega, HT.sIx_none, HT.sIx_nat, hl, Nat.min_eq_left (by omega), h]
  have e1 : (a ++ 58 :: b).drop (a.length + 1) = b := by
    rw [show a ++ 58 :: b = (a ++ [58]) ++ b from by simp]
    exact List.drop_left' (by simp)
  rw [e1, List.take_of_length_le (by omega)]
theorem fig_int {b : List Nat} (h : figB (mkS b) = true) : PySem.intText? (mkS b) = some ((NumText.digitsVal b : Nat) : Int) ∧ b.length ≤ 640 := by
  unfold figB at h
  simp only [Bool.and_eq_true, decide_eq_true_eq] at h
  obtain ⟨h1, h2, h3, _⟩ := h
  rw [mkS_len] at h1 h2
  exact ⟨SX.int_S (a := b) h3 (fun e => by rw [e] at h1; exact absurd h1 (by decide)) (by omega), by omega⟩
theorem evOf_none {z : Str} (h0 : ¬ z = "/") (hc : cut z.cps.toList = none) : evOf z = none := by
  unfold evOf
  rw [if_neg h0, hc]
theorem evOf_some {z : Str} {a b : List Nat} (h0 : ¬ z = "/") (hc : cut z.cps.toList = some (a, b)) : evOf z = if (nameB (mkS a) && figB (mkS b)) = true then some (some (mkS a, NumText.digitsVal b)) else none := by
  unfold evOf
  rw [if_neg h0, hc]
abbrev s_levent : Stmt := topS 24
abbrev n_levent : List Str := ["_law_word", "_law_spot"]
theorem sc_levent : FnScope n_levent ["_law_word"] (defScope s_levent) := ⟨rfl, rfl, rfl, by decide +kernel, rfl, by decide +kernel, by decide +kernel⟩
structure NmE (mg : Str → Option Value) (K : PySem.W.Frag) (fn ff : Addr) : Prop where
  g__law_is_name : mg "_law_is_name" = some (.ref fn)
  k__law_is_name : PySem.W.keepIn K (.ref fn) = true
  g__law_is_figure : mg "_law_is_figure" = some (.ref ff)
  k__law_is_figure : PySem.W.keepIn K (.ref ff) = true
  n_int : mg "int" = none
section
variable {P : Program} {w : World} {K : PySem.W.Frag} {mg : Str → Option Value} {base : Heap}
theorem ok_levent {f fn ff : Addr} {fd fdn fdf : FuncData} (F : Fun K "_law_event" "_law_event" s_levent f fd) (T : NmE mg K fn ff)
    (G__law_is_name : FnOk P w K mg base CX0 1 fn fdn ["_law_word"] (spIs nameB)) (b__law_is_name : Binds K fdn ["_law_word"] [])
    (G__law_is_figure : FnOk P w K mg base CX0 1 ff fdf ["_law_word"] (spIs figB)) (b__law_is_figure : Binds K fdf ["_law_word"] []) : FnOk P w K mg base CX0 2 f fd ["_law_word"] spEvent := by
  refine F.ok sc_levent (fun vs H Q E h => ?_) (fun cdv A outer s H vs Q E hr h => ?_)
  · obtain ⟨z, rfl, _⟩ := h
    rfl
  · obtain ⟨z, rfl, hz, hA, q⟩ := h
    refine ⟨_, (pss_cons (ps_if (pt_cmpR op_eq (pv 0) pe_str (nomark _)) (pss_one (ps_ret (pe_tup (pa_cons pe_str pa_nil)))) pss_nil)
  (pss_cons (ps_set (i := 1) sc_levent.nd rfl (.inl rfl) (pe_m1 PySem.F.slot_str_find PySem.F.type_str_find mt_find (pv 0) pe_str))
  (pss_cons (ps_if (PW.pt (pw_or (pt_cmpR op_lt (pv 1) pe_int (nomark _)) (pw_or (pt_not (pt_val (pe_call G__law_is_name hr rfl T.g__law_is_name T.k__law_is_name b__law_is_name .nil pass0 (pa_cons (pe_slice sl_str (pv 0) po_none (po_some (pv 1))) pa_nil)))) (pw_or1 (pt_not (pt_val (pe_call G__law_is_figure hr rfl T.g__law_is_figure T.k__law_is_figure b__law_is_figure .nil pass0 (pa_cons (pe_slice sl_str (pv 0) (po_some (pe_op op_add (pv 1) pe_int)) po_none) pa_nil)))))))) (pss_one (ps_ret pe_non)) pss_nil)
  (pss_one (ps_ret (pe_tup (pa_cons pe_str (pa_cons (pe_slice sl_str (pv 0) po_none (po_some (pv 1))) (pa_cons (pe_callTy call_int_str (by rfl) T.n_int (by decide +kernel) (pa_cons (pe_slice sl_str (pv 0) (po_some (pe_op op_add (pv 1) pe_int)) po_none) pa_nil)) pa_nil))))))))), ?_⟩
    have hz' : z.length ≤ sizeLine := Nat.le_of_lt (small1000 hz)
    refine ⟨_, rfl, rfl, _, rfl, ite2 (fun h0 => ?_) (fun h0 => ?_)⟩
    · have e0 : z = "/" := V.str.inj (of_decide_eq_true h0)
      refine ⟨(by show 1 ≤ sizeLine; decide), fun t nt => q (.ref t) _ (new_same nt) ?_⟩
      unfold evOf
      rw [if_pos e0]
      exact ⟨t, rfl, upd_same⟩
    · have e0 : ¬ z = "/" := fun h => h0 (decide_eq_true (congrArg V.str h))
      refine ⟨_, rfl, ⟨_, rfl⟩, z, ":", rfl, rfl, ?_⟩
      rcases find_cut z with ⟨hc, hf⟩ | ⟨a, b, hc, hf⟩
      · rw [evOf_none e0 hc] at q
        rw [hf]
        refine ⟨_, rfl, _, _, rfl, rfl, _, rfl, iteT (iteT ?_)⟩
        exact q .non H (Same.refl H) rfl
      · rw [evOf_some e0 hc] at q
        rw [hf]
        obtain ⟨hL, hna⟩ := cut_some hc
        have la : a.length < z.length := by
          show _ < z.cps.toList.length
          rw [hL, List.length_append, List.length_cons]
          omega
        have lb : b.length < z.length := by
          show _ < z.cps.toList.length
          rw [hL, List.length_append, List.length_cons]
          omega
        have hAa : Asc (mkS a) := fun c hc => hA c (by rw [hL]; exact List.mem_append_left _ hc)
        have hAb : Asc (mkS b) := fun c hc => hA c (by rw [hL]; exact List.mem_append_right _ (List.mem_cons_of_mem _ hc))
        refine ⟨_, rfl, _, _, rfl, rfl, _, rfl, ?_⟩
        rw [decide_eq_false (by omega)]
        refine iteF ?_
        refine ⟨_, rfl, _, rfl, _, rfl, z, rfl, hz', ?_⟩
        rw [cut_lo hL]
        refine ⟨mkS a, rfl, by rw [mkS_len]; omega, hAa, fun H1 s1 => ⟨_, rfl, ?_⟩⟩
        cases hN : nameB (mkS a) with
        | false =>
          rw [hN, Bool.false_and] at q
          exact iteT (iteT (q .non H1 s1 rfl))
        | true =>
          rw [hN, Bool.true_and] at q
          refine iteF ?_
          refine ⟨_, rfl, _, rfl, _, _, rfl, rfl, _, rfl, z, rfl, hz', ?_⟩
          rw [cut_hi hL]
          refine ⟨mkS b, rfl, by rw [mkS_len]; omega, hAb, fun H2 s2 => ⟨_, rfl, ?_⟩⟩
          have s12 := s1.trans s2
          cases hF : figB (mkS b) with
          | false =>
            rw [hF] at q
            exact iteT (q .non H2 s12 rfl)
          | true =>
            rw [hF] at q
            obtain ⟨hi, hl⟩ := fig_int hF
            refine iteF ?_
            refine ⟨_, rfl, _, rfl, _, rfl, z, rfl, hz', ?_⟩
            rw [cut_lo hL]
            refine ⟨_, rfl, _, rfl, _, _, rfl, rfl, _, rfl, z, rfl, hz', ?_⟩
            rw [cut_hi hL]
            refine ⟨mkS b, _, rfl, hi, hl, (by show 3 ≤ sizeLine; decide), fun t nt => ?_⟩
            exact q (.ref t) _ (s12.trans (new_same nt)) ⟨t, rfl, upd_same⟩
end
end K2

set_option linter.all false
set_option maxRecDepth 100000
set_option maxHeartbeats 8000000
namespace K2
open PySem PySem.Spec PyProof.Rows L2
/-! ### the words of a text, and the events that they write -/
theorem mem_join {y : Str} : ∀ {ps : List Str} {p : Str}, p ∈ ps → ∀ c ∈ p.cps.toList, c ∈ (PySem.Str.join y ps).cps.toList
  | [], _, h => absurd h (by simp)
  | [a], p, h => by
    rw [List.mem_singleton.mp h]
    exact fun c hc => hc
  | a :: b :: r, p, h => by
    intro c hc
    show c ∈ TL.tl (a ++ y ++ PySem.Str.join y (b :: r))
    rw [TL.tl_append, TL.tl_append]
    rcases List.mem_cons.mp h with h | h
    · rw [h] at hc
      exact List.mem_append_left _ (List.mem_append_left _ hc)
    · exact List.mem_append_right _ (mem_join h c hc)
theorem split_asc {z w : Str} (hA : Asc z) (h : w ∈ Txt.split z " ") : Asc w := fun c hc => hA c (by
  have h1 := mem_join (y := " ") h c hc
  rw [PySem.StrLaws.join_split] at h1
  exact h1)
theorem le_sum : ∀ {l : List Nat} {n : Nat}, n ∈ l → n ≤ l.sum
  | [], _, h => absurd h (by simp)
  | a :: l, n, h => by
    rw [List.sum_cons]
    rcases List.mem_cons.mp h with h | h
    · omega
    · have := le_sum h
      omega
theorem split_lens {z w : Str} (h : w ∈ Txt.split z " ") : w.length ≤ z.length := by
  have h1 := split_weight z " " (by decide +kernel)
  have h2 : w.length ≤ ((Txt.split z " ").map (·.length)).sum := le_sum (List.mem_map_of_mem h)
  have h3 := split_pos z " "
  omega
def wordsL (z : Str) : List Str := if z = "" then [] else Txt.split z " "
theorem wordsL_of {z : Str} (h : ¬ z = "") : wordsL z = Txt.split z " " := if_neg h
theorem first_none : ∀ os : List (Option Ev), (∃ es : List Ev, os = es.map some) ∨ ∃ j : Nat, os[j]? = some none ∧ ∀ m : Nat, m < j → ∃ e, os[m]? = some (some e)
  | [] => .inl ⟨[], rfl⟩
  | none :: os => .inr ⟨0, rfl, fun m hm => absurd hm (Nat.not_lt_zero _)⟩
  | some e :: os => by
    rcases first_none os with ⟨es, h⟩ | ⟨j, hj, hm⟩
    · exact .inl ⟨e :: es, by rw [h]; rfl⟩
    · refine .inr ⟨j + 1, hj, fun m h => ?_⟩
      cases m with
      | zero => exact ⟨e, rfl⟩
      | succ m => exact hm m (by omega)
inductive OptsAt (H : Hp) : List V → List (Option Ev) → Prop
  | nil : OptsAt H [] []
  | cons {v : V} {vs : List V} {o : Option Ev} {os : List (Option Ev)} : OptAt H v o → OptsAt H vs os → OptsAt H (v :: vs) (o :: os)
theorem OptAt.mono {H H' : Hp} {v : V} {o : Option Ev} (h : OptAt H v o) (s : ∀ a xs, H a = some (.tup xs) → H' a = some (.tup xs)) : OptAt H' v o := by
  cases o with
  | none => exact h
  | some e => exact EvAt.mono h s
theorem OptsAt.mono {H H' : Hp} {vs : List V} {os : List (Option Ev)} (h : OptsAt H vs os) (s : ∀ a xs, H a = some (.tup xs) → H' a = some (.tup xs)) : OptsAt H' vs os := by
  induction h with
  | nil => exact .nil
  | cons a _ ih => exact .cons (a.mono s) ih
theorem OptsAt.snoc {H : Hp} {vs : List V} {os : List (Option Ev)} {v : V} {o : Option Ev} (h : OptsAt H vs os) (k : OptAt H v o) : OptsAt H (vs ++ [v]) (os ++ [o]) := by
  induction h with
  | nil => exact .cons k .nil
  | cons a _ ih => exact .cons a ih
theorem OptsAt.len {H : Hp} {vs : List V} {os : List (Option Ev)} (h : OptsAt H vs os) : vs.length = os.length := by
  induction h with
  | nil => rfl
  | cons _ _ ih => rw [List.length_cons, List.length_cons, ih]
theorem OptsAt.all {H : Hp} : ∀ {vs : List V} {es : List Ev}, OptsAt H vs (es.map some) → EvsAt H vs es
  | _, [], .nil => .nil
  | _, _ :: _, .cons a b => .cons a (OptsAt.all b)
def odD : Option Ev → PyData
  | none => .none
  | some e => evD e
theorem ev_dp {K : PySem.W.Frag} {H : Hp} {v : V} {e : Ev} (h : EvAt H v e) : Dp K H v (evD e) := by
  obtain ⟨a, rfl, ha⟩ := h
  match e, ha with
  | none, ha => exact .tup (SqT.of ha) (.cons (.str _) .nil)
  | some (z, m), ha => exact .tup (SqT.of ha) (.cons (.str _) (.cons (.str _) (.cons (.int _) .nil)))
theorem opt_dp {K : PySem.W.Frag} {H : Hp} {v : V} {o : Option Ev} (h : OptAt H v o) : Dp K H v (odD o) := by
  cases o with
  | none =>
    rw [show v = .non from h]
    exact .non
  | some e => exact ev_dp h
theorem opts_dp {K : PySem.W.Frag} {H : Hp} {vs : List V} {os : List (Option Ev)} (h : OptsAt H vs os) : DpAll K H vs (os.map odD) := by
  induction h with
  | nil => exact .nil
  | cons a _ ih => exact .cons (opt_dp a) ih
theorem nameB_str {z : Str} (h : nameB z = true) : PyData.canLay0 (.str z) = true := by
  rw [nameB_eq] at h
  simp only [Bool.and_eq_true] at h
  obtain ⟨_, _, _, h⟩ := h
  show z.cps.all _ = true
  rw [← Array.all_toList, List.all_eq_true]
  intro c hc
  have := List.all_eq_true.mp h c hc
  simp only [Bool.and_eq_true, decide_eq_true_eq] at this
  exact decide_eq_true (by omega)
theorem evOf_name {z y : Str} {n : Nat} (h : evOf z = some (some (y, n))) : nameB y = true := by
  unfold evOf at h
  by_cases h0 : z = "/"
  · rw [if_pos h0] at h
    cases h
  · rw [if_neg h0] at h
    cases hc : cut z.cps.toList with
    | none =>
      rw [hc] at h
      cases h
    | some p =>
      rw [hc] at h
      by_cases hb : (nameB (mkS p.1) && figB (mkS p.2)) = true
      · have h' : (if (nameB (mkS p.1) && figB (mkS p.2)) = true then some (some (mkS p.1, NumText.digitsVal p.2)) else none) = some (some (y, n)) := h
        rw [if_pos hb] at h'
        cases h'
        exact (Bool.and_eq_true_iff.mp hb).1
      · have h' : (if (nameB (mkS p.1) && figB (mkS p.2)) = true then some (some (mkS p.1, NumText.digitsVal p.2)) else none) = some (some (y, n)) := h
        rw [if_neg hb] at h'
        cases h'
def OdOk : Option Ev → Prop
  | some (some (z, _)) => nameB z = true
  | _ => True
theorem evOf_ok (z : Str) : OdOk (evOf z) := by
  cases h : evOf z with
  | none => trivial
  | some e => cases e with
    | none => trivial
    | some p => exact evOf_name (y := p.1) (n := p.2) h
theorem od_lay {o : Option Ev} (h : OdOk o) : PyData.canLay0 (odD o) = true ∧ (odD o).depth ≤ 1 := by
  match o, h with
  | none, _ => exact ⟨rfl, by decide⟩
  | some none, _ => exact ⟨by decide +kernel, by decide +kernel⟩
  | some (some (z, m)), h =>
    refine ⟨?_, ?_⟩
    · show PyData.canLayAll0 [.str "open", .str z, .int _] = true
      have e1 : PyData.canLay0 (.str "open") = true := by decide +kernel
      rw [PyData.canLayAll0, PyData.canLayAll0, PyData.canLayAll0, PyData.canLayAll0, e1, nameB_str h]
      rfl
    · simp only [odD, evD, PyData.depth, PyData.depthAll]
      omega
theorem ods_lay : ∀ {os : List (Option Ev)}, (∀ o ∈ os, OdOk o) → PyData.canLayAll0 (os.map odD) = true ∧ PyData.depthAll (os.map odD) ≤ 1
  | [], _ => ⟨rfl, by decide⟩
  | o :: os, h => by
    obtain ⟨h1, h2⟩ := od_lay (h o (List.mem_cons_self ..))
    obtain ⟨h3, h4⟩ := ods_lay fun o ho => h o (List.mem_cons_of_mem _ ho)
    rw [List.map_cons]
    refine ⟨?_, ?_⟩
    · simp only [PyData.canLayAll0, h1, h3, Bool.and_self]
    · simp only [PyData.depthAll]
      omega
theorem ods_shaped {os : List (Option Ev)} (h : ∀ o ∈ os, OdOk o) : SeqAt.shaped (.list (os.map odD)) = true := by
  obtain ⟨h1, h2⟩ := ods_lay h
  unfold SeqAt.shaped
  rw [Bool.and_eq_true]
  refine ⟨h1, decide_eq_true ?_⟩
  simp only [PyData.depth]
  omega
theorem eqv_ev (e : Ev) : PyData.eqv (evD e) .none = false := by
  match e with
  | none => rfl
  | some (z, m) => rfl
theorem any_none (es : List Ev) : ((es.map some).map odD).any (fun z => PyData.eqv z .none) = false := by
  induction es with
  | nil => rfl
  | cons e es ih =>
    rw [List.map_cons, List.map_cons, List.any_cons, ih, Bool.or_false]
    exact eqv_ev e
theorem any_some {os : List (Option Ev)} {j : Nat} (h : os[j]? = some none) : (os.map odD).any (fun z => PyData.eqv z .none) = true := by
  rw [List.any_eq_true]
  exact ⟨.none, List.mem_map.mpr ⟨none, List.mem_of_getElem? h, rfl⟩, rfl⟩
def DueAt (H : Hp) (ws : List Str) (t : Addr) : Prop :=
  (∃ j : Nat, (ws.map evOf)[j]? = some none ∧ (∀ m, m < j → ∃ e, (ws.map evOf)[m]? = some (some e)) ∧ H t = some (.tup [.str "at", .int (j : Nat)])) ∨
  (∃ (l : Addr) (vs : List V) (es : List Ev), ws.map evOf = es.map some ∧ H t = some (.tup [.str "events", .ref l]) ∧ H l = some (.lst vs) ∧ EvsAt H vs es)
def spDue : Sp := fun vs H Q _ => ∃ z : Str, vs = [.str z] ∧ z.length ≤ 1000 ∧ Asc z ∧ ∀ (t : Addr) (H' : Hp), Same H H' → DueAt H' (wordsL z) t → Q (.ref t) H'
abbrev s_due : Stmt := topS 25
abbrev n_due : List Str := ["_law_text_here", "_law_found", "_law_word"]
theorem sc_due : FnScope n_due ["_law_text_here"] (defScope s_due) := ⟨rfl, rfl, rfl, by decide +kernel, rfl, by decide +kernel, by decide +kernel⟩
structure NmD (mg : Str → Option Value) (K : PySem.W.Frag) (fe : Addr) : Prop where
  g__law_event : mg "_law_event" = some (.ref fe)
  k__law_event : PySem.W.keepIn K (.ref fe) = true
section
variable {P : Program} {w : World} {K : PySem.W.Frag} {mg : Str → Option Value} {base : Heap}
theorem ok_due {f fe : Addr} {fd fde : FuncData} (F : Fun K "_law_due" "_law_due" s_due f fd) (T : NmD mg K fe)
    (G__law_event : FnOk P w K mg base CX0 2 fe fde ["_law_word"] spEvent) (b__law_event : Binds K fde ["_law_word"] []) : FnOk P w K mg base CX0 3 f fd ["_law_text_here"] spDue := by
  refine F.ok sc_due (fun vs H Q E h => ?_) (fun cdv A outer s H vs Q E hr h => ?_)
  · obtain ⟨z, rfl, _⟩ := h
    rfl
  · obtain ⟨z, rfl, hz, hA, q⟩ := h
    have hu64 : (A.deeper (envOfC "_law_due" (defScope s_due) s.heap.objs.size f cdv)).units + 65 < cLine := by
      have := hr.un
      omega
    refine ⟨_, (pss_cons (ps_set (i := 1) sc_due.nd rfl (.inl rfl) (pe_ifExp (pt_cmpR op_ne (pv 0) pe_str (nomark _)) (pe_lc (own := [("_law_word", 2)]) (g := gName 2) (tt := tYes) (te := tCall spEvent [] E0 (tCons (tVar 2) tNil)) rfl sc_due.nd (pi_list (pe_split (pv 0) pe_str)) (blkOk_by (own := [("_law_word", 2)]) (N := n_due) (sc := defScope s_due) (by decide +kernel)) (fun _ _ _ _ _ => (pg_name (i := 2) sc_due.nd rfl (.inl rfl))) (fun _ _ _ _ _ => pts_nil) (fun _ _ _ _ _ => (pe_call G__law_event hr rfl T.g__law_event T.k__law_event b__law_event .nil pass0 (pa_cons (pv 2) pa_nil)))) (pe_lst pa_nil)))
  (pss_one (ps_ret (pe_ifExp (pt_cmpR (op_inD hu64) pe_non (pv 1) (by rfl)) (pe_tup (pa_cons pe_str (pa_cons (pe_bm PySem.F.plainAttrs_list PySem.F.slot_list_index PySem.F.type_list_index (mt_indexD hu64) (pv 1) (pa_cons pe_non pa_nil)) pa_nil))) (pe_tup (pa_cons pe_str (pa_cons (pv 1) pa_nil))))))), ?_⟩
    have tail : ∀ (D : Addr) (vs' : List V) (os : List (Option Ev)) (Hx : Hp) (b2 : Option V), os = (wordsL z).map evOf → Hx D = some (.lst vs') → OptsAt Hx vs' os → Same H Hx → vs'.length ≤ sizeLine →
        tIf (tTest (tOp (rInD K) (tC .non) (tVar 1))) (tTup (tCons (tC (.str "at")) (tCons (tBM K "list" (rIndexD K) (tVar 1) (tCons (tC .non) tNil)) tNil))) (tTup (tCons (tC (.str "events")) (tCons (tVar 1) tNil))) [some (.str z), some (.ref D), b2] Hx Q := by
      intro D vs' os Hx b2 eos eD hos sH hl
      have hok : ∀ o ∈ os, OdOk o := fun o ho => by
        rw [eos] at ho
        obtain ⟨w, _, rfl⟩ := List.mem_map.mp ho
        exact evOf_ok w
      have dpl : Dp K Hx (.ref D) (.list (os.map odD)) := .lst (SqL.of eD) (opts_dp hos)
      have shp := ods_shaped hok
      refine ⟨_, rfl, .none, os.map odD, .non, dpl, rfl, shp, ?_⟩
      rcases first_none os with ⟨es, he⟩ | ⟨j, hj, hm⟩
      · have e0 : (os.map odD).any (fun z => PyData.eqv z .none) = false := by
          rw [he]
          exact any_none es
        rw [e0]
        refine ⟨_, rfl, iteF ?_⟩
        refine ⟨_, rfl, (by show 2 ≤ sizeLine; decide), fun t nt => ?_⟩
        have hev : EvsAt Hx vs' es := OptsAt.all (he ▸ hos)
        exact q t _ (sH.trans (new_same nt)) (.inr ⟨D, vs', es, eos ▸ he, upd_same, new_same nt _ _ eD, hev.mono fun a xs e => new_same nt _ _ e⟩)
      · rw [any_some hj]
        refine ⟨_, rfl, iteT ?_⟩
        refine ⟨_, rfl, .inl ⟨rfl, _, SqL.of eD⟩, D, .non, .none, os.map odD, j, .none, rfl, rfl, dpl, .non, shp, rfl, ?_, rfl, fun m z' h hz' => ?_, (by show 2 ≤ sizeLine; decide), fun t nt => ?_⟩
        · rw [List.getElem?_map, hj]
          rfl
        · obtain ⟨e, he⟩ := hm m h
          rw [List.getElem?_map, he] at hz'
          cases hz'
          exact eqv_ev e
        · exact q t _ (sH.trans (new_same nt)) (.inl ⟨j, eos ▸ hj, fun m h => eos ▸ hm m h, upd_same⟩)
    refine ⟨_, rfl, rfl, _, rfl, ite2 (fun h0 => ?_) (fun h0 => ?_)⟩
    · have hz0 : ¬ z = "" := fun e => by
        rw [e] at h0
        exact absurd h0 (by decide)
      refine ⟨_, rfl, ⟨_, rfl⟩, _, _, rfl, rfl, by decide +kernel, (by rw [sizeLine_eq]; omega), fun L nL => ?_⟩
      have S1 := new_same (o := .lst ((Txt.split z " ").map V.str)) nL
      refine ⟨L, rfl, ⟨_, SqL.of upd_same⟩, fun D nD => ?_⟩
      have LD : L ≠ D := ne_of_none upd_same nD
      have hcnt := split_weight z " " (by decide +kernel)
      have hcl : (Txt.split z " ").length ≤ 1001 := by omega
      refine lc_list (K := K) (a := L) (xs := (Txt.split z " ").map V.str) (fun i Hi => (∀ b o, b ≠ D → upd H L (.lst ((Txt.split z " ").map V.str)) b = some o → Hi b = some o) ∧ ∃ vs', Hi D = some (.lst vs') ∧ OptsAt Hi vs' (((Txt.split z " ").take i).map evOf))
        ⟨fun b o x e => by rw [upd_ne x]; exact e, [], upd_same, .nil⟩ (fun i Hi _ p => SqL.of (p.1 _ _ LD upd_same)) (fun i x Hi hx p => ?_) (fun Hi p => ?_)
      · obtain ⟨k1, vs', eD, hos⟩ := p
        rw [List.getElem?_map] at hx
        obtain ⟨y, hy, rfl⟩ := Option.map_eq_some_iff.mp hx
        have hm := List.mem_of_getElem? hy
        refine ⟨rfl, keep1' ?_⟩
        refine ⟨_, rfl, y, rfl, Nat.le_trans (split_lens hm) hz, split_asc hA hm, fun v H2 s2 ho => ?_⟩
        have eD2 := s2 _ _ eD
        have kD : ∀ (a : Addr) (xs : List V) (o : HO), H2 a = some (.tup xs) → upd H2 D o a = some (.tup xs) := fun a xs o e => (upd_ne (fun h => by
          rw [h, eD2] at e
          cases e)).trans e
        refine ⟨vs', eD2, ?_, fun b o x e => (upd_ne x).trans (s2 _ _ (k1 b o x e)), vs' ++ [v], upd_same, ?_⟩
        · rw [hos.len, List.length_map, List.length_take, sizeLine_eq]
          omega
        · rw [take_snoc hy, List.map_append]
          exact ((hos.mono fun a xs e => s2 _ _ e).snoc ho).mono fun a xs e => kD a xs _ e
      · obtain ⟨k1, vs', eD, hos⟩ := p
        rw [List.length_map, List.take_length] at hos
        refine tail D vs' _ Hi _ (by rw [wordsL_of hz0]) eD hos (fun b o e => k1 b o (ne_of_none (S1 b o e) nD) (S1 b o e)) ?_
        rw [hos.len, List.length_map, sizeLine_eq]
        omega
    · have hz0 : z = "" := by
        by_cases h : z = ""
        · exact h
        · exact absurd (by
            show (!decide (V.str z = V.str "")) = true
            rw [decide_eq_false (fun e => h (V.str.inj e))]
            rfl) h0
      exact ⟨Nat.zero_le _, fun D nD => tail D [] [] _ _ (by rw [wordsL, if_pos hz0]; rfl) upd_same .nil (new_same nD) (Nat.zero_le _)⟩
end
end K2

set_option linter.all false
set_option maxRecDepth 100000
set_option maxHeartbeats 8000000
namespace K2
open PySem PySem.Spec PyProof.Rows L2
/-! ### whether a mark is great: any answer -/
theorem cut_asc {z : Str} {lo hi : Option Int} (h : Asc z) : Asc (cutS z lo hi) := fun c hc => h c (List.mem_of_mem_drop (List.mem_of_mem_take hc))
def spGreat : Sp := fun vs H Q _ => ∃ z : Str, vs = [.str z] ∧ z.length ≤ 1000 ∧ Asc z ∧ ∀ (b : Bool) (H' : Hp), Same H H' → Q (.bl b) H'
abbrev s_great : Stmt := topS 26
abbrev n_great : List Str := ["_law_text_here", "_law_marks", "_law_word", "_law_mark"]
theorem sc_great : FnScope n_great ["_law_text_here"] (defScope s_great) := ⟨rfl, rfl, rfl, by decide +kernel, rfl, by decide +kernel, by decide +kernel⟩
structure NmG (mg : Str → Option Value) (K : PySem.W.Frag) (ff : Addr) : Prop where
  g__law_is_figure : mg "_law_is_figure" = some (.ref ff)
  k__law_is_figure : PySem.W.keepIn K (.ref ff) = true
  n_len : mg "len" = none
section
variable {P : Program} {w : World} {K : PySem.W.Frag} {mg : Str → Option Value} {base : Heap}
theorem ok_great {f ff : Addr} {fd fdf : FuncData} (F : Fun K "_law_is_great" "_law_is_great" s_great f fd) (T : NmG mg K ff)
    (G__law_is_figure : FnOk P w K mg base CX0 1 ff fdf ["_law_word"] (spIs figB)) (b__law_is_figure : Binds K fdf ["_law_word"] []) : FnOk P w K mg base CX0 2 f fd ["_law_text_here"] spGreat := by
  refine F.ok sc_great (fun vs H Q E h => ?_) (fun cdv A outer s H vs Q E hr h => ?_)
  · obtain ⟨z, rfl, _⟩ := h
    rfl
  · obtain ⟨z, rfl, hz, hA, q⟩ := h
    have hu64 := hr.units
    refine ⟨_, (pss_cons (ps_setLc (i := 1) (own := [("_law_word", 2)]) (g := gName 2) (tt := tYes) rfl sc_great.nd rfl rfl (sw_true rfl rfl rfl (by decide +kernel)) (pi_list (pe_split (pv 0) pe_str)) (blkOk_by (own := [("_law_word", 2)]) (N := n_great) (sc := defScope s_great) (by decide +kernel)) (fun _ _ _ _ _ => (pg_name (i := 2) sc_great.nd rfl (.inl rfl))) (fun _ _ _ _ _ => pts_nil) (fun _ _ _ _ _ => (pe_slice sl_str (pv 2) (po_some (pe_op op_add (pe_m1 PySem.F.slot_str_find PySem.F.type_str_find mt_find (pv 2) pe_str) pe_int)) po_none)))
  (pss_one (ps_ret (pe_cmpR (op_neD hu64) (pe_lc (own := [("_law_mark", 3)]) (g := gName 3) rfl sc_great.nd (pi_list (pv 1)) (blkOk_by (own := [("_law_mark", 3)]) (N := n_great) (sc := defScope s_great) (by decide +kernel)) (fun _ _ _ _ _ => (pg_name (i := 3) sc_great.nd rfl (.inl rfl))) (fun _ _ _ _ _ => pts_one (PW.pt (pw_and (pt_chain op_lt op_lt pe_int (pe_callB call_len_str (by rfl) T.n_len (by decide +kernel) (pa_cons (pv 3) pa_nil)) pe_int) (pw_and1 (pt_val (pe_call G__law_is_figure hr rfl T.g__law_is_figure T.k__law_is_figure b__law_is_figure .nil pass0 (pa_cons (pv 3) pa_nil))))))) (fun _ _ _ _ _ => (pv 3))) (pe_lst pa_nil) (nomark _))))), ?_⟩
    have hz' : z.length ≤ sizeLine := Nat.le_of_lt (small1000 hz)
    refine ⟨_, rfl, ⟨_, rfl⟩, _, _, rfl, rfl, by decide +kernel, (by rw [sizeLine_eq]; omega), fun L nL => ?_⟩
    have S1 := new_same (o := .lst ((Txt.split z " ").map V.str)) nL
    refine ⟨L, rfl, ⟨_, SqL.of upd_same⟩, fun D nD => ?_⟩
    have LD : L ≠ D := ne_of_none upd_same nD
    have hcnt := split_weight z " " (by decide +kernel)
    have hcl : (Txt.split z " ").length ≤ 1001 := by omega
    refine lc_list (K := K) (a := L) (xs := (Txt.split z " ").map V.str) (fun i Hi => (∀ b o, b ≠ D → upd H L (.lst ((Txt.split z " ").map V.str)) b = some o → Hi b = some o) ∧ ∃ ms : List Str, Hi D = some (.lst (ms.map V.str)) ∧ ms.length = i ∧ ∀ m ∈ ms, m.length ≤ 1000 ∧ Asc m)
      ⟨fun b o x e => by rw [upd_ne x]; exact e, [], upd_same, rfl, fun _ h => by simp at h⟩ (fun i Hi _ p => SqL.of (p.1 _ _ LD upd_same)) (fun i x Hi hx p => ?_) (fun Hi p => ?_)
    · obtain ⟨k1, ms, eD, lm, hm⟩ := p
      rw [List.getElem?_map] at hx
      obtain ⟨y, hy, rfl⟩ := Option.map_eq_some_iff.mp hx
      have hy' := List.mem_of_getElem? hy
      have hi : i < (Txt.split z " ").length := (List.getElem?_eq_some_iff.mp hy).1
      have hyl := split_lens hy'
      refine ⟨rfl, keep1' ?_⟩
      refine ⟨_, rfl, _, rfl, ⟨_, rfl⟩, y, ":", rfl, rfl, _, _, rfl, rfl, _, rfl, y, rfl, (by rw [sizeLine_eq]; omega), ?_⟩
      refine ⟨ms.map V.str, eD, by rw [List.length_map, lm, sizeLine_eq]; omega, fun b o x e => (upd_ne x).trans (k1 b o x e), ms ++ [_], by rw [upd_same, List.map_append]; rfl, by rw [List.length_append, lm]; rfl, fun m hm' => ?_⟩
      rcases List.mem_append.mp hm' with h | h
      · exact hm m h
      · rw [List.mem_singleton.mp h]
        exact ⟨Nat.le_trans (cutS_length _ _ _) (by omega), cut_asc (split_asc hA hy')⟩
    · obtain ⟨k1, ms, eD, lm, hm⟩ := p
      rw [List.length_map] at lm
      refine ⟨_, rfl, D, rfl, ⟨_, SqL.of eD⟩, fun D2 nD2 => ?_⟩
      have DD : D ≠ D2 := ne_of_none eD nD2
      have S2 : Same H Hi := fun b o e => k1 b o (ne_of_none (S1 b o e) nD) (S1 b o e)
      refine lc_list (K := K) (a := D) (xs := ms.map V.str) (fun i Hj => (∀ b o, b ≠ D2 → Hi b = some o → Hj b = some o) ∧ ∃ ks : List Str, Hj D2 = some (.lst (ks.map V.str)) ∧ ks.length ≤ i ∧ ∀ k ∈ ks, Asc k)
        ⟨fun b o x e => (upd_ne x).trans e, [], upd_same, Nat.le_refl _, fun _ h => by simp at h⟩ (fun i Hj _ p => SqL.of (p.1 _ _ DD eD)) (fun i x Hj hx p => ?_) (fun Hj p => ?_)
      · obtain ⟨k2, ks, eD2, lk, hk⟩ := p
        have hi : i < ms.length := by
          have := (List.getElem?_eq_some_iff.mp hx).1
          rw [List.length_map] at this
          exact this
        rw [List.getElem?_map] at hx
        obtain ⟨y, hy, rfl⟩ := Option.map_eq_some_iff.mp hx
        obtain ⟨hyl, hyA⟩ := hm y (List.mem_of_getElem? hy)
        have skip : ∀ Hn : Hp, Same Hj Hn → (∀ b o, b ≠ D2 → Hi b = some o → Hn b = some o) ∧ ∃ ks : List Str, Hn D2 = some (.lst (ks.map V.str)) ∧ ks.length ≤ i + 1 ∧ ∀ k ∈ ks, Asc k := fun Hn sn => ⟨fun b o x e => sn _ _ (k2 b o x e), ks, sn _ _ eD2, by omega, hk⟩
        refine ⟨rfl, _, rfl, y, rfl, (by rw [sizeLine_eq]; omega), _, _, rfl, rfl, _, rfl, ite2 (fun h0 => ?_) (fun h0 => ?_)⟩
        · refine ⟨_, _, rfl, rfl, _, rfl, ite2 (fun h1 => ?_) (fun h1 => ?_)⟩
          · refine ⟨_, rfl, y, rfl, hyl, hyA, fun Hn sn => ⟨_, rfl, ite2 (fun h2 => ?_) (fun h2 => ?_)⟩⟩
            · refine ⟨_, rfl, ks.map V.str, sn _ _ eD2, by rw [List.length_map, sizeLine_eq]; omega, fun b o x e => (upd_ne x).trans (sn _ _ (k2 b o x e)), ks ++ [y], by rw [upd_same, List.map_append]; rfl, by rw [List.length_append]; exact Nat.add_le_add_right lk 1, fun k hk' => ?_⟩
              rcases List.mem_append.mp hk' with h | h
              · exact hk k h
              · rw [List.mem_singleton.mp h]
                exact hyA
            · exact skip Hn sn
          · exact skip Hj (Same.refl Hj)
        · exact ⟨_, rfl, iteF (skip Hj (Same.refl Hj))⟩
      · obtain ⟨k2, ks, eD2, lk, hk⟩ := p
        refine ⟨Nat.zero_le _, fun e0 n0 => ?_⟩
        refine ⟨.list (ks.map PyData.str), .list [], .lst (SqL.of (new_same n0 _ _ eD2)) (dp_strs _), .lst (SqL.of upd_same) .nil, shaped_strs hk, rfl, ?_⟩
        exact q _ _ fun b o e => new_same n0 _ _ (k2 b o (ne_of_none (S2 b o e) nD2) (S2 b o e))
end
end K2

set_option linter.all false
set_option maxRecDepth 100000
set_option maxHeartbeats 8000000
namespace K2
open PySem PySem.Spec PyProof.Rows L2
/-! ### the program's words, names and figures -/
theorem lt_one (a b : Nat) : decide (([a] : List Nat) < [b]) = decide (a < b) := decide_eq_decide.mpr (by
  rw [List.cons_lt_cons_iff]
  constructor
  · rintro (h | ⟨_, h⟩)
    · exact h
    · exact absurd h (by simp)
  · exact .inl)
def consB (l h most : Nat) (z : Str) : Bool := decide (0 < z.length) && (decide (z.length ≤ most) && z.cps.toList.all fun c => decide (l ≤ c) && decide (c ≤ h))
abbrev s_words_in : Stmt := topS 6
abbrev n_words_in : List Str := ["row"]
theorem sc_words_in : FnScope n_words_in ["row"] (defScope s_words_in) := ⟨rfl, rfl, rfl, by decide +kernel, rfl, by decide +kernel, by decide +kernel⟩
def spWords : Sp := fun vs H Q _ => ∃ z : Str, vs = [.str z] ∧ z.length ≤ 1000 ∧ ∀ (a : Addr) (H' : Hp), Same H H' → H a = none → H' a = some (.lst ((wordsL z).map V.str)) → Q (.ref a) H'
abbrev s_consists : Stmt := topS 7
abbrev n_consists : List Str := ["word", "low", "high", "most", "sign"]
theorem sc_consists : FnScope n_consists ["word", "low", "high", "most"] (defScope s_consists) := ⟨rfl, rfl, rfl, by decide +kernel, rfl, by decide +kernel, by decide +kernel⟩
structure NmC (mg : Str → Option Value) : Prop where
  n_len : mg "len" = none
  n_all : mg "all" = none
def spCons : Sp := fun vs H Q _ => ∃ (z lo hi : Str) (l h most : Nat), vs = [.str z, .str lo, .str hi, .int (most : Nat)] ∧ z.length ≤ 1000 ∧ lo.cps.toList = [l] ∧ hi.cps.toList = [h] ∧ ∀ H' : Hp, Same H H' → Q (.bl (consB l h most z)) H'
section
variable {P : Program} {w : World} {K : PySem.W.Frag} {mg : Str → Option Value} {base : Heap}
theorem ok_words_in {f : Addr} {fd : FuncData} (F : Fun K "words_in" "words_in" s_words_in f fd) : FnOk P w K mg base CX0 1 f fd ["row"] spWords := by
  refine F.ok sc_words_in (fun vs H Q E h => ?_) (fun cdv A outer s H vs Q E hr h => ?_)
  · obtain ⟨z, rfl, _⟩ := h
    rfl
  · obtain ⟨z, rfl, hz, q⟩ := h
    refine ⟨_, (pss_cons (ps_if (pt_cmpR op_eq (pv 0) pe_str (nomark _)) (pss_one (ps_ret (pe_lst pa_nil))) pss_nil)
  (pss_one (ps_ret (pe_split (pv 0) pe_str)))), ?_⟩
    refine ⟨_, rfl, rfl, _, rfl, ite2 (fun h0 => ?_) (fun h0 => ?_)⟩
    · have e0 : z = "" := V.str.inj (of_decide_eq_true h0)
      refine ⟨Nat.zero_le _, fun a na => q a _ (new_same na) na ?_⟩
      rw [wordsL, if_pos e0]
      exact upd_same
    · have e0 : ¬ z = "" := fun h => h0 (decide_eq_true (congrArg V.str h))
      refine ⟨_, rfl, ⟨_, rfl⟩, _, _, rfl, rfl, by decide +kernel, (by rw [sizeLine_eq]; omega), fun L nL => ?_⟩
      refine q L _ (new_same nL) nL ?_
      rw [wordsL_of e0]
      exact upd_same
theorem ok_consists {f : Addr} {fd : FuncData} (F : Fun K "consists_of" "consists_of" s_consists f fd) (T : NmC mg) : FnOk P w K mg base CX0 1 f fd ["word", "low", "high", "most"] spCons := by
  refine F.ok sc_consists (fun vs H Q E h => ?_) (fun cdv A outer s H vs Q E hr h => ?_)
  · obtain ⟨z, lo, hi, l, h, most, rfl, _⟩ := h
    rfl
  · obtain ⟨z, lo, hi, l, h, most, rfl, hz, el, eh, q⟩ := h
    have hz' : z.length ≤ sizeLine := Nat.le_of_lt (small1000 hz)
    refine ⟨_, pss_one (ps_ret (pe_and (pe_chain op_le op_le pe_int (pe_callB call_len_str (by rfl) T.n_len (by decide +kernel) (pa_cons (pv 0) pa_nil)) (pv 3))
      (pe_one (pe_callB (cr_all rfl) (by rfl) T.n_all (by decide +kernel) (pa_cons (pe_lc (own := [("sign", 4)]) (g := gName 4) (tt := tYes) rfl sc_consists.nd (pi_str (pv 0)) (blkOk_by (own := [("sign", 4)]) (N := n_consists) (sc := defScope s_consists) (by decide +kernel)) (fun _ _ _ _ _ => (pg_name (i := 4) sc_consists.nd rfl (.inl rfl))) (fun _ _ _ _ _ => pts_nil) (fun _ _ _ _ _ => (pe_chain op_le_str op_le_str (pv 1) (pv 4) (pv 2)))) pa_nil))))), ?_⟩
    refine ⟨_, rfl, z, rfl, hz', _, _, rfl, rfl, _, rfl, ite2 (fun h0 => ?_) (fun h0 => ?_)⟩
    · have h0' : 0 < z.length := by
        have := of_decide_eq_true h0
        omega
      refine ⟨_, rfl, _, _, rfl, rfl, _, rfl, ite2 (fun h1 => ?_) (fun h1 => ?_)⟩
      · have h1' : z.length ≤ most := by
          have := of_decide_eq_true h1
          omega
        refine ⟨_, rfl, z, rfl, fun D nD => ?_⟩
        refine lc_it walk_str (fun i Hi => (∀ b o, b ≠ D → H b = some o → Hi b = some o) ∧ Hi D = some (.lst (((z.cps.toList.take i).map fun c => decide (l ≤ c) && decide (c ≤ h)).map V.bl)))
          ⟨fun b o x e => by rw [upd_ne x]; exact e, upd_same⟩ (fun _ _ _ _ => True.intro) (fun i x Hi Hj hil p y => ?_) (fun Hi p => ?_)
        · obtain ⟨rfl, c, hc, rfl⟩ := y
          have hcl : z.cps.toList[i]? = some c := by rw [Array.getElem?_toList]; exact hc
          have fin : ∀ k : Bool, k = (decide (l ≤ c) && decide (c ≤ h)) → ∃ acc, Hj D = some (.lst acc) ∧ acc.length < sizeLine ∧ (∀ b o, b ≠ D → H b = some o → upd Hj D (.lst (acc ++ [.bl k])) b = some o) ∧ upd Hj D (.lst (acc ++ [.bl k])) D = some (.lst (((z.cps.toList.take (i + 1)).map fun c => decide (l ≤ c) && decide (c ≤ h)).map V.bl)) := fun k hk => by
            refine ⟨_, p.2, ?_, fun b o x e => by rw [upd_ne x]; exact p.1 b o x e, ?_⟩
            · rw [List.length_map, List.length_map, List.length_take]
              exact small1000 (Nat.le_trans (Nat.min_le_right _ _) hz)
            · rw [upd_same, take_snoc hcl, List.map_append, List.map_append, hk]
              rfl
          refine ⟨rfl, keep1' ?_⟩
          refine ⟨_, rfl, _, rfl, _, _, rfl, rfl, _, rfl, ?_⟩
          have a1 : (!decide ((⟨#[c]⟩ : Str).cps.toList < lo.cps.toList)) = decide (l ≤ c) := by
            rw [el, show (⟨#[c]⟩ : Str).cps.toList = [c] from rfl, lt_one, ← decide_not]
            exact decide_eq_decide.mpr Nat.not_lt
          have a2 : (!decide (hi.cps.toList < (⟨#[c]⟩ : Str).cps.toList)) = decide (c ≤ h) := by
            rw [eh, show (⟨#[c]⟩ : Str).cps.toList = [c] from rfl, lt_one, ← decide_not]
            exact decide_eq_decide.mpr Nat.not_lt
          rw [a1]
          refine ite2 (fun b0 => ?_) (fun b0 => ?_)
          · refine ⟨_, rfl, _, _, rfl, rfl, ?_⟩
            rw [a2]
            exact fin _ (by rw [b0, Bool.true_and])
          · exact fin false (by rw [Bool.eq_false_iff.mpr b0, Bool.false_and])
        · have eD := p.2
          rw [show z.cps.size = z.cps.toList.length from rfl, List.take_length] at eD
          refine ⟨D, _, rfl, SqL.of eD, ?_⟩
          have e : (z.cps.toList.map fun c => decide (l ≤ c) && decide (c ≤ h)).all id = consB l h most z := by
            rw [List.all_map]
            unfold consB
            rw [decide_eq_true h0', decide_eq_true h1']
            rfl
          rw [e]
          exact q _ fun b o e => p.1 b o (ne_of_none e nD) e
      · have e : consB l h most z = false := by
          have h2 : ¬ z.length ≤ most := fun h3 => h1 (decide_eq_true (by omega))
          unfold consB
          rw [decide_eq_false h2, Bool.false_and, Bool.and_false]
        rw [e] at q
        exact q H (Same.refl H)
    · have e : consB l h most z = false := by
        have h2 : ¬ 0 < z.length := fun h3 => h0 (decide_eq_true (by omega))
        unfold consB
        rw [decide_eq_false h2, Bool.false_and]
      rw [e] at q
      exact ⟨_, rfl, iteF (q H (Same.refl H))⟩
end
theorem cons_name (z : Str) : (consB 97 122 8 z && !inV (V.str z) [.str "any", .str "other", .str "where"]) = nameB z := by
  rw [nameB_eq, ← in3]
  unfold consB
  rw [show decide (z.length < 9) = decide (z.length ≤ 8) from decide_eq_decide.mpr (by omega), Bool.and_comm]
theorem cons_fig (z : Str) : (consB 48 57 12 z && (decide (V.str z = V.str "0") || !Txt.startswith z "0")) = figB z := by
  unfold consB figB
  rw [show decide (z.length < 13) = decide (z.length ≤ 12) from decide_eq_decide.mpr (by omega), Bool.and_assoc, Bool.and_assoc]
  have e1 : decide (V.str z = V.str "0") = decide (z = "0") := decide_eq_decide.mpr ⟨V.str.inj, congrArg V.str⟩
  rw [e1]
  by_cases h : 0 < z.length
  · obtain ⟨c, hc⟩ : ∃ c, z.cps.toList[0]? = some c := ⟨_, List.getElem?_eq_getElem (show 0 < z.cps.toList.length from h)⟩
    have e2 : Txt.startswith z "0" = decide (z.cps.toList[0]? = some 48) := by
      have e0 : ("0" : Str) = ⟨#[48]⟩ := by decide +kernel
      have e3 := PySem.StrLaws.subAt_one z 48 0
      rw [e0]
      unfold Txt.startswith
      rw [Bool.eq_iff_iff, Bool.and_eq_true, decide_eq_true_iff, decide_eq_true_iff]
      exact e3
    rw [e2]
  · rw [decide_eq_false h]
    rfl
end K2

set_option linter.all false
set_option maxRecDepth 100000
set_option maxHeartbeats 8000000
namespace K2
open PySem PySem.Spec PyProof.Rows L2
/-! ### the program's names, figures, words and events -/
def iLT (K : PySem.W.Frag) (te : TE) : TI := fun σ H R => te σ H fun x G => ∃ p, x = .ref p ∧ (((∃ ys, SqL K G p ys) ∧ R (Itl K p) G) ∨ ((∃ ys, SqT K G p ys) ∧ R (Itt K p) G))
theorem pi_lt {X : Cx} {g e : Expr} {te : TE} (he : PE X e te) : PI X g e (iLT X.K te) := by
  constructor
  intro pins s σ H R I h
  apply thn (he.run pins s σ H _ I h)
  rintro v s1 ⟨x, G, J, r, p, rfl, q⟩
  cases r
  have fp : ∀ (o : Obj) (b : Addr), b ∈ [s1.heap.objs.size] → FpOk X pins G b := fun o b hb => by
    rw [List.mem_singleton.mp hb]
    exact J.fpOk (Nat.le_refl _) (J.hok.fresh (Nat.le_refl _))
  have kp : ∀ o : Obj, Inv X pins σ G { s1 with heap := s1.heap.push o } := fun o => J.kept (t' := s1.toks) fun _ _ z => Heap.get?_push_of_some _ z
  rcases q with ⟨⟨ys, hy⟩, q⟩ | ⟨⟨ys, hy⟩, q⟩
  · obtain ⟨us, _, pl, _⟩ := J.list hy
    apply wpAny_pyIter_list pl.isList
    exact ⟨_, [s1.heap.objs.size], _, _, G, rfl, kp _, turn_list p _, ⟨_, Heap.get?_push_size _ rfl, rfl, rfl⟩, fp ⟨.none, none, .fields #[], #[]⟩, q⟩
  · obtain ⟨us, _, pl, _⟩ := J.tuple hy
    apply wpAny_pyIter_tuple (show s1.heap.IsTuple p us.toArray from pl)
    exact ⟨_, [s1.heap.objs.size], _, _, G, rfl, kp _, turn_tuple p _, ⟨_, Heap.get?_push_size _ rfl, rfl, rfl⟩, fp ⟨.none, none, .fields #[], #[]⟩, q⟩
abbrev s_is_name : Stmt := topS 8
abbrev n_is_name : List Str := ["word"]
theorem sc_is_name : FnScope n_is_name ["word"] (defScope s_is_name) := ⟨rfl, rfl, rfl, by decide +kernel, rfl, by decide +kernel, by decide +kernel⟩
abbrev s_is_figure : Stmt := topS 9
abbrev n_is_figure : List Str := ["word"]
theorem sc_is_figure : FnScope n_is_figure ["word"] (defScope s_is_figure) := ⟨rfl, rfl, rfl, by decide +kernel, rfl, by decide +kernel, by decide +kernel⟩
abbrev s_word_of : Stmt := topS 11
abbrev n_word_of : List Str := ["event"]
theorem sc_word_of : FnScope n_word_of ["event"] (defScope s_word_of) := ⟨rfl, rfl, rfl, by decide +kernel, rfl, by decide +kernel, by decide +kernel⟩
abbrev s_event_of : Stmt := topS 12
abbrev n_event_of : List Str := ["word", "name", "_", "figure"]
theorem sc_event_of : FnScope n_event_of ["word"] (defScope s_event_of) := ⟨rfl, rfl, rfl, by decide +kernel, rfl, by decide +kernel, by decide +kernel⟩
abbrev s_words_of : Stmt := topS 13
abbrev n_words_of : List Str := ["events", "event"]
theorem sc_words_of : FnScope n_words_of ["events"] (defScope s_words_of) := ⟨rfl, rfl, rfl, by decide +kernel, rfl, by decide +kernel, by decide +kernel⟩
structure NmP (mg : Str → Option Value) (K : PySem.W.Frag) (fc fn ff fw an : Addr) : Prop where
  g_consists_of : mg "consists_of" = some (.ref fc)
  k_consists_of : PySem.W.keepIn K (.ref fc) = true
  g_is_name : mg "is_name" = some (.ref fn)
  k_is_name : PySem.W.keepIn K (.ref fn) = true
  g_is_figure : mg "is_figure" = some (.ref ff)
  k_is_figure : PySem.W.keepIn K (.ref ff) = true
  g_word_of : mg "word_of" = some (.ref fw)
  k_word_of : PySem.W.keepIn K (.ref fw) = true
  g_NO_NAMES : mg "NO_NAMES" = some (.ref an)
  t_NO_NAMES : ∀ H : Hp, SqT K H an [.str "any", .str "other", .str "where"]
  n_len : mg "len" = none
  n_int : mg "int" = none
def spWordOf : Sp := fun vs H Q _ => ∃ (v : V) (e : Ev), vs = [v] ∧ EvAt H v e ∧ EvOk e ∧ Q (.str (wordS e)) H
def spWordsOf (K : PySem.W.Frag) : Sp := fun vs H Q _ => ∃ (r : Addr) (vs' : List V) (es : List Ev), vs = [.ref r] ∧ (H r = some (.lst vs') ∨ H r = some (.tup vs')) ∧ EvsAt H vs' es ∧ es.length ≤ 1000 ∧ (∀ e ∈ es, EvOk e) ∧ ∀ H' : Hp, Same H H' → Q (.str (textS es)) H'
theorem empty_app (z : Str) : Str.empty ++ z = z := by
  show (⟨#[] ++ z.cps⟩ : Str) = z
  rw [Array.empty_append]
theorem num_log {m : Nat} (h : m < 10 ^ 9) : ((m : Nat) : Int).natAbs.log2 < 1920 := by
  rw [Int.natAbs_natCast]
  by_cases hm : m = 0
  · rw [hm]
    decide
  · exact Nat.lt_of_lt_of_le ((Nat.log2_lt hm).mpr (Nat.lt_of_lt_of_le h (by decide : 10 ^ 9 ≤ 2 ^ 30))) (by decide)
section
variable {P : Program} {w : World} {K : PySem.W.Frag} {mg : Str → Option Value} {base : Heap} {fc fn ff fw an : Addr}
theorem ok_is_name {f : Addr} {fd fdc : FuncData} (F : Fun K "is_name" "is_name" s_is_name f fd) (T : NmP mg K fc fn ff fw an)
    (G_consists_of : FnOk P w K mg base CX0 1 fc fdc ["word", "low", "high", "most"] spCons) (b_consists_of : Binds K fdc ["word", "low", "high", "most"] []) : FnOk P w K mg base CX0 2 f fd ["word"] (spIs nameB) := by
  refine F.ok sc_is_name (fun vs H Q E h => ?_) (fun cdv A outer s H vs Q E hr h => ?_)
  · obtain ⟨z, rfl, _⟩ := h
    rfl
  · obtain ⟨z, rfl, hz, hA, q⟩ := h
    refine ⟨_, pss_one (ps_ret (pe_and (pe_call G_consists_of hr rfl T.g_consists_of T.k_consists_of b_consists_of .nil pass0 (pa_cons (pv 0) (pa_cons pe_str (pa_cons pe_str (pa_cons pe_int pa_nil)))))
      (pe_one (pe_cmpR op_notIn_seq (pv 0) (pe_glob (v := .ref an) rfl T.g_NO_NAMES rfl) (by rfl))))), ?_⟩
    refine ⟨_, rfl, z, _, _, 97, 122, 8, rfl, hz, by decide +kernel, by decide +kernel, fun H1 s1 => ⟨_, rfl, ite2 (fun h0 => ?_) (fun h0 => ?_)⟩⟩
    · refine ⟨_, rfl, an, _, rfl, .inr (T.t_NO_NAMES H1), rfl, by decide, ?_⟩
      have e := cons_name z
      rw [h0, Bool.true_and] at e
      show Q (V.bl (!inV (V.str z) [.str "any", .str "other", .str "where"])) H1
      rw [e]
      exact q H1 s1
    · have e := cons_name z
      rw [Bool.eq_false_iff.mpr h0, Bool.false_and] at e
      rw [← e] at q
      exact q H1 s1
theorem ok_is_figure {f : Addr} {fd fdc : FuncData} (F : Fun K "is_figure" "is_figure" s_is_figure f fd) (T : NmP mg K fc fn ff fw an)
    (G_consists_of : FnOk P w K mg base CX0 1 fc fdc ["word", "low", "high", "most"] spCons) (b_consists_of : Binds K fdc ["word", "low", "high", "most"] []) : FnOk P w K mg base CX0 2 f fd ["word"] (spIs figB) := by
  refine F.ok sc_is_figure (fun vs H Q E h => ?_) (fun cdv A outer s H vs Q E hr h => ?_)
  · obtain ⟨z, rfl, _⟩ := h
    rfl
  · obtain ⟨z, rfl, hz, hA, q⟩ := h
    refine ⟨_, pss_one (ps_ret (pe_and (pe_call G_consists_of hr rfl T.g_consists_of T.k_consists_of b_consists_of .nil pass0 (pa_cons (pv 0) (pa_cons pe_str (pa_cons pe_str (pa_cons pe_int pa_nil)))))
      (pe_one (pe_or (pe_cmpR op_eq (pv 0) pe_str (nomark _)) (pe_one (pe_not (pe_m1 PySem.F.slot_str_startswith PySem.F.type_str_startswith mt_startswith (pv 0) pe_str))))))), ?_⟩
    refine ⟨_, rfl, z, _, _, 48, 57, 12, rfl, hz, by decide +kernel, by decide +kernel, fun H1 s1 => ⟨_, rfl, ite2 (fun h0 => ?_) (fun h0 => ?_)⟩⟩
    · have e := cons_fig z
      rw [h0, Bool.true_and] at e
      rw [← e] at q
      refine ⟨_, rfl, rfl, _, rfl, ite2 (fun h1 => ?_) (fun h1 => ?_)⟩
      · rw [h1, Bool.true_or] at q
        exact q H1 s1
      · rw [Bool.eq_false_iff.mpr h1, Bool.false_or] at q
        exact ⟨_, rfl, ⟨_, rfl⟩, z, "0", rfl, rfl, _, rfl, q H1 s1⟩
    · have e := cons_fig z
      rw [Bool.eq_false_iff.mpr h0, Bool.false_and] at e
      rw [← e] at q
      exact q H1 s1
theorem ok_word_of {f : Addr} {fd : FuncData} (F : Fun K "word_of" "word_of" s_word_of f fd) (T : NmP mg K fc fn ff fw an) : FnOk P w K mg base CX0 1 f fd ["event"] spWordOf := by
  refine F.ok sc_word_of (fun vs H Q E h => ?_) (fun cdv A outer s H vs Q E hr h => ?_)
  · obtain ⟨v, e, rfl, _⟩ := h
    rfl
  · obtain ⟨v, e, rfl, ⟨a, rfl, ha⟩, hok, q⟩ := h
    refine ⟨_, pss_cons (ps_if (pt_cmpR op_eq (pe_callB call_len_seq (by rfl) T.n_len (by decide +kernel) (pa_cons (pv 0) pa_nil)) pe_int (nomark _)) (pss_one (ps_ret pe_str)) pss_nil)
      (pss_one (ps_ret (pe_joined (.cons (pe_fmt (pe_ix ix_tup (pv 0) pe_int (fun _ _ => rfl))) (.cons pe_str (.cons (pe_fmt (pe_ix ix_tup (pv 0) pe_int (fun _ _ => rfl))) .nil)))))), ?_⟩
    match e, ha, hok, q with
    | none, ha, hok, q =>
      refine ⟨_, rfl, a, _, rfl, .inr (SqT.of ha), rfl, _, rfl, iteT ?_⟩
      exact q
    | some (z, m), ha, hok, q =>
      refine ⟨_, rfl, a, _, rfl, .inr (SqT.of ha), rfl, _, rfl, iteF ?_⟩
      have h1 := name_len hok.1
      have h2 := num_len hok.2
      have h3 : (":" : Str).length = 1 := by decide +kernel
      refine ⟨_, rfl, a, _, _, _, rfl, rfl, SqT.of ha, atI_nat (j := 1) rfl, .inl ⟨z, rfl, by rw [sizeLine_eq]; omega, ?_⟩⟩
      refine ⟨z, rfl, by rw [empty_app, sizeLine_eq]; omega, ":", rfl, by rw [empty_app, len_app, sizeLine_eq]; omega, ?_⟩
      refine ⟨_, rfl, a, _, _, _, rfl, rfl, SqT.of ha, atI_nat (j := 2) rfl, .inr ⟨_, rfl, num_log hok.2, ?_⟩⟩
      refine ⟨_, rfl, by rw [empty_app, len_app, len_app, sizeLine_eq]; omega, ?_⟩
      rw [empty_app]
      exact q
theorem ok_event_of {f : Addr} {fd fdn fdf : FuncData} (F : Fun K "event_of" "event_of" s_event_of f fd) (T : NmP mg K fc fn ff fw an)
    (G_is_name : FnOk P w K mg base CX0 2 fn fdn ["word"] (spIs nameB)) (b_is_name : Binds K fdn ["word"] [])
    (G_is_figure : FnOk P w K mg base CX0 2 ff fdf ["word"] (spIs figB)) (b_is_figure : Binds K fdf ["word"] []) : FnOk P w K mg base CX0 3 f fd ["word"] spEvent := by
  refine F.ok sc_event_of (fun vs H Q E h => ?_) (fun cdv A outer s H vs Q E hr h => ?_)
  · obtain ⟨z, rfl, _⟩ := h
    rfl
  · obtain ⟨z, rfl, hz, hA, q⟩ := h
    refine ⟨_, (pss_cons (ps_if (pt_cmpR op_eq (pv 0) pe_str (nomark _)) (pss_one (ps_ret (pe_tup (pa_cons pe_str pa_nil)))) pss_nil)
  (pss_cons (ps_asg (pe_partition (pv 0) pe_str) (pg_tup rfl (pgs_cons (pg_name (i := 1) sc_event_of.nd rfl (.inl rfl)) (pgs_cons (pg_name (i := 2) sc_event_of.nd rfl (.inl rfl)) (pgs_cons (pg_name (i := 3) sc_event_of.nd rfl (.inl rfl)) pgs_nil)))))
  (pss_cons (ps_if (PW.pt (pw_and (pt_val (pe_call G_is_name hr rfl T.g_is_name T.k_is_name b_is_name .nil pass0 (pa_cons (pv 1) pa_nil))) (pw_and1 (pt_val (pe_call G_is_figure hr rfl T.g_is_figure T.k_is_figure b_is_figure .nil pass0 (pa_cons (pv 3) pa_nil)))))) (pss_one (ps_ret (pe_tup (pa_cons pe_str (pa_cons (pv 1) (pa_cons (pe_callTy call_int_str (by rfl) T.n_int (by decide +kernel) (pa_cons (pv 3) pa_nil)) pa_nil)))))) pss_nil)
  (pss_one (ps_ret pe_non))))), ?_⟩
    have hz' : z.length ≤ sizeLine := Nat.le_of_lt (small1000 hz)
    refine ⟨_, rfl, rfl, _, rfl, ite2 (fun h0 => ?_) (fun h0 => ?_)⟩
    · have e0 : z = "/" := V.str.inj (of_decide_eq_true h0)
      refine ⟨(by show 1 ≤ sizeLine; decide), fun t nt => q (.ref t) _ (new_same nt) ?_⟩
      unfold evOf
      rw [if_pos e0]
      exact ⟨t, rfl, upd_same⟩
    · have e0 : ¬ z = "/" := fun h => h0 (decide_eq_true (congrArg V.str h))
      refine ⟨_, rfl, ⟨_, rfl⟩, z, ":", rfl, rfl, by decide +kernel, hz', fun p np => ?_⟩
      have S1 : ∀ o, Same H (upd H p o) := fun o => new_same np
      cases hc : cut z.cps.toList with
      | none =>
        rw [evOf_none e0 hc] at q
        have hp : Txt.partition z ":" = (z, Str.empty, Str.empty) := by
          rw [colon]
          exact TL.partition_none (s := 58) (S := []) rfl (cut_none hc)
        rw [hp]
        refine ⟨p, _, rfl, SqT.of upd_same, rfl, ?_⟩
        refine ⟨_, _, rfl, _, _, rfl, _, _, rfl, rfl, ?_⟩
        refine ⟨_, rfl, z, rfl, hz, hA, fun H1 s1 => ⟨_, rfl, ite2 (fun h1 => ?_) (fun h1 => ?_)⟩⟩
        · refine ⟨_, rfl, Str.empty, rfl, Nat.zero_le _, (fun c hc => absurd hc (List.not_mem_nil)), fun H2 s2 => ⟨_, rfl, ?_⟩⟩
          rw [show figB Str.empty = false from by decide +kernel]
          exact iteF (q .non H2 ((S1 _).trans (s1.trans s2)) rfl)
        · exact q .non H1 ((S1 _).trans s1) rfl
      | some ab =>
        obtain ⟨a, b⟩ := ab
        rw [evOf_some e0 hc] at q
        obtain ⟨hL, hna⟩ := cut_some hc
        have hp : Txt.partition z ":" = (mkS a, (":" : Str), mkS b) := by
          have h1 : z = mkS a ++ ":" ++ mkS b := by
            have h2 : z.cps = (mkS a ++ ":" ++ mkS b).cps := by
              apply Array.ext'
              rw [hL]
              show _ = TL.tl (mkS a ++ ":" ++ mkS b)
              rw [TL.tl_append, TL.tl_append, colon]
              show _ = (a ++ [58]) ++ b
              rw [List.append_assoc]
              rfl
            cases z
            exact congrArg Str.mk h2
          rw [h1]
          exact TL.partition_app (s := 58) (S := []) (by rw [colon]) hna
        rw [hp]
        have la : a.length < z.length := by
          show _ < z.cps.toList.length
          rw [hL, List.length_append, List.length_cons]
          omega
        have lb : b.length < z.length := by
          show _ < z.cps.toList.length
          rw [hL, List.length_append, List.length_cons]
          omega
        have hAa : Asc (mkS a) := fun c hc => hA c (by rw [hL]; exact List.mem_append_left _ hc)
        have hAb : Asc (mkS b) := fun c hc => hA c (by rw [hL]; exact List.mem_append_right _ (List.mem_cons_of_mem _ hc))
        refine ⟨p, _, rfl, SqT.of upd_same, rfl, ?_⟩
        refine ⟨_, _, rfl, _, _, rfl, _, _, rfl, rfl, ?_⟩
        refine ⟨_, rfl, mkS a, rfl, by rw [mkS_len]; omega, hAa, fun H1 s1 => ⟨_, rfl, ?_⟩⟩
        cases hN : nameB (mkS a) with
        | false =>
          rw [hN, Bool.false_and] at q
          exact iteF (q .non H1 ((S1 _).trans s1) rfl)
        | true =>
          rw [hN, Bool.true_and] at q
          refine iteT ?_
          refine ⟨_, rfl, mkS b, rfl, by rw [mkS_len]; omega, hAb, fun H2 s2 => ⟨_, rfl, ?_⟩⟩
          have s12 := (S1 (.tup [.str (mkS a), .str ":", .str (mkS b)])).trans (s1.trans s2)
          cases hF : figB (mkS b) with
          | false =>
            rw [hF] at q
            exact iteF (q .non H2 s12 rfl)
          | true =>
            rw [hF] at q
            obtain ⟨hi, hl⟩ := fig_int hF
            refine iteT ?_
            refine ⟨_, rfl, _, rfl, mkS b, _, rfl, hi, hl, (by show 3 ≤ sizeLine; decide), fun t nt => ?_⟩
            exact q (.ref t) _ (s12.trans (new_same nt)) ⟨t, rfl, upd_same⟩
end
end K2

set_option linter.all false
set_option maxRecDepth 100000
set_option maxHeartbeats 8000000
namespace K2
open PySem PySem.Spec PyProof.Rows L2
/-! ### isinstance of a caught error with fields -/
def rIsD (K : PySem.W.Frag) (a : Addr) (cls : Value) (d : Option Addr) : List V → Hp → VK → Prop := fun xs H Q => ∃ (D dd : Addr) (fs : List (Str × V)) (c : V) (cv : Value) (b : Bool), xs = [.ref a, c] ∧ cls = .ref D ∧ d = some dd ∧ H dd = some (.xd fs) ∧ ExcC K D ∧ (∀ u, RelV c u → u = cv) ∧ PySem.W.kitOne K (.ref D) cv = some b ∧ Q (.bl b) H
theorem call_isD {X : Cx} {a : Addr} {cls : Value} {d : Option Addr} {oe : Obj} {pn : List (Addr × Obj)} (hz : Zc cls d oe) (hf : ∃ vs, oe.data = .fields vs) : CallR (X.suite a ((a, oe) :: pn)) (.builtin "isinstance") (rIsD X.K a cls d) := by
  intro pins s σ H xs us Q I r h
  obtain ⟨D, dd, fs, c, cv, b, rfl, rfl, rfl, ed, T, hcv, e, q⟩ := h
  cases r with
  | cons rx rr =>
    cases rr with
    | cons rt rr =>
      cases rr
      cases rx
      obtain rfl := hcv _ rt
      have hcl : (PySem.W.clsIn X.K D).isSome = true := by
        obtain ⟨cd, hc, _⟩ := PySem.W.any_some T.hd
        rw [hc] <;> rfl
      obtain ⟨hget, _⟩ := I.pin (a, oe) (List.mem_append.mpr (.inl List.mem_cons_self))
      obtain ⟨vs, hv⟩ := hf
      have hx : ObjOk X.prog X.w H s.heap dd (.xd fs) := I.hok dd _ ed
      obtain ⟨mA, ⟨o, es, ep, ho, hr⟩, _⟩ := hx
      have J : PySem.W.InstAt s.heap a oe D (some o) := ⟨hget, hz.1, by unfold PySem.W.notCls; rw [hv] <;> rfl, by rw [hz.2]; exact ho⟩
      exact PySem.W.kia_one (PySem.W.kitx_exc hcl T.hg T.hk T.hs T.ha T.hn T.ht T.hm) I.kIn J e (fun z => nomatch z) fun tk => ⟨.bl b, H, I.kept (t' := tk) fun _ _ z => z, rfl, q⟩
/-! ### the program's rows -/
section
variable {P : Program} {w : World} {K : PySem.W.Frag} {mg : Str → Option Value} {base : Heap} {fc fn ff fw an : Addr}
theorem ok_words_of {f : Addr} {fd fdw : FuncData} (F : Fun K "words_of" "words_of" s_words_of f fd) (T : NmP mg K fc fn ff fw an)
    (G_word_of : FnOk P w K mg base CX0 1 fw fdw ["event"] spWordOf) (b_word_of : Binds K fdw ["event"] []) : FnOk P w K mg base CX0 2 f fd ["events"] (spWordsOf K) := by
  refine F.ok sc_words_of (fun vs H Q E h => ?_) (fun cdv A outer s H vs Q E hr h => ?_)
  · obtain ⟨r, vs', es, rfl, _⟩ := h
    rfl
  · obtain ⟨r, vs', es, rfl, hr0, hes, hn, hok, q⟩ := h
    refine ⟨_, (pss_one (ps_ret (pe_join pe_str (pe_lc (own := [("event", 1)]) (g := gName 1) (tt := tYes) (te := tCall spWordOf [] E0 (tCons (tVar 1) tNil)) rfl sc_words_of.nd (pi_lt (pv 0)) (blkOk_by (own := [("event", 1)]) (N := n_words_of) (sc := defScope s_words_of) (by decide +kernel)) (fun _ _ _ _ _ => (pg_name (i := 1) sc_words_of.nd rfl (.inl rfl))) (fun _ _ _ _ _ => pts_nil) (fun _ _ _ _ _ => (pe_call G_word_of hr rfl T.g_word_of T.k_word_of b_word_of .nil pass0 (pa_cons (pv 1) pa_nil))))))), ?_⟩
    have Fin : ∀ (D : Addr) (Hi : Hp), H D = none → ((∀ b o, b ≠ D → H b = some o → Hi b = some o) ∧ Hi D = some (.lst (((es.take vs'.length).map wordS).map V.str))) → ∃ a p, ∃ ys : List Str, V.str " " = .str a ∧ [V.ref D] = [.ref p] ∧ (SqL K Hi p (ys.map V.str) ∨ SqT K Hi p (ys.map V.str)) ∧ (ys.map (·.length)).sum + ys.length * a.length ≤ 16777216 ∧ Q (.str (Txt.join a ys)) Hi := by
      intro D Hi nD p
      have hlen := hes.length
      refine ⟨_, D, es.map wordS, rfl, rfl, .inl (SqL.of ?_), ?_, ?_⟩
      · have e := p.2
        rw [hlen, List.take_length] at e
        exact e
      · have h1 := words_len hok
        have h2 : (" " : Str).length = 1 := by decide +kernel
        rw [h2, List.length_map]
        omega
      · exact q Hi fun b o e => p.1 b o (ne_of_none e nD) e
    have Turn : ∀ (D : Addr) (i : Nat) (x : V) (Hi : Hp) (σ : L2.St), H D = none → vs'[i]? = some x → σ[1]? = some (some x) → ((∀ b o, b ≠ D → H b = some o → Hi b = some o) ∧ Hi D = some (.lst (((es.take i).map wordS).map V.str))) →
        tCall spWordOf [] E0 (tCons (tVar 1) tNil) σ Hi (fun y H4 => ∃ acc, H4 D = some (.lst acc) ∧ acc.length < sizeLine ∧ (∀ b o, b ≠ D → H b = some o → upd H4 D (.lst (acc ++ [y])) b = some o) ∧ upd H4 D (.lst (acc ++ [y])) D = some (.lst (((es.take (i + 1)).map wordS).map V.str))) := by
      intro D i x Hi σ nD hx hσ p
      obtain ⟨e, he, a, rfl, ha⟩ := hes.get hx
      have ha' : Hi a = some (.tup (evV e)) := p.1 _ _ (ne_of_none ha nD) ha
      have hi : i < es.length := (List.getElem?_eq_some_iff.mp he).1
      refine ⟨_, hσ, _, e, rfl, ⟨a, rfl, ha'⟩, hok e (List.mem_of_getElem? he), ?_⟩
      refine ⟨_, p.2, ?_, fun b o z h => by rw [upd_ne z]; exact p.1 _ _ z h, ?_⟩
      · rw [List.length_map, List.length_map, List.length_take]
        exact small1000 (by omega)
      · rw [upd_same, take_snoc he, List.map_append, List.map_append]
        rfl
    rcases hr0 with hr0 | hr0
    · refine ⟨⟨_, rfl⟩, _, rfl, r, rfl, .inl ⟨⟨_, SqL.of hr0⟩, fun D nD => ?_⟩⟩
      refine lc_list (K := K) (a := r) (xs := vs') (fun i Hi => (∀ b o, b ≠ D → H b = some o → Hi b = some o) ∧ Hi D = some (.lst (((es.take i).map wordS).map V.str)))
        ⟨fun b o z e => by rw [upd_ne z]; exact e, upd_same⟩ (fun i Hi _ p => SqL.of (p.1 _ _ (ne_of_none hr0 nD) hr0)) (fun i x Hi hx p => ⟨rfl, keep1' (Turn D i x Hi _ nD hx rfl p)⟩) (fun Hi p => Fin D Hi nD p)
    · refine ⟨⟨_, rfl⟩, _, rfl, r, rfl, .inr ⟨⟨_, SqT.of hr0⟩, fun D nD => ?_⟩⟩
      refine lc_tup (K := K) (a := r) (xs := vs') (fun i Hi => (∀ b o, b ≠ D → H b = some o → Hi b = some o) ∧ Hi D = some (.lst (((es.take i).map wordS).map V.str)))
        ⟨fun b o z e => by rw [upd_ne z]; exact e, upd_same⟩ (fun i Hi _ p => SqT.of (p.1 _ _ (ne_of_none hr0 nD) hr0)) (fun i x Hi hx p => ⟨rfl, keep1' (Turn D i x Hi _ nD hx rfl p)⟩) (fun Hi p => Fin D Hi nD p)
end
/-! ### copies of flat values, and the error -/
abbrev s_own : Stmt := topS 1
abbrev n_own : List Str := ["value", "item", "key"]
theorem sc_own : FnScope n_own ["value"] (defScope s_own) := ⟨rfl, rfl, rfl, by decide +kernel, rfl, by decide +kernel, by decide +kernel⟩
def OwnF (v : V) : Prop := (∃ i, v = .int i) ∨ ∃ z, v = .str z
def spOwnF : Sp := fun vs H Q _ => ∃ v : V, vs = [v] ∧ OwnF v ∧ Q v H
structure NmO (mg : Str → Option Value) (K : PySem.W.Frag) (f : Addr) : Prop where
  g : mg "own_copy" = some (.ref f)
  k : PySem.W.keepIn K (.ref f) = true
  n_isinstance : mg "isinstance" = none
  n_list : mg "list" = none
  n_tuple : mg "tuple" = none
  n_dict : mg "dict" = none
def spI1 (C : Addr) (f : Str) : Sp := fun vs H Q _ => ∃ (a : Addr) (v : V), vs = [.ref a, v] ∧ H a = some (exo a C none) ∧ OwnF v ∧
  ∀ (dd : Addr) (H' : Hp), H dd = none → H' a = some (exo a C (some dd)) → H' dd = some (exd dd [(f, v)]) → (∀ b o, b ≠ a → H b = some o → H' b = some o) → Q .non H'
abbrev s_NoTree : Stmt := inClass (topS 3) 0
section
variable {P : Program} {w : World} {K : PySem.W.Frag} {mg : Str → Option Value} {base : Heap}
theorem ok_own {f : Addr} {fd : FuncData} (F : Fun K "own_copy" "own_copy" s_own f fd) (T : NmO mg K f) : FnOk P w K mg base CX0 1 f fd ["value"] spOwnF := by
  refine F.ok sc_own (fun vs H Q E h => ?_) (fun cdv A outer s H vs Q E hr h => ?_)
  · obtain ⟨v, rfl, _⟩ := h
    rfl
  · obtain ⟨v, rfl, hv, q⟩ := h
    refine ⟨_, pss_cons (ps_if (pt_val (pe_callB call_isi (by rfl) T.n_isinstance (by decide +kernel) (pa_cons (pv 0) (pa_cons (pe_bltn (v := .ty "list") (by rfl) T.n_list (by decide +kernel) rfl) pa_nil)))) pss_never pss_nil)
      (pss_cons (ps_if (pt_val (pe_callB call_isi (by rfl) T.n_isinstance (by decide +kernel) (pa_cons (pv 0) (pa_cons (pe_bltn (v := .ty "tuple") (by rfl) T.n_tuple (by decide +kernel) rfl) pa_nil)))) pss_never pss_nil)
      (pss_cons (ps_if (pt_val (pe_callB call_isi (by rfl) T.n_isinstance (by decide +kernel) (pa_cons (pv 0) (pa_cons (pe_bltn (v := .ty "dict") (by rfl) T.n_dict (by decide +kernel) rfl) pa_nil)))) pss_never pss_nil)
      (pss_one (ps_ret (pv 0))))), ?_⟩
    rcases hv with ⟨i, rfl⟩ | ⟨x, rfl⟩
    · refine ⟨_, rfl, _, _, _, _, _, rfl, .ty _, .base (.int i), kit_ty (by decide +kernel), _, rfl, iteF ?_⟩
      refine ⟨_, rfl, _, _, _, _, _, rfl, .ty _, .base (.int i), kit_ty (by decide +kernel), _, rfl, iteF ?_⟩
      refine ⟨_, rfl, _, _, _, _, _, rfl, .ty _, .base (.int i), kit_ty (by decide +kernel), _, rfl, iteF ?_⟩
      exact ⟨_, rfl, q⟩
    · refine ⟨_, rfl, _, _, _, _, _, rfl, .ty _, .base (.str x), kit_ty (by decide +kernel), _, rfl, iteF ?_⟩
      refine ⟨_, rfl, _, _, _, _, _, rfl, .ty _, .base (.str x), kit_ty (by decide +kernel), _, rfl, iteF ?_⟩
      refine ⟨_, rfl, _, _, _, _, _, rfl, .ty _, .base (.str x), kit_ty (by decide +kernel), _, rfl, iteF ?_⟩
      exact ⟨_, rfl, q⟩
theorem ok_NoTree {f C cc cda g : Addr} {fdg : FuncData} {B i : String} {oc : Value} {od : Option Addr} {osl : Array (Option Value)} {dV kV doc pm ct : Value} {an : Option Addr}
    (lk : K.lookup f = some ⟨oc, od, .func (PySem.W.fnX "__init__" "NoTree.__init__" (defArgs s_NoTree) (defBody s_NoTree) (defScope s_NoTree) [("__class__", cc)] dV kV doc pm an (.ref cda) ct), osl⟩)
    (hcd : PySem.W.codeIn K (.ref cda) "NoTree.__init__" = true) (D : Sup.SupF P K B i C cc cda) (Ec : Exg.EcC K C) (hno : PySem.W.findIn K (.ref C) "at" = some none)
    (hsup : mg "super" = none) (htop : (P.main.scope.names.lookup ("super" : Str)).isSome = false) (T : NmO mg K g) (G : FnOk P w K mg base CX0 1 g fdg ["value"] spOwnF) (bO : Binds K fdg ["value"] []) :
    FnOk P w K mg base CX0 2 f (PySem.W.fnX "__init__" "NoTree.__init__" (defArgs s_NoTree) (defBody s_NoTree) (defScope s_NoTree) [("__class__", cc)] dV kV doc pm an (.ref cda) ct) ["self", "at"] (spI1 C "at") := by
  refine Sup.ok_sup (F := ⟨"__init__", "NoTree.__init__", defArgs s_NoTree, defBody s_NoTree, defScope s_NoTree, [("__class__", cc)], cda⟩) (N := ["self", "at", "__class__"]) D rfl rfl lk hcd (NdefX.nscope_by (by show NdefX.nscB ["self", "at", "__class__"] ["self", "at"] ["__class__"] (defScope s_NoTree) = true; decide +kernel)) rfl rfl rfl rfl
    (fun L => ⟨_, rfl⟩) hsup htop (fun vs H Q E h => ?_) (fun vs H Q E h => ?_) (fun A outer s H vs Q E hr h => ?_)
  · obtain ⟨a, v, rfl, _⟩ := h
    rfl
  · obtain ⟨a, v, rfl, ha, _⟩ := h
    exact ⟨a, _, rfl, ha⟩
  · obtain ⟨a, v, rfl, ha, hv, q⟩ := h
    refine ⟨_, pss_one (Exg.ps_st (pv 0) (pe_call G hr rfl T.g T.k bO .nil pass0 (pa_cons (pv 1) pa_nil))), ?_⟩
    refine ⟨_, rfl, v, rfl, hv, ?_⟩
    refine ⟨_, rfl, a, C, rfl, Ec, hno, .inl ⟨ha, fun dx ndx dxa => ?_⟩⟩
    refine q dx _ ndx upd_same (by rw [upd_ne dxa, upd_same]) (fun b o ba e => ?_)
    rw [upd_ne ba, upd_ne (ne_of_none e ndx)]
    exact e
end
end K2

set_option linter.all false
set_option maxRecDepth 100000
set_option maxHeartbeats 8000000
namespace K2
open PySem PySem.Spec PyProof.Rows L2
/-! ### events_of, and what the law hears of it -/
abbrev s_events_of : Stmt := topS 14
abbrev n_events_of : List Str := ["text", "events", "at", "event", "word"]
theorem sc_events_of : FnScope n_events_of ["text"] (defScope s_events_of) := ⟨rfl, rfl, rfl, by decide +kernel, rfl, by decide +kernel, by decide +kernel⟩
abbrev s_heard : Stmt := topS 27
abbrev n_heard : List Str := ["_law_text_here", "_law_found", "e"]
theorem sc_heard : FnScope n_heard ["_law_text_here"] (defScope s_heard) := ⟨rfl, rfl, rfl, by decide +kernel, rfl, by decide +kernel, by decide +kernel⟩
structure NmX (P : Program) (w : World) (K : PySem.W.Frag) (mg : Str → Option Value) (C fI Ck : Addr) : Prop where
  g_NoTree : mg "NoTree" = some (.ref C)
  k_NoTree : PySem.W.keepIn K (.ref C) = true
  b_NoTree : PySem.W.subIn K (.ref C) (.type "BaseException") = some true
  t_NoTree : PySem.W.typeIn K (.ref C) = some (.type "type")
  m_NoTree : Exv.MkOk P w K C fI
  g_KeptError : mg "KeptError" = some (.ref Ck)
  e_NoTree : PySem.W.exmOne K (.ref C) (.ref C) = some true
  x_NoTree : ExcC K C
  i_NoTree : PySem.W.kitOne K (.ref C) (.ref Ck) = some true
  f_NoTree : XfC K C
  no_NoTree : PySem.W.findIn K (.ref C) "at" = some none
structure NmQ (mg : Str → Option Value) (K : PySem.W.Frag) (fwi fev fes : Addr) : Prop where
  g_words_in : mg "words_in" = some (.ref fwi)
  k_words_in : PySem.W.keepIn K (.ref fwi) = true
  g_event_of : mg "event_of" = some (.ref fev)
  k_event_of : PySem.W.keepIn K (.ref fev) = true
  g_events_of : mg "events_of" = some (.ref fes)
  k_events_of : PySem.W.keepIn K (.ref fes) = true
  n_enumerate : mg "enumerate" = none
  n_isinstance : mg "isinstance" = none
theorem OptsAt.get {H : Hp} {vs : List V} {os : List (Option Ev)} (h : OptsAt H vs os) : ∀ {i : Nat} {v : V}, vs[i]? = some v → ∃ o, os[i]? = some o ∧ OptAt H v o := by
  induction h with
  | nil => intro i v hv; simp at hv
  | cons a _ ih =>
    intro i v hv
    cases i with
    | zero =>
      have z := Option.some.inj hv
      exact ⟨_, rfl, by rw [← z]; exact a⟩
    | succ i => exact ih hv
def FirstNone (ws : List Str) (j : Nat) : Prop := (ws.map evOf)[j]? = some none ∧ ∀ m, m < j → ∃ e, (ws.map evOf)[m]? = some (some e)
def spEvents (C : Addr) : Sp := fun vs H Q E => ∃ z : Str, vs = [.str z] ∧ z.length ≤ 1000 ∧ Asc z ∧
  (∀ (l : Addr) (vs' : List V) (es : List Ev) (H' : Hp), Same H H' → H l = none → (wordsL z).map evOf = es.map some → H' l = some (.lst vs') → EvsAt H' vs' es → Q (.ref l) H') ∧
  (∀ (j : Nat) (d : Addr) (H' : Hp), Same H H' → FirstNone (wordsL z) j → H' d = some (.xd [("at", .int (j : Nat))]) → E (.ref C) (some d) H')
theorem wordsL_len {z w : Str} (h : w ∈ wordsL z) : w.length ≤ z.length := by
  unfold wordsL at h
  by_cases e : z = ""
  · rw [if_pos e] at h
    cases h
  · rw [if_neg e] at h
    exact split_lens h
theorem wordsL_asc {z w : Str} (hA : Asc z) (h : w ∈ wordsL z) : Asc w := by
  unfold wordsL at h
  by_cases e : z = ""
  · rw [if_pos e] at h
    cases h
  · rw [if_neg e] at h
    exact split_asc hA h
theorem wordsL_count (z : Str) : (wordsL z).length ≤ z.length + 1 := by
  unfold wordsL
  by_cases e : z = ""
  · rw [if_pos e]
    exact Nat.zero_le _
  · rw [if_neg e]
    have := split_weight z " " (by decide +kernel)
    omega
section
variable {P : Program} {w : World} {K : PySem.W.Frag} {mg : Str → Option Value} {base : Heap}
theorem ok_events_of {f fwi fev fes C fI Ck : Addr} {fd fdw fde fdI : FuncData} (F : Fun K "events_of" "events_of" s_events_of f fd) (T : NmQ mg K fwi fev fes) (TX : NmX P w K mg C fI Ck)
    (G_words_in : FnOk P w K mg base CX0 1 fwi fdw ["row"] spWords) (b_words_in : Binds K fdw ["row"] [])
    (G_event_of : FnOk P w K mg base CX0 3 fev fde ["word"] spEvent) (b_event_of : Binds K fde ["word"] [])
    (I1 : FnOk P w K mg base CX0 2 fI fdI ["self", "at"] (spI1 C "at")) (c1 : Binds K fdI ["self", "at"] []) : FnOk P w K mg base (L2.CX P w) 4 f fd ["text"] (spEvents C) := by
  refine F.okX sc_events_of (fun vs H Q E h => ?_) (fun cdv A outer s H vs Q E hr h => ?_)
  · obtain ⟨z, rfl, _⟩ := h
    rfl
  · obtain ⟨z, rfl, hz, hA, q, qE⟩ := h
    refine ⟨_, (pss_cons (ps_setLc (i := 1) (own := [("word", 4)]) (g := gName 4) (tt := tYes) (te := tCall spEvent [] E0 (tCons (tVar 4) tNil)) rfl sc_events_of.nd rfl rfl (sw_true rfl rfl rfl (by decide +kernel)) (pi_list (pe_call G_words_in (hr.mono (by decide)) rfl T.g_words_in T.k_words_in b_words_in .nil pass0 (pa_cons (pv 0) pa_nil))) (blkOk_by (own := [("word", 4)]) (N := n_events_of) (sc := defScope s_events_of) (by decide +kernel)) (fun _ _ _ _ _ => (pg_name (i := 4) sc_events_of.nd rfl (.inl rfl))) (fun _ _ _ _ _ => pts_nil) (fun _ _ _ _ _ => (pe_call G_event_of hr rfl T.g_event_of T.k_event_of b_event_of .nil pass0 (pa_cons (pv 4) pa_nil))))
      (pss_cons (ps_for PassesOwn.leaving rfl (pi_enum (by rfl) T.n_enumerate (pa_cons (pv 1) pa_nil)) (pg_tup rfl (pgs_cons (pg_name (i := 2) sc_events_of.nd rfl (.inl rfl)) (pgs_cons (pg_name (i := 3) sc_events_of.nd rfl (.inl rfl)) pgs_nil)))
        (pss_one (ps_if (pt_cmpR op_isN (pv 3) pe_non (nomark _)) (pss_one (ps_raise rfl (takes_of rfl rfl rfl rfl) (Tr.pmk_of TX.m_NoTree TX.k_NoTree (raises_own TX.b_NoTree TX.t_NoTree) I1 hr c1 pass0 rfl TX.g_NoTree (pa_cons (pv 2) pa_nil)))) pss_nil)))
      (pss_one (ps_ret (pv 1))))), ?_⟩
    refine ⟨_, rfl, z, rfl, hz, fun L H1 S1 nL eL => ?_⟩
    refine ⟨L, rfl, ⟨_, SqL.of eL⟩, fun D nD => ?_⟩
    have LD : L ≠ D := ne_of_none eL nD
    have hcl := wordsL_count z
    have nD0 : H D = none := S1.free nD
    refine lc_list (K := K) (a := L) (xs := (wordsL z).map V.str) (fun i Hi => (∀ b o, b ≠ D → H1 b = some o → Hi b = some o) ∧ ∃ vs', Hi D = some (.lst vs') ∧ OptsAt Hi vs' (((wordsL z).take i).map evOf))
      ⟨fun b o x e => by rw [upd_ne x]; exact e, [], upd_same, .nil⟩ (fun i Hi _ p => SqL.of (p.1 _ _ LD eL)) (fun i x Hi hx p => ?_) (fun Hi p => ?_)
    · obtain ⟨k1, vs', eD, hos⟩ := p
      rw [List.getElem?_map] at hx
      obtain ⟨y, hy, rfl⟩ := Option.map_eq_some_iff.mp hx
      have hm := List.mem_of_getElem? hy
      refine ⟨rfl, keep1' ?_⟩
      refine ⟨_, rfl, y, rfl, Nat.le_trans (wordsL_len hm) hz, wordsL_asc hA hm, fun v H2 s2 ho => ?_⟩
      have eD2 := s2 _ _ eD
      have kD : ∀ (a : Addr) (xs : List V) (o : HO), H2 a = some (.tup xs) → upd H2 D o a = some (.tup xs) := fun a xs o e => (upd_ne (fun h => by
        rw [h, eD2] at e
        cases e)).trans e
      refine ⟨vs', eD2, ?_, fun b o x e => (upd_ne x).trans (s2 _ _ (k1 b o x e)), vs' ++ [v], upd_same, ?_⟩
      · rw [hos.len, List.length_map, List.length_take, sizeLine_eq]
        omega
      · rw [take_snoc hy, List.map_append]
        exact ((hos.mono fun a xs e => s2 _ _ e).snoc ho).mono fun a xs e => kD a xs _ e
    · obtain ⟨k1, vs', eD, hos⟩ := p
      rw [List.length_map, List.take_length] at hos
      have S2 : Same H Hi := fun b o e => k1 b o (ne_of_none e nD0) (S1 b o e)
      have hlen : vs'.length = ((wordsL z).map evOf).length := hos.len
      refine ⟨_, rfl, D, vs', rfl, SqL.of eD, ?_⟩
      refine for_it walk_enum (fun i σ H' => Same Hi H' ∧ (∀ m, m < i → ∃ e, ((wordsL z).map evOf)[m]? = some (some e)) ∧ ∃ b2 b3 b4 : Option V, σ = [some (.str z), some (.ref D), b2, b3, b4])
        ⟨Same.refl _, (fun m h => absurd h (Nat.not_lt_zero _)), _, _, _, rfl⟩ (fun i σ H' _ p => SqL.of (p.1 _ _ eD)) (fun j x σ H5 H6 hj p y => ?_) (fun σ H5 p => ?_)
      · obtain ⟨s5, hm, b2, b3, b4, rfl⟩ := p
        obtain ⟨T0, x', y', rfl, nT, rfl, ex, ey⟩ := y
        cases ex
        have s6 := s5.trans (new_same (o := .tup [.int (j : Nat), y']) nT)
        have eT : upd H5 T0 (.tup [.int (j : Nat), y']) T0 = some (.tup [.int (j : Nat), y']) := upd_same
        generalize upd H5 T0 (.tup [.int (j : Nat), y']) = H6 at *
        obtain ⟨o, ho, hoy⟩ : ∃ o, ((wordsL z).map evOf)[j]? = some o ∧ OptAt Hi y' o := hos.get ey
        refine ⟨T0, _, rfl, SqT.of eT, rfl, _, _, rfl, _, _, rfl, rfl, ?_⟩
        cases o with
        | none =>
          obtain rfl : y' = .non := hoy
          refine ⟨_, rfl, rfl, _, rfl, iteT ?_⟩
          refine ⟨_, rfl, (by show 1 ≤ 1000; decide), fun a na => ⟨a, .int (j : Nat), rfl, upd_same, .inl ⟨_, rfl⟩, fun x H7 nx ea ed kp => ⟨rfl, x, _, ea, ed, ?_, ?_⟩⟩⟩
          · by_cases xa : x = a
            · rw [xa]
              exact na
            · rw [upd_ne xa] at nx
              exact nx
          · have xa : x ≠ a := fun z => by
              rw [z, upd_same] at nx
              cases nx
            have nx0 : H6 x = none := by
              rw [upd_ne xa] at nx
              exact nx
            refine qE j x _ (fun b o e => ?_) ⟨ho, hm⟩ upd_same
            have e6 := s6 _ _ (S2 b o e)
            rw [upd_ne (ne_of_none e6 nx0), del_ne (ne_of_none e6 na)]
            exact kp b o (ne_of_none e6 na) (new_same na _ _ e6)
        | some e =>
          obtain ⟨a, rfl, ha⟩ := hoy
          refine ⟨_, rfl, rfl, _, rfl, iteF ?_⟩
          refine ⟨s6, fun m h => ?_, _, _, _, rfl⟩
          by_cases hmj : m = j
          · exact ⟨e, by rw [hmj]; exact ho⟩
          · exact hm m (by omega)
      · obtain ⟨s5, hm, b2, b3, b4, rfl⟩ := p
        rcases first_none ((wordsL z).map evOf) with ⟨es, he⟩ | ⟨j, hj, _⟩
        · refine ⟨_, rfl, q D vs' es H5 (S2.trans s5) nD0 he (s5 _ _ eD) ?_⟩
          exact (OptsAt.all (he ▸ hos)).mono fun a xs e => s5 _ _ e
        · exfalso
          have hjl := (List.getElem?_eq_some_iff.mp hj).1
          obtain ⟨e, he⟩ := hm j (by omega)
          rw [hj] at he
          cases he
/-- what is heard: the events, or where the first fault stands -/
theorem ok_heard {f fwi fev fes C fI Ck : Addr} {fd fds : FuncData} (F : Fun K "_law_heard" "_law_heard" s_heard f fd) (T : NmQ mg K fwi fev fes) (TX : NmX P w K mg C fI Ck)
    (G_events_of : FnOk P w K mg base (L2.CX P w) 4 fes fds ["text"] (spEvents C)) (b_events_of : Binds K fds ["text"] []) : FnOk P w K mg base CX0 5 f fd ["_law_text_here"] spDue := by
  refine F.ok sc_heard (fun vs H Q E h => ?_) (fun cdv A outer s H vs Q E hr h => ?_)
  · obtain ⟨z, rfl, _⟩ := h
    rfl
  · obtain ⟨z, rfl, hz, hA, q⟩ := h
    refine ⟨_, pss_cons (ps_set (i := 1) sc_heard.nd rfl (.inl rfl) (pe_tup (pa_cons pe_str (pa_cons pe_int pa_nil))))
      (pss_cons (ps_try_as (i := 2) rfl rfl sc_heard.nd rfl rfl ⟨rfl, by decide, .inl TX.g_NoTree⟩ takes0
        (fun W pn xe tk _ => by exact pss_one (ps_set (i := 1) sc_heard.nd rfl (.inl rfl) (pe_tup (pa_cons pe_str (pa_cons (pe_callS G_events_of hr rfl T.g_events_of T.k_events_of b_events_of (fun σ => passAt tk σ) (pa_cons (pv 0) pa_nil)) pa_nil)))))
        (ts := fun a cls d => tAsg (tTup (tCons (tIf (tB (tCB (rIsD K a cls d) (tCons (tVar 2) (tCons (tC (.ref Ck)) tNil)))) (tC (.str "at")) (tC (.str "odd"))) (tCons (tXf a cls d C "at" (tVar 2)) tNil))) (gName 1))
        (fun a oe cls d pn hzz hff => by exact pss_one (ps_set (i := 1) sc_heard.nd rfl (.inl rfl) (pe_tup (pa_cons (pe_ifExp (pt_val (pe_callB (call_isD hzz hff) (by rfl) T.n_isinstance (by decide +kernel) (pa_cons (pv 2) (pa_cons (pe_glob (v := .ref _) rfl TX.g_KeptError rfl) pa_nil)))) pe_str pe_str) (pa_cons (pe_xf TX.f_NoTree TX.no_NoTree hzz hff (pv 2)) pa_nil)))))
        )
      (pss_one (ps_ret (pv 1)))), ?_⟩
    refine ⟨(by show 2 ≤ sizeLine; decide), fun t0 nt0 => ?_⟩
    have S0 := new_same (o := .tup [.str "none", .int 0]) nt0
    generalize upd H t0 (.tup [.str "none", .int 0]) = H0 at *
    refine ⟨_, rfl, z, rfl, hz, hA, fun l vs' es H1 s1 nl he el hes => ?_, fun j d H1 s1 hf ed => ?_⟩
    · refine ⟨(by show 2 ≤ sizeLine; decide), fun t nt => ?_⟩
      refine ⟨_, rfl, q t _ ((S0.trans s1).trans (new_same nt)) (.inr ⟨l, vs', es, he, upd_same, new_same nt _ _ el, hes.mono fun a xs e => new_same nt _ _ e⟩)⟩
    · refine ⟨true, TX.e_NoTree, fun _ a0 na0 => ?_, fun z => nomatch z⟩
      refine ⟨_, rfl, _, d, _, .ref Ck, .ref Ck, true, rfl, rfl, rfl, ed, TX.x_NoTree, (fun u r => r), TX.i_NoTree, _, rfl, iteT ?_⟩
      refine ⟨_, rfl, rfl, rfl, d, _, _, rfl, ed, rfl, (by show 2 ≤ sizeLine; decide), fun t nt => ?_⟩
      exact ⟨_, rfl, q t _ ((S0.trans s1).trans (new_same nt)) (.inl ⟨j, hf.1, hf.2, upd_same⟩)⟩
end
end K2

set_option linter.all false
set_option maxRecDepth 100000
set_option maxHeartbeats 8000000
namespace K2
open PySem PySem.Spec PyProof.Rows L2
/-! ### a text with something changed: any plain text, a little longer at most -/
def wt (ys : List Str) : Nat := (ys.map (·.length)).sum + ys.length
theorem wt_app (a b : List Str) : wt (a ++ b) = wt a + wt b := by
  unfold wt
  rw [List.map_append, List.sum_append, List.length_append]
  omega
theorem wt_one (y : Str) : wt [y] = y.length + 1 := by
  unfold wt
  simp
theorem wt_part (ys : List Str) (i : Nat) : wt (ys.take i) + wt (ys.drop i) = wt ys := by
  rw [← wt_app, List.take_append_drop]
theorem join_le : ∀ ys : List Str, (PySem.Str.join " " ys).length ≤ wt ys - 1
  | [] => by
    show 0 ≤ _
    omega
  | [a] => by
    rw [wt_one]
    show a.length ≤ _
    omega
  | a :: b :: r => by
    have h := join_le (b :: r)
    show (a ++ " " ++ PySem.Str.join " " (b :: r)).length ≤ _
    rw [len_app, len_app, show (" " : Str).length = 1 from by decide +kernel, show a :: b :: r = [a] ++ (b :: r) from rfl, wt_app, wt_one]
    have h2 : 1 ≤ wt (b :: r) := by
      unfold wt
      rw [List.length_cons]
      omega
    omega
theorem join_asc : ∀ {ys : List Str}, (∀ y ∈ ys, Asc y) → Asc (PySem.Str.join " " ys)
  | [], _ => fun c hc => absurd hc (List.not_mem_nil)
  | [a], h => h a (List.mem_singleton.mpr rfl)
  | a :: b :: r, h => fun c hc => by
    have hc' : c ∈ TL.tl (a ++ " " ++ PySem.Str.join " " (b :: r)) := hc
    rw [TL.tl_append, TL.tl_append] at hc'
    rcases List.mem_append.mp hc' with h1 | h1
    · rcases List.mem_append.mp h1 with h1 | h1
      · exact h a (List.mem_cons_self ..) c h1
      · have : TL.tl " " = [32] := by decide +kernel
        rw [this, List.mem_singleton] at h1
        omega
    · exact join_asc (fun y hy => h y (List.mem_cons_of_mem _ hy)) c h1
theorem join_fits {ys : List Str} (h : wt ys ≤ 2000) : (ys.map (·.length)).sum + ys.length * (" " : Str).length ≤ 16777216 := by
  rw [show (" " : Str).length = 1 from by decide +kernel, Nat.mul_one]
  unfold wt at h
  omega
theorem cutV_lo (ws : List Str) (i : Nat) : cutV (ws.map V.str) none (some (i : Int)) = (ws.take i).map V.str := by
  unfold cutV
  rw [HT.sIx_none, HT.sIx_nat, List.drop_zero, Nat.sub_zero, List.length_map, List.map_take]
  by_cases h : i ≤ ws.length
  · rw [Nat.min_eq_left h]
  · rw [Nat.min_eq_right (by omega), List.take_of_length_le (by rw [List.length_map]; omega), List.take_of_length_le (by rw [List.length_map]; omega)]
theorem cutV_hi (ws : List Str) (i : Nat) : cutV (ws.map V.str) (some (i : Int)) none = (ws.drop i).map V.str := by
  unfold cutV
  rw [HT.sIx_none, HT.sIx_nat, List.length_map, List.map_drop]
  by_cases h : i ≤ ws.length
  · rw [Nat.min_eq_left h, List.take_of_length_le (by rw [List.length_drop, List.length_map]; omega)]
  · rw [Nat.min_eq_right (by omega), Nat.sub_self, List.take_zero, List.drop_of_length_le (by rw [List.length_map]; omega)]
theorem cutS_lo_len (z : Str) (i : Nat) : (cutS z none (some (i : Int))).length ≤ i := by
  unfold cutS
  rw [HT.sIx_none, HT.sIx_nat]
  show (List.toArray _).size ≤ _
  rw [List.size_toArray, List.length_take]
  omega
theorem cutS_hi_len (z : Str) (i : Nat) : (cutS z (some (i : Int)) none).length ≤ z.length - i := by
  unfold cutS
  rw [HT.sIx_none, HT.sIx_nat]
  show (List.toArray _).size ≤ _
  rw [List.size_toArray, List.length_take]
  omega
theorem app_asc {x y : Str} (hx : Asc x) (hy : Asc y) : Asc (x ++ y) := fun c hc => by
  have hc' : c ∈ TL.tl (x ++ y) := hc
  rw [TL.tl_append] at hc'
  exact (List.mem_append.mp hc').elim (hx c) (hy c)
theorem tjoin (ys : List Str) : Txt.join " " ys = PySem.Str.join " " ys := TL.join_eq _ _
theorem tjoin_asc {ys : List Str} (h : ∀ y ∈ ys, Asc y) : Asc (Txt.join " " ys) := by
  rw [tjoin]
  exact join_asc h
def someL : List Str := ["//", "a:", ":1", "a:01", "a:-1", "A:1", "a1:1", "any:1", "other:2", "where:3", "abcdefghi:1", "a:1:2", "a", "", "a:" ++ repS 57 9, "a:" ++ repS 49 13, "a:0", "/", "anyone:1", "a: 1", "a:+1", "a:1.0"]
theorem someL_ok : ∀ y ∈ someL, y.length ≤ 15 ∧ Asc y := by
  have h : (someL.all fun y => decide (y.length ≤ 15) && y.cps.toList.all fun c => decide (c < 256)) = true := by decide +kernel
  intro y hy
  have h1 := List.all_eq_true.mp h y hy
  rw [Bool.and_eq_true, decide_eq_true_eq] at h1
  exact ⟨h1.1, fun c hc => of_decide_eq_true (List.all_eq_true.mp h1.2 c hc)⟩
def Kp (p : Addr) (H H' : Hp) : Prop := ∀ b o, b ≠ p → H b = some o → H' b = some o
theorem Kp.trans {p : Addr} {H H' H'' : Hp} (h : Kp p H H') (k : Kp p H' H'') : Kp p H H'' := fun b o n e => k b o n (h b o n e)
theorem Kp.of {p : Addr} {H H' : Hp} (h : Same H H') : Kp p H H' := fun b o _ e => h b o e
theorem Kp.eq {p : Addr} {H H' : Hp} (h : ∀ b, b ≠ p → H' b = H b) : Kp p H H' := fun b o n e => (h b n).trans e
abbrev s_spoilt : Stmt := topS 28
abbrev n_spoilt : List Str := ["_law_box_here", "_law_text_here", "_law_words", "_law_form", "_law_at", "_law_some", "_law_spot", "_law_sign"]
theorem sc_spoilt : FnScope n_spoilt ["_law_box_here", "_law_text_here"] (defScope s_spoilt) := ⟨rfl, rfl, rfl, by decide +kernel, rfl, by decide +kernel, by decide +kernel⟩
def spSpoilt : Sp := fun vs H Q _ => ∃ (p : Addr) (z : Str) (m : Nat), vs = [.ref p, .str z] ∧ BoxAt H p m ∧ m ≤ 100000 ∧ z.length ≤ 900 ∧ Asc z ∧
  ∀ (z' : Str) (H' : Hp), z'.length ≤ z.length + 16 → Asc z' → BoxAt H' p (m + 10) → Kp p H H' → Q (.str z') H'
structure NmS (mg : Str → Option Value) (K : PySem.W.Frag) (ft : Addr) : Prop where
  g__law_take : mg "_law_take" = some (.ref ft)
  k__law_take : PySem.W.keepIn K (.ref ft) = true
  n_len : mg "len" = none
section
variable {P : Program} {w : World} {K : PySem.W.Frag} {mg : Str → Option Value} {base : Heap}
theorem ok_spoilt {f ft : Addr} {fd fdt : FuncData} (F : Fun K "_law_spoilt" "_law_spoilt" s_spoilt f fd) (T : NmS mg K ft)
    (G__law_take : FnOk P w K mg base CX0 1 ft fdt ["_law_box_here", "_law_many"] spTake) (b__law_take : Binds K fdt ["_law_box_here", "_law_many"] []) : FnOk P w K mg base CX0 2 f fd ["_law_box_here", "_law_text_here"] spSpoilt := by
  refine F.ok sc_spoilt (fun vs H Q E h => ?_) (fun cdv A outer s H vs Q E hr h => ?_)
  · obtain ⟨p, z, m, rfl, _⟩ := h
    rfl
  · obtain ⟨p, z, m, rfl, hb, hm, hz, hA, q⟩ := h
    refine ⟨_, (pss_cons (ps_par (i := 2) (j := 3) (by rfl) sc_spoilt.nd rfl rfl (by decide) rfl rfl (pa_cons (pe_split (pv 1) pe_str) (pa_cons (pe_call G__law_take hr rfl T.g__law_take T.k__law_take b__law_take .nil pass0 (pa_cons (pv 0) (pa_cons pe_int pa_nil))) pa_nil)) (by rfl))
  (pss_cons (ps_set (i := 4) sc_spoilt.nd rfl (.inl rfl) (pe_call G__law_take hr rfl T.g__law_take T.k__law_take b__law_take .nil pass0 (pa_cons (pv 0) (pa_cons (pe_callB call_len_seq (by rfl) T.n_len (by decide +kernel) (pa_cons (pv 2) pa_nil)) pa_nil))))
  (pss_cons (ps_set (i := 5) sc_spoilt.nd rfl (.inl rfl) (pe_lst (pa_cons pe_str (pa_cons pe_str (pa_cons pe_str (pa_cons pe_str (pa_cons pe_str (pa_cons pe_str (pa_cons pe_str (pa_cons pe_str (pa_cons pe_str (pa_cons pe_str (pa_cons pe_str (pa_cons pe_str (pa_cons pe_str pa_nil)))))))))))))))
  (pss_cons (ps_expr (pe_bm PySem.F.plainAttrs_list PySem.F.slot_list_extend PySem.F.type_list_extend mt_extend (pv 5) (pa_cons (pe_lst (pa_cons pe_str (pa_cons (pe_op op_add_str pe_str (pe_op op_repS pe_str pe_int)) (pa_cons (pe_op op_add_str pe_str (pe_op op_repS pe_str pe_int)) (pa_cons pe_str (pa_cons pe_str (pa_cons pe_str (pa_cons pe_str (pa_cons pe_str (pa_cons pe_str pa_nil)))))))))) pa_nil)))
  (pss_cons (ps_if (pt_cmpR op_eq (pv 3) pe_int (nomark _)) (pss_one (ps_ret (pe_join pe_str (pe_op op_cat (pe_slice sl_list (pv 2) po_none (po_some (pv 4))) (pe_slice sl_list (pv 2) (po_some (pe_op op_add (pv 4) pe_int)) po_none))))) pss_nil)
  (pss_cons (ps_if (pt_cmpR op_eq (pv 3) pe_int (nomark _)) (pss_one (ps_ret (pe_join pe_str (pe_op op_cat (pe_op op_cat (pe_slice sl_list (pv 2) po_none (po_some (pv 4))) (pe_lst (pa_cons (pe_ix ix_list (pv 5) (pe_call G__law_take hr rfl T.g__law_take T.k__law_take b__law_take .nil pass0 (pa_cons (pv 0) (pa_cons (pe_callB call_len_seq (by rfl) T.n_len (by decide +kernel) (pa_cons (pv 5) pa_nil)) pa_nil))) (fun _ _ => rfl)) pa_nil))) (pe_slice sl_list (pv 2) (po_some (pe_op op_add (pv 4) (pe_call G__law_take hr rfl T.g__law_take T.k__law_take b__law_take .nil pass0 (pa_cons (pv 0) (pa_cons pe_int pa_nil))))) po_none))))) pss_nil)
  (pss_cons (ps_par (i := 6) (j := 7) (by rfl) sc_spoilt.nd rfl rfl (by decide) rfl rfl (pa_cons (pe_call G__law_take hr rfl T.g__law_take T.k__law_take b__law_take .nil pass0 (pa_cons (pv 0) (pa_cons (pe_op op_add (pe_callB call_len_str (by rfl) T.n_len (by decide +kernel) (pa_cons (pv 1) pa_nil)) pe_int) pa_nil))) (pa_cons (pe_ix ix_str pe_str (pe_call G__law_take hr rfl T.g__law_take T.k__law_take b__law_take .nil pass0 (pa_cons (pv 0) (pa_cons pe_int pa_nil))) (fun _ _ => rfl)) pa_nil)) (by rfl))
  (pss_one (ps_ret (pe_op op_add_str (pe_op op_add_str (pe_slice sl_str (pv 1) po_none (po_some (pv 6))) (pv 7)) (pe_slice sl_str (pv 1) (po_some (pe_op op_sub (pe_op op_add (pv 6) (pv 3)) pe_int)) po_none))))))))))), ?_⟩
    have hz' : z.length ≤ sizeLine := Nat.le_of_lt (small1000 (by omega))
    have hws : ∀ y ∈ Txt.split z " ", Asc y := fun y hy => split_asc hA hy
    have hwt : wt (Txt.split z " ") ≤ z.length + 1 := split_weight z " " (by decide +kernel)
    have hn1 : 1 ≤ (Txt.split z " ").length := by
      have := split_pos z " "
      omega
    have hn2 : (Txt.split z " ").length ≤ wt (Txt.split z " ") := by
      unfold wt
      omega
    generalize hW : Txt.split z " " = W at *
    refine ⟨_, rfl, ⟨_, rfl⟩, z, " ", rfl, rfl, by decide +kernel, (by rw [sizeLine_eq]; omega), fun L nL => ?_⟩
    rw [hW]
    have S1 := new_same (o := .lst (W.map V.str)) nL
    have eL : upd H L (.lst (W.map V.str)) L = some (.lst (W.map V.str)) := upd_same
    have pL := hb.ne nL
    have hb1 := hb.mono S1
    generalize upd H L (.lst (W.map V.str)) = H1 at *
    refine ⟨_, rfl, p, 4, m, rfl, hb1, by omega, by decide, by decide, fun form H2 d0 d1 hb2 k2 => ⟨_, _, rfl, ?_⟩⟩
    have K2' : Kp p H H2 := (Kp.of S1).trans (Kp.eq k2)
    have eL2 : H2 L = some (.lst (W.map V.str)) := (k2 L (Ne.symm pL)).trans eL
    -- at
    refine ⟨_, rfl, _, rfl, L, _, rfl, .inl (SqL.of eL2), ?_⟩
    rw [List.length_map]
    refine ⟨p, _, _, rfl, hb2, by omega, by omega, by omega, fun at' H3 a0 a1 hb3 k3 => ?_⟩
    obtain ⟨i, rfl⟩ : ∃ i : Nat, at' = (i : Int) := ⟨at'.toNat, by omega⟩
    have K3 : Kp p H H3 := K2'.trans (Kp.eq k3)
    have eL3 : H3 L = some (.lst (W.map V.str)) := (k3 L (Ne.symm pL)).trans eL2
    -- some
    refine ⟨(by show 13 ≤ sizeLine; decide), fun l nl => ?_⟩
    have lp := hb3.ne nl
    have lL : L ≠ l := ne_of_none eL3 nl
    refine ⟨_, rfl, .inl ⟨rfl, _, SqL.of upd_same⟩, ?_⟩
    refine ⟨57, 9, congrArg V.str (by decide +kernel), rfl, by decide, by decide, _, _, rfl, rfl, (by show 2 + 9 ≤ sizeLine; decide), 49, 13, congrArg V.str (by decide +kernel), rfl, by decide, by decide, _, _, rfl, rfl, (by show 2 + 13 ≤ sizeLine; decide), (by show 9 ≤ sizeLine; decide), fun l2 nl2 => ?_⟩
    have ll : l ≠ l2 := ne_of_none upd_same nl2
    refine ⟨l, l2, _, _, rfl, rfl, (upd_ne ll).trans upd_same, upd_same, (by show 13 + 9 ≤ sizeLine; decide), ?_⟩
    have nl2' : H3 l2 = none := by
      rw [upd_ne (Ne.symm ll)] at nl2
      exact nl2
    have S4 : Same H3 (upd (upd (upd H3 l (.lst [.str "//", .str "a:", .str ":1", .str "a:01", .str "a:-1", .str "A:1", .str "a1:1", .str "any:1", .str "other:2", .str "where:3", .str "abcdefghi:1", .str "a:1:2", .str "a"])) l2 (.lst [.str "", .str (("a:" : Str) ++ repS 57 9), .str (("a:" : Str) ++ repS 49 13), .str "a:0", .str "/", .str "anyone:1", .str "a: 1", .str "a:+1", .str "a:1.0"])) l (.lst ([.str "//", .str "a:", .str ":1", .str "a:01", .str "a:-1", .str "A:1", .str "a1:1", .str "any:1", .str "other:2", .str "where:3", .str "abcdefghi:1", .str "a:1:2", .str "a"] ++ [.str "", .str (("a:" : Str) ++ repS 57 9), .str (("a:" : Str) ++ repS 49 13), .str "a:0", .str "/", .str "anyone:1", .str "a: 1", .str "a:+1", .str "a:1.0"]))) := fun b o e => by
      rw [upd_ne (ne_of_none e nl), upd_ne (ne_of_none e nl2'), upd_ne (ne_of_none e nl)]
      exact e
    have eS : (upd (upd (upd H3 l (.lst [.str "//", .str "a:", .str ":1", .str "a:01", .str "a:-1", .str "A:1", .str "a1:1", .str "any:1", .str "other:2", .str "where:3", .str "abcdefghi:1", .str "a:1:2", .str "a"])) l2 (.lst [.str "", .str (("a:" : Str) ++ repS 57 9), .str (("a:" : Str) ++ repS 49 13), .str "a:0", .str "/", .str "anyone:1", .str "a: 1", .str "a:+1", .str "a:1.0"])) l (.lst ([.str "//", .str "a:", .str ":1", .str "a:01", .str "a:-1", .str "A:1", .str "a1:1", .str "any:1", .str "other:2", .str "where:3", .str "abcdefghi:1", .str "a:1:2", .str "a"] ++ [.str "", .str (("a:" : Str) ++ repS 57 9), .str (("a:" : Str) ++ repS 49 13), .str "a:0", .str "/", .str "anyone:1", .str "a: 1", .str "a:+1", .str "a:1.0"]))) l = some (.lst (someL.map V.str)) := upd_same
    generalize upd (upd (upd H3 l (.lst [.str "//", .str "a:", .str ":1", .str "a:01", .str "a:-1", .str "A:1", .str "a1:1", .str "any:1", .str "other:2", .str "where:3", .str "abcdefghi:1", .str "a:1:2", .str "a"])) l2 (.lst [.str "", .str (("a:" : Str) ++ repS 57 9), .str (("a:" : Str) ++ repS 49 13), .str "a:0", .str "/", .str "anyone:1", .str "a: 1", .str "a:+1", .str "a:1.0"])) l (.lst ([.str "//", .str "a:", .str ":1", .str "a:01", .str "a:-1", .str "A:1", .str "a1:1", .str "any:1", .str "other:2", .str "where:3", .str "abcdefghi:1", .str "a:1:2", .str "a"] ++ [.str "", .str (("a:" : Str) ++ repS 57 9), .str (("a:" : Str) ++ repS 49 13), .str "a:0", .str "/", .str "anyone:1", .str "a: 1", .str "a:+1", .str "a:1.0"])) = H4 at *
    have hb4 := hb3.mono S4
    have K4 : Kp p H H4 := K3.trans (Kp.of S4)
    have eL4 := S4 _ _ eL3
    have hform : form = 0 ∨ form = 1 ∨ form = 2 ∨ form = 3 := by omega
    refine ⟨_, rfl, rfl, _, rfl, ite2 (fun h0 => ?_) (fun h0 => ?_)⟩
    · -- a word less
      refine ⟨⟨_, rfl⟩, _, rfl, _, rfl, _, rfl, L, _, rfl, SqL.of eL4, fun r1 n1 => ?_⟩
      have S5 := new_same (o := .lst (cutV (W.map V.str) none (some ((i : Nat) : Int)))) n1
      refine ⟨_, rfl, _, rfl, _, _, rfl, rfl, _, rfl, L, _, rfl, SqL.of (S5 _ _ eL4), fun r2 n2 => ?_⟩
      have r12 : r1 ≠ r2 := ne_of_none upd_same n2
      have S6 := new_same (o := .lst (cutV (W.map V.str) (some (((i : Nat) : Int) + 1)) none)) n2
      refine ⟨r1, r2, _, _, rfl, rfl, (upd_ne r12).trans upd_same, upd_same, ?_, fun r3 n3 => ?_⟩
      · have h1 := cutV_length (W.map V.str) none (some ((i : Nat) : Int))
        have h2 := cutV_length (W.map V.str) (some (((i : Nat) : Int) + 1)) none
        rw [List.length_map] at h1 h2
        rw [sizeLine_eq]
        omega
      · have hi1 : ((i : Nat) : Int) + 1 = ((i + 1 : Nat) : Int) := by omega
        have h1 := wt_part W i
        have h2 := wt_part W (i + 1)
        have h3 : wt (W.drop (i + 1)) ≤ wt (W.drop i) := by
          have := wt_part (W.drop i) 1
          rw [List.drop_drop] at this
          omega
        have h4 : wt (W.take i ++ W.drop (i + 1)) ≤ wt W := by
          rw [wt_app]
          omega
        refine ⟨_, r3, W.take i ++ W.drop (i + 1), rfl, rfl, .inl (SqL.of (by rw [upd_same, cutV_lo, hi1, cutV_hi, List.map_append])), join_fits (by omega), ?_⟩
        refine q _ _ ?_ (tjoin_asc fun y hy => ?_) ((hb4.mono ((S5.trans S6).trans (new_same n3))).le (by omega)) (K4.trans (Kp.of ((S5.trans S6).trans (new_same n3))))
        · have := join_le (W.take i ++ W.drop (i + 1))
          rw [tjoin]
          omega
        · exact (List.mem_append.mp hy).elim (fun h => hws y (List.mem_of_mem_take h)) fun h => hws y (List.mem_of_mem_drop h)
    refine ⟨_, rfl, rfl, _, rfl, ite2 (fun h1 => ?_) (fun h1 => ?_)⟩
    · -- a word put in
      refine ⟨⟨_, rfl⟩, _, rfl, _, rfl, _, rfl, L, _, rfl, SqL.of eL4, fun r1 n1 => ?_⟩
      have S5 := new_same (o := .lst (cutV (W.map V.str) none (some ((i : Nat) : Int)))) n1
      have e15 : upd H4 r1 (.lst (cutV (W.map V.str) none (some ((i : Nat) : Int)))) r1 = some (.lst ((W.take i).map V.str)) := by rw [upd_same, cutV_lo]
      have hb5 := hb4.mono S5
      have K5 := K4.trans (Kp.of (p := p) S5)
      have pr1 := hb4.ne n1
      generalize upd H4 r1 (.lst (cutV (W.map V.str) none (some ((i : Nat) : Int)))) = H5 at *
      refine ⟨_, rfl, _, rfl, _, rfl, l, _, rfl, .inl (SqL.of (S5 _ _ eS)), ?_⟩
      rw [List.length_map]
      refine ⟨p, _, _, rfl, hb5, by omega, (by show (0 : Int) < (22 : Nat); decide), (by show ((22 : Nat) : Int) < 1073741824; decide), fun e1 H6 e10 e11 hb6 k6 => ?_⟩
      obtain ⟨j, rfl⟩ : ∃ j : Nat, e1 = (j : Int) := ⟨e1.toNat, by omega⟩
      have hj : j < someL.length := by omega
      have hsj : (someL.map V.str)[j]? = some (.str someL[j]) := by
        rw [List.getElem?_map, List.getElem?_eq_getElem hj]
        rfl
      have eS6 := (k6 l (Ne.symm lp)).trans (S5 _ _ eS)
      refine ⟨l, _, _, _, rfl, rfl, SqL.of eS6, atI_nat hsj, (by show 1 ≤ sizeLine; decide), fun r2 n2 => ?_⟩
      have e16 := (k6 r1 (Ne.symm pr1)).trans e15
      have S7 := new_same (o := .lst [.str someL[j]]) n2
      have r12 : r1 ≠ r2 := ne_of_none e16 n2
      refine ⟨r1, r2, _, _, rfl, rfl, (upd_ne r12).trans e16, upd_same, ?_, fun r3 n3 => ?_⟩
      · rw [List.length_map, List.length_take, sizeLine_eq]
        show _ + 1 ≤ _
        omega
      have S8 := S7.trans (new_same (o := .lst ((W.take i).map V.str ++ [.str someL[j]])) n3)
      have e38 : upd (upd H6 r2 (.lst [.str someL[j]])) r3 (.lst ((W.take i).map V.str ++ [.str someL[j]])) r3 = some (.lst ((W.take i ++ [someL[j]]).map V.str)) := by rw [upd_same, List.map_append]; rfl
      have hb8 := hb6.mono S8
      have K8 := (K5.trans (Kp.eq k6)).trans (Kp.of (p := p) S8)
      have pr3 := (hb6.mono S7).ne n3
      have eL8 := S8 _ _ ((k6 L (Ne.symm pL)).trans (S5 _ _ eL4))
      generalize upd (upd H6 r2 (.lst [.str someL[j]])) r3 (.lst ((W.take i).map V.str ++ [.str someL[j]])) = H8 at *
      refine ⟨_, rfl, _, rfl, _, rfl, p, 2, _, rfl, hb8, by omega, by decide, by decide, fun e2 H9 e20 e21 hb9 k9 => ?_⟩
      obtain ⟨u, rfl⟩ : ∃ u : Nat, e2 = (u : Int) := ⟨e2.toNat, by omega⟩
      have e39 := (k9 r3 (Ne.symm pr3)).trans e38
      have eL9 := (k9 L (Ne.symm pL)).trans eL8
      refine ⟨_, _, rfl, rfl, _, rfl, L, _, rfl, SqL.of eL9, fun r4 n4 => ?_⟩
      have S10 := new_same (o := .lst (cutV (W.map V.str) (some (((i : Nat) : Int) + ((u : Nat) : Int))) none)) n4
      have r34 : r3 ≠ r4 := ne_of_none e39 n4
      refine ⟨r3, r4, _, _, rfl, rfl, (upd_ne r34).trans e39, upd_same, ?_, fun r5 n5 => ?_⟩
      · have h1 := cutV_length (W.map V.str) (some (((i : Nat) : Int) + ((u : Nat) : Int))) none
        rw [List.length_map] at h1
        rw [List.length_map, List.length_append, List.length_take, sizeLine_eq]
        show _ + 1 + _ ≤ _
        omega
      · have hi1 : ((i : Nat) : Int) + ((u : Nat) : Int) = ((i + u : Nat) : Int) := by omega
        obtain ⟨hl, hasc⟩ := someL_ok someL[j] (List.getElem_mem hj)
        have h1 := wt_part W i
        have h3 : wt (W.drop (i + u)) ≤ wt (W.drop i) := by
          have := wt_part (W.drop i) u
          rw [List.drop_drop] at this
          omega
        have h4 : wt ((W.take i ++ [someL[j]]) ++ W.drop (i + u)) ≤ wt W + 16 := by
          rw [wt_app, wt_app, wt_one]
          omega
        refine ⟨_, r5, (W.take i ++ [someL[j]]) ++ W.drop (i + u), rfl, rfl, .inl (SqL.of (by rw [upd_same, hi1, cutV_hi, ← List.map_append])), join_fits (by omega), ?_⟩
        refine q _ _ ?_ (tjoin_asc fun y hy => ?_) ((hb9.mono (S10.trans (new_same n5))).le (by omega)) ((K8.trans (Kp.eq k9)).trans (Kp.of (S10.trans (new_same n5))))
        · have := join_le ((W.take i ++ [someL[j]]) ++ W.drop (i + u))
          rw [tjoin]
          omega
        · rcases List.mem_append.mp hy with h | h
          · rcases List.mem_append.mp h with h | h
            · exact hws y (List.mem_of_mem_take h)
            · rw [List.mem_singleton.mp h]
              exact hasc
          · exact hws y (List.mem_of_mem_drop h)
    · -- a sign put in, or another one
      have hf : form = 2 ∨ form = 3 := by
        rcases hform with rfl | rfl | h
        · exact absurd (decide_eq_true rfl) h0
        · exact absurd (decide_eq_true rfl) h1
        · exact h
      refine ⟨_, rfl, _, rfl, z, rfl, hz', _, _, rfl, rfl, p, _, _, rfl, hb4, by omega, by omega, by omega, fun e1 H5 e10 e11 hb5 k5 => ?_⟩
      obtain ⟨s0, rfl⟩ : ∃ s0 : Nat, e1 = (s0 : Int) := ⟨e1.toNat, by omega⟩
      refine ⟨_, rfl, p, 9, _, rfl, hb5, by omega, by decide, by decide, fun e2 H6 e20 e21 hb6 k6 => ?_⟩
      obtain ⟨j, rfl⟩ : ∃ j : Nat, e2 = (j : Int) := ⟨e2.toNat, by omega⟩
      obtain ⟨c, hc, hc2⟩ : ∃ c : Nat, ("/: a0A\n:1" : Str).cps.toList[j]? = some c ∧ c < 256 := by
        have h : ∀ j, j < 9 → ∃ c, ("/: a0A\n:1" : Str).cps.toList[j]? = some c ∧ c < 256 := by
          intro j hj
          have : (((List.range 9).all fun j => match ("/: a0A\n:1" : Str).cps.toList[j]? with | some c => decide (c < 256) | none => false)) = true := by decide +kernel
          have h1 := List.all_eq_true.mp this j (List.mem_range.mpr hj)
          cases h2 : ("/: a0A\n:1" : Str).cps.toList[j]? with
          | none =>
            rw [h2] at h1
            cases h1
          | some c =>
            rw [h2] at h1
            exact ⟨c, rfl, of_decide_eq_true h1⟩
        exact h j (by omega)
      refine ⟨_, _, c, rfl, rfl, (by rw [sizeLine_eq]; decide +kernel), atI_nat hc, _, _, rfl, ?_⟩
      have K6 := (K4.trans (Kp.eq k5)).trans (Kp.eq k6)
      have l1 := cutS_lo_len z s0
      have l0 := cutS_length z none (some ((s0 : Nat) : Int))
      refine ⟨_, rfl, _, rfl, _, rfl, z, rfl, hz', _, rfl, _, _, rfl, rfl, (by show _ + 1 ≤ _; rw [sizeLine_eq]; omega), ?_⟩
      obtain ⟨u, hu, hu2⟩ : ∃ u : Nat, ((s0 : Nat) : Int) + form - 2 = ((u : Nat) : Int) ∧ s0 ≤ u := ⟨(((s0 : Nat) : Int) + form - 2).toNat, by omega, by omega⟩
      refine ⟨_, rfl, _, rfl, _, rfl, _, _, rfl, rfl, _, _, rfl, rfl, _, rfl, z, rfl, hz', ?_⟩
      rw [hu]
      have l2 := cutS_hi_len z u
      have lc : (⟨#[c]⟩ : Str).length = 1 := rfl
      refine ⟨_, _, rfl, rfl, (by rw [len_app, lc, sizeLine_eq]; omega), ?_⟩
      refine q _ _ ?_ (app_asc (app_asc (cut_asc hA) fun x hx => ?_) (cut_asc hA)) (hb6.le (by omega)) K6
      · rw [len_app, len_app, lc]
        omega
      · rw [List.mem_singleton.mp hx]
        exact hc2
end
end K2

set_option linter.all false
set_option maxRecDepth 100000
set_option maxHeartbeats 8000000
namespace K2
open PySem PySem.Spec PyProof.Rows L2
instance (z : Str) : Decidable (Asc z) := inferInstanceAs (Decidable (∀ c ∈ z.cps.toList, c < 256))
/-! ### how long the text of a datum is -/
theorem from_le : ∀ (ts : List Str) (k : Nat) (acc : Str), (textFrom k acc ts).length ≤ acc.length + piled ts
  | [], k, acc => Nat.le_add_right _ _
  | t :: r, k, acc => by
    have h := from_le r (k + 1) (acc ++ (if k > 0 then ", " else "" : String) ++ t)
    have e : (acc ++ (if k > 0 then ", " else "" : String) ++ t).length ≤ acc.length + 2 + t.length := by
      rw [strLen_append, strLen_append]
      by_cases hk : k > 0
      · rw [if_pos hk]
        have : (Str.ofString ", ").length = 2 := rfl
        omega
      · rw [if_neg hk]
        have : (Str.ofString "").length = 0 := rfl
        omega
    have p : piled (t :: r) = t.length + 2 + piled r := by simp [piled]
    show (textFrom (k + 1) _ r).length ≤ _
    omega
theorem list_le (ts : List Str) : (listText ts).length ≤ piled ts + 2 := by
  have h := from_le ts 0 "["
  have e1 : (Str.ofString "[").length = 1 := rfl
  have e2 : (Str.ofString "]").length = 1 := rfl
  show (textFrom 0 "[" ts ++ "]").length ≤ _
  rw [strLen_append]
  omega
theorem tuple_le (ts : List Str) : (tupleText ts).length ≤ piled ts + 3 := by
  unfold tupleText
  rw [strLen_append, strLen_append]
  have e1 : (Str.ofString "(").length = 1 := rfl
  have e2 : ((if ts.length == 1 then ",)" else ")" : String) : Str).length ≤ 2 := by
    split
    · exact Nat.le_refl 2
    · exact (by decide : 1 ≤ 2)
  have e3 : (Str.join ", " ts).length ≤ piled ts := by
    cases ts with
    | nil => exact Nat.zero_le _
    | cons x r =>
      have := join_length_add (x :: r) (by simp)
      omega
  omega
theorem piled_le {L : Nat} : ∀ {ds : List PyData}, (∀ d ∈ ds, d.shown.length ≤ L) → piled (PyData.shownAll ds) ≤ ds.length * (L + 2)
  | [], _ => Nat.zero_le _
  | d :: r, h => by
    have ih := piled_le (ds := r) fun x hx => h x (List.mem_cons_of_mem _ hx)
    have h1 := h d (List.mem_cons_self ..)
    have p : piled (PyData.shownAll (d :: r)) = d.shown.length + 2 + piled (PyData.shownAll r) := by
      show piled (d.shown :: PyData.shownAll r) = _
      exact piled_cons _ _
    rw [p, List.length_cons, Nat.succ_mul]
    omega
/-- a datum that repr shows, its depth, the length of its text -/
structure Sh (k L : Nat) (d : PyData) : Prop where
  s : d.showable = true
  n : d.hasDict = false
  k : d.depth ≤ k
  l : d.shown.length ≤ L
theorem all_show : ∀ {ds : List PyData}, (∀ d ∈ ds, d.showable = true) → PyData.showableAll ds = true
  | [], _ => rfl
  | d :: r, h => by
    unfold PyData.showableAll
    rw [h d (List.mem_cons_self ..), all_show fun x hx => h x (List.mem_cons_of_mem _ hx)]
    rfl
theorem all_noDict : ∀ {ds : List PyData}, (∀ d ∈ ds, d.hasDict = false) → PyData.hasDictAll ds = false
  | [], _ => rfl
  | d :: r, h => by
    unfold PyData.hasDictAll
    rw [h d (List.mem_cons_self ..), all_noDict fun x hx => h x (List.mem_cons_of_mem _ hx)]
    rfl
theorem all_depth {k : Nat} : ∀ {ds : List PyData}, (∀ d ∈ ds, d.depth ≤ k) → PyData.depthAll ds ≤ k
  | [], _ => Nat.zero_le _
  | d :: r, h => by
    unfold PyData.depthAll
    have h1 := h d (List.mem_cons_self ..)
    have h2 := all_depth (ds := r) fun x hx => h x (List.mem_cons_of_mem _ hx)
    omega
theorem Sh.list {k L n : Nat} {ds : List PyData} (h : ∀ d ∈ ds, Sh k L d) (hn : ds.length ≤ n) : Sh (k + 1) (n * (L + 2) + 3) (.list ds) := by
  refine ⟨?_, ?_, ?_, ?_⟩
  · unfold PyData.showable
    exact all_show fun d hd => (h d hd).s
  · unfold PyData.hasDict
    exact all_noDict fun d hd => (h d hd).n
  · unfold PyData.depth
    have := all_depth fun d hd => (h d hd).k
    omega
  · unfold PyData.shown
    have h1 := list_le (PyData.shownAll ds)
    have h2 := piled_le fun d hd => (h d hd).l
    have h3 := Nat.mul_le_mul_right (L + 2) hn
    omega
theorem Sh.tuple {k L n : Nat} {ds : List PyData} (h : ∀ d ∈ ds, Sh k L d) (hn : ds.length ≤ n) : Sh (k + 1) (n * (L + 2) + 3) (.tuple ds) := by
  refine ⟨?_, ?_, ?_, ?_⟩
  · unfold PyData.showable
    exact all_show fun d hd => (h d hd).s
  · unfold PyData.hasDict
    exact all_noDict fun d hd => (h d hd).n
  · unfold PyData.depth
    have := all_depth fun d hd => (h d hd).k
    omega
  · unfold PyData.shown
    have h1 := tuple_le (PyData.shownAll ds)
    have h2 := piled_le fun d hd => (h d hd).l
    have h3 := Nat.mul_le_mul_right (L + 2) hn
    omega
theorem Sh.int {i : Int} (h0 : 0 ≤ i) (h : i < 10 ^ 12) : Sh 0 20 (.int i) := by
  have hn : i.natAbs < 10 ^ 12 := by
    have e : (10 : Int) ^ 12 = 1000000000000 := by decide
    have e2 : (10 : Nat) ^ 12 = 1000000000000 := by decide
    omega
  refine ⟨decide_eq_true ?_, rfl, Nat.zero_le _, ?_⟩
  · by_cases z : i.natAbs = 0
    · rw [z]
      decide
    · exact Nat.lt_of_lt_of_le ((Nat.log2_lt z).mpr (Nat.lt_of_lt_of_le hn (by decide : 10 ^ 12 ≤ 2 ^ 40))) (by decide)
  · show (Str.ofString (toString i)).length ≤ 20
    exact Nat.le_trans (toString_length_le h0 (k := 12) (by decide) h) (by decide)
theorem Sh.up {k k' L L' : Nat} {d : PyData} (h : Sh k L d) (hk : k ≤ k') (hl : L ≤ L') : Sh k' L' d := ⟨h.s, h.n, Nat.le_trans h.k hk, Nat.le_trans h.l hl⟩
theorem Sh.str {z : Str} {n : Nat} (h : Asc z) (hn : z.length ≤ n) : Sh 0 (10 * n + 2) (.str z) := by
  refine ⟨rfl, rfl, Nat.zero_le _, ?_⟩
  have := PySem.StrLaws.reprText_len z fun c hc => Nat.lt_of_lt_of_le (h c hc) (by decide)
  show (reprText z).length ≤ _
  omega
/-! ### texts of rows, read again -/
theorem name_chars {z : Str} (h : nameB z = true) : ∀ c ∈ z.cps.toList, 97 ≤ c ∧ c ≤ 122 := fun c hc => by
  rw [nameB_eq] at h
  simp only [Bool.and_eq_true] at h
  have := List.all_eq_true.mp h.2.2.2 c hc
  rw [Bool.and_eq_true, decide_eq_true_eq, decide_eq_true_eq] at this
  exact this
theorem name_asc {z : Str} (h : nameB z = true) : Asc z := fun c hc => by
  have := name_chars h c hc
  omega
theorem tl_word (z : Str) (m : Nat) : TL.tl (wordS (some (z, m))) = z.cps.toList ++ 58 :: TL.numL m := by
  show TL.tl (z ++ ":" ++ (toString ((m : Nat) : Int) : String)) = _
  rw [TL.tl_append, TL.tl_append, TL.tl_num, show TL.tl ":" = [58] from by decide +kernel, List.append_assoc]
  rfl
theorem word_chars {e : Ev} (h : EvOk e) : ∀ c ∈ TL.tl (wordS e), c ≠ 32 ∧ c < 256 := by
  match e, h with
  | none, _ => exact (by decide +kernel : ∀ c ∈ TL.tl ("/" : Str), c ≠ 32 ∧ c < 256)
  | some (z, m), h =>
    intro c hc
    rw [tl_word] at hc
    rcases List.mem_append.mp hc with h1 | h1
    · have := name_chars h.1 c h1
      omega
    · rcases List.mem_cons.mp h1 with h1 | h1
      · omega
      · have := TL.numL_digits m c h1
        omega
theorem word_asc {e : Ev} (h : EvOk e) : Asc (wordS e) := fun c hc => (word_chars h c hc).2
theorem cut_mk : ∀ {a b : List Nat}, 58 ∉ a → cut (a ++ 58 :: b) = some (a, b)
  | [], b, _ => by
    show cut (58 :: b) = _
    unfold cut
    rw [if_pos rfl]
  | c :: a, b, h => by
    show cut (c :: (a ++ 58 :: b)) = _
    unfold cut
    rw [if_neg (fun e => h (by rw [e]; exact List.mem_cons_self ..)), cut_mk (a := a) (b := b) fun hm => h (List.mem_cons_of_mem _ hm)]
    rfl
theorem lead {m : Nat} (h : (TL.numL m)[0]? = some 48) : m = 0 := by
  induction m using Nat.strongRecOn with
  | _ m ih =>
    by_cases h10 : m < 10
    · rw [TL.numL_lt h10] at h
      have := Option.some.inj h
      omega
    · rw [TL.numL_step (by omega)] at h
      have hne := TL.numL_ne (m / 10)
      rw [List.getElem?_append_left (List.length_pos_iff.mpr hne)] at h
      have := ih (m / 10) (by omega) h
      omega
theorem mkS_tl (z : Str) : mkS z.cps.toList = z := by
  cases z
  rfl
theorem fig_num {m : Nat} (h : m < 10 ^ 9) : figB (mkS (TL.numL m)) = true := by
  have h1 := TL.numL_len (n := m) (k := 9) (by decide) h
  have h2 := List.length_pos_iff.mpr (TL.numL_ne m)
  unfold figB
  simp only [Bool.and_eq_true, Bool.or_eq_true, decide_eq_true_eq, Bool.not_eq_true', decide_eq_false_iff_not]
  refine ⟨by rw [mkS_len]; exact h2, by rw [mkS_len]; omega, ?_, ?_⟩
  · rw [List.all_eq_true]
    intro c hc
    have := TL.numL_digits m c hc
    rw [Bool.and_eq_true]
    exact ⟨decide_eq_true this.1, decide_eq_true this.2⟩
  · by_cases h0 : m = 0
    · left
      rw [h0]
      decide +kernel
    · exact .inr fun e => h0 (lead e)
theorem evOf_word {e : Ev} (h : EvOk e) : evOf (wordS e) = some e := by
  match e, h with
  | none, _ => exact if_pos rfl
  | some (z, m), h =>
    have ht : (wordS (some (z, m))).cps.toList = z.cps.toList ++ 58 :: TL.numL m := tl_word z m
    have h58 : 58 ∉ z.cps.toList := fun hm => by
      have := name_chars h.1 58 hm
      omega
    have hne : ¬ wordS (some (z, m)) = "/" := fun e => by
      have h1 : (58 : Nat) ∈ (wordS (some (z, m))).cps.toList := by
        rw [ht]
        exact List.mem_append_right _ (List.mem_cons_self ..)
      rw [e] at h1
      exact absurd h1 (by decide +kernel)
    have hc := cut_mk (b := TL.numL m) h58
    rw [← ht] at hc
    rw [evOf_some hne hc, mkS_tl, h.1, fig_num h.2, TL.numL_val]
    rfl
theorem word_pos {e : Ev} : 1 ≤ (wordS e).length := by
  match e with
  | none => exact (by decide +kernel : 1 ≤ ("/" : Str).length)
  | some (z, m) =>
    show 1 ≤ (z ++ ":" ++ _).length
    rw [len_app, len_app, show (":" : Str).length = 1 from by decide +kernel]
    omega
theorem join_ge : ∀ {ys : List Str} {y : Str}, y ∈ ys → y.length ≤ (PySem.Str.join " " ys).length
  | [], _, h => absurd h List.not_mem_nil
  | [a], y, h => by
    rw [List.mem_singleton.mp h]
    exact Nat.le_refl _
  | a :: b :: r, y, h => by
    show _ ≤ (a ++ " " ++ PySem.Str.join " " (b :: r)).length
    rw [len_app, len_app]
    rcases List.mem_cons.mp h with h | h
    · rw [h]
      omega
    · have := join_ge (ys := b :: r) h
      omega
theorem words_text {es : List Ev} (h : ∀ e ∈ es, EvOk e) : wordsL (textS es) = es.map wordS := by
  cases es with
  | nil => exact if_pos rfl
  | cons e es =>
    have hne : ¬ textS (e :: es) = "" := fun z => by
      have h1 := join_ge (ys := (e :: es).map wordS) (y := wordS e) (List.mem_map_of_mem (List.mem_cons_self ..))
      have h2 : textS (e :: es) = PySem.Str.join " " ((e :: es).map wordS) := tjoin _
      rw [← h2, z, show ("" : Str).length = 0 from by decide +kernel] at h1
      have := word_pos (e := e)
      omega
    rw [wordsL_of hne]
    refine TL.split_join (s := 32) (S := []) (by decide +kernel) (by decide +kernel) (by simp) fun p hp hm => ?_
    obtain ⟨x, hx, rfl⟩ := List.mem_map.mp hp
    exact (word_chars (h x hx) 32 hm).1 rfl
theorem text_asc {es : List Ev} (h : ∀ e ∈ es, EvOk e) : Asc (textS es) := tjoin_asc fun y hy => by
  obtain ⟨x, hx, rfl⟩ := List.mem_map.mp hy
  exact word_asc (h x hx)
theorem text_len {es : List Ev} (h : ∀ e ∈ es, EvOk e) (hn : es.length ≤ 20) : (textS es).length ≤ 400 := by
  have h1 := join_le (es.map wordS)
  have h2 := words_len h
  rw [show textS es = PySem.Str.join " " (es.map wordS) from tjoin _]
  unfold wt at h1
  rw [List.length_map] at h1
  omega
theorem map_evOf {es : List Ev} (h : ∀ e ∈ es, EvOk e) : (es.map wordS).map evOf = es.map some := by
  rw [List.map_map]
  exact List.map_congr_left fun e he => evOf_word (h e he)
theorem some_inj : ∀ {a b : List Ev}, a.map some = b.map some → a = b
  | [], [], _ => rfl
  | [], _ :: _, h => by cases h
  | _ :: _, [], h => by cases h
  | x :: a, y :: b, h => by
    rw [List.map_cons, List.map_cons] at h
    obtain ⟨h1, h2⟩ := List.cons.inj h
    rw [Option.some.inj h1, some_inj h2]
/-! ### what the law finds due, as data -/
def DueD (ws : List Str) (d : PyData) : Prop :=
  (∃ j, FirstNone ws j ∧ d = .tuple [.str "at", .int (j : Nat)]) ∨ ∃ es : List Ev, ws.map evOf = es.map some ∧ d = .tuple [.str "events", .list (es.map evD)]
theorem dueD_one {ws : List Str} {d d' : PyData} (h : DueD ws d) (h' : DueD ws d') : d = d' := by
  have mix : ∀ {j : Nat} {es : List Ev}, FirstNone ws j → ws.map evOf = es.map some → False := fun {j es} h1 h2 => by
    have h3 := h1.1
    rw [h2, List.getElem?_map] at h3
    cases h4 : es[j]? with
    | none =>
      rw [h4] at h3
      cases h3
    | some e =>
      rw [h4] at h3
      cases h3
  have half : ∀ {i j : Nat}, FirstNone ws i → FirstNone ws j → ¬ i < j := fun {i j} h1 h2 hl => by
    obtain ⟨e, he⟩ := h2.2 i hl
    rw [h1.1] at he
    cases he
  rcases h with ⟨j, h, rfl⟩ | ⟨es, h, rfl⟩
  · rcases h' with ⟨i, h', rfl⟩ | ⟨es, h', rfl⟩
    · have h1 := half h h'
      have h2 := half h' h
      rw [show i = j from by omega]
    · exact (mix h h').elim
  · rcases h' with ⟨i, h', rfl⟩ | ⟨es', h', rfl⟩
    · exact (mix h' h).elim
    · rw [some_inj (h.symm.trans h')]
theorem evs_dp {K : PySem.W.Frag} {H : Hp} {vs : List V} {es : List Ev} (h : EvsAt H vs es) : DpAll K H vs (es.map evD) := by
  induction h with
  | nil => exact .nil
  | cons a _ ih => exact .cons (ev_dp a) ih
theorem due_dp {K : PySem.W.Frag} {H : Hp} {ws : List Str} {t : Addr} (h : DueAt H ws t) : ∃ d, DueD ws d ∧ Dp K H (.ref t) d := by
  rcases h with ⟨j, h1, h2, h3⟩ | ⟨l, vs, es, h1, h2, h3, h4⟩
  · exact ⟨_, .inl ⟨j, ⟨h1, h2⟩, rfl⟩, .tup (SqT.of h3) (.cons (.str _) (.cons (.int _) .nil))⟩
  · exact ⟨_, .inr ⟨es, h1, rfl⟩, .tup (SqT.of h2) (.cons (.str _) (.cons (.lst (SqL.of h3) (evs_dp h4)) .nil))⟩
def EvLay : Ev → Prop
  | none => True
  | some (z, m) => nameB z = true ∧ m < 10 ^ 12
theorem ev_sh {e : Ev} (h : EvLay e) : Sh 1 255 (evD e) := by
  match e, h with
  | none, _ => exact (Sh.tuple (k := 0) (L := 82) (n := 1) (ds := [.str "close"]) (fun d hd => by
      rw [List.mem_singleton.mp hd]
      exact (Sh.str (n := 8) (by decide +kernel) (by decide +kernel)).up (Nat.le_refl _) (by decide)) (by decide)).up (Nat.le_refl _) (by decide)
  | some (z, m), h =>
    refine Sh.tuple (k := 0) (L := 82) (n := 3) (ds := [.str "open", .str z, .int (m : Nat)]) (fun d hd => ?_) (by show 3 ≤ 3; decide)
    rcases List.mem_cons.mp hd with rfl | hd
    · exact (Sh.str (n := 8) (by decide +kernel) (by decide +kernel)).up (Nat.le_refl _) (by decide)
    · rcases List.mem_cons.mp hd with rfl | hd
      · exact (Sh.str (n := 8) (name_asc h.1) (name_len h.1)).up (Nat.le_refl _) (by decide)
      · rw [List.mem_singleton.mp hd]
        exact (Sh.int (by omega) (by have : m < 10 ^ 12 := h.2; omega)).up (Nat.le_refl _) (by decide)
theorem digits_lt : ∀ (k : Nat) (b : List Nat), (b.all fun c => decide (48 ≤ c) && decide (c ≤ 57)) = true → b.length ≤ k → NumText.digitsVal b < 10 ^ k
  | 0, b, _, h => by
    rw [List.length_eq_zero_iff.mp (Nat.le_zero.mp h)]
    decide
  | k + 1, b, hb, h => by
    have e10 : (10 : Nat) ^ (k + 1) = 10 ^ k * 10 := Nat.pow_succ ..
    rcases List.eq_nil_or_concat b with rfl | ⟨b', c, rfl⟩
    · show 0 < _
      have : 0 < 10 ^ k := Nat.pow_pos (by decide)
      omega
    · rw [List.concat_eq_append] at hb h ⊢
      rw [NumText.digitsVal_snoc]
      rw [List.all_append, Bool.and_eq_true] at hb
      rw [List.length_append, List.length_singleton] at h
      have h1 := digits_lt k b' hb.1 (by omega)
      have h2 := List.all_eq_true.mp hb.2 c (List.mem_singleton.mpr rfl)
      rw [Bool.and_eq_true, decide_eq_true_eq, decide_eq_true_eq] at h2
      omega
theorem evOf_lay {z : Str} {e : Ev} (h : evOf z = some e) : EvLay e := by
  unfold evOf at h
  by_cases h0 : z = "/"
  · rw [if_pos h0] at h
    cases h
    exact True.intro
  · rw [if_neg h0] at h
    cases hc : cut z.cps.toList with
    | none =>
      rw [hc] at h
      cases h
    | some p =>
      obtain ⟨a, b⟩ := p
      rw [hc] at h
      have h' : (if (nameB (mkS a) && figB (mkS b)) = true then some (some (mkS a, NumText.digitsVal b)) else none) = some e := h
      by_cases hb : (nameB (mkS a) && figB (mkS b)) = true
      · rw [if_pos hb] at h'
        cases h'
        obtain ⟨h1, h2⟩ := Bool.and_eq_true_iff.mp hb
        refine ⟨h1, ?_⟩
        unfold figB at h2
        simp only [Bool.and_eq_true, decide_eq_true_eq] at h2
        obtain ⟨_, h3, h4, _⟩ := h2
        rw [mkS_len] at h3
        exact digits_lt 12 b h4 (by omega)
      · rw [if_neg hb] at h'
        cases h'
theorem evs_sh {es : List Ev} {n : Nat} (h : ∀ e ∈ es, EvLay e) (hn : es.length ≤ n) : Sh 2 (n * 257 + 3) (.list (es.map evD)) :=
  Sh.list (k := 1) (L := 255) (fun d hd => by
    obtain ⟨e, he, rfl⟩ := List.mem_map.mp hd
    exact ev_sh (h e he)) (by rw [List.length_map]; exact hn)
theorem due_sh {ws : List Str} {d : PyData} (h : DueD ws d) (hn : ws.length ≤ 1000) : Sh 3 520000 d := by
  rcases h with ⟨j, h, rfl⟩ | ⟨es, h, rfl⟩
  · have hj : j < ws.length := by
      have := (List.getElem?_eq_some_iff.mp h.1).1
      rw [List.length_map] at this
      exact this
    refine (Sh.tuple (k := 0) (L := 82) (n := 2) (ds := [.str "at", .int (j : Nat)]) (fun d hd => ?_) (by show 2 ≤ 2; decide)).up (by decide) (by decide)
    rcases List.mem_cons.mp hd with rfl | hd
    · exact (Sh.str (n := 8) (by decide +kernel) (by decide +kernel)).up (Nat.le_refl _) (by decide)
    · rw [List.mem_singleton.mp hd]
      exact (Sh.int (by omega) (by omega)).up (Nat.le_refl _) (by decide)
  · have hes : ∀ e ∈ es, EvLay e := fun e he => by
      have h1 : some e ∈ ws.map evOf := by
        rw [h]
        exact List.mem_map_of_mem he
      obtain ⟨w, _, hw⟩ := List.mem_map.mp h1
      exact evOf_lay hw
    have hl : es.length ≤ 1000 := by
      have := congrArg List.length h
      rw [List.length_map, List.length_map] at this
      omega
    refine (Sh.tuple (k := 2) (L := 257003) (n := 2) (ds := [.str "events", .list (es.map evD)]) (fun d hd => ?_) (by show 2 ≤ 2; decide)).up (by decide) (by decide)
    rcases List.mem_cons.mp hd with rfl | hd
    · exact (Sh.str (n := 8) (by decide +kernel) (by decide +kernel)).up (by decide) (by decide)
    · rw [List.mem_singleton.mp hd]
      exact (evs_sh hes hl).up (Nat.le_refl _) (by decide)
end K2

set_option linter.all false
set_option maxRecDepth 100000
set_option maxHeartbeats 16000000
namespace K2
open PySem PySem.Spec PyProof.Rows L2
/-! ### the law itself -/
theorem passN {P : Program} {w : World} {X : Cx} : Passes (L2.CX P w) X (fun _ _ _ => False) := fun _ _ _ _ _ _ _ ⟨_, _, _, _, _, _, _, _, _, _, _, _, h⟩ => h.elim
theorem same_kp {p : Addr} {H H1 H2 : Hp} (s : Same H H1) (n : H p = none) (k : Kp p H1 H2) : Same H H2 := fun b o e => k b o (ne_of_none e n) (s b o e)
theorem turns_le (n : Nat) : ((if (if (n : Int) < 5 then (n : Int) else 5) > 2 then (if (n : Int) < 5 then (n : Int) else 5) else 2).toNat) ≤ 5 := by split <;> split <;> omega
abbrev s_law : Stmt := topS 29
abbrev n_law : List Str := ["_law_script", "_law_k", "_law_box_here", "_law_names_here", "_law_turn", "_law_row_here", "_law_text_here", "_law_found", "_law_more"]
theorem sc_law : FnScope n_law ["_law_script"] (defScope s_law) := ⟨rfl, rfl, rfl, by decide +kernel, rfl, by decide +kernel, by decide +kernel⟩
structure NmL (mg : Str → Option Value) (K : PySem.W.Frag) (fb ft fn fr fx fws fes fsp fg fh fd' : Addr) : Prop where
  g__law_box : mg "_law_box" = some (.ref fb)
  k__law_box : PySem.W.keepIn K (.ref fb) = true
  g__law_take : mg "_law_take" = some (.ref ft)
  k__law_take : PySem.W.keepIn K (.ref ft) = true
  g__law_names : mg "_law_names" = some (.ref fn)
  k__law_names : PySem.W.keepIn K (.ref fn) = true
  g__law_row : mg "_law_row" = some (.ref fr)
  k__law_row : PySem.W.keepIn K (.ref fr) = true
  g__law_text : mg "_law_text" = some (.ref fx)
  k__law_text : PySem.W.keepIn K (.ref fx) = true
  g_words_of : mg "words_of" = some (.ref fws)
  k_words_of : PySem.W.keepIn K (.ref fws) = true
  g_events_of : mg "events_of" = some (.ref fes)
  k_events_of : PySem.W.keepIn K (.ref fes) = true
  g__law_spoilt : mg "_law_spoilt" = some (.ref fsp)
  k__law_spoilt : PySem.W.keepIn K (.ref fsp) = true
  g__law_is_great : mg "_law_is_great" = some (.ref fg)
  k__law_is_great : PySem.W.keepIn K (.ref fg) = true
  g__law_heard : mg "_law_heard" = some (.ref fh)
  k__law_heard : PySem.W.keepIn K (.ref fh) = true
  g__law_due : mg "_law_due" = some (.ref fd')
  k__law_due : PySem.W.keepIn K (.ref fd') = true
  n_repr : mg "repr" = none
  n_range : mg "range" = none
  n_max : mg "max" = none
  n_min : mg "min" = none
  n_len : mg "len" = none
  n_tuple : mg "tuple" = none
def spLaw (K : PySem.W.Frag) : Sp := fun vs H Q _ => ∃ (l : Addr) (ns : List Int), vs = [.ref l] ∧ SqL K H l (ns.map V.int) ∧ ns.length ≤ 100 ∧ ∀ H' : Hp, Q (.bl true) H'
section
variable {P : Program} {w : World} {K : PySem.W.Frag} {mg : Str → Option Value} {base : Heap}
theorem ok_law {C f fb ft fn fr fx fws fes fsp fg fh fd' : Addr} {fd fdb fdt fdn fdr fdx fdw fde fds fdg fdh fdd : FuncData} (F : Fun K "law" "law" s_law f fd) (T : NmL mg K fb ft fn fr fx fws fes fsp fg fh fd')
    (G__law_box : FnOk P w K mg base CX0 10 fb fdb ["_law_script", "_law_k", "_law_own"] (spBox K)) (b__law_box : Binds K fdb ["_law_script", "_law_k", "_law_own"] [])
    (G__law_take : FnOk P w K mg base CX0 10 ft fdt ["_law_box_here", "_law_many"] spTake) (b__law_take : Binds K fdt ["_law_box_here", "_law_many"] [])
    (G__law_names : FnOk P w K mg base CX0 10 fn fdn ["_law_box_here", "_law_many"] spNames) (b__law_names : Binds K fdn ["_law_box_here", "_law_many"] [])
    (G__law_row : FnOk P w K mg base CX0 10 fr fdr ["_law_box_here", "_law_names_here"] spRow) (b__law_row : Binds K fdr ["_law_box_here", "_law_names_here"] [])
    (G__law_text : FnOk P w K mg base CX0 10 fx fdx ["_law_events"] spText) (b__law_text : Binds K fdx ["_law_events"] [])
    (G_words_of : FnOk P w K mg base CX0 10 fws fdw ["events"] (spWordsOf K)) (b_words_of : Binds K fdw ["events"] [])
    (G_events_of : FnOk P w K mg base (L2.CX P w) 10 fes fde ["text"] (spEvents C)) (b_events_of : Binds K fde ["text"] [])
    (G__law_spoilt : FnOk P w K mg base CX0 10 fsp fds ["_law_box_here", "_law_text_here"] spSpoilt) (b__law_spoilt : Binds K fds ["_law_box_here", "_law_text_here"] [])
    (G__law_is_great : FnOk P w K mg base CX0 10 fg fdg ["_law_text_here"] spGreat) (b__law_is_great : Binds K fdg ["_law_text_here"] [])
    (G__law_heard : FnOk P w K mg base CX0 10 fh fdh ["_law_text_here"] spDue) (b__law_heard : Binds K fdh ["_law_text_here"] [])
    (G__law_due : FnOk P w K mg base CX0 10 fd' fdd ["_law_text_here"] spDue) (b__law_due : Binds K fdd ["_law_text_here"] []) :
    Rg.FnG P w K mg base CX0 11 f fd ["_law_script"] (spLaw K) := by
  refine Rg.okG F sc_law (fun vs H Q E h => ?_) (fun cdv Ar outer s H vs Q E hgu hr h => ?_)
  · obtain ⟨l, ns, rfl, _⟩ := h
    rfl
  · obtain ⟨l, ns, rfl, hl, hn, q⟩ := h
    have hu64 := hr.units
    refine ⟨_, (pss_cons (ps_for PassesOwn.leaving rfl (pi_range1 (by rfl) T.n_range (pa_cons (pe_callB (call_max2 rfl) (by rfl) T.n_max (by decide +kernel) (pa_cons pe_int (pa_cons (pe_callB (call_min2 rfl) (by rfl) T.n_min (by decide +kernel) (pa_cons pe_int (pa_cons (pe_callB call_len_seq (by rfl) T.n_len (by decide +kernel) (pa_cons (pv 0) pa_nil)) pa_nil))) pa_nil))) pa_nil)) (pg_name (i := 1) sc_law.nd rfl (.inl rfl))
  (pss_cons (ps_set (i := 2) sc_law.nd rfl (.inl rfl) (pe_call G__law_box hr rfl T.g__law_box T.k__law_box b__law_box .nil pass0 (pa_cons (pv 0) (pa_cons (pv 1) (pa_cons pe_int pa_nil)))))
  (pss_cons (ps_set (i := 3) sc_law.nd rfl (.inl rfl) (pe_call G__law_names hr rfl T.g__law_names T.k__law_names b__law_names .nil pass0 (pa_cons (pv 2) (pa_cons (pe_op op_add pe_int (pe_call G__law_take hr rfl T.g__law_take T.k__law_take b__law_take .nil pass0 (pa_cons (pv 2) (pa_cons pe_int pa_nil)))) pa_nil))))
  (pss_one (ps_for PassesOwn.leaving rfl (pi_range1 (by rfl) T.n_range (pa_cons pe_int pa_nil)) (pg_name (i := 4) sc_law.nd rfl (.inl rfl))
  (pss_cons (ps_set (i := 5) sc_law.nd rfl (.inl rfl) (pe_call G__law_row hr rfl T.g__law_row T.k__law_row b__law_row .nil pass0 (pa_cons (pv 2) (pa_cons (pv 3) pa_nil))))
  (pss_cons (ps_set (i := 6) sc_law.nd rfl (.inl rfl) (pe_call G__law_text hr rfl T.g__law_text T.k__law_text b__law_text .nil pass0 (pa_cons (pv 5) pa_nil)))
  (pss_cons (ps_if (PW.pt (pw_or (pt_cmpR op_ne (pe_call G_words_of hr rfl T.g_words_of T.k_words_of b_words_of .nil pass0 (pa_cons (pv 5) pa_nil)) (pv 6) (nomark _))
      (pw_or (pt_cmpR op_ne (pe_call G_words_of hr rfl T.g_words_of T.k_words_of b_words_of .nil pass0 (pa_cons (pe_callTy call_tuple_of (by rfl) T.n_tuple (by decide +kernel) (pa_cons (pv 5) pa_nil)) pa_nil)) (pv 6) (nomark _))
      (pw_or1 (pt_cmpR op_ne (pe_callB (Rg.call_repr hgu hu64) (by rfl) T.n_repr (by decide +kernel) (pa_cons (pe_call G_events_of hr rfl T.g_events_of T.k_events_of b_events_of .nil passN (pa_cons (pv 6) pa_nil)) pa_nil)) (pe_callB (Rg.call_repr hgu hu64) (by rfl) T.n_repr (by decide +kernel) (pa_cons (pv 5) pa_nil)) (nomark _)))))) (pss_one (ps_ret pe_bl)) pss_nil)
  (pss_cons (ps_set (i := 7) sc_law.nd rfl (.inl rfl) (pe_call G_events_of hr rfl T.g_events_of T.k_events_of b_events_of .nil passN (pa_cons (pv 6) pa_nil)))
  (pss_cons (ps_expr (pe_bm PySem.F.plainAttrs_list PySem.F.slot_list_append PySem.F.type_list_append mt_append (pv 7) (pa_cons (pe_tup (pa_cons pe_str pa_nil)) pa_nil)))
  (pss_cons (ps_if (pt_cmpR op_ne (pe_callB (Rg.call_repr hgu hu64) (by rfl) T.n_repr (by decide +kernel) (pa_cons (pe_call G_events_of hr rfl T.g_events_of T.k_events_of b_events_of .nil passN (pa_cons (pv 6) pa_nil)) pa_nil)) (pe_callB (Rg.call_repr hgu hu64) (by rfl) T.n_repr (by decide +kernel) (pa_cons (pv 5) pa_nil)) (nomark _)) (pss_one (ps_ret pe_bl)) pss_nil)
  (pss_one (ps_for PassesOwn.leaving rfl (pi_range1 (by rfl) T.n_range (pa_cons pe_int pa_nil)) (pg_name (i := 8) sc_law.nd rfl (.inl rfl))
  (pss_cons (ps_set (i := 6) sc_law.nd rfl (.inl rfl) (pe_call G__law_spoilt hr rfl T.g__law_spoilt T.k__law_spoilt b__law_spoilt .nil pass0 (pa_cons (pv 2) (pa_cons (pv 6) pa_nil))))
  (pss_cons (ps_if (pt_val (pe_call G__law_is_great hr rfl T.g__law_is_great T.k__law_is_great b__law_is_great .nil pass0 (pa_cons (pv 6) pa_nil))) (pss_one ps_break) pss_nil)
  (pss_one (ps_if (pt_cmpR op_ne (pe_callB (Rg.call_repr hgu hu64) (by rfl) T.n_repr (by decide +kernel) (pa_cons (pe_call G__law_heard hr rfl T.g__law_heard T.k__law_heard b__law_heard .nil pass0 (pa_cons (pv 6) pa_nil)) pa_nil)) (pe_callB (Rg.call_repr hgu hu64) (by rfl) T.n_repr (by decide +kernel) (pa_cons (pe_call G__law_due hr rfl T.g__law_due T.k__law_due b__law_due .nil pass0 (pa_cons (pv 6) pa_nil)) pa_nil)) (nomark _)) (pss_one (ps_ret pe_bl)) pss_nil)))))))))))))))))
  (pss_one (ps_ret (pe_and (pe_cmpR op_eq (pe_call G_words_of hr rfl T.g_words_of T.k_words_of b_words_of .nil pass0 (pa_cons (pe_lst pa_nil) pa_nil)) pe_str (nomark _)) (pe_one (pe_cmpR (op_eqD hu64) (pe_call G_events_of hr rfl T.g_events_of T.k_events_of b_events_of .nil passN (pa_cons pe_str pa_nil)) (pe_lst pa_nil) (nomark _))))))), ?_⟩
    -- how many turns
    refine ⟨_, rfl, l, ns.map V.int, rfl, .inl hl, _, _, rfl, ?_⟩
    rw [List.length_map]
    refine ⟨_, _, rfl, _, rfl, by split <;> split <;> omega, by split <;> split <;> omega, ?_⟩
    have hturns := turns_le ns.length
    generalize (if (if (ns.length : Int) < 5 then (ns.length : Int) else 5) > 2 then (if (ns.length : Int) < 5 then (ns.length : Int) else 5) else 2).toNat = turns at *
    refine for_range (lo := 0) (n := turns) (fun _ σ H' => SqL K H' l (ns.map V.int) ∧ ∃ a1 a2 a3 a4 a5 a6 a7 a8 : Option V, σ = [some (.ref l), a1, a2, a3, a4, a5, a6, a7, a8])
      ⟨hl, _, _, _, _, _, _, _, _, rfl⟩ (fun k σ H hk p => ?_) (fun σ H' p => ?_)
    · obtain ⟨hl, a1, a2, a3, a4, a5, a6, a7, a8, rfl⟩ := p
      refine ⟨_, rfl, _, rfl, l, ns, k, 2, by rw [Int.zero_add]; rfl, hl, by omega, by decide, fun p H1 np s1 bx => ?_⟩
      -- the names
      refine ⟨_, rfl, _, rfl, p, 4, 0, rfl, bx, by decide, by decide, by decide, fun d H2 d0 d1 b2 k2 => ?_⟩
      obtain ⟨dn, rfl⟩ : ∃ dn : Nat, d = (dn : Int) := ⟨d.toNat, by omega⟩
      refine ⟨_, _, rfl, rfl, p, 1 + dn, 1, by rw [show ((1 + dn : Nat) : Int) = 1 + (dn : Int) from by omega]; rfl, b2, by decide, by omega, by omega, fun r zs H3 nr er lz nz b3 k3 => ?_⟩
      have K3 : Kp p H1 H3 := (Kp.eq k2).trans k3
      have S3 : Same H H3 := same_kp s1 np K3
      have rp : r ≠ p := fun z => b2.ne nr z.symm
      refine ⟨4, rfl, by decide, by decide, ?_⟩
      refine for_range (lo := 0) (n := 4) (fun i σ Hi => BoxAt Hi p (21 + 200 * i) ∧ Kp p H3 Hi ∧ ∃ b4 b5 b6 b7 b8 : Option V, σ = [some (.ref l), some (.int (0 + (k : Nat))), some (.ref p), some (.ref r), b4, b5, b6, b7, b8])
        ⟨b3, fun _ _ _ e => e, _, _, _, _, _, rfl⟩ (fun i σ Hi hi P => ?_) (fun σ Hi P => ?_)
      · obtain ⟨bi, ki, b4, b5, b6, b7, b8, rfl⟩ := P
        have er4 : Hi r = some (.lst (zs.map V.str)) := ki r _ rp er
        -- the row
        refine ⟨_, rfl, _, rfl, p, r, zs, _, rfl, bi, er4, by omega, by omega, nz, by omega, fun u vs' es H4 nu eu hes les oes b4' k4 => ?_⟩
        have up : u ≠ p := fun z => bi.ne nu z.symm
        -- its text
        refine ⟨_, rfl, u, vs', es, rfl, eu, hes, by omega, oes, fun H5 s5 => ?_⟩
        have b5' := b4'.mono s5
        have eu5 := s5 _ _ eu
        have hes5 : EvsAt H5 vs' es := hes.mono fun a xs e => s5 _ _ e
        have tl400 := text_len oes les
        have tA := text_asc oes
        have wtx := words_text oes
        have lay : ∀ e ∈ es, EvLay e := fun e he => by
          have := oes e he
          match e, this with
          | none, _ => exact True.intro
          | some (z, m), h => exact ⟨h.1, Nat.lt_of_lt_of_le h.2 (by decide)⟩
        have shE := evs_sh lay les
        have big : 20 * 257 + 3 ≤ sizeLine := by rw [sizeLine_eq]; decide
        have shk : (PyData.list (es.map evD)).depth ≤ 60 := Nat.le_trans shE.k (by decide)
        have shl : (PyData.list (es.map evD)).shown.length ≤ sizeLine := Nat.le_trans shE.l big
        have noE : ∀ {j : Nat}, ¬ FirstNone (wordsL (textS es)) j := fun {j} h => by
          have h1 := h.1
          rw [wtx, map_evOf oes, List.getElem?_map] at h1
          cases h2 : es[j]? with
          | none =>
            rw [h2] at h1
            cases h1
          | some e =>
            rw [h2] at h1
            cases h1
        have sameE : ∀ {es' : List Ev}, (wordsL (textS es)).map evOf = es'.map some → es' = es := fun {es'} h => by
          rw [wtx, map_evOf oes] at h
          exact (some_inj h).symm
        have neS : (!decide (V.str (textS es) = V.str (textS es))) = false := by
          rw [decide_eq_true rfl]
          rfl
        have neR : (!decide (V.str (PyData.list (es.map evD)).shown = V.str (PyData.list (es.map evD)).shown)) = false := by
          rw [decide_eq_true rfl]
          rfl
        refine ⟨_, rfl, u, vs', es, rfl, .inl eu5, hes5, by omega, oes, fun H6 s6 => ⟨_, rfl, rfl, _, rfl, ?_⟩⟩
        rw [neS]
        refine iteF ?_
        refine ⟨_, rfl, u, _, rfl, .inl ⟨SqL.of (s6 _ _ eu5), fun t nt => ?_⟩⟩
        have S7 := s6.trans (new_same (o := .tup vs') nt)
        have et : upd H6 t (.tup vs') t = some (.tup vs') := upd_same
        generalize upd H6 t (.tup vs') = H7 at *
        refine ⟨t, vs', es, rfl, .inr et, hes5.mono fun a xs e => S7 _ _ e, by omega, oes, fun H8 s8 => ⟨_, rfl, rfl, _, rfl, ?_⟩⟩
        rw [neS]
        refine iteF ?_
        refine ⟨_, rfl, textS es, rfl, by omega, tA, fun v vs2 es2 H9 s9 nv h2 ev he2 => ?_, fun j d H9 _ h _ => (noE h).elim⟩
        obtain rfl := sameE h2
        have S9 := (S7.trans s8).trans s9
        refine ⟨v, _, rfl, .lst (SqL.of ev) (evs_dp he2), shE.s, shE.n, shk, shl, ?_⟩
        refine ⟨_, rfl, u, _, rfl, .lst (SqL.of (S9 _ _ eu5)) (evs_dp (hes5.mono fun a xs e => S9 _ _ e)), shE.s, shE.n, shk, shl, rfl, _, rfl, ?_⟩
        rw [neR]
        refine iteF ?_
        -- once more, behind a change
        refine ⟨_, rfl, textS es2, rfl, by omega, tA, fun v3 vs3 es3 H10 s10 nv3 h3 ev3 he3 => ?_, fun j d H9 _ h _ => (noE h).elim⟩
        obtain rfl := sameE h3
        refine ⟨_, rfl, .inl ⟨rfl, _, SqL.of ev3⟩, (by show 1 ≤ sizeLine; decide), fun t3 nt3 => ?_⟩
        have T3 := new_same (o := .tup [.str "close"]) nt3
        refine ⟨v3, _, _, rfl, rfl, T3 _ _ ev3, by rw [he3.length, sizeLine_eq]; omega, ?_⟩
        have S11 : Same H5 (upd (upd H10 t3 (.tup [.str "close"])) v3 (.lst (vs3 ++ [.ref t3]))) := fun b o e => by
          have e9 := S9 _ _ e
          rw [upd_ne (ne_of_none e9 nv3), upd_ne (ne_of_none (s10 _ _ e9) nt3)]
          exact s10 _ _ e9
        generalize upd (upd H10 t3 (.tup [.str "close"])) v3 (.lst (vs3 ++ [.ref t3])) = H11 at *
        refine ⟨_, rfl, textS es3, rfl, by omega, tA, fun v4 vs4 es4 H12 s12 nv4 h4 ev4 he4 => ?_, fun j d H9 _ h _ => (noE h).elim⟩
        obtain rfl := sameE h4
        have S12 := S11.trans s12
        refine ⟨v4, _, rfl, .lst (SqL.of ev4) (evs_dp he4), shE.s, shE.n, shk, shl, ?_⟩
        refine ⟨_, rfl, u, _, rfl, .lst (SqL.of (S12 _ _ eu5)) (evs_dp (hes5.mono fun a xs e => S12 _ _ e)), shE.s, shE.n, shk, shl, rfl, _, rfl, ?_⟩
        rw [neR]
        refine iteF ?_
        -- spoilt
        have b12 := b5'.mono S12
        have K12 : Kp p H3 H12 := (ki.trans (show Kp p Hi H4 from k4)).trans (Kp.of (s5.trans S12))
        refine ⟨4, rfl, by decide, by decide, ?_⟩
        refine for_range (lo := 0) (n := 4) (fun j σ Hj => BoxAt Hj p (121 + 200 * i + 10 * j) ∧ Kp p H3 Hj ∧ ∃ (z : Str) (b4 b5 b7 b8 : Option V), z.length ≤ 400 + 16 * j ∧ Asc z ∧ σ = [some (.ref l), some (.int (0 + (k : Nat))), some (.ref p), some (.ref r), b4, b5, some (.str z), b7, b8])
          ⟨b12.le (by omega), K12, _, _, _, _, _, by omega, tA, rfl⟩ (fun j σ Hj hj P => ?_) (fun σ Hj P => ?_)
        · obtain ⟨bj, kj, z, b4, b5, b7, b8, hz, hA, rfl⟩ := P
          refine ⟨_, rfl, _, rfl, p, z, _, rfl, bj, by omega, by omega, hA, fun z' H13 hz' hA' b13 k13 => ?_⟩
          have K13 := kj.trans k13
          refine ⟨_, rfl, z', rfl, by omega, hA', fun gb H14 s14 => ⟨_, rfl, ?_⟩⟩
          have K14 := K13.trans (Kp.of (p := p) s14)
          have b14 := b13.mono s14
          cases gb with
          | true => exact iteT ⟨b14.le (by omega), K14, _, _, _, _, _, rfl⟩
          | false =>
            refine iteF ?_
            have hw : (wordsL z').length ≤ 1000 := by
              have := wordsL_count z'
              omega
            refine ⟨_, rfl, z', rfl, by omega, hA', fun t H15 s15 due => ?_⟩
            obtain ⟨dd, hd1, hd2⟩ := due_dp (K := K) due
            have sh1 := due_sh hd1 hw
            have big2 : 520000 ≤ sizeLine := by rw [sizeLine_eq]; decide
            refine ⟨t, dd, rfl, hd2, sh1.s, sh1.n, Nat.le_trans sh1.k (by decide), Nat.le_trans sh1.l big2, ?_⟩
            refine ⟨_, rfl, z', rfl, by omega, hA', fun t' H16 s16 due' => ?_⟩
            obtain ⟨dd', hd1', hd2'⟩ := due_dp (K := K) due'
            obtain rfl := dueD_one hd1 hd1'
            refine ⟨t', dd, rfl, hd2', sh1.s, sh1.n, Nat.le_trans sh1.k (by decide), Nat.le_trans sh1.l big2, rfl, _, rfl, ?_⟩
            rw [show (!decide (V.str dd.shown = V.str dd.shown)) = false from by rw [decide_eq_true rfl]; rfl]
            refine iteF ?_
            exact ⟨(b14.mono (s15.trans s16)).le (by omega), K14.trans (Kp.of (s15.trans s16)), z', _, _, _, _, by omega, hA', rfl⟩
        · obtain ⟨bj, kj, z, b4, b5, b7, b8, hz, hA, rfl⟩ := P
          exact ⟨bj.le (by omega), kj, _, _, _, _, _, rfl⟩
      · obtain ⟨bi, ki, b4, b5, b6, b7, b8, rfl⟩ := P
        exact ⟨(same_kp s1 np (K3.trans ki)).seq hl, _, _, _, _, _, _, _, _, rfl⟩
    · -- the empty row
      refine ⟨Nat.zero_le _, fun D nD => ?_⟩
      refine ⟨D, [], [], rfl, .inl upd_same, .nil, Nat.zero_le _, (fun e he => absurd he List.not_mem_nil), fun H1 s1 => ⟨rfl, _, rfl, ?_⟩⟩
      rw [show decide (V.str (textS []) = V.str "") = true from decide_eq_true (congrArg V.str (by decide +kernel))]
      refine iteT ?_
      refine ⟨"", rfl, by decide +kernel, by decide +kernel, fun l' vs' es H2 S2 nl' he el hes => ?_, fun j d H2 _ h _ => ?_⟩
      · have e0 : es = [] := by
          cases es with
          | nil => rfl
          | cons e es => cases he
        subst e0
        cases hes
        exact ⟨Nat.zero_le _, fun D2 n2 => ⟨.list [], .list [], .lst (SqL.of (new_same n2 _ _ el)) .nil, .lst (SqL.of upd_same) .nil, rfl, rfl, q _⟩⟩
      · have h1 := h.1
        cases h1
end
end K2

set_option linter.all false
set_option maxRecDepth 100000
set_option maxHeartbeats 16000000
namespace K2
open PySem PySem.Spec PyProof.Rows L2
/-! ### what the top has written -/
abbrev Lw : PySem.W.OpenLaw := PySem.Challenge.rw_keptnomore_k02_words_of_events
def clsB (K : PySem.W.Frag) (C : Addr) (B i : String) : Bool :=
  decide (PySem.W.findIn K (.ref C) "__setattr__" = some (some (.builtin "object.__setattr__"))) && (decide (PySem.W.subIn K (.ref C) (.type "BaseException") = some true) && (decide (PySem.W.typeIn K (.ref C) = some (.type "type")) && (PySem.W.keepIn K (.ref C)
  && (decide (PySem.W.findIn K (.ref C) "__getattribute__" = some (some (.builtin "BaseException.__getattribute__"))) && (decide (PySem.W.findIn K (.ref C) "__getattr__" = some none) && (PySem.W.hasDictIn K C
  && (decide (PySem.W.findIn K (.ref C) "__class__" = some (some (.builtin "object.__class__"))) && (decide (PySem.W.mroIn K C (.type "object") = some true) && (decide (PySem.W.ks_superIn K C C "__init__" = some (some (.builtin i)))
  && (decide (PySem.W.subIn K (.ref C) (.type B) = some true) && decide (PySem.W.mroIn K C (.ref C) = some true)))))))))))
structure ClsF (K : PySem.W.Frag) (C : Addr) (B i : String) : Prop where
  sa : PySem.W.findIn K (.ref C) "__setattr__" = some (some (.builtin "object.__setattr__"))
  exC : PySem.W.subIn K (.ref C) (.type "BaseException") = some true
  tyC : PySem.W.typeIn K (.ref C) = some (.type "type")
  kC : PySem.W.keepIn K (.ref C) = true
  ga : PySem.W.findIn K (.ref C) "__getattribute__" = some (some (.builtin "BaseException.__getattribute__"))
  gg : PySem.W.findIn K (.ref C) "__getattr__" = some none
  hd : PySem.W.hasDictIn K C = true
  ha : PySem.W.findIn K (.ref C) "__class__" = some (some (.builtin "object.__class__"))
  ho : PySem.W.mroIn K C (.type "object") = some true
  al : PySem.W.ks_superIn K C C "__init__" = some (some (.builtin i))
  sB : PySem.W.subIn K (.ref C) (.type B) = some true
  mC : PySem.W.mroIn K C (.ref C) = some true
theorem clsB_ok {K : PySem.W.Frag} {C : Addr} {B i : String} (h : clsB K C B i = true) : ClsF K C B i := by
  unfold clsB at h
  simp only [Bool.and_eq_true, decide_eq_true_eq] at h
  obtain ⟨h1, h2, h3, h4, h5, h6, h7, h8, h9, h10, h11, h12⟩ := h
  exact ⟨h1, h2, h3, h4, h5, h6, h7, h8, h9, h10, h11, h12⟩
theorem ClsF.exc {K : PySem.W.Frag} {C : Addr} {B i : String} (h : ClsF K C B i) (hn : PySem.W.specialIn K (.builtin "object.__class__") "__get__" = some (some (.builtin "getset_descriptor.__get__")))
    (ht : PySem.W.takesIn K (.builtin "object.__class__") = some true) : ExcC K C := ⟨h.ga, h.gg, h.exC, h.hd, h.ha, hn, ht, h.ho⟩
theorem ClsF.xf {K : PySem.W.Frag} {C : Addr} {B i : String} (h : ClsF K C B i) : XfC K C := ⟨h.ga, h.gg, h.exC, h.hd⟩
theorem refs16 (a : Addr) : PySem.HandSPX.refsVE [.ref a, .type "ValueError", .type "Exception", .type "BaseException", .type "object"] = true := by
  show PySem.HandSPX.refsVE [.type "ValueError", .type "Exception", .type "BaseException", .type "object"] = true
  decide +kernel
def tabB (K : PySem.W.Frag) (C D : Addr) : Bool := decide (PySem.W.exmOne K (.ref C) (.ref C) = some true) && decide (PySem.W.kitOne K (.ref C) (.ref D) = some true)
structure TabF (K : PySem.W.Frag) (C D : Addr) : Prop where
  e0 : PySem.W.exmOne K (.ref C) (.ref C) = some true
  i0 : PySem.W.kitOne K (.ref C) (.ref D) = some true
theorem tabB_ok {K : PySem.W.Frag} {C D : Addr} (h : tabB K C D = true) : TabF K C D := by
  unfold tabB at h
  simp only [Bool.and_eq_true, decide_eq_true_eq] at h
  obtain ⟨h0, h1⟩ := h
  exact ⟨h0, h1⟩
theorem all_mk {w : World} {K : PySem.W.Frag} {h : Heap} {mg : Str → Option Value} {fa : Addr} (X : K.In h) (G : h.Ns mainGlobals mg) (hfa : mg "law" = some (.ref fa))
    {a0 f0 cc0 cda0 N0 ak fF_own fF_words_in fF_consists fF_is_name fF_is_figure fF_word_of fF_event_of fF_words_of fF_events_of fF_box fF_take fF_mixed fF_names fF_text fF_row fF_lname fF_lfig fF_levent fF_due fF_great fF_heard fF_spoilt fF_law fT_nn : Addr}
    {od0 an0 dd0 cld0 cdd0 odF_own anF_own odF_words_in anF_words_in odF_consists anF_consists odF_is_name anF_is_name odF_is_figure anF_is_figure odF_word_of anF_word_of odF_event_of anF_event_of odF_words_of anF_words_of odF_events_of anF_events_of odF_box anF_box odF_take anF_take odF_mixed anF_mixed odF_names anF_names odF_text anF_text odF_row anF_row odF_lname anF_lname odF_lfig anF_lfig odF_levent anF_levent odF_due anF_due odF_great anF_great odF_heard anF_heard odF_spoilt anF_spoilt odF_law anF_law odT_nn : Option Addr}
    {oc0 dc0 pm0 ct0 cl0 ccl0 ocF_own kVF_own dcF_own pmF_own cdF_own ctF_own ocF_words_in kVF_words_in dcF_words_in pmF_words_in cdF_words_in ctF_words_in ocF_consists kVF_consists dcF_consists pmF_consists cdF_consists ctF_consists ocF_is_name kVF_is_name dcF_is_name pmF_is_name cdF_is_name ctF_is_name ocF_is_figure kVF_is_figure dcF_is_figure pmF_is_figure cdF_is_figure ctF_is_figure ocF_word_of kVF_word_of dcF_word_of pmF_word_of cdF_word_of ctF_word_of ocF_event_of kVF_event_of dcF_event_of pmF_event_of cdF_event_of ctF_event_of ocF_words_of kVF_words_of dcF_words_of pmF_words_of cdF_words_of ctF_words_of ocF_events_of kVF_events_of dcF_events_of pmF_events_of cdF_events_of ctF_events_of ocF_box kVF_box dcF_box pmF_box cdF_box ctF_box ocF_take kVF_take dcF_take pmF_take cdF_take ctF_take ocF_mixed kVF_mixed dcF_mixed pmF_mixed cdF_mixed ctF_mixed ocF_names kVF_names dcF_names pmF_names cdF_names ctF_names ocF_text kVF_text dcF_text pmF_text cdF_text ctF_text ocF_row kVF_row dcF_row pmF_row cdF_row ctF_row ocF_lname kVF_lname dcF_lname pmF_lname cdF_lname ctF_lname ocF_lfig kVF_lfig dcF_lfig pmF_lfig cdF_lfig ctF_lfig ocF_levent kVF_levent dcF_levent pmF_levent cdF_levent ctF_levent ocF_due kVF_due dcF_due pmF_due cdF_due ctF_due ocF_great kVF_great dcF_great pmF_great cdF_great ctF_great ocF_heard kVF_heard dcF_heard pmF_heard cdF_heard ctF_heard ocF_spoilt kVF_spoilt dcF_spoilt pmF_spoilt cdF_spoilt ctF_spoilt ocF_law kVF_law dcF_law pmF_law cdF_law ctF_law : Value}
    {osl0 csl0 ccs0 slF_own slF_words_in slF_consists slF_is_name slF_is_figure slF_word_of slF_event_of slF_words_of slF_events_of slF_box slF_take slF_mixed slF_names slF_text slF_row slF_lname slF_lfig slF_levent slF_due slF_great slF_heard slF_spoilt slF_law : Array (Option Value)}
    {nm0 q0 file0 : Str} {bs0 sub0 : List Value} {sn0 : List Str} {ab0 : Bool} {col0 : Option Bool}
    {k0_0 k1_0 k2_0 k3_0 k5_0 : Option Value}
    {vs0 : Array Value} {tf0 : Tok}
    {tk_nn0 tk_nn1 tk_nn2 : Tok} {nT_nn : Nat} {slT_nn : Array (Option Value)}
    (g0 : PySem.W.nsIn K mainGlobals "NoTree" = some (some (.ref a0)))
    (gk : PySem.W.nsIn K mainGlobals "KeptError" = some (some (.ref ak)))
    (x0 : K.lookup a0 = some (excClassObj nm0 q0 a0 N0 bs0 [.ref ak, .type "ValueError", .type "Exception", .type "BaseException", .type "object"] true sn0 sub0 ab0 col0 dd0 k0_0 k1_0 k2_0 k3_0 k5_0 "ValueError.__new__"))
    (i0 : PySem.W.findIn K (.ref a0) "__init__" = some (some (.ref f0)))
    (t0 : PySem.W.typeIn K (.ref f0) = some (.type "function"))
    (l0 : K.lookup f0 = some ⟨oc0, od0, .func (PySem.W.fnX "__init__" "NoTree.__init__" (defArgs s_NoTree) (defBody s_NoTree) (defScope s_NoTree) [("__class__", cc0)] .none .none dc0 pm0 an0 (.ref cda0) ct0), osl0⟩)
    (c0 : PySem.W.codeIn K (.ref cda0) "NoTree.__init__" = true)
    (u0 : K.lookup cc0 = some ⟨cl0, cld0, .cell (some (.ref a0)), csl0⟩)
    (w0 : K.lookup cda0 = some ⟨ccl0, cdd0, .fields vs0, ccs0⟩)
    (y0 : vs0[2]? = some (.str file0 tf0))
    (z0 : ((Lw.prog.main.file : Str) == file0) = true)
    (b0 : clsB K a0 "ValueError" "ValueError.__init__" = true)
    (n0at : PySem.W.findIn K (.ref a0) "at" = some none)
    (hn : PySem.W.specialIn K (.builtin "object.__class__") "__get__" = some (some (.builtin "getset_descriptor.__get__")))
    (ht : PySem.W.takesIn K (.builtin "object.__class__") = some true)
    (th : PySem.W.nsIn K PySem.cStatics "thirdparty.any" = some none)
    (htop : (Lw.prog.main.scope.names.lookup ("super" : Str)).isSome = false)
    (aF_own : PySem.W.nsIn K mainGlobals "own_copy" = some (some (.ref fF_own)))
    (lF_own : K.lookup fF_own = some ⟨ocF_own, odF_own, .func (PySem.W.fnOf "own_copy" "own_copy" (defArgs s_own) (defBody s_own) (defScope s_own) .none kVF_own dcF_own pmF_own anF_own cdF_own ctF_own), slF_own⟩)
    (cF_own : PySem.W.codeIn K cdF_own "own_copy" = true)
    (kF_own : PySem.W.keepIn K (.ref fF_own) = true)
    (aF_words_in : PySem.W.nsIn K mainGlobals "words_in" = some (some (.ref fF_words_in)))
    (lF_words_in : K.lookup fF_words_in = some ⟨ocF_words_in, odF_words_in, .func (PySem.W.fnOf "words_in" "words_in" (defArgs s_words_in) (defBody s_words_in) (defScope s_words_in) .none kVF_words_in dcF_words_in pmF_words_in anF_words_in cdF_words_in ctF_words_in), slF_words_in⟩)
    (cF_words_in : PySem.W.codeIn K cdF_words_in "words_in" = true)
    (kF_words_in : PySem.W.keepIn K (.ref fF_words_in) = true)
    (aF_consists : PySem.W.nsIn K mainGlobals "consists_of" = some (some (.ref fF_consists)))
    (lF_consists : K.lookup fF_consists = some ⟨ocF_consists, odF_consists, .func (PySem.W.fnOf "consists_of" "consists_of" (defArgs s_consists) (defBody s_consists) (defScope s_consists) .none kVF_consists dcF_consists pmF_consists anF_consists cdF_consists ctF_consists), slF_consists⟩)
    (cF_consists : PySem.W.codeIn K cdF_consists "consists_of" = true)
    (kF_consists : PySem.W.keepIn K (.ref fF_consists) = true)
    (aF_is_name : PySem.W.nsIn K mainGlobals "is_name" = some (some (.ref fF_is_name)))
    (lF_is_name : K.lookup fF_is_name = some ⟨ocF_is_name, odF_is_name, .func (PySem.W.fnOf "is_name" "is_name" (defArgs s_is_name) (defBody s_is_name) (defScope s_is_name) .none kVF_is_name dcF_is_name pmF_is_name anF_is_name cdF_is_name ctF_is_name), slF_is_name⟩)
    (cF_is_name : PySem.W.codeIn K cdF_is_name "is_name" = true)
    (kF_is_name : PySem.W.keepIn K (.ref fF_is_name) = true)
    (aF_is_figure : PySem.W.nsIn K mainGlobals "is_figure" = some (some (.ref fF_is_figure)))
    (lF_is_figure : K.lookup fF_is_figure = some ⟨ocF_is_figure, odF_is_figure, .func (PySem.W.fnOf "is_figure" "is_figure" (defArgs s_is_figure) (defBody s_is_figure) (defScope s_is_figure) .none kVF_is_figure dcF_is_figure pmF_is_figure anF_is_figure cdF_is_figure ctF_is_figure), slF_is_figure⟩)
    (cF_is_figure : PySem.W.codeIn K cdF_is_figure "is_figure" = true)
    (kF_is_figure : PySem.W.keepIn K (.ref fF_is_figure) = true)
    (aF_word_of : PySem.W.nsIn K mainGlobals "word_of" = some (some (.ref fF_word_of)))
    (lF_word_of : K.lookup fF_word_of = some ⟨ocF_word_of, odF_word_of, .func (PySem.W.fnOf "word_of" "word_of" (defArgs s_word_of) (defBody s_word_of) (defScope s_word_of) .none kVF_word_of dcF_word_of pmF_word_of anF_word_of cdF_word_of ctF_word_of), slF_word_of⟩)
    (cF_word_of : PySem.W.codeIn K cdF_word_of "word_of" = true)
    (kF_word_of : PySem.W.keepIn K (.ref fF_word_of) = true)
    (aF_event_of : PySem.W.nsIn K mainGlobals "event_of" = some (some (.ref fF_event_of)))
    (lF_event_of : K.lookup fF_event_of = some ⟨ocF_event_of, odF_event_of, .func (PySem.W.fnOf "event_of" "event_of" (defArgs s_event_of) (defBody s_event_of) (defScope s_event_of) .none kVF_event_of dcF_event_of pmF_event_of anF_event_of cdF_event_of ctF_event_of), slF_event_of⟩)
    (cF_event_of : PySem.W.codeIn K cdF_event_of "event_of" = true)
    (kF_event_of : PySem.W.keepIn K (.ref fF_event_of) = true)
    (aF_words_of : PySem.W.nsIn K mainGlobals "words_of" = some (some (.ref fF_words_of)))
    (lF_words_of : K.lookup fF_words_of = some ⟨ocF_words_of, odF_words_of, .func (PySem.W.fnOf "words_of" "words_of" (defArgs s_words_of) (defBody s_words_of) (defScope s_words_of) .none kVF_words_of dcF_words_of pmF_words_of anF_words_of cdF_words_of ctF_words_of), slF_words_of⟩)
    (cF_words_of : PySem.W.codeIn K cdF_words_of "words_of" = true)
    (kF_words_of : PySem.W.keepIn K (.ref fF_words_of) = true)
    (aF_events_of : PySem.W.nsIn K mainGlobals "events_of" = some (some (.ref fF_events_of)))
    (lF_events_of : K.lookup fF_events_of = some ⟨ocF_events_of, odF_events_of, .func (PySem.W.fnOf "events_of" "events_of" (defArgs s_events_of) (defBody s_events_of) (defScope s_events_of) .none kVF_events_of dcF_events_of pmF_events_of anF_events_of cdF_events_of ctF_events_of), slF_events_of⟩)
    (cF_events_of : PySem.W.codeIn K cdF_events_of "events_of" = true)
    (kF_events_of : PySem.W.keepIn K (.ref fF_events_of) = true)
    (aF_box : PySem.W.nsIn K mainGlobals "_law_box" = some (some (.ref fF_box)))
    (lF_box : K.lookup fF_box = some ⟨ocF_box, odF_box, .func (PySem.W.fnOf "_law_box" "_law_box" (defArgs s_box) (defBody s_box) (defScope s_box) .none kVF_box dcF_box pmF_box anF_box cdF_box ctF_box), slF_box⟩)
    (cF_box : PySem.W.codeIn K cdF_box "_law_box" = true)
    (kF_box : PySem.W.keepIn K (.ref fF_box) = true)
    (aF_take : PySem.W.nsIn K mainGlobals "_law_take" = some (some (.ref fF_take)))
    (lF_take : K.lookup fF_take = some ⟨ocF_take, odF_take, .func (PySem.W.fnOf "_law_take" "_law_take" (defArgs s_take) (defBody s_take) (defScope s_take) .none kVF_take dcF_take pmF_take anF_take cdF_take ctF_take), slF_take⟩)
    (cF_take : PySem.W.codeIn K cdF_take "_law_take" = true)
    (kF_take : PySem.W.keepIn K (.ref fF_take) = true)
    (aF_mixed : PySem.W.nsIn K mainGlobals "_law_mixed" = some (some (.ref fF_mixed)))
    (lF_mixed : K.lookup fF_mixed = some ⟨ocF_mixed, odF_mixed, .func (PySem.W.fnOf "_law_mixed" "_law_mixed" (defArgs s_mixed) (defBody s_mixed) (defScope s_mixed) .none kVF_mixed dcF_mixed pmF_mixed anF_mixed cdF_mixed ctF_mixed), slF_mixed⟩)
    (cF_mixed : PySem.W.codeIn K cdF_mixed "_law_mixed" = true)
    (kF_mixed : PySem.W.keepIn K (.ref fF_mixed) = true)
    (aF_names : PySem.W.nsIn K mainGlobals "_law_names" = some (some (.ref fF_names)))
    (lF_names : K.lookup fF_names = some ⟨ocF_names, odF_names, .func (PySem.W.fnOf "_law_names" "_law_names" (defArgs s_names) (defBody s_names) (defScope s_names) .none kVF_names dcF_names pmF_names anF_names cdF_names ctF_names), slF_names⟩)
    (cF_names : PySem.W.codeIn K cdF_names "_law_names" = true)
    (kF_names : PySem.W.keepIn K (.ref fF_names) = true)
    (aF_text : PySem.W.nsIn K mainGlobals "_law_text" = some (some (.ref fF_text)))
    (lF_text : K.lookup fF_text = some ⟨ocF_text, odF_text, .func (PySem.W.fnOf "_law_text" "_law_text" (defArgs s_text) (defBody s_text) (defScope s_text) .none kVF_text dcF_text pmF_text anF_text cdF_text ctF_text), slF_text⟩)
    (cF_text : PySem.W.codeIn K cdF_text "_law_text" = true)
    (kF_text : PySem.W.keepIn K (.ref fF_text) = true)
    (aF_row : PySem.W.nsIn K mainGlobals "_law_row" = some (some (.ref fF_row)))
    (lF_row : K.lookup fF_row = some ⟨ocF_row, odF_row, .func (PySem.W.fnOf "_law_row" "_law_row" (defArgs s_row) (defBody s_row) (defScope s_row) .none kVF_row dcF_row pmF_row anF_row cdF_row ctF_row), slF_row⟩)
    (cF_row : PySem.W.codeIn K cdF_row "_law_row" = true)
    (kF_row : PySem.W.keepIn K (.ref fF_row) = true)
    (aF_lname : PySem.W.nsIn K mainGlobals "_law_is_name" = some (some (.ref fF_lname)))
    (lF_lname : K.lookup fF_lname = some ⟨ocF_lname, odF_lname, .func (PySem.W.fnOf "_law_is_name" "_law_is_name" (defArgs s_lname) (defBody s_lname) (defScope s_lname) .none kVF_lname dcF_lname pmF_lname anF_lname cdF_lname ctF_lname), slF_lname⟩)
    (cF_lname : PySem.W.codeIn K cdF_lname "_law_is_name" = true)
    (kF_lname : PySem.W.keepIn K (.ref fF_lname) = true)
    (aF_lfig : PySem.W.nsIn K mainGlobals "_law_is_figure" = some (some (.ref fF_lfig)))
    (lF_lfig : K.lookup fF_lfig = some ⟨ocF_lfig, odF_lfig, .func (PySem.W.fnOf "_law_is_figure" "_law_is_figure" (defArgs s_lfig) (defBody s_lfig) (defScope s_lfig) .none kVF_lfig dcF_lfig pmF_lfig anF_lfig cdF_lfig ctF_lfig), slF_lfig⟩)
    (cF_lfig : PySem.W.codeIn K cdF_lfig "_law_is_figure" = true)
    (kF_lfig : PySem.W.keepIn K (.ref fF_lfig) = true)
    (aF_levent : PySem.W.nsIn K mainGlobals "_law_event" = some (some (.ref fF_levent)))
    (lF_levent : K.lookup fF_levent = some ⟨ocF_levent, odF_levent, .func (PySem.W.fnOf "_law_event" "_law_event" (defArgs s_levent) (defBody s_levent) (defScope s_levent) .none kVF_levent dcF_levent pmF_levent anF_levent cdF_levent ctF_levent), slF_levent⟩)
    (cF_levent : PySem.W.codeIn K cdF_levent "_law_event" = true)
    (kF_levent : PySem.W.keepIn K (.ref fF_levent) = true)
    (aF_due : PySem.W.nsIn K mainGlobals "_law_due" = some (some (.ref fF_due)))
    (lF_due : K.lookup fF_due = some ⟨ocF_due, odF_due, .func (PySem.W.fnOf "_law_due" "_law_due" (defArgs s_due) (defBody s_due) (defScope s_due) .none kVF_due dcF_due pmF_due anF_due cdF_due ctF_due), slF_due⟩)
    (cF_due : PySem.W.codeIn K cdF_due "_law_due" = true)
    (kF_due : PySem.W.keepIn K (.ref fF_due) = true)
    (aF_great : PySem.W.nsIn K mainGlobals "_law_is_great" = some (some (.ref fF_great)))
    (lF_great : K.lookup fF_great = some ⟨ocF_great, odF_great, .func (PySem.W.fnOf "_law_is_great" "_law_is_great" (defArgs s_great) (defBody s_great) (defScope s_great) .none kVF_great dcF_great pmF_great anF_great cdF_great ctF_great), slF_great⟩)
    (cF_great : PySem.W.codeIn K cdF_great "_law_is_great" = true)
    (kF_great : PySem.W.keepIn K (.ref fF_great) = true)
    (aF_heard : PySem.W.nsIn K mainGlobals "_law_heard" = some (some (.ref fF_heard)))
    (lF_heard : K.lookup fF_heard = some ⟨ocF_heard, odF_heard, .func (PySem.W.fnOf "_law_heard" "_law_heard" (defArgs s_heard) (defBody s_heard) (defScope s_heard) .none kVF_heard dcF_heard pmF_heard anF_heard cdF_heard ctF_heard), slF_heard⟩)
    (cF_heard : PySem.W.codeIn K cdF_heard "_law_heard" = true)
    (kF_heard : PySem.W.keepIn K (.ref fF_heard) = true)
    (aF_spoilt : PySem.W.nsIn K mainGlobals "_law_spoilt" = some (some (.ref fF_spoilt)))
    (lF_spoilt : K.lookup fF_spoilt = some ⟨ocF_spoilt, odF_spoilt, .func (PySem.W.fnOf "_law_spoilt" "_law_spoilt" (defArgs s_spoilt) (defBody s_spoilt) (defScope s_spoilt) .none kVF_spoilt dcF_spoilt pmF_spoilt anF_spoilt cdF_spoilt ctF_spoilt), slF_spoilt⟩)
    (cF_spoilt : PySem.W.codeIn K cdF_spoilt "_law_spoilt" = true)
    (kF_spoilt : PySem.W.keepIn K (.ref fF_spoilt) = true)
    (aF_law : PySem.W.nsIn K mainGlobals "law" = some (some (.ref fF_law)))
    (lF_law : K.lookup fF_law = some ⟨ocF_law, odF_law, .func (PySem.W.fnOf "law" "law" (defArgs s_law) (defBody s_law) (defScope s_law) .none kVF_law dcF_law pmF_law anF_law cdF_law ctF_law), slF_law⟩)
    (cF_law : PySem.W.codeIn K cdF_law "law" = true)
    (kF_law : PySem.W.keepIn K (.ref fF_law) = true)
    (aT_nn : PySem.W.nsIn K mainGlobals "NO_NAMES" = some (some (.ref fT_nn)))
    (lT_nn : K.lookup fT_nn = some ⟨.type "tuple", odT_nn, .seq #[.str "any" tk_nn0, .str "other" tk_nn1, .str "where" tk_nn2] nT_nn, slT_nn⟩)
    (n_len : PySem.W.nsIn K mainGlobals "len" = some none)
    (n_abs : PySem.W.nsIn K mainGlobals "abs" = some none)
    (n_int : PySem.W.nsIn K mainGlobals "int" = some none)
    (n_isinstance : PySem.W.nsIn K mainGlobals "isinstance" = some none)
    (n_list : PySem.W.nsIn K mainGlobals "list" = some none)
    (n_tuple : PySem.W.nsIn K mainGlobals "tuple" = some none)
    (n_dict : PySem.W.nsIn K mainGlobals "dict" = some none)
    (n_repr : PySem.W.nsIn K mainGlobals "repr" = some none)
    (n_range : PySem.W.nsIn K mainGlobals "range" = some none)
    (n_max : PySem.W.nsIn K mainGlobals "max" = some none)
    (n_min : PySem.W.nsIn K mainGlobals "min" = some none)
    (n_enumerate : PySem.W.nsIn K mainGlobals "enumerate" = some none)
    (n_super : PySem.W.nsIn K mainGlobals "super" = some none)
    (n_all : PySem.W.nsIn K mainGlobals "all" = some none)
    (n_str : PySem.W.nsIn K mainGlobals "str" = some none)
    (tab : tabB K a0 ak = true) :
    ∃ fd : FuncData, (∀ (s : Shared) (v : Value), BindsTo s fd ⟨[v], []⟩ [("_law_script", v)]) ∧ ∀ base : Heap, K.In base → base.Ns mainGlobals mg → Rg.FnG Lw.prog w K mg base CX0 11 fa fd ["_law_script"] (spLaw K) := by
  have e := hfa.symm.trans (PySem.W.mg_of X G aF_law)
  cases e
  have m_len := PySem.W.mg_none_of X G n_len
  have m_abs := PySem.W.mg_none_of X G n_abs
  have m_int := PySem.W.mg_none_of X G n_int
  have m_isinstance := PySem.W.mg_none_of X G n_isinstance
  have m_list := PySem.W.mg_none_of X G n_list
  have m_tuple := PySem.W.mg_none_of X G n_tuple
  have m_dict := PySem.W.mg_none_of X G n_dict
  have m_repr := PySem.W.mg_none_of X G n_repr
  have m_range := PySem.W.mg_none_of X G n_range
  have m_max := PySem.W.mg_none_of X G n_max
  have m_min := PySem.W.mg_none_of X G n_min
  have m_enumerate := PySem.W.mg_none_of X G n_enumerate
  have m_super := PySem.W.mg_none_of X G n_super
  have m_all := PySem.W.mg_none_of X G n_all
  have m_str := PySem.W.mg_none_of X G n_str
  have TT := tabB_ok tab
  have m_nn := PySem.W.mg_of X G aT_nn
  have q_nn : ∀ H : Hp, SqT K H fT_nn [.str "any", .str "other", .str "where"] := fun H => .inr ⟨_, _, _, lT_nn, rfl, rfl, (by show 3 ≤ sizeLine; decide), (.cons ⟨_, rfl⟩ (.cons ⟨_, rfl⟩ (.cons ⟨_, rfl⟩ .nil)))⟩
  have F_own := fun_mk (st := s_own) lF_own cF_own kF_own
  have m_own := PySem.W.mg_of X G aF_own
  have B_own := F_own.binds (ps := ["value"]) fun _ _ _ _ _ _ us hl => match us, hl with | [_], _ => rfl
  have F_words_in := fun_mk (st := s_words_in) lF_words_in cF_words_in kF_words_in
  have m_words_in := PySem.W.mg_of X G aF_words_in
  have B_words_in := F_words_in.binds (ps := ["row"]) fun _ _ _ _ _ _ us hl => match us, hl with | [_], _ => rfl
  have F_consists := fun_mk (st := s_consists) lF_consists cF_consists kF_consists
  have m_consists := PySem.W.mg_of X G aF_consists
  have B_consists := F_consists.binds (ps := ["word", "low", "high", "most"]) fun _ _ _ _ _ _ us hl => match us, hl with | [_, _, _, _], _ => rfl
  have F_is_name := fun_mk (st := s_is_name) lF_is_name cF_is_name kF_is_name
  have m_is_name := PySem.W.mg_of X G aF_is_name
  have B_is_name := F_is_name.binds (ps := ["word"]) fun _ _ _ _ _ _ us hl => match us, hl with | [_], _ => rfl
  have F_is_figure := fun_mk (st := s_is_figure) lF_is_figure cF_is_figure kF_is_figure
  have m_is_figure := PySem.W.mg_of X G aF_is_figure
  have B_is_figure := F_is_figure.binds (ps := ["word"]) fun _ _ _ _ _ _ us hl => match us, hl with | [_], _ => rfl
  have F_word_of := fun_mk (st := s_word_of) lF_word_of cF_word_of kF_word_of
  have m_word_of := PySem.W.mg_of X G aF_word_of
  have B_word_of := F_word_of.binds (ps := ["event"]) fun _ _ _ _ _ _ us hl => match us, hl with | [_], _ => rfl
  have F_event_of := fun_mk (st := s_event_of) lF_event_of cF_event_of kF_event_of
  have m_event_of := PySem.W.mg_of X G aF_event_of
  have B_event_of := F_event_of.binds (ps := ["word"]) fun _ _ _ _ _ _ us hl => match us, hl with | [_], _ => rfl
  have F_words_of := fun_mk (st := s_words_of) lF_words_of cF_words_of kF_words_of
  have m_words_of := PySem.W.mg_of X G aF_words_of
  have B_words_of := F_words_of.binds (ps := ["events"]) fun _ _ _ _ _ _ us hl => match us, hl with | [_], _ => rfl
  have F_events_of := fun_mk (st := s_events_of) lF_events_of cF_events_of kF_events_of
  have m_events_of := PySem.W.mg_of X G aF_events_of
  have B_events_of := F_events_of.binds (ps := ["text"]) fun _ _ _ _ _ _ us hl => match us, hl with | [_], _ => rfl
  have F_box := fun_mk (st := s_box) lF_box cF_box kF_box
  have m_box := PySem.W.mg_of X G aF_box
  have B_box := F_box.binds (ps := ["_law_script", "_law_k", "_law_own"]) fun _ _ _ _ _ _ us hl => match us, hl with | [_, _, _], _ => rfl
  have F_take := fun_mk (st := s_take) lF_take cF_take kF_take
  have m_take := PySem.W.mg_of X G aF_take
  have B_take := F_take.binds (ps := ["_law_box_here", "_law_many"]) fun _ _ _ _ _ _ us hl => match us, hl with | [_, _], _ => rfl
  have F_mixed := fun_mk (st := s_mixed) lF_mixed cF_mixed kF_mixed
  have m_mixed := PySem.W.mg_of X G aF_mixed
  have B_mixed := F_mixed.binds (ps := ["_law_box_here", "_law_items"]) fun _ _ _ _ _ _ us hl => match us, hl with | [_, _], _ => rfl
  have F_names := fun_mk (st := s_names) lF_names cF_names kF_names
  have m_names := PySem.W.mg_of X G aF_names
  have B_names := F_names.binds (ps := ["_law_box_here", "_law_many"]) fun _ _ _ _ _ _ us hl => match us, hl with | [_, _], _ => rfl
  have F_text := fun_mk (st := s_text) lF_text cF_text kF_text
  have m_text := PySem.W.mg_of X G aF_text
  have B_text := F_text.binds (ps := ["_law_events"]) fun _ _ _ _ _ _ us hl => match us, hl with | [_], _ => rfl
  have F_row := fun_mk (st := s_row) lF_row cF_row kF_row
  have m_row := PySem.W.mg_of X G aF_row
  have B_row := F_row.binds (ps := ["_law_box_here", "_law_names_here"]) fun _ _ _ _ _ _ us hl => match us, hl with | [_, _], _ => rfl
  have F_lname := fun_mk (st := s_lname) lF_lname cF_lname kF_lname
  have m_lname := PySem.W.mg_of X G aF_lname
  have B_lname := F_lname.binds (ps := ["_law_word"]) fun _ _ _ _ _ _ us hl => match us, hl with | [_], _ => rfl
  have F_lfig := fun_mk (st := s_lfig) lF_lfig cF_lfig kF_lfig
  have m_lfig := PySem.W.mg_of X G aF_lfig
  have B_lfig := F_lfig.binds (ps := ["_law_word"]) fun _ _ _ _ _ _ us hl => match us, hl with | [_], _ => rfl
  have F_levent := fun_mk (st := s_levent) lF_levent cF_levent kF_levent
  have m_levent := PySem.W.mg_of X G aF_levent
  have B_levent := F_levent.binds (ps := ["_law_word"]) fun _ _ _ _ _ _ us hl => match us, hl with | [_], _ => rfl
  have F_due := fun_mk (st := s_due) lF_due cF_due kF_due
  have m_due := PySem.W.mg_of X G aF_due
  have B_due := F_due.binds (ps := ["_law_text_here"]) fun _ _ _ _ _ _ us hl => match us, hl with | [_], _ => rfl
  have F_great := fun_mk (st := s_great) lF_great cF_great kF_great
  have m_great := PySem.W.mg_of X G aF_great
  have B_great := F_great.binds (ps := ["_law_text_here"]) fun _ _ _ _ _ _ us hl => match us, hl with | [_], _ => rfl
  have F_heard := fun_mk (st := s_heard) lF_heard cF_heard kF_heard
  have m_heard := PySem.W.mg_of X G aF_heard
  have B_heard := F_heard.binds (ps := ["_law_text_here"]) fun _ _ _ _ _ _ us hl => match us, hl with | [_], _ => rfl
  have F_spoilt := fun_mk (st := s_spoilt) lF_spoilt cF_spoilt kF_spoilt
  have m_spoilt := PySem.W.mg_of X G aF_spoilt
  have B_spoilt := F_spoilt.binds (ps := ["_law_box_here", "_law_text_here"]) fun _ _ _ _ _ _ us hl => match us, hl with | [_, _], _ => rfl
  have F_law := fun_mk (st := s_law) lF_law cF_law kF_law
  have m_law := PySem.W.mg_of X G aF_law
  refine ⟨PySem.W.fnOf "law" "law" (defArgs s_law) (defBody s_law) (defScope s_law) .none kVF_law dcF_law pmF_law anF_law cdF_law ctF_law, fun s v => .of_eq rfl, fun base hKb hNb => ?_⟩
  have mk_ := PySem.W.mg_of X G gk
  have nO : NmO mg K fF_own := ⟨m_own, kF_own, m_isinstance, m_list, m_tuple, m_dict⟩
  have G_own := ok_own (P := Lw.prog) (w := w) (base := base) F_own nO
  have C0 := clsB_ok b0
  have ma0 := PySem.W.mg_of X G g0
  have O0 : OexC K a0 := ⟨⟨_, _, _, _, _, _, _, _, _, _, _, _, _, _, _, x0, refs16 _⟩, C0.sa, C0.exC, C0.tyC, C0.kC⟩
  have mw0 := Sup.mwOk_ve O0
  have mk0 := Exv.mkOk_ve (prog := Lw.prog) (w := w) O0 i0 t0
  have ec0 := Exg.ecC_ve O0
  have D0 : Sup.SupF Lw.prog K "ValueError" "ValueError.__init__" a0 cc0 cda0 := ⟨PySem.W.kxs_ValueError, mw0, ⟨_, _, _, _, _, _, _, _, _, _, _, _, _, _, _, _, x0⟩, C0.al, C0.sB, C0.mC, ⟨_, _, _, u0⟩, ⟨_, _, _, _, _, _, w0, y0, z0⟩, th⟩
  have I0 := ok_NoTree (w := w) (base := base) l0 c0 D0 ec0 n0at m_super htop nO G_own B_own
  have bi0 : Binds K (PySem.W.fnX "__init__" "NoTree.__init__" (defArgs s_NoTree) (defBody s_NoTree) (defScope s_NoTree) [("__class__", cc0)] .none .none dc0 pm0 an0 (.ref cda0) ct0) ["self", "at"] [] := .all fun us hl => match us, hl with | [_, _], _ => rfl
  have TX : NmX Lw.prog w K mg a0 f0 ak := ⟨ma0, C0.kC, C0.exC, C0.tyC, mk0, mk_, TT.e0, C0.exc hn ht, TT.i0, C0.xf, n0at⟩
  have TP : NmP mg K fF_consists fF_is_name fF_is_figure fF_word_of fT_nn := ⟨m_consists, kF_consists, m_is_name, kF_is_name, m_is_figure, kF_is_figure, m_word_of, kF_word_of, m_nn, q_nn, m_len, m_int⟩
  have TQ : NmQ mg K fF_words_in fF_event_of fF_events_of := ⟨m_words_in, kF_words_in, m_event_of, kF_event_of, m_events_of, kF_events_of, m_enumerate, m_isinstance⟩
  have G_box := ok_box (P := Lw.prog) (w := w) (mg := mg) (base := base) F_box ⟨m_len, m_abs, m_int⟩
  have G_take := ok_take (P := Lw.prog) (w := w) (mg := mg) (base := base) F_take
  have G_mixed := ok_mixed (P := Lw.prog) (w := w) (mg := mg) (base := base) F_mixed ⟨m_take, kF_take, m_list, m_range, m_len⟩ G_take B_take
  have G_names := ok_names (P := Lw.prog) (w := w) (mg := mg) (base := base) F_names ⟨m_take, kF_take, m_mixed, kF_mixed, m_int, m_range⟩ (G_take.mono (by decide)) B_take G_mixed B_mixed
  have G_row := ok_row (P := Lw.prog) (w := w) (mg := mg) (base := base) F_row ⟨m_take, kF_take, m_range, m_len⟩ G_take B_take
  have G_text := ok_text (P := Lw.prog) (w := w) (mg := mg) (base := base) F_text ⟨m_len, m_str⟩
  have G_lname := ok_lname (P := Lw.prog) (w := w) (mg := mg) (base := base) F_lname m_len
  have G_lfig := ok_lfig (P := Lw.prog) (w := w) (mg := mg) (base := base) F_lfig m_len
  have G_levent := ok_levent (P := Lw.prog) (w := w) (mg := mg) (base := base) F_levent ⟨m_lname, kF_lname, m_lfig, kF_lfig, m_int⟩ G_lname B_lname G_lfig B_lfig
  have G_due := ok_due (P := Lw.prog) (w := w) (mg := mg) (base := base) F_due ⟨m_levent, kF_levent⟩ G_levent B_levent
  have G_great := ok_great (P := Lw.prog) (w := w) (mg := mg) (base := base) F_great ⟨m_lfig, kF_lfig, m_len⟩ G_lfig B_lfig
  have G_words_in := ok_words_in (P := Lw.prog) (w := w) (mg := mg) (base := base) F_words_in
  have G_consists := ok_consists (P := Lw.prog) (w := w) (mg := mg) (base := base) F_consists ⟨m_len, m_all⟩
  have G_is_name := ok_is_name (P := Lw.prog) (w := w) (mg := mg) (base := base) F_is_name TP G_consists B_consists
  have G_is_figure := ok_is_figure (P := Lw.prog) (w := w) (mg := mg) (base := base) F_is_figure TP G_consists B_consists
  have G_word_of := ok_word_of (P := Lw.prog) (w := w) (mg := mg) (base := base) F_word_of TP
  have G_event_of := ok_event_of (P := Lw.prog) (w := w) (mg := mg) (base := base) F_event_of TP G_is_name B_is_name G_is_figure B_is_figure
  have G_words_of := ok_words_of (P := Lw.prog) (w := w) (mg := mg) (base := base) F_words_of TP G_word_of B_word_of
  have G_events_of := ok_events_of (P := Lw.prog) (w := w) (mg := mg) (base := base) F_events_of TQ TX G_words_in B_words_in G_event_of B_event_of I0 bi0
  have G_heard := ok_heard (P := Lw.prog) (w := w) (mg := mg) (base := base) F_heard TQ TX G_events_of B_events_of
  have G_spoilt := ok_spoilt (P := Lw.prog) (w := w) (mg := mg) (base := base) F_spoilt ⟨m_take, kF_take, m_len⟩ G_take B_take
  exact ok_law F_law ⟨m_box, kF_box, m_take, kF_take, m_names, kF_names, m_row, kF_row, m_text, kF_text, m_words_of, kF_words_of, m_events_of, kF_events_of, m_spoilt, kF_spoilt, m_great, kF_great, m_heard, kF_heard, m_due, kF_due, m_repr, m_range, m_max, m_min, m_len, m_tuple⟩ (G_box.mono (by decide)) B_box (G_take.mono (by decide)) B_take (G_names.mono (by decide)) B_names (G_row.mono (by decide)) B_row (G_text.mono (by decide)) B_text (G_words_of.mono (by decide)) B_words_of (G_events_of.mono (by decide)) B_events_of (G_spoilt.mono (by decide)) B_spoilt (G_great.mono (by decide)) B_great (G_heard.mono (by decide)) B_heard (G_due.mono (by decide)) B_due
end K2

set_option linter.all false
open PySem PySem.W PyProof.Rows
set_option maxRecDepth 100000 in
set_option maxHeartbeats 0 in
theorem PySem.Challenge.cw_keptnomore_k02_words_of_events_holds : PySem.Challenge.rw_keptnomore_k02_words_of_events.Holds := by
  w_on; o_law; k_head; (case hw => w_witness2)
  k_fill
  refine Rg.walkG (l := PySem.Challenge.rw_keptnomore_k02_words_of_events) (n := 63) (k := 11) (x := "_law_script") (CX := fun _ => L2.CX0) (sp := fun w => K2.spLaw _) rfl (by decide) rfl ⟨rfl, by decide, by decide⟩ (fun w h Y => PySem.W.kIn_of Y) ?F
    (fun _ _ a ns hl _ _ hS => ⟨a, ns, rfl, hS, Nat.le_trans hl (by decide), fun _ => rfl⟩) (fun _ _ _ _ _ z => z)
  case F =>
    intro w mg fa h KX G hmg
    refine' K2.all_mk KX G hmg ?kk_g0 ?kk_gk ?kk_x0 ?kk_i0 ?kk_t0 ?kk_l0 ?kk_c0 ?kk_u0 ?kk_w0 ?kk_y0 ?kk_z0 ?kk_b0 ?kk_n0at ?kk_hn ?kk_ht ?kk_th ?kk_htop ?kk_aF_own ?kk_lF_own ?kk_cF_own ?kk_kF_own ?kk_aF_words_in ?kk_lF_words_in ?kk_cF_words_in ?kk_kF_words_in ?kk_aF_consists ?kk_lF_consists ?kk_cF_consists ?kk_kF_consists ?kk_aF_is_name ?kk_lF_is_name ?kk_cF_is_name ?kk_kF_is_name ?kk_aF_is_figure ?kk_lF_is_figure ?kk_cF_is_figure ?kk_kF_is_figure ?kk_aF_word_of ?kk_lF_word_of ?kk_cF_word_of ?kk_kF_word_of ?kk_aF_event_of ?kk_lF_event_of ?kk_cF_event_of ?kk_kF_event_of ?kk_aF_words_of ?kk_lF_words_of ?kk_cF_words_of ?kk_kF_words_of ?kk_aF_events_of ?kk_lF_events_of ?kk_cF_events_of ?kk_kF_events_of ?kk_aF_box ?kk_lF_box ?kk_cF_box ?kk_kF_box ?kk_aF_take ?kk_lF_take ?kk_cF_take ?kk_kF_take ?kk_aF_mixed ?kk_lF_mixed ?kk_cF_mixed ?kk_kF_mixed ?kk_aF_names ?kk_lF_names ?kk_cF_names ?kk_kF_names ?kk_aF_text ?kk_lF_text ?kk_cF_text ?kk_kF_text ?kk_aF_row ?kk_lF_row ?kk_cF_row ?kk_kF_row ?kk_aF_lname ?kk_lF_lname ?kk_cF_lname ?kk_kF_lname ?kk_aF_lfig ?kk_lF_lfig ?kk_cF_lfig ?kk_kF_lfig ?kk_aF_levent ?kk_lF_levent ?kk_cF_levent ?kk_kF_levent ?kk_aF_due ?kk_lF_due ?kk_cF_due ?kk_kF_due ?kk_aF_great ?kk_lF_great ?kk_cF_great ?kk_kF_great ?kk_aF_heard ?kk_lF_heard ?kk_cF_heard ?kk_kF_heard ?kk_aF_spoilt ?kk_lF_spoilt ?kk_cF_spoilt ?kk_kF_spoilt ?kk_aF_law ?kk_lF_law ?kk_cF_law ?kk_kF_law ?kk_aT_nn ?kk_lT_nn ?kk_n_len ?kk_n_abs ?kk_n_int ?kk_n_isinstance ?kk_n_list ?kk_n_tuple ?kk_n_dict ?kk_n_repr ?kk_n_range ?kk_n_max ?kk_n_min ?kk_n_enumerate ?kk_n_super ?kk_n_all ?kk_n_str ?kk_tab
    (case kk_g0 => k_is)
    (case kk_gk => k_is)
    (case kk_x0 => k_is)
    (case kk_i0 => k_is)
    (case kk_t0 => k_is)
    (case kk_l0 => k_is)
    (case kk_c0 => k_is)
    (case kk_u0 => k_is)
    (case kk_w0 => k_is)
    (case kk_y0 => exact rfl)
    (case kk_z0 => decide +kernel)
    (case kk_b0 => kernel_rfl)
    (case kk_n0at => k_is)
    (case kk_hn => k_is)
    (case kk_ht => k_is)
    (case kk_th => k_is)
    (case kk_htop => decide +kernel)
    (case kk_aF_own => k_is)
    (case kk_lF_own => k_is)
    (case kk_cF_own => k_is)
    (case kk_kF_own => k_is)
    (case kk_aF_words_in => k_is)
    (case kk_lF_words_in => k_is)
    (case kk_cF_words_in => k_is)
    (case kk_kF_words_in => k_is)
    (case kk_aF_consists => k_is)
    (case kk_lF_consists => k_is)
    (case kk_cF_consists => k_is)
    (case kk_kF_consists => k_is)
    (case kk_aF_is_name => k_is)
    (case kk_lF_is_name => k_is)
    (case kk_cF_is_name => k_is)
    (case kk_kF_is_name => k_is)
    (case kk_aF_is_figure => k_is)
    (case kk_lF_is_figure => k_is)
    (case kk_cF_is_figure => k_is)
    (case kk_kF_is_figure => k_is)
    (case kk_aF_word_of => k_is)
    (case kk_lF_word_of => k_is)
    (case kk_cF_word_of => k_is)
    (case kk_kF_word_of => k_is)
    (case kk_aF_event_of => k_is)
    (case kk_lF_event_of => k_is)
    (case kk_cF_event_of => k_is)
    (case kk_kF_event_of => k_is)
    (case kk_aF_words_of => k_is)
    (case kk_lF_words_of => k_is)
    (case kk_cF_words_of => k_is)
    (case kk_kF_words_of => k_is)
    (case kk_aF_events_of => k_is)
    (case kk_lF_events_of => k_is)
    (case kk_cF_events_of => k_is)
    (case kk_kF_events_of => k_is)
    (case kk_aF_box => k_is)
    (case kk_lF_box => k_is)
    (case kk_cF_box => k_is)
    (case kk_kF_box => k_is)
    (case kk_aF_take => k_is)
    (case kk_lF_take => k_is)
    (case kk_cF_take => k_is)
    (case kk_kF_take => k_is)
    (case kk_aF_mixed => k_is)
    (case kk_lF_mixed => k_is)
    (case kk_cF_mixed => k_is)
    (case kk_kF_mixed => k_is)
    (case kk_aF_names => k_is)
    (case kk_lF_names => k_is)
    (case kk_cF_names => k_is)
    (case kk_kF_names => k_is)
    (case kk_aF_text => k_is)
    (case kk_lF_text => k_is)
    (case kk_cF_text => k_is)
    (case kk_kF_text => k_is)
    (case kk_aF_row => k_is)
    (case kk_lF_row => k_is)
    (case kk_cF_row => k_is)
    (case kk_kF_row => k_is)
    (case kk_aF_lname => k_is)
    (case kk_lF_lname => k_is)
    (case kk_cF_lname => k_is)
    (case kk_kF_lname => k_is)
    (case kk_aF_lfig => k_is)
    (case kk_lF_lfig => k_is)
    (case kk_cF_lfig => k_is)
    (case kk_kF_lfig => k_is)
    (case kk_aF_levent => k_is)
    (case kk_lF_levent => k_is)
    (case kk_cF_levent => k_is)
    (case kk_kF_levent => k_is)
    (case kk_aF_due => k_is)
    (case kk_lF_due => k_is)
    (case kk_cF_due => k_is)
    (case kk_kF_due => k_is)
    (case kk_aF_great => k_is)
    (case kk_lF_great => k_is)
    (case kk_cF_great => k_is)
    (case kk_kF_great => k_is)
    (case kk_aF_heard => k_is)
    (case kk_lF_heard => k_is)
    (case kk_cF_heard => k_is)
    (case kk_kF_heard => k_is)
    (case kk_aF_spoilt => k_is)
    (case kk_lF_spoilt => k_is)
    (case kk_cF_spoilt => k_is)
    (case kk_kF_spoilt => k_is)
    (case kk_aF_law => k_is)
    (case kk_lF_law => k_is)
    (case kk_cF_law => k_is)
    (case kk_kF_law => k_is)
    (case kk_aT_nn => k_is)
    (case kk_lT_nn => k_is)
    (case kk_n_len => k_is)
    (case kk_n_abs => k_is)
    (case kk_n_int => k_is)
    (case kk_n_isinstance => k_is)
    (case kk_n_list => k_is)
    (case kk_n_tuple => k_is)
    (case kk_n_dict => k_is)
    (case kk_n_repr => k_is)
    (case kk_n_range => k_is)
    (case kk_n_max => k_is)
    (case kk_n_min => k_is)
    (case kk_n_enumerate => k_is)
    (case kk_n_super => k_is)
    (case kk_n_all => k_is)
    (case kk_n_str => k_is)
    (case kk_tab => kernel_rfl)


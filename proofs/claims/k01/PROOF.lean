import PyProof.Rows.All
import Wide.All
import OpenK.AllK
import Wide.FinOn
import HandS.ForMost
import HandS.ExcInit
import HandS.ExcField
import HandS.ExcIs
import HandS.Nested
import KE.KExcSuper
import KE.KExcIs
import HandS.ExcSuper
import PyProof.ReprRoads
import HandS.EndBits
import HandS.Codes
import PySem.Challenge.RW_keptnomore_k01_errors_and_their_fields
import HandS.IsInst
import HandS.Exc
import HandS.TryMany
import HandS.WordsExc
import HandS.Walk
set_option Elab.async false
set_option linter.all false
set_option maxRecDepth 100000
set_option maxHeartbeats 4000000
/-! exceptions of own classes with an own __init__, held as values -/
namespace Exv
open PySem PySem.Spec PyProof.Rows L2
/-- the class at C, called, makes an exception and hands it to its __init__ at fI -/
def MkOk (prog : Program) (w : World) (K : PySem.W.Frag) (C fI : Addr) : Prop :=
  ∀ (A : Around) (R : Result → Shared → Prop) (h : Heap) (g : Array GenState) (d : Drawn) (t : Nat) (os : OsState) (rest : List Value), K.In h → rest.length ≤ sizeLine →
    codeAny (model prog w) (A.under (.builtin "type.__call__" ⟨.ref C :: rest, []⟩)) (.call (.ref fI) ⟨.ref (h.objs.size + 1) :: rest, []⟩) (PySem.W.InitBack (h.objs.size + 1) R)
      ⟨(h.push (PySem.W.kdv_tup rest)).push (PySem.HandSPX.excO C h.objs.size), g, d, t, os⟩ →
    codeAny (model prog w) A (.call (.ref C) ⟨rest, []⟩) R ⟨h, g, d, t, os⟩
theorem mkOk_ve {prog : Program} {w : World} {K : PySem.W.Frag} {C fI : Addr} (T : OexC K C) (iC : PySem.W.findIn K (.ref C) "__init__" = some (some (.ref fI)))
    (tI : PySem.W.typeIn K (.ref fI) = some (.type "function")) : MkOk prog w K C fI := fun A R h g d t os rest KX hr q => by
  obtain ⟨nm, qq, N, bs, bm, sn, sub, ab, col, dd, k0, k1, k2, k3, k5, hC, hbm⟩ := T.cls
  exact PySem.HandSPX.call_own PySem.F.excBase_ValueError (fun Y => PySem.HandSPX.refsVE_contains Y bm hbm) (KX _ _ hC) (PySem.W.looks_findIn KX iC) (fun self => PySem.W.bind_fn KX self tI) hr q
/-- C(e, ..), C's own __init__ keeping sp: the exception as a value -/
def tMkV (C : Addr) (sp : Sp) (ta : TA) : TE := fun σ H Q => ta σ H fun vs H1 => vs.length ≤ 1000 ∧ ∀ a, H1 a = none →
  sp (.ref a :: vs) (upd H1 a (exo a C none)) (fun v H2 => v = .non ∧ Q (.ref a) H2) (fun _ _ _ => False)
section
variable {X : Cx}
theorem mkv_run {CX : CXT} {C fI : Addr} {k : Nat} {fd : FuncData} {ps : List Str} {sp : Sp} (MK : MkOk X.prog X.w X.K C fI)
    (F1 : FnOk X.prog X.w X.K X.mg X.base CX k fI fd ps sp) (hr : Room (k + 1) X.A) (hb : Binds X.K fd ps []) (hx : Passes CX X (fun _ _ _ => False))
    {pins : List (Addr × Obj)} {σ : L2.St} {H1 : Hp} {s1 : Shared} {vs : List V} {us : List Value} {Q : VK} (I1 : Inv X pins σ H1 s1) (r1 : Vals vs us) (hz : vs.length ≤ 1000)
    (q1 : ∀ a, H1 a = none → sp (.ref a :: vs) (upd H1 a (exo a C none)) (fun v H2 => v = .non ∧ Q (.ref a) H2) (fun _ _ _ => False)) :
    wpAny (model X.prog X.w) X.A (call (.ref C) us) (EP X pins σ Q) X.xe s1 := by
  obtain ⟨hp, g, dr, tk, os⟩ := s1
  have up1 : hp.objs.size ≤ hp.objs.size + 1 := Nat.le_succ _
  have hq := q1 (hp.objs.size + 1) (I1.hok.fresh up1)
  have kk : ∀ b o, hp.get? b = some o → ((hp.push (PySem.W.kdv_tup us)).push (PySem.HandSPX.excO C hp.objs.size)).get? b = some o := fun b o z =>
    Heap.get?_push_of_some _ (Heap.get?_push_of_some _ z)
  have hat : ((hp.push (PySem.W.kdv_tup us)).push (PySem.HandSPX.excO C hp.objs.size)).get? (hp.objs.size + 1) = some (PySem.HandSPX.excO C hp.objs.size) := by heap_get
  have I2 : Inv X pins σ (upd H1 (hp.objs.size + 1) (exo (hp.objs.size + 1) C none)) ⟨(hp.push (PySem.W.kdv_tup us)).push (PySem.HandSPX.excO C hp.objs.size), g, dr, tk, os⟩ :=
    I1.laid (t' := tk) (a := hp.objs.size + 1) (o := exo (hp.objs.size + 1) C none) (h' := (hp.push (PySem.W.kdv_tup us)).push (PySem.HandSPX.excO C hp.objs.size)) kk up1 (exo_ok hat)
  have r2 : Vals (V.ref (hp.objs.size + 1) :: vs) (Value.ref (hp.objs.size + 1) :: us) := .cons rfl r1
  have hl : (Value.ref (hp.objs.size + 1) :: us).length = ps.length := by
    rw [← r2.length]
    exact F1.len _ _ _ _ hq
  have hus : us.length ≤ sizeLine := by
    rw [← Paired.length r1, sizeLine_eq]
    omega
  refine wpAny_call (MK _ _ hp g dr tk os us I1.kIn hus (codeAny_mono (F1.run _ X.stack _ _ ⟨Value.ref (hp.objs.size + 1) :: us, []⟩ (Value.ref (hp.objs.size + 1) :: us) _ _ (fun _ _ _ => False)
    (hr.make C us []) (I2.env0.make C us []) (by have z := hb _ (Value.ref (hp.objs.size + 1) :: us) I2.kIn (by rw [List.append_nil]; exact hl); rw [List.append_nil] at z; exact z) r2 hq) fun r s' hq' => ?_))
  cases r with
  | error er => exact hx pins σ _ _ er s' I2 hq'
  | ok fl =>
    cases fl with
    | ret u =>
      obtain ⟨v, H2, J, rv, ev, q2⟩ := I2.after hq'
      subst ev
      exact ⟨rv, .ref (hp.objs.size + 1), H2, J, rfl, q2⟩
    | next => exact False.elim hq'
    | brk => exact False.elim hq'
    | cont => exact False.elim hq'
theorem pe_mkv {CX : CXT} {x : Str} {C fI : Addr} {k : Nat} {fd : FuncData} {ps : List Str} {sp : Sp} {e : Expr} {es : List Expr} {ta : TA} {p pos : Pos} (MK : MkOk X.prog X.w X.K C fI) (kC : PySem.W.keepIn X.K (.ref C) = true)
    (F1 : FnOk X.prog X.w X.K X.mg X.base CX k fI fd ps sp) (hr : Room (k + 1) X.A) (hb : Binds X.K fd ps []) (hx : Passes CX X (fun _ _ _ => False)) (hg : Gl X x) (hm : X.mg x = some (.ref C)) (ha : PA X (e :: es) ta)
    (hdb : (x == ("__debug__" : Str)) = false := by decide) (he : starEach (e :: es) X.env = (false, eval e X.env) :: starEach es X.env := by rfl) (hpl : (backTo pos (starEach es X.env)).any (·.1) = false := by rfl) :
    PE X (.Call (.Name x p) (e :: es) [] pos) (tMkV C sp ta) := by
  refine ⟨fun pins s σ H Q I h => wpAny_Call_Name_kw (ld_glob I hg hm ?_ hdb)⟩
  refine PySem.W.callWith_K (h₀ := X.base) I.ok.mod.kin kC (thn (ha.run pos pins s σ H _ I h) fun us s1 hh => ?_) he hpl
  obtain ⟨vs, H1, I1, r1, hz, q1⟩ := hh
  exact ⟨I1.kIn, mkv_run MK F1 hr hb hx I1 r1 hz q1⟩
theorem pe_mkv0 {CX : CXT} {x : Str} {C fI : Addr} {k : Nat} {fd : FuncData} {ps : List Str} {sp : Sp} {p pos : Pos} (MK : MkOk X.prog X.w X.K C fI) (kC : PySem.W.keepIn X.K (.ref C) = true)
    (F1 : FnOk X.prog X.w X.K X.mg X.base CX k fI fd ps sp) (hr : Room (k + 1) X.A) (hb : Binds X.K fd ps []) (hx : Passes CX X (fun _ _ _ => False)) (hg : Gl X x) (hm : X.mg x = some (.ref C))
    (hdb : (x == ("__debug__" : Str)) = false := by decide) :
    PE X (.Call (.Name x p) [] [] pos) (tMkV C sp tNil) := by
  refine ⟨fun pins s σ H Q I h => wpAny_Call_Name_kw (ld_glob I hg hm ?_ hdb)⟩
  exact PySem.W.callWith_K0 I.kIn kC (mkv_run (us := []) MK F1 hr hb hx I .nil h.1 h.2)
/-- e.f, e such an exception -/
def tAtt (C : Addr) (f : Str) (te : TE) : TE := fun σ H Q => te σ H fun x H1 => ∃ (a d : Addr) (fs : List (Str × V)) (v : V), x = .ref a ∧ H1 a = some (exo a C (some d)) ∧ H1 d = some (exd d fs) ∧ fs.lookup f = some v ∧ Q v H1
theorem pe_att {C : Addr} {f : Str} {e : Expr} {te : TE} {pos : Pos} (T : XfC X.K C) (hno : PySem.W.findIn X.K (.ref C) f = some none) (he : PE X e te)
    (hb : attributeBase e f X.env (eval e X.env) = eval e X.env := by rfl) : PE X (.Attribute e f pos) (tAtt C f te) := by
  refine ⟨fun pins s σ H Q I h => attr_of hb (thn (he.run pins s σ H _ I h) fun u s1 hh => ?_)⟩
  obtain ⟨x, H1, I1, rx, a, d, fs, v, ex, ea, ed, l, q⟩ := hh
  subst ex
  obtain rfl : u = Value.ref a := rx
  obtain ⟨t1, ha⟩ := exo_at I1.hok ea
  obtain ⟨mA, hns, hr⟩ := exd_at I1.hok ed
  obtain ⟨od, ho, hl⟩ := lookIn_ns hns
  obtain ⟨u, hu, ru⟩ := RelO.some_of (v := v) (o := mA f) (by rw [← l]; exact hr f)
  have J : PySem.W.InstAt s1.heap a _ C (some od) := ⟨ha, rfl, rfl, ho⟩
  exact PySem.HandSPX.exc_get I1.kIn J T.ga T.gg T.exC (PySem.W.findObj_own T.hdC hno rfl (by rw [hl, hu])) (handed_of ru) ⟨v, H1, I1.tok _, ru, q⟩
/-- isinstance(e, c), e such an exception -/
def rIsX (K : PySem.W.Frag) : List V → Hp → VK → Prop := fun xs H Q => ∃ (a C : Addr) (dd : Option Addr) (c : V) (cv : Value) (b : Bool), xs = [.ref a, c] ∧ H a = some (exo a C dd) ∧
  (dd = none ∨ ∃ d fs, dd = some d ∧ H d = some (exd d fs)) ∧ ExcC K C ∧ (∀ u, RelV c u → u = cv) ∧ PySem.W.kitOne K (.ref C) cv = some b ∧ Q (.bl b) H
theorem call_isX : CallR X (.builtin "isinstance") (rIsX X.K) := by
  intro pins s σ H xs us Q I r h
  obtain ⟨a, C, dd, c, cv, b, rfl, ea, hd, T, hcv, e, q⟩ := h
  cases r with
  | cons rx rr =>
    cases rr with
    | cons rt rr =>
      cases rr
      cases rx
      obtain rfl := hcv _ rt
      obtain ⟨t1, ha⟩ := exo_at I.hok ea
      have hcl : (PySem.W.clsIn X.K C).isSome = true := by
        obtain ⟨cd, hc, _⟩ := PySem.W.any_some T.hd
        rw [hc] <;> rfl
      rcases hd with rfl | ⟨d, fs, rfl, ed⟩
      · have J : PySem.W.InstAt s.heap a _ C none := ⟨ha, rfl, rfl, trivial⟩
        exact PySem.W.kia_one (PySem.W.kitx_exc hcl T.hg T.hk T.hs T.ha T.hn T.ht T.hm) I.kIn J e (fun z => nomatch z) fun tk => ⟨.bl b, H, I.kept (t' := tk) fun _ _ z => z, rfl, q⟩
      · obtain ⟨mA, ⟨o, es, ep, ho, hr⟩, _⟩ := exd_at I.hok ed
        have J : PySem.W.InstAt s.heap a _ C (some o) := ⟨ha, rfl, rfl, ho⟩
        exact PySem.W.kia_one (PySem.W.kitx_exc hcl T.hg T.hk T.hs T.ha T.hn T.ht T.hm) I.kIn J e (fun z => nomatch z) fun tk => ⟨.bl b, H, I.kept (t' := tk) fun _ _ z => z, rfl, q⟩
end
end Exv

set_option Elab.async false
set_option linter.all false
set_option maxRecDepth 100000
set_option maxHeartbeats 4000000
/-! stores on exceptions of own classes, whatever built-in class they are over -/
namespace Exg
open PySem PySem.Spec PyProof.Rows L2
open Builtin Builtin.ObjectAttr
/-- what is asked of the class at C for a store on its instances -/
structure EcC (K : PySem.W.Frag) (C : Addr) : Prop where
  cls : ∃ nm q N bs bm sn sub ab col dd k0 k1 k2 k3 k5 newId, K.lookup C = some (excClassObj nm q C N bs bm true sn sub ab col dd k0 k1 k2 k3 k5 newId) ∧
    (∀ self : Value, refuseLoop self "__setattr__" (.ref C :: bm) = pure ()) ∧ (Value.ref C :: bm).contains (.type "object") = true
  sa : PySem.W.findIn K (.ref C) "__setattr__" = some (some (.builtin "object.__setattr__"))
theorem ecC_ve {K : PySem.W.Frag} {C : Addr} (T : OexC K C) : EcC K C := by
  obtain ⟨nm, q, N, bs, bm, sn, sub, ab, col, dd, k0, k1, k2, k3, k5, hC, hbm⟩ := T.cls
  exact ⟨⟨nm, q, N, bs, bm, sn, sub, ab, col, dd, k0, k1, k2, k3, k5, _, hC, fun self => PySem.HandSPX.refsVE_pass self _ (show PySem.HandSPX.refsVE (.ref C :: bm) = true from hbm),
    (PySem.HandSPX.refsVE_contains "object" _ (show PySem.HandSPX.refsVE (.ref C :: bm) = true from hbm)).trans (by decide +kernel)⟩, T.sa⟩
section
variable {prog : Program} {w : World} {A : Around} {E : Value → Shared → Prop} {R : Result → Shared → Prop} {hp : Heap} {g : Array GenState} {d : Drawn} {t : Nat} {os : OsState}
/-- object.__setattr__ on it, down to the own dict -/
theorem to_dict {K : PySem.W.Frag} {name : Str} {tk : Tok} {v : Value} {x C : Addr} {ox : Obj} {od : Option Obj} {cd : ClassData} (KI : K.In hp) (I : PySem.W.InstAt hp x ox C od) (hcd : PySem.W.clsIn K C = some cd)
    (pass : ∀ self : Value, refuseLoop self "__setattr__" cd.mro = pure ()) (hob : cd.mro.contains (.type "object") = true) (ha : PySem.W.findIn K (.ref C) name = some none)
    (fin : wpAny (model prog w) A.in1 (storeInOwnDict (.ref x) (.ref C) (.str name tk) name v false)
      (fun f s' => match f with | .done r => R (.ok r) s' | .again c => c.quiet = true ∧ codeAny (model prog w) A c R s') (fun e s' => R (.error e) s') ⟨hp, g, d, t, os⟩) :
    codeAny (model prog w) A (.call (.builtin "object.__setattr__") ⟨[.ref x, .str name tk, v], []⟩) R ⟨hp, g, d, t, os⟩ := by
  have ne : cd.mro.isEmpty = false := by
    cases e : cd.mro with
    | nil =>
      rw [e] at hob
      cases hob
    | cons _ _ => rfl
  have isO : PySem.W.Looks (model prog w) hp (isInstance (.ref x) (.type "object")) true :=
    I.type.andThen (PySem.W.looks_mroIn KI (by unfold PySem.W.mroIn; rw [hcd, Option.bind_some, if_neg (by rw [ne]; decide), hob]))
  have lm : PySem.W.Looks (model prog w) hp (mroOf (.ref C)) cd.mro := (PySem.W.looks_clsIn KI hcd).andThen .now
  have ls : PySem.W.Looks (model prog w) hp (storeTaker? none) none := .now
  refine codeAny_call_builtin PySem.F.store_object.slot.plain PySem.F.store_object.entry
    (@PySem.W.check_slot (model prog w) _ _ ⟨hp, g, d, t, os⟩ "object.__setattr__" "object" "__setattr__" (.ref x) [.str name tk, v] [] _ PySem.F.store_object.kind PySem.F.store_object.split isO
      (PySem.F.store_object.args (.ref x) (.str name tk) v) ?_)
  rw [PySem.W.osa_eq, refuse_eq]
  refine wpAny_bind (wpAny_bind (I.type.at (wpAny_bind (lm.at ?_))))
  rw [pass]
  exact wpAny_pure (wpAny_bind (I.type.at (wpAny_bind ((PySem.W.looks_findIn KI ha).at (wpAny_bind (ls.at fin))))))
theorem set_first {K : PySem.W.Frag} {name : Str} {tk : Tok} {v : Value} {x C : Addr} {fv : Array Value} {cd : ClassData} (KI : K.In hp) (hx : hp.get? x = some { cls := .ref C, data := .fields fv }) (hcd : PySem.W.clsIn K C = some cd)
    (pass : ∀ self : Value, refuseLoop self "__setattr__" cd.mro = pure ()) (hob : cd.mro.contains (.type "object") = true) (hh : cd.hasDict = true) (ha : PySem.W.findIn K (.ref C) name = some none)
    (fin : ∀ h' tk' dx, (∀ b o, b ≠ x → hp.get? b = some o → h'.get? b = some o) → hp.objs.size ≤ dx → dx ≠ x → h'.get? x = some { cls := .ref C, dict := some dx, data := .fields fv } →
      h'.Ns1 dx (fun y => if y = name then some v else none) → R (.ok (.ret .none)) ⟨h', g, d, tk', os⟩) :
    codeAny (model prog w) A (.call (.builtin "object.__setattr__") ⟨[.ref x, .str name tk, v], []⟩) R ⟨hp, g, d, t, os⟩ := by
  have far : x ≠ hp.objs.size := Nat.ne_of_lt (Heap.lt_size hx)
  have lc : PySem.W.Looks (model prog w) hp (classData C) cd := PySem.W.looks_clsIn KI hcd
  refine to_dict KI (ox := { cls := .ref C, data := .fields fv }) (od := none) ⟨hx, rfl, rfl, trivial⟩ hcd pass hob ha ?_
  obtain ⟨c1, c2, c3, c4, c5, c6, c7, c8, c9, c10, c11⟩ := cd
  dsimp only at hh
  subst hh
  unfold storeInOwnDict ownDictForStores
  repeat (first | with_reducible refine PySem.HandSPX.store_in_new ?_ ?_ | with_reducible refine wpAny_loadPart_at hx ?_ | with_reducible refine lc.at ?_ | wp_step)
  · exact ⟨_, #[], _, (Heap.get?_update_ne _ _ _ _ far.symm).trans (Heap.get?_push_at rfl rfl), rfl, fun e he => absurd he (by simp), fun _ => rfl⟩
  · intro h' tk' hn' hs
    have hx1 : (hp.push { cls := .type "dict", data := .dict #[] }).get? x = some { cls := .ref C, data := .fields fv } := Heap.get?_push_of_some _ hx
    exact fin h' tk' hp.objs.size (fun b o hb ho => (hs.2 b (Nat.ne_of_lt (Heap.lt_size ho))).trans ((Heap.get?_update_ne _ _ _ _ hb).trans (Heap.get?_push_of_some _ ho))) (Nat.le_refl _) far.symm
      ((hs.2 x far).trans (Heap.get?_update_self _ hx1 rfl)) hn'
theorem set_next {K : PySem.W.Frag} {name : Str} {tk : Tok} {v : Value} {x C dx : Addr} {fv : Array Value} {cd : ClassData} {m0 : Str → Option Value} {nl : List Str} (KI : K.In hp)
    (hx : hp.get? x = some { cls := .ref C, dict := some dx, data := .fields fv }) (hns : hp.Ns1 dx m0) (hw : Within m0 nl) (hz : nl.length ≤ 1000) (hcd : PySem.W.clsIn K C = some cd)
    (pass : ∀ self : Value, refuseLoop self "__setattr__" cd.mro = pure ()) (hob : cd.mro.contains (.type "object") = true) (hh : cd.hasDict = true) (ha : PySem.W.findIn K (.ref C) name = some none)
    (fin : ∀ h' tk', (∀ b o, b ≠ dx → hp.get? b = some o → h'.get? b = some o) → h'.Ns1 dx (fun y => if y = name then some v else m0 y) → R (.ok (.ret .none)) ⟨h', g, d, tk', os⟩) :
    codeAny (model prog w) A (.call (.builtin "object.__setattr__") ⟨[.ref x, .str name tk, v], []⟩) R ⟨hp, g, d, t, os⟩ := by
  obtain ⟨oD, _, _, hoD, _, _⟩ := hns.count hw
  have lc : PySem.W.Looks (model prog w) hp (classData C) cd := PySem.W.looks_clsIn KI hcd
  refine to_dict KI (ox := { cls := .ref C, dict := some dx, data := .fields fv }) (od := some oD) ⟨hx, rfl, rfl, hoD⟩ hcd pass hob ha ?_
  obtain ⟨c1, c2, c3, c4, c5, c6, c7, c8, c9, c10, c11⟩ := cd
  dsimp only at hh
  subst hh
  unfold storeInOwnDict ownDictForStores
  repeat (first | with_reducible refine PySem.OEX.store_in_old hns hw hz ?_ | with_reducible refine wpAny_loadPart_at hx ?_ | with_reducible refine lc.at ?_ | wp_step)
  intro h' tk' hn' hs
  exact fin h' tk' (fun b o hb ho => (hs.2 b hb).trans ho) hn'
end
section
variable {X : Cx} {pins : List (Addr × Obj)} {σ : L2.St} {H : Hp} {s : Shared} {a C dx : Addr} {f : Str} {y : V} {u : Value} {fs : List (Str × V)} {Q : Unit → Shared → Prop} {E : Value → Shared → Prop} {A : Around}
/-- self.f = y, the first one -/
theorem st_first (T : EcC X.K C) (I : Inv X pins σ H s) (e : H a = some (exo a C none)) (hno : PySem.W.findIn X.K (.ref C) f = some none) (ry : RelV y u)
    (h : ∀ dx s', H dx = none → dx ≠ a → Inv X pins σ (upd (upd H dx (exd dx [(f, y)])) a (exo a C (some dx))) s' → Q () s') : wpAny (model X.prog X.w) A (setAttr (.ref a) f u) Q E s := by
  obtain ⟨nm, q, N, bs, bm, sn, sub, ab, col, dd, k0, k1, k2, k3, k5, newId, hC, pass, hob⟩ := T.cls
  have hcl : PySem.W.clsIn X.K C = some { name := nm, bases := bs, mro := .ref C :: bm, ns := N, qualname := q, hasDict := true, slotNames := sn, subclasses := sub, abstract := ab, collection := col, hasDel := false } := by
    unfold PySem.W.clsIn; rw [hC] <;> rfl
  obtain ⟨t1, ho⟩ := exo_at I.hok e
  obtain ⟨hp, g, d, t, os⟩ := s
  refine PySem.W.set_plain I.kIn (ox := { cls := .ref C, dict := none, data := .fields #[.ref t1, .none, .none, .none, .bool false, .none] }) (od := none) ⟨ho, rfl, rfl, trivial⟩ T.sa ?_
  refine set_first I.kIn ho hcl pass hob rfl hno (fun h' tk' dx k dn dne hx hn => ?_)
  have fresh : H dx = none := I.hok.fresh dn
  have nd : ∀ {b : Addr} {o : Obj}, hp.get? b = some o → b ≠ dx := fun {b o} z => Nat.ne_of_lt (Nat.lt_of_lt_of_le (Heap.lt_size z) dn)
  have na : ∀ {b : Addr}, H b = none → b ≠ a := fun {b} n z => by
    subst z
    rw [e] at n
    cases n
  have U : Un X.fs [] H (upd (upd H dx (exd dx [(f, y)])) a (exo a C (some dx))) hp h' := {
    keep := fun b o z n _ _ => k b o (na n) z
    slot := fun b o z n _ _ => ⟨o.slots, k b o (na n) z⟩
    free := fun b o z n _ => by
      rw [upd_ne (na n), upd_ne (nd z)]
      exact n
    there := fun b o z _ => by
      by_cases hb : b = a
      · subst hb
        exact ⟨_, hx⟩
      · exact ⟨o, k b o hb z⟩
    tups := fun b xs z => by
      rw [upd_ne (at_ne e z exo_tup), upd_ne (ne_of_none z fresh)]
      exact z
    frzs := fun b o v z => by
      rw [upd_ne (at_ne e z exo_frz), upd_ne (ne_of_none z fresh)]
      exact z
    tbls := fun b ps z => ⟨#[], by rw [upd_ne (at_ne e z exo_tbl), upd_ne (ne_of_none z fresh), z]; simp⟩ }
  refine h dx _ fresh dne (I.un (t' := tk') U fun b o z => ?_)
  by_cases hb : b = a
  · subst hb
    rw [upd_same] at z
    cases z
    exact exo_ok hx
  · rw [upd_ne hb] at z
    by_cases hd : b = dx
    · subst hd
      rw [upd_same] at z
      cases z
      exact exd_ok hn (relO_put (fs := []) ry fun g => True.intro)
    · rw [upd_ne hd] at z
      refine (I.hok b o z).stay (fun c v hc r => k c v ?_ r) (fun c hc => ?_) (fun c xs hc => ?_)
      · rcases hc with hc | hc
        · rw [hc]
          exact hb
        · exact at_ne e hc exo_own
      · rw [upd_ne (at_ne e hc exo_own), upd_ne (ne_of_none hc fresh)]
        exact hc
      · rw [upd_ne (at_ne e hc exo_tup), upd_ne (ne_of_none hc fresh)]
        exact hc
/-- self.f = y, a further one -/
theorem st_next (T : EcC X.K C) (I : Inv X pins σ H s) (e : H a = some (exo a C (some dx))) (ed : H dx = some (exd dx fs)) (hl : fs.length ≤ 900) (hno : PySem.W.findIn X.K (.ref C) f = some none) (ry : RelV y u)
    (h : ∀ s', Inv X pins σ (upd H dx (exd dx ((f, y) :: fs))) s' → Q () s') : wpAny (model X.prog X.w) A (setAttr (.ref a) f u) Q E s := by
  obtain ⟨nm, q, N, bs, bm, sn, sub, ab, col, dd, k0, k1, k2, k3, k5, newId, hC, pass, hob⟩ := T.cls
  have hcl : PySem.W.clsIn X.K C = some { name := nm, bases := bs, mro := .ref C :: bm, ns := N, qualname := q, hasDict := true, slotNames := sn, subclasses := sub, abstract := ab, collection := col, hasDel := false } := by
    unfold PySem.W.clsIn; rw [hC] <;> rfl
  obtain ⟨t1, ho⟩ := exo_at I.hok e
  obtain ⟨mA, hns, rel⟩ := exd_at I.hok ed
  have hw := within_of rel
  obtain ⟨hp, g, d, t, os⟩ := s
  obtain ⟨oD, _, _, hoD, _, _⟩ := hns.count hw
  refine PySem.W.set_plain I.kIn (ox := { cls := .ref C, dict := some dx, data := .fields #[.ref t1, .none, .none, .none, .bool false, .none] }) (od := some oD) ⟨ho, rfl, rfl, hoD⟩ T.sa ?_
  refine set_next I.kIn ho hns hw (by rw [List.length_map]; omega) hcl pass hob rfl hno (fun h' tk' k hn => ?_)
  obtain ⟨oN, esN, epN, eN, rN⟩ := id hn
  exact h _ (I.write (t' := tk') (x := dx) (e := dx) (o := exd dx ((f, y) :: fs)) (by rw [ed]; exact True.intro) (.inl rfl) k ⟨oN, eN⟩ (exd_ok hn (relO_put ry rel)))
/-- self.f = e -/
def tSt (K : PySem.W.Frag) (f : Str) (to te : TE) : TS := fun D σ H => te σ H fun y H1 => to σ H1 fun x H2 => ∃ a C : Addr, x = .ref a ∧ EcC K C ∧ PySem.W.findIn K (.ref C) f = some none ∧
  ((H2 a = some (exo a C none) ∧ ∀ dx, H2 dx = none → dx ≠ a → D.nx σ (upd (upd H2 dx (exd dx [(f, y)])) a (exo a C (some dx)))) ∨
    ∃ (dx : Addr) (fs : List (Str × V)), H2 a = some (exo a C (some dx)) ∧ H2 dx = some (exd dx fs) ∧ fs.length ≤ 900 ∧ D.nx σ (upd H2 dx (exd dx ((f, y) :: fs))))
theorem ps_st {o e : Expr} {to te : TE} {p' pos : Pos} (ho : PE X o to) (he : PE X e te) (hs : swapsWith e (some (.Attribute o f p')) pos.line X.env = pure false := by rfl) :
    PS X (.Assign [.Attribute o f p'] e pos) (tSt X.K f to te) := by
  refine ⟨fun pins s σ H D I h => plainObj_wpAny_Assign_Attribute (thn (he.run pins s σ H _ I h) fun v s1 hh => ?_) hs⟩
  obtain ⟨y, H1, I1, r1, q1⟩ := hh
  refine thn (ho.run pins s1 σ H1 _ I1 q1) fun u s2 hh => ?_
  obtain ⟨x, H2, I2, r2, a, C, ex, T, hno, q⟩ := hh
  subst ex
  obtain rfl : u = Value.ref a := r2
  rcases q with ⟨ea, q⟩ | ⟨dx, fs, ea, ed, hl, q⟩
  · exact st_first T I2 ea hno r1 fun dx s' n ne J => ⟨σ, _, J, q dx n ne⟩
  · exact st_next T I2 ea ed hl hno r1 fun s' J => ⟨σ, _, J, q⟩
end
end Exg

set_option Elab.async false
set_option linter.all false
set_option maxRecDepth 100000
set_option maxHeartbeats 4000000
/-! an own exception class over KeyError: made, its built-in __init__ called -/
namespace Ky
open PySem PySem.Calls PySem.Spec PyProof.Rows L2 Exv Exg
open PySem.W (KxsFacts)
abbrev keTail : List Value := [.type "KeyError", .type "LookupError", .type "Exception", .type "BaseException", .type "object"]
theorem initRow : Manifest.signature? "KeyError.__init__" = some ⟨.positional, "*", "KeyError", .self, [⟨"args", .varPos, false⟩]⟩ := by kernel_rfl
theorem initKind : builtinKind "KeyError.__init__" = some .slot := by kernel_rfl
theorem initSlot : Slot "KeyError" "__init__" "KeyError.__init__" := .of (owner := "KeyError") (n := "__init__")
    (by rw [typeLookup_type, builtinLookup_eq_fast]; kernel_rfl) (by decide +kernel) (by decide +kernel) (by decide +kernel)
    (by first | exact .inr (by decide +kernel) | exact .inl (by decide +kernel)) (by rw [isSubtype_type]; kernel_rfl)
theorem initEntry : entryFor table "KeyError.__init__" = some Builtin.«BaseException.__init__» :=
  entryFor_alias (id' := "BaseException.__init__") (by rw [fastTable_eq_tree]; kernel_rfl) (by first | rfl | decide +kernel) (by decide +kernel) (by rw [fastTable_eq_tree]; kernel_rfl)
theorem keyPass (self : Value) : refuseLoop self "__setattr__" keTail = pure () := by kernel_rfl
theorem keySup : KxsFacts "KeyError" "KeyError.__init__" :=
  ⟨by show builtinType _ = _; rw [builtinType_eq_fast]; kernel_rfl, by first | kernel_rfl | rfl⟩
section
variable {M : Model} {prog : Program} {w : World} {A : Around} {E : Value → Shared → Prop} {R : Result → Shared → Prop} {h : Heap} {g : Array GenState} {d : Drawn} {t : Nat} {os : OsState}
variable {nm q : Str} {C N : Addr} {bs : List Value} {hdct : Bool} {sn : List Str} {sub : List Value} {ab : Bool} {col : Option Bool} {dd : Option Addr} {k0 k1 k2 k3 k5 : Option Value}
theorem chk_bound {e : Addr} {oe : Obj} {rest bm : List Value} {newId : String} {Q : Unit → Shared → Prop}
    (hC : h.get? C = some (excClassObj nm q C N bs bm hdct sn sub ab col dd k0 k1 k2 k3 k5 newId)) (he : h.get? e = some oe) (hcls : oe.cls = .ref C) (hq : Q () ⟨h, g, d, t, os⟩) :
    wpAny M A (checkBoundCall "KeyError.__init__" ⟨.ref e :: rest, []⟩) Q E ⟨h, g, d, t, os⟩ := by
  have noStar : (("KeyError" : String) != "*") = true := by decide
  simp only [checkBoundCall, initKind, initRow]
  repeat (first | (with_reducible refine wpAny_loadPart_at he ?_; rw [hcls]) | with_reducible refine wpAny_loadPart_at hC ?_ | wp_step)
  refine wpAny_onRaise ?_
  rw [show ∀ (a b : String) (n : Nat), Bind.check ⟨.positional, "*", "KeyError", .self, [⟨"args", .varPos, false⟩]⟩ a b n (List.map (fun x => x.fst) ({ pos := Value.ref e :: rest } : Args).kw) = pure () from
    fun a b n => check_star_args _ _ _ _ _ _]
  exact wpAny_pure hq
abbrev newK : String := "LookupError.__new__"
theorem chk_new {rest : List Value} {Q : Unit → Shared → Prop} (hC : h.get? C = some (excClassObj nm q C N bs keTail hdct sn sub ab col dd k0 k1 k2 k3 k5 newK)) (hq : Q () ⟨h, g, d, t, os⟩) :
    wpAny M A (checkBuiltinCall newK ⟨.ref C :: rest, []⟩) Q E ⟨h, g, d, t, os⟩ := by
  have hB : (Value.ref C :: keTail).contains (.type "LookupError") = true := by rw [List.contains_cons, show keTail.contains (.type "LookupError") = true by decide +kernel, Bool.or_true]
  have noStar := PySem.F.excBase_LookupError.noStar
  simp only [checkBuiltinCall, PySem.F.excBase_LookupError.newKind, PySem.F.excBase_LookupError.newSplit, PySem.F.excBase_LookupError.newRow]
  repeat (first | refine wpAny_loadPart_at hC ?_ | (refine wpAny_isSubtype_exc hC ?_; rw [hB]) | refine wpAny_staticBase_exc hC ?_ | refine wpAny_madeBy_exc hC ?_ | simp only [bne_self_eq_false, Bool.false_eq_true, if_false] | wp_step)
  exact hq
theorem new_key {rest : List Value} (hC : h.get? C = some (excClassObj nm q C N bs keTail hdct sn sub ab col dd k0 k1 k2 k3 k5 newK)) (hrest : rest.length ≤ sizeLine)
    (hq : R (.ok (.ret (.ref (h.objs.size + 1)))) ⟨(h.push (PySem.W.kdv_tup rest)).push (PySem.HandSPX.excO C h.objs.size), g, d, t, os⟩) :
    codeAny (model prog w) A (.builtin newK ⟨.ref C :: rest, []⟩) R ⟨h, g, d, t, os⟩ := by
  have ends := PySem.F.excBase_LookupError.ends
  have hB : (Value.ref C :: keTail).contains (.type "LookupError") = true := by rw [List.contains_cons, show keTail.contains (.type "LookupError") = true by decide +kernel, Bool.or_true]
  have hA : (Value.ref C :: keTail).contains (.type "AttributeError") = false := by rw [List.contains_cons, show keTail.contains (.type "AttributeError") = false by decide +kernel]; rfl
  have hN : (Value.ref C :: keTail).contains (.type "NameError") = false := by rw [List.contains_cons, show keTail.contains (.type "NameError") = false by decide +kernel]; rfl
  refine codeAny_builtinAt PySem.F.excBase_LookupError.entry ?_
  unfold Builtin.«BaseException.__new__»
  refine PySem.wpAt_bind ?_
  show _root_.PySem.wpAt _ _ _ (stack >>= _) _ _ _
  refine PySem.wpAt_bind (PySem.wpAt_stack fun p below => PySem.wpAt_of_wpAny ?_)
  wp_walk
  refine PySem.wpAt_of_wpAny ?_
  rw [PySem.F.excBase_LookupError.owner]
  repeat (first | with_reducible refine wpAny_madeHere_exc PySem.F.excBase_LookupError.canon hC ?_ | with_reducible refine wpAny_loadPart_at hC ?_ |
    (with_reducible refine wpAny_isSubtype_exc hC ?_; first | rw [hB] | rw [hA] | rw [hN]) | wp_step)
  show R _ _
  rw [Heap.size_push]
  exact hq
theorem type_call_key {rest : List Value} {fI : Addr} {Q : Fin → Shared → Prop} (hC : h.get? C = some (excClassObj nm q C N bs keTail hdct sn sub ab col dd k0 k1 k2 k3 k5 newK))
    (hi : PySem.W.Looks (model prog w) h (typeLookup (.ref C) "__init__") (some (.ref fI))) (hb : ∀ self, PySem.W.Looks (model prog w) h (bindSpecial (.ref fI) self) (.ref fI, [self])) (hrest : rest.length ≤ sizeLine)
    (hq : codeAny (model prog w) A (.call (.ref fI) ⟨.ref (h.objs.size + 1) :: rest, []⟩)
      (fun r s' => match r with | .ok (.ret v) => v = .none ∧ Q (.done (.ret (.ref (h.objs.size + 1)))) s' | .ok _ => False | .error e => E e s')
      ⟨(h.push (PySem.W.kdv_tup rest)).push (PySem.HandSPX.excO C h.objs.size), g, d, t, os⟩) :
    wpAny (model prog w) A (Builtin.«type.__call__» ⟨.ref C :: rest, []⟩) Q E ⟨h, g, d, t, os⟩ := by
  repeat (first | with_reducible refine wpAny_loadPart_at hC ?_ | with_reducible refine wpAny_madeBy_exc hC ?_ | wp_step)
  refine codeAny_call_builtin_code (Code.quiet_builtin _ PySem.F.excBase_LookupError.quiet) (chk_new hC (new_key hC hrest ?_))
  show wpAny _ _ _ _ _ _
  have k : ∀ b o, h.get? b = some o → ((h.push (PySem.W.kdv_tup rest)).push (PySem.HandSPX.excO C h.objs.size)).get? b = some o := fun b o e =>
    Heap.get?_push_of_some _ (Heap.get?_push_of_some _ e)
  have hC1 := k _ _ hC
  have hat : ((h.push (PySem.W.kdv_tup rest)).push (PySem.HandSPX.excO C h.objs.size)).get? (h.objs.size + 1) = some (PySem.HandSPX.excO C h.objs.size) := by heap_get
  have hself : (Value.ref C :: keTail).contains (.ref C) = true := by simp
  have i1 := hi.keeps k
  have b1 := (hb (.ref (h.objs.size + 1))).keeps k
  unfold isInstance
  repeat (first | with_reducible refine wpAny_loadPart_at hat ?_ | (with_reducible refine wpAny_isSubtype_exc hC1 ?_; rw [hself]) | wp_step)
  show wpAny _ _ (typeLookup (.ref C) _) _ _ _
  refine i1.at (wpAny_holding (wpAny_bind (b1.at ?_)))
  refine wpAny_bind (wpAny_call (codeAny_mono hq fun r s' z => ?_))
  rcases r with e | (v | _ | _ | _) <;> first | exact z | exact z.elim | skip
  obtain ⟨rfl, z⟩ := z
  first
    | exact wpAny_pure (wpAny_pure z)
    | (wp_walk; exact z)
end
theorem mkOk_key {prog : Program} {w : World} {K : PySem.W.Frag} {C fI : Addr}
    (cls : ∃ nm q N bs sn sub ab col dd k0 k1 k2 k3 k5, K.lookup C = some (excClassObj nm q C N bs keTail true sn sub ab col dd k0 k1 k2 k3 k5 newK))
    (iC : PySem.W.findIn K (.ref C) "__init__" = some (some (.ref fI))) (tI : PySem.W.typeIn K (.ref fI) = some (.type "function")) : MkOk prog w K C fI := fun A R h g d t os rest KX hr q => by
  obtain ⟨nm, qq, N, bs, sn, sub, ab, col, dd, k0, k1, k2, k3, k5, hC0⟩ := cls
  have hC := KX _ _ hC0
  have f1 := PySem.tc_lookup
  have f2 := PySem.tc_bind (.ref C)
  have hTy : (⟨h, g, d, t, os⟩ : Shared).TypeIs (.ref C) "type" := ⟨_, hC, rfl⟩
  refine codeAny_of_tree ?_
  show wpAny _ _ (callAny (.ref C) _) _ _ _
  repeat (any_goals (first | assumption | with_reducible refine wpAny_loadPart_at hC ?_ | wp_step))
  refine ⟨rfl, ?_⟩
  refine codeAny_call_builtin_at (Code.quiet_builtin _ (by decide +kernel)) entry_typeCall (wpAny_check_type_call_sub hC (type_call_key hC (PySem.W.looks_findIn KX iC) (fun self => PySem.W.bind_fn KX self tI) hr ?_))
  refine codeAny_mono q fun r s' z => ?_
  rcases r with e | (v | _ | _ | _) <;> exact z
end Ky

set_option Elab.async false
set_option linter.all false
set_option maxRecDepth 100000
set_option maxHeartbeats 4000000
/-! an own exception class over ValueError whose __init__ begins with super().__init__('..') -/
namespace Sup
open PySem PySem.Spec PyProof.Rows L2 NdefX
open PySem.W (kxs_mw)
section
variable {X : Cx} {pins : List (Addr × Obj)} {σ : L2.St} {H : Hp} {s : Shared} {a C u : Addr} {A : Around} {E : Value → Shared → Prop}
theorem upd_id {o : HO} (e : H a = some o) : upd H a o = H := by
  funext b
  by_cases hb : b = a
  · subst hb
    rw [upd_same]
    exact e.symm
  · exact upd_ne hb
/-- the built-in __init__ i, bound to an exception of the class at C, is called -/
def MwOk (K : PySem.W.Frag) (C : Addr) (i : String) : Prop := ∀ (prog : Program) (w : World) (A : Around) (E : Value → Shared → Prop) (h : Heap) (g : Array GenState) (d : Drawn) (t : Nat) (os : OsState) (u e t0 : Addr) (us : List Value) (Q : Value → Shared → Prop),
  K.In h → h.get? e = some (PySem.HandSPX.excO C t0) → h.get? u = some (kxs_mw i e) → us.length ≤ sizeLine →
  (∀ h' t1, (∀ b o, b ≠ e → h.get? b = some o → h'.get? b = some o) → h'.get? e = some (PySem.HandSPX.excO C t1) → Q .none ⟨h', g, d, t, os⟩) →
  wpAny (model prog w) A (call (.ref u) us) Q E ⟨h, g, d, t, os⟩
theorem mwOk_ve {K : PySem.W.Frag} (T : OexC K C) : MwOk K C "ValueError.__init__" := fun prog w A E h g d t os u e t0 us Q KX he hu hl hq => by
  obtain ⟨nm, qq, N, bs, bm, sn, sub, ab, col, dd, k0, k1, k2, k3, k5, hC, hbm⟩ := T.cls
  refine wpAny_call (codeAny_of_tree ?_)
  show wpAny _ A.in1 (callAny (.ref u) ⟨us, []⟩) _ _ _
  simp only [callAny]
  refine wpAny_bind (wpAny_load hu ?_)
  simp only [kxs_mw, show (Value.type "method-wrapper" == Value.type "method" || Value.type "method-wrapper" == Value.type "builtin_function_or_method"
    || Value.type "method-wrapper" == Value.type "method-wrapper") = true by decide, if_true]
  refine PySem.W.KFB.if_so (by decide) (wpAny_bind (ESX.check_bound PySem.F.excBase_ValueError (KX _ _ hC) he rfl (wpAny_bind (wpAny_pure (wpAny_pure ?_)))))
  refine ⟨plainId_quiet PySem.F.excBase_ValueError.init.plain _, codeAny_builtin PySem.F.excBase_ValueError.initEntry ?_⟩
  exact PySem.W.exc_init_tree (cls := .ref C) (t0 := t0) (dv := none) (c2 := .none) (c3 := .none) (b4 := .bool false) he hl (fun h' k hx _ => hq h' _ k hx)
theorem mwOk_key {K : PySem.W.Frag} (cls : ∃ nm q N bs sn sub ab col dd k0 k1 k2 k3 k5, K.lookup C = some (excClassObj nm q C N bs Ky.keTail true sn sub ab col dd k0 k1 k2 k3 k5 Ky.newK)) : MwOk K C "KeyError.__init__" :=
  fun prog w A E h g d t os u e t0 us Q KX he hu hl hq => by
  obtain ⟨nm, qq, N, bs, sn, sub, ab, col, dd, k0, k1, k2, k3, k5, hC⟩ := cls
  refine wpAny_call (codeAny_of_tree ?_)
  show wpAny _ A.in1 (callAny (.ref u) ⟨us, []⟩) _ _ _
  simp only [callAny]
  refine wpAny_bind (wpAny_load hu ?_)
  simp only [kxs_mw, show (Value.type "method-wrapper" == Value.type "method" || Value.type "method-wrapper" == Value.type "builtin_function_or_method"
    || Value.type "method-wrapper" == Value.type "method-wrapper") = true by decide, if_true]
  refine PySem.W.KFB.if_so (by decide) (wpAny_bind (Ky.chk_bound (KX _ _ hC) he rfl (wpAny_bind (wpAny_pure (wpAny_pure ?_)))))
  refine ⟨plainId_quiet Ky.initSlot.plain _, codeAny_builtin Ky.initEntry ?_⟩
  exact PySem.W.exc_init_tree (cls := .ref C) (t0 := t0) (dv := none) (c2 := .none) (c3 := .none) (b4 := .bool false) he hl (fun h' k hx _ => hq h' _ k hx)
/-- .. over the abstract heap: nothing of it is told -/
theorem call_mw {i : String} {us : List Value} {Q : Value → Shared → Prop} (M : MwOk X.K C i) (I : Inv X pins σ H s) (e : H a = some (exo a C none))
    (hu : s.heap.get? u = some (kxs_mw i a)) (hl : us.length ≤ sizeLine) (h : ∀ s', Inv X pins σ H s' → Q .none s') :
    wpAny (model X.prog X.w) A (call (.ref u) us) Q E s := by
  obtain ⟨t1, ho⟩ := exo_at I.hok e
  have KX := I.kIn
  obtain ⟨hp, g, d, t, os⟩ := s
  refine M _ _ A E hp g d t os u a t1 us Q KX ho hu hl (fun h' t2 k hx => ?_)
  have J := I.write (t' := t) (x := a) (e := a) (o := exo a C none) (by rw [e]; exact True.intro) (.inl rfl) k ⟨_, hx⟩ (exo_ok hx)
  rw [upd_id e] at J
  exact h _ J
end

/-- what the written part says of such a class at C: its cell __class__ at cc, its __init__'s code at cda -/
structure SupF (P : Program) (K : PySem.W.Frag) (B i : String) (C cc cda : Addr) : Prop where
  KF : PySem.W.KxsFacts B i
  mw : MwOk K C i
  cls : ∃ nm q N bs bm sn sub ab col dd k0 k1 k2 k3 k5 newId, K.lookup C = some (excClassObj nm q C N bs bm true sn sub ab col dd k0 k1 k2 k3 k5 newId)
  along : PySem.W.ks_superIn K C C "__init__" = some (some (.builtin i))
  subV : PySem.W.subIn K (.ref C) (.type B) = some true
  subC : PySem.W.mroIn K C (.ref C) = some true
  cell : ∃ cl cld csl, K.lookup cc = some ⟨cl, cld, .cell (some (.ref C)), csl⟩
  code : ∃ ccl cdd vs ccs file tf, K.lookup cda = some ⟨ccl, cdd, .fields vs, ccs⟩ ∧ vs[2]? = some (.str file tf) ∧ ((P.main.file : Str) == file) = true
  third : PySem.W.nsIn K PySem.cStatics "thirdparty.any" = some none
/-- super().__init__('..') -/
abbrev stSup (p0 p1 p2 p3 p4 p5 : Pos) (j : Nat) (msg : Str) : Stmt :=
  .Expr (.Call (.Attribute (.Call (.Name "super" p0) [] [] p1) "__init__" p2) [.Constant (.str msg) j p3] [] p4) p5
section
variable {CX : CXT} {P : Program} {w : World} {K : PySem.W.Frag} {mg : Str → Option Value} {base : Heap} {N ps : List Str} {F : NF} {f C cc : Addr} {A : Around} {outer : List Env} {s0 s : Shared} {H0 H : Hp} {E : XK} {σ : L2.St} {a : Addr}
theorem sup_stmt {p0 p1 p2 p3 p4 p5 : Pos} {j : Nat} {msg : Str} {body : List Stmt} {ar : Arg} {oc : Value} {od : Option Addr} {osl : Array (Option Value)} {dV kV doc pm ct : Value} {an : Option Addr}
    {B i : String} (D : SupF P K B i C cc F.c) (hcl : F.cl = [(("__class__" : Str), cc)])
    (lk : K.lookup f = some ⟨oc, od, .func (PySem.W.fnX F.name F.qual F.params F.body F.scope F.cl dV kV doc pm an (.ref F.c) ct), osl⟩)
    (hk : F.scope.kind = .function)
    (hks : F.scope.names.lookup ("super" : Str) = some .globalImplicit) (hkc : F.scope.names.lookup ("__class__" : Str) = some .free)
    (hp : (F.params.posonlyargs ++ F.params.args).head? = some ar) (h0 : N[0]? = some ar.arg) (hka : F.scope.names.lookup ar.arg = some .local)
    {pl : Sem Bool} (hev : eval (.Call (.Attribute (.Call (.Name "super" p0) [] [] p1) "__init__" p2) [.Constant (.str msg) j p3] [] p4) (envF F f s0.heap.objs.size) = (do
      let ov ← attributeBase (.Call (.Name "super" p0) [] [] p1) "__init__" (envF F f s0.heap.objs.size) (eval (.Call (.Name "super" p0) [] [] p1) (envF F f s0.heap.objs.size))
      standAt p2.atName
      let (g, first) ← holding [ov] (getMethod ov "__init__" pl)
      callWith p4 g first (backTo p4 (starEach [.Constant (.str msg) j p3] (envF F f s0.heap.objs.size))) []))
    (hsup : mg "super" = none) (htop : (P.main.scope.names.lookup ("super" : Str)).isSome = false)
    (I : Inv (ncx CX P w K mg base N F f A outer s0 H0 E) [] σ H s) (hσ : σ[0]? = some (some (.ref a))) (hH : H a = some (exo a C none)) :
    _root_.PySem.wpAt (model P w) (A.deeper (envF F f s0.heap.objs.size)) (.func body (envF F f s0.heap.objs.size)) (exec (stSup p0 p1 p2 p3 p4 p5 j msg) (envF F f s0.heap.objs.size))
      (fun fl s' => fl = .next ∧ Inv (ncx CX P w K mg base N F f A outer s0 H0 E) [] σ H s') (ncx CX P w K mg base N F f A outer s0 H0 E).xe s := by
  obtain ⟨sh, sg, sd, st, so⟩ := s
  have KX : K.In sh := I.kIn
  obtain ⟨nm, q, Nn, bs, bm, sn, sub, ab, col, dd, k0, k1, k2, k3, k5, newId, hC⟩ := D.cls
  obtain ⟨cl, cld, csl, hcell⟩ := D.cell
  obtain ⟨ccl, cdd, vs, ccs, file, tf, hcode, hvs, hfile⟩ := D.code
  obtain ⟨mb, hb1, hb2⟩ := I.mod.blt
  obtain ⟨t1, ho⟩ := exo_at I.hok hH
  obtain ⟨m, hns, hloc⟩ := I.loc
  obtain ⟨u, ru, hu⟩ := hloc 0 ar.arg (.ref a) h0 hσ (.inl hka)
  obtain rfl : u = Value.ref a := ru
  have hm : m ar.arg = some (.ref a) := by
    rcases hu with ⟨_, z⟩ | ⟨z, _⟩
    · exact z
    · have z' : F.scope.names.lookup ar.arg = some .cell ∨ F.scope.names.lookup ar.arg = some .free := z
      rw [hka] at z'
      rcases z' with z' | z' <;> cases z'
  have hclsI : PySem.W.clsIn K C = some { name := nm, bases := bs, mro := .ref C :: bm, ns := Nn, qualname := q, hasDict := true, slotNames := sn, subclasses := sub, abstract := ab, collection := col, hasDel := false } := by
    unfold PySem.W.clsIn; rw [hC] <;> rfl
  have hi : interactive (envF F f s0.heap.objs.size) = false := by
    unfold interactive
    show (F.scope.kind == _ && _) = false
    rw [hk]
    rfl
  refine PySem.ks_wpAt_Expr_any (hi := hi) (PySem.ks_wpAt_MethodCall (pl := pl) ?_ hev)
  refine PySem.ks_wpAt_super_base (env := envF F f s0.heap.objs.size) hks hkc (by decide) rfl (KX _ _ lk) rfl hp rfl (KX _ _ hcode) rfl hvs hfile htop ?_
  refine PySem.W.ks_loadName_global hk hks (PySem.Calls.loadGlobal_builtin (env := envF F f s0.heap.objs.size) (I.mod.glob.keeps I.bk) hsup (hb1.keeps I.bk)
    ((hb2 "super" (by decide)).trans (by decide +kernel : bootBuiltins "super" = some (.type "super"))) ⟨rfl, ?_⟩)
  refine wpAny_loadName_free hk hkc (show F.cl.lookup ("__class__" : Str) = some cc by rw [hcl]; rfl) ⟨_, KX _ _ hcell, rfl⟩ ?_
  refine wpAny_loadName_local hk hka hns hm ?_
  refine PySem.ks_wpAny_isType_cls (KX _ _ hC) rfl ⟨rfl, ?_⟩
  refine PySem.ks_wpAny_call_super (KX _ _ hC) rfl ho rfl (fun c e => by cases e) (PySem.W.looks_mroIn KX D.subC) (fun h' e k => ?_)
  have X' : K.In h' := KX.keeps k
  have I1 : Inv (ncx CX P w K mg base N F f A outer s0 H0 E) [] σ H ⟨h', sg, sd, st, so⟩ := I.kept k
  have hcl2 : PySem.W.clsIn K C = some { name := nm, bases := bs, mro := .ref C :: bm, ns := Nn, qualname := q, hasDict := true, slotNames := sn, subclasses := sub, abstract := ab, collection := col, hasDel := false } := hclsI
  have al := D.along
  unfold PySem.W.ks_superIn at al
  rw [hcl2] at al
  have ho' := k _ _ ho
  have It : PySem.W.InstAt h' a { cls := .ref C, dict := none, data := .fields #[.ref t1, .none, .none, .none, .bool false, .none] } C none := ⟨ho', rfl, rfl, trivial⟩
  refine PySem.W.kxs_getMethod D.KF e (PySem.W.looks_opaque X' D.third) (l₀ := .ref C :: bm)
    (fun A Q E s k q => wpAny_bind ((PySem.W.looks_clsIn X' hcl2) A _ E s k (wpAny_pure q))) rfl X' al (It.type.andThen (PySem.W.looks_subIn X' D.subV)) (PySem.W.ks_ne X' It hcl2) (by decide) ?_
  have I2 : Inv (ncx CX P w K mg base N F f A outer s0 H0 E) [] σ H ⟨h'.push (kxs_mw i a), sg, sd, st + 1, so⟩ := I1.kept (t' := st + 1) fun b o z => Heap.get?_push_of_some _ z
  have hmw : (h'.push (kxs_mw i a)).get? h'.objs.size = some (kxs_mw i a) := Heap.get?_push_at rfl rfl
  have hargs : PA (ncx CX P w K mg base N F f A outer s0 H0 E) [.Constant (.str msg) j p3] (tCons (tC (.str msg)) tNil) := pa_cons pe_str pa_nil
  have I3 : Inv (ncx CX P w K mg base N F f A outer s0 H0 E) [(h'.objs.size, kxs_mw i a)] σ H ⟨h'.push (kxs_mw i a), sg, sd, st + 1, so⟩ :=
    I2.pins_of fun p hp => by
      obtain rfl := List.mem_singleton.mp hp
      exact ⟨hmw, I1.hok.fresh (Nat.le_refl _), Nat.ne_of_gt I1.lt, I1.nofs (Nat.le_refl _), fun v z => by cases z⟩
  have hrun := hargs.run p4 [(h'.objs.size, kxs_mw i a)] ⟨h'.push (kxs_mw i a), sg, sd, st + 1, so⟩ σ H (fun vs H1 => vs = [.str msg] ∧ H1 = H) I3 ⟨rfl, rfl⟩
  show wpAny _ _ (callWith p4 (.ref h'.objs.size) [] (backTo p4 ((false, _) :: [])) []) _ _ _
  refine PySem.W.kxs_callWith (i := i) (x := a) rfl (PySem.Calls.evalArgs_plain (wpAny_mono hrun (fun us s1 hh => ?_) fun _ _ z => z))
  obtain ⟨vs, H1, J, r, rfl, rfl⟩ := hh
  have pin := (J.pin (h'.objs.size, kxs_mw i a) (by simp)).1
  refine ⟨pin, ?_⟩
  refine call_mw (X := ncx CX P w K mg base N F f A outer s0 H0 E) (u := h'.objs.size) D.mw J hH pin ?_ fun s' J' => ⟨rfl, J'.pins_of fun p hp => absurd hp (by simp)⟩
  show us.length ≤ sizeLine
  rw [← r.length, sizeLine_eq]
  show 1 ≤ 16777216
  decide
/-- THE RULE: such an __init__, by what stands behind its first row -/
theorem ok_sup {sp : Sp} {k : Nat} {p0 p1 p2 p3 p4 p5 : Pos} {j : Nat} {msg : Str} {rest : List Stmt} {ar : Arg} {oc : Value} {od : Option Addr} {osl : Array (Option Value)} {dV kV doc pm ct : Value} {an : Option Addr}
    {B i : String} (D : SupF P K B i C cc F.c) (hcl : F.cl = [(("__class__" : Str), cc)]) (hbd : F.body = stSup p0 p1 p2 p3 p4 p5 j msg :: rest)
    (lk : K.lookup f = some ⟨oc, od, .func (PySem.W.fnX F.name F.qual F.params F.body F.scope F.cl dV kV doc pm an (.ref F.c) ct), osl⟩)
    (hcd : PySem.W.codeIn K (.ref F.c) F.qual = true) (S : NdefX.NScope N ps ["__class__"] F.scope)
    (hks : F.scope.names.lookup ("super" : Str) = some .globalImplicit)
    (hp : (F.params.posonlyargs ++ F.params.args).head? = some ar) (h0 : N[0]? = some ar.arg) (hka : F.scope.names.lookup ar.arg = some .local)
    (hev : ∀ L : Addr, ∃ pl : Sem Bool, eval (.Call (.Attribute (.Call (.Name "super" p0) [] [] p1) "__init__" p2) [.Constant (.str msg) j p3] [] p4) (envF F f L) = (do
      let ov ← attributeBase (.Call (.Name "super" p0) [] [] p1) "__init__" (envF F f L) (eval (.Call (.Name "super" p0) [] [] p1) (envF F f L))
      standAt p2.atName
      let (g, first) ← holding [ov] (getMethod ov "__init__" pl)
      callWith p4 g first (backTo p4 (starEach [.Constant (.str msg) j p3] (envF F f L))) []))
    (hsup : mg "super" = none) (htop : (P.main.scope.names.lookup ("super" : Str)).isSome = false)
    (len : ∀ vs H Q E, sp vs H Q E → vs.length = ps.length)
    (self : ∀ vs H Q E, sp vs H Q E → ∃ a r, vs = .ref a :: r ∧ H a = some (exo a C none))
    (hbody : ∀ (A : Around) (outer : List Env) (s : Shared) (H : Hp) (vs : List V) (Q : VK) (E : XK), Room k (A.deeper (envF F f s.heap.objs.size)) → sp vs H Q E →
      ∃ t, PSs (ncx CX P w K mg base N F f A outer s H E) rest t ∧ t { nx := fun _ H' => Q .non H', rt := Q } (startF N vs [none]) H) :
    FnOk P w K mg base CX (k + 1) f (PySem.W.fnX F.name F.qual F.params F.body F.scope F.cl dV kV doc pm an (.ref F.c) ct) ps sp := by
  refine ⟨len, fun A outer s H args us vs Q E hr e0 hb r hsp => ?_⟩
  have hl := len _ _ _ _ hsp
  have KX : K.In s.heap := e0.mod.kin.keeps fun b o e => (e0.bs b o e).1
  have lim : s.heap.NoLimit := e0.mod.nolimit.keeps fun b o e => (e0.bs b o e).1
  obtain ⟨cl, cld, csl, hcell⟩ := D.cell
  have hcn : H cc = none := (e0.bs _ _ (e0.mod.kin _ _ hcell)).2
  have CA : NdefX.CellsAt F.cl ["__class__"] [none] s.heap H := by
    rw [hcl]
    have one : ∀ y c, List.lookup y [(("__class__" : Str), cc)] = some c → y = ("__class__" : Str) ∧ c = cc := fun y c h => by
      have z := PySem.mem_of_lookup h
      have z' := List.mem_singleton.mp z
      exact ⟨congrArg Prod.fst z', congrArg Prod.snd z'⟩
    refine ⟨rfl, fun y c h => ?_, fun x y c h1 h2 => (one _ _ h1).1.trans (one _ _ h2).1.symm, fun i y h => ?_⟩
    · obtain ⟨_, rfl⟩ := one _ _ h
      exact ⟨hcn, some (.ref C), _, KX _ _ hcell, rfl⟩
    · match i, h with
      | 0, h =>
        obtain rfl : ("__class__" : Str) = y := Option.some.inj h
        exact ⟨cc, rfl, fun v z => by cases z⟩
  obtain ⟨t, ht, hq⟩ := hbody A outer s H vs Q E (hr.deeper _) hsp
  obtain ⟨a, rr, hva, hHa⟩ := self _ _ _ _ hsp
  obtain ⟨pl, hpl⟩ := hev s.heap.objs.size
  refine PySem.ks_codeAny_call_defAt (fd := PySem.W.fnX F.name F.qual F.params F.body F.scope F.cl dV kV doc pm an (.ref F.c) ct) (body := F.body) (binds := ps.zip us)
    hr.depth (KX _ _ lk) rfl lim (PySem.W.codeRec_of KX hcd) rfl hb S.nocell (fun ⟨n, _⟩ hy => S.par n (List.of_mem_zip hy).1) (fun h₁ hns kp => ?_) S.co S.gen S.kind
  have I : Inv (ncx CX P w K mg base N F f A outer s H E) [] (startF N vs [none]) H { s with heap := h₁, toks := s.toks + (ps.zip us).length } := inv_startN S hr.hd e0 hl r CA hns kp
  rw [hbd]
  have first := sup_stmt (p5 := p5) (body := stSup p0 p1 p2 p3 p4 p5 j msg :: rest) (CX := CX) (outer := outer) (E := E) D hcl lk S.kind hks (S.frk _ (by simp)) hp h0 hka hpl hsup htop I (a := a) (by rw [hva]; rfl) hHa
  refine PySem.ks_wpAt_execs_cons (PySem.ks_wpAt_mono first (fun fl s' hh => ?_) fun _ _ z => z)
  obtain ⟨rfl, J⟩ := hh
  refine wpAt_of_wpAny ?_
  refine wpAny_mono (ht.run [] s' (startF N vs [none]) H _ J hq) (fun fl s' hs => ?_) fun e s' hs => hs
  have fin : ∀ {σ' : L2.St} {H' : Hp} {v : V} {u : Value}, Inv (ncx CX P w K mg base N F f A outer s H E) [] σ' H' s' → L2.RelV v u → Q v H' → CE outer P w H s Q u s' :=
    fun {σ' H' v u} J rv q => ⟨v, H', J.os, J.bare, J.base, J.hok, rv, q⟩
  cases fl with
  | ret u =>
    obtain ⟨v, σ', H', J, rv, q⟩ := hs
    exact fin J rv q
  | next =>
    obtain ⟨σ', H', J, q⟩ := hs
    exact fin (v := V.non) (u := Value.none) J rfl q
  | brk =>
    obtain ⟨_, _, _, q⟩ := hs
    exact False.elim q
  | cont =>
    obtain ⟨_, _, _, q⟩ := hs
    exact False.elim q
end
end Sup

set_option Elab.async false
set_option linter.all false
set_option maxRecDepth 100000
set_option maxHeartbeats 4000000
/-! repr of data; promises of defs that say repr: they stand where no repr is under way -/
namespace Rg
open PySem PySem.Spec PyProof.Rows L2
/-- a promise that is kept where no repr is under way -/
structure FnG (P : Program) (w : World) (K : PySem.W.Frag) (mg : Str → Option Value) (base : Heap) (CX : CXT) (k : Nat) (f : Addr) (fd : FuncData) (ps : List Str) (sp : Sp) : Prop where
  len : ∀ vs H Q E, sp vs H Q E → vs.length = ps.length
  run : ∀ (A : Around) (outer : List Env) (s : Shared) (H : Hp) (args : Args) (us : List Value) (vs : List V) (Q : VK) (E : XK), A.guards = some [] → Room k A → Env0 P w K mg base A outer s H → BindsTo s fd args (ps.zip us) → Vals vs us → sp vs H Q E →
    codeAny (model P w) A (.call (.ref f) args) (CR CX outer P w H s Q E) s
theorem FnG.of {P : Program} {w : World} {K : PySem.W.Frag} {mg : Str → Option Value} {base : Heap} {CX : CXT} {k : Nat} {f : Addr} {fd : FuncData} {ps : List Str} {sp : Sp} (F : FnOk P w K mg base CX k f fd ps sp) : FnG P w K mg base CX k f fd ps sp :=
  ⟨F.len, fun A outer s H args us vs Q E _ => F.run A outer s H args us vs Q E⟩
theorem FnG.mono {P : Program} {w : World} {K : PySem.W.Frag} {mg : Str → Option Value} {base : Heap} {CX : CXT} {j k : Nat} {f : Addr} {fd : FuncData} {ps : List Str} {sp : Sp} (F : FnG P w K mg base CX j f fd ps sp) (h : j ≤ k) : FnG P w K mg base CX k f fd ps sp :=
  ⟨F.len, fun A outer s H args us vs Q E g hr => F.run A outer s H args us vs Q E g (hr.mono h)⟩
/-- THE RULE for such a def -/
theorem okG {P : Program} {w : World} {K : PySem.W.Frag} {mg : Str → Option Value} {base : Heap} {CX : CXT} {x qual : Str} {st : Stmt} {f : Addr} {fd : FuncData} {N ps : List Str} {k : Nat} {sp : Sp} (F : Fun K x qual st f fd) (S : FnScope N ps (defScope st))
    (len : ∀ vs H Q E, sp vs H Q E → vs.length = ps.length)
    (hbody : ∀ (cdv : Value) (A : Around) (outer : List Env) (s : Shared) (H : Hp) (vs : List V) (Q : VK) (E : XK), A.guards = some [] → Room k (A.deeper (envOfC qual (defScope st) s.heap.objs.size f cdv)) → sp vs H Q E →
      ∃ t, PSs (cxOf CX P w K mg base N qual (defScope st) f cdv A outer s H E) (defBody st) t ∧ t { nx := fun _ H' => Q .non H', rt := Q } (start N vs) H) : FnG P w K mg base CX (k + 1) f fd ps sp := by
  obtain ⟨oc, od, kV, doc, pm, an, cdv, ct, osl, rfl, lk, hcd⟩ := F.ex
  refine ⟨len, fun A outer s H args us vs Q E g hr e0 hb r hsp => ?_⟩
  have hl : vs.length = ps.length := len _ _ _ _ hsp
  have KS : K.In s.heap := e0.mod.kin.keeps fun b o e => (e0.bs b o e).1
  have NL : s.heap.NoLimit := e0.mod.nolimit.keeps fun b o e => (e0.bs b o e).1
  have kinds : ∀ y ∈ ps.zip us, (defScope st).names.lookup y.1 = some .local ∨ ((defScope st).names.lookup y.1 = some .cell ∧ ((cellsFrom (s.heap.objs.size + 1) (defScope st).names []).lookup y.1).isSome = true) := fun ⟨n, v⟩ hy => by
    rcases S.par n (List.of_mem_zip hy).1 with z | z
    · exact .inl z
    · exact .inr ⟨z, PySem.W.cellsFrom_some _ _ _ (.inl z)⟩
  refine codeAny_call_function hr.depth (KS _ _ lk) rfl S.co S.gen rfl (PySem.W.codeRec_of KS hcd) (hb _ _ _ _ (wpAny_newFunctionEnv_cells S.kind kinds fun env he s1 x => ?_))
  subst he
  refine ⟨NL.keeps x.toInCall.keep, codeAny_func ?_⟩
  obtain ⟨t, ht, hq⟩ := hbody cdv A outer s H vs Q E g (hr.deeper _) hsp
  have I : Inv (cxOf CX P w K mg base N qual (defScope st) f cdv A outer s H E) [] (start N vs) H s1 := inv_start S hr.hd e0 hl r x
  refine wpAny_mono (ht.run [] s1 (start N vs) H _ I hq) (fun fl s' hs => ?_) fun _ _ z => z
  match fl, hs with
  | .ret u, ⟨v, σ', H', J, rv, q⟩ => exact ⟨v, H', J.os, J.bare, J.base, J.hok, rv, q⟩
  | .next, ⟨σ', H', J, q⟩ => exact ⟨.non, H', J.os, J.bare, J.base, J.hok, rfl, q⟩
  | .brk, ⟨_, _, _, q⟩ => exact False.elim q
  | .cont, ⟨_, _, _, q⟩ => exact False.elim q
section
variable {X : Cx} {CX : CXT} {k : Nat} {f : Addr} {fd : FuncData} {ps : List Str} {sp : Sp} {E : XK} {x : Str} {p pos : Pos} {e : Expr} {es : List Expr} {t : TA}
theorem run_fnG {pins : List (Addr × Obj)} {σ : L2.St} {H : Hp} {s : Shared} {Q : VK} {us : List Value} {vs : List V} (F : FnG X.prog X.w X.K X.mg X.base CX k f fd ps sp) (hg : X.A.guards = some []) (hr : Room k X.A) (hb : Binds X.K fd ps []) (hx : Passes CX X E)
    (I : Inv X pins σ H s) (r : Vals vs us) (h : sp vs H Q E) : wpAny (model X.prog X.w) X.A (call (.ref f) us) (EP X pins σ Q) X.xe s := by
  have hl : us.length = ps.length := by
    rw [← r.length]
    exact F.len _ _ _ _ h
  have hbb := hb s us I.kIn (by rw [List.append_nil]; exact hl)
  rw [List.append_nil] at hbb
  refine wpAny_call (codeAny_mono (F.run X.A X.stack s H ⟨us, []⟩ us vs Q E hg hr I.env0 hbb r h) fun r s' hq => ?_)
  match r, hq with
  | .error e, hq => exact hx pins σ H s e s' I hq
  | .ok (.ret u), hq => exact I.after hq
  | .ok .next, hq => exact False.elim hq
  | .ok .brk, hq => exact False.elim hq
  | .ok .cont, hq => exact False.elim hq
/-- f(e, ..) -/
theorem pe_callG (F : FnG X.prog X.w X.K X.mg X.base CX k f fd ps sp) (hgu : X.A.guards = some []) (hr : Room k X.A) (hg : Gl X x) (hm : X.mg x = some (.ref f)) (hk : PySem.W.keepIn X.K (.ref f) = true) (hb : Binds X.K fd ps []) (hx : Passes CX X E)
    (ha : PA X (e :: es) t) (hdb : (x == ("__debug__" : Str)) = false := by decide) (he : starEach (e :: es) X.env = (false, eval e X.env) :: starEach es X.env := by rfl) (hpl : (backTo pos (starEach es X.env)).any (·.1) = false := by rfl) :
    PE X (.Call (.Name x p) (e :: es) [] pos) (tCall sp [] E t) := by
  refine ⟨fun pins s σ H Q I h => wpAny_Call_Name_kw (ld_glob I hg hm ?_ hdb)⟩
  refine PySem.W.callWith_K (h₀ := X.base) I.ok.mod.kin hk (thn (ha.run pos pins s σ H _ I h) fun us s1 hh => ?_) he hpl
  obtain ⟨vs, H1, I1, r, q⟩ := hh
  have q' : sp (vs ++ []) H1 Q E := q
  rw [List.append_nil] at q'
  exact ⟨I1.kIn, run_fnG F hgu hr hb hx I1 r q'⟩
/-- repr(e), e a list or a tuple of data -/
def rRepr (K : PySem.W.Frag) : List V → Hp → VK → Prop := fun xs H Q => ∃ (a : Addr) (d : PyData), xs = [.ref a] ∧ Dp K H (.ref a) d ∧ d.showable = true ∧ d.hasDict = false ∧ d.depth ≤ 60 ∧ d.shown.length ≤ sizeLine ∧ Q (.str d.shown) H
theorem call_repr (hg : X.A.guards = some []) (hu : X.A.units + 64 < cLine) : CallR X (.builtin "repr") (rRepr X.K) := by
  intro pins s σ H xs us Q I r h
  obtain ⟨a, d, rfl, hd, hs, hn, hdp, hz, q⟩ := h
  cases r with
  | cons rx rr =>
    cases rr
    cases rx
    obtain ⟨as, hread⟩ := Dp.reads I d _ _ hd rfl
    refine repr_of_reads' hread hs (fun z => absurd (hn.symm.trans z) (by decide)) hg (by omega) (fun _ _ z => z) (fun h' u tk k => ?_) hz
    exact ⟨.str d.shown, H, I.kept (t' := tk) k, ⟨u, rfl⟩, q⟩
end
end Rg

set_option Elab.async false
set_option linter.all false
set_option maxRecDepth 100000
set_option maxHeartbeats 4000000
/-! the end of a law whose own def says repr -/
namespace Rg
open PySem PySem.Spec PyProof.Rows L2
theorem lawG {P : Program} {w : World} {K : PySem.W.Frag} {mg mb : Str → Option Value} {CX : CXT} {k : Nat} {fa a : Addr} {fd : FuncData} {x : Str} {sp : Sp} {s1 : Shared} {vs : List Value} {ns : List Int}
    (KI : K.In s1.heap) (hns : s1.heap.Ns mainGlobals mg) (hb : s1.heap.Ns builtinsNs mb) (hbb : ∀ x : Str, x ≠ "__name__" → mb x = bootBuiltins x) (hlim : s1.heap.NoLimit) (hg : s1.gens = #[])
    (ha : s1.heap.get? a = some { cls := .type "list", data := .seq vs.toArray }) (hi : IntsAre vs ns) (hl : ns.length ≤ sizeLine) (hr : Room k callerA)
    (F : ∀ base : Heap, K.In base → base.Ns mainGlobals mg → FnG P w K mg base CX k fa fd [x] sp) (hbind : ∀ (s : Shared) (u : Value), BindsTo s fd ⟨[u], []⟩ [(x, u)])
    (hsp : ∀ H : Hp, Only H → SqL K H a (ns.map V.int) → sp [.ref a] H (fun v _ => v = .bl true) fun _ _ _ => False)
    (hCX : ∀ H e s', CX [] H s1 (fun _ _ _ => False) e s' → False) :
    codeAny (model P w) callerA (.call (.ref fa) ⟨[.ref a], []⟩) (fun r s' => r = .ok (.ret (.bool true)) ∧ OldK s1.heap s'.heap ∧ s'.os = s1.os ∧ AllBare s'.gens) s1 := by
  have rv := vals_ints hi
  have lenV := hi.length
  have core : ∀ H : Hp, Only H → SqL K H a (ns.map V.int) → HOk P w H s1.heap → (∀ b, H b ≠ none → b = a) → (H a ≠ none → K.lookup a = none) →
      codeAny (model P w) callerA (.call (.ref fa) ⟨[.ref a], []⟩) (fun r s' => r = .ok (.ret (.bool true)) ∧ OldK s1.heap s'.heap ∧ s'.os = s1.os ∧ AllBare s'.gens) s1 := by
    intro H hO hS hok hA hK
    have under : ∀ {b : Addr} {o : Obj}, s1.heap.get? b = some o → H b = none → (hidT s1.heap H).get? b = some o := fun e n => hidT_get e n
    have only : ∀ {b : Addr}, H b ≠ none → b = a := fun {b} z => hA b z
    have dictFree : ∀ {b : Addr} {o : Obj} {es : Array DictEntry} {ep : Nat}, s1.heap.get? b = some o → o.data = .dict es ep → H b = none := fun {b o es ep} e d => by
      cases z : H b with
      | none => rfl
      | some u =>
        obtain rfl : b = a := only (by rw [z]; simp)
        rw [ha] at e
        cases e
        have d' : Data.seq vs.toArray _ = Data.dict es ep := d
        cases d'
    have nsUnder : ∀ {b : Addr} {m : Str → Option Value}, s1.heap.Ns b m → (hidT s1.heap H).Ns b m := fun {b m} ⟨o, es, ep, e, d, r⟩ => ⟨o, es, ep, under e (dictFree e d), d, r⟩
    have kUnder : K.In (hidT s1.heap H) := fun b o e => under (KI b o e) (by
      cases z : H b with
      | none => rfl
      | some u =>
        obtain rfl : b = a := only (by rw [z]; simp)
        have n := hK (by rw [z]; simp)
        rw [n] at e
        cases e)
    have md : Mod K mg (hidT s1.heap H) := ⟨kUnder, nsUnder hns, ⟨mb, nsUnder hb, hbb⟩, let ⟨mc, h1, h2⟩ := hlim; ⟨mc, nsUnder h1, h2⟩⟩
    have e0 : Env0 P w K mg (hidT s1.heap H) callerA [] s1 H := ⟨rfl, md, fun b o e => of_hidT e, Nat.le_of_eq (hidT_size _ _), trivial, fun b hb => absurd (show b ∈ ([] : List Addr) from hb) (by simp), hok, .of_eq hg⟩
    refine codeAny_mono ((F _ kUnder (nsUnder hns)).run callerA [] s1 H ⟨[.ref a], []⟩ [.ref a] [.ref a] _ _ rfl hr e0 (hbind s1 (.ref a)) (.cons rfl .nil) (hsp H hO hS)) fun r s' h => ?_
    match r, h with
    | .error e, h => exact (hCX H e s' h).elim
    | .ok .next, h => exact False.elim h
    | .ok .brk, h => exact False.elim h
    | .ok .cont, h => exact False.elim h
    | .ok (.ret u), ⟨v, H', os, bare, un, hok', r', q⟩ =>
      obtain rfl : v = .bl true := q
      obtain rfl : u = Value.bool true := r'
      refine ⟨rfl, OldK.of_keep fun b o e => ?_, os, bare⟩
      cases z : H b with
      | none => exact un.keep b o e z (by intro y; exact absurd (show b ∈ ([] : List Addr) from y) (by simp)) (by simp)
      | some u =>
        rcases hO b with y | ⟨ob, xs, y⟩
        · rw [z] at y
          cases y
        · obtain ⟨e1, _⟩ := hok b _ y
          obtain ⟨e2, _⟩ := hok' b _ (un.frzs b ob _ y)
          rw [e] at e1
          cases e1
          exact e2
  cases hk : K.lookup a with
  | some o =>
    have e := KI a o hk
    rw [ha] at e
    cases e
    exact core (fun _ => none) (fun _ => .inl rfl) (.inr ⟨_, vs.toArray, _, hk, rfl, rfl, rfl, by rw [List.size_toArray, lenV]; exact hl, by simpa using rv⟩)
      (fun b u z => by have z' : (none : Option HO) = some u := z; cases z') (fun b z => absurd rfl z) fun z => absurd rfl z
  | none =>
    refine core (fun b => if b = a then some (.frz { cls := .type "list", data := .seq vs.toArray } (.lst (ns.map V.int))) else none) (fun b => ?_)
      (.inl (.inr ⟨{ cls := .type "list", data := .seq vs.toArray }, if_pos rfl⟩)) (fun b u z => ?_) (fun b z => ?_) fun _ => hk
    · by_cases hb : b = a
      · exact .inr ⟨_, _, if_pos hb⟩
      · exact .inl (if_neg hb)
    · by_cases hb : b = a
      · have y := (if_pos hb).symm.trans z
        cases y
        subst hb
        exact ⟨ha, by rw [List.length_map]; exact hl, vs, _, rv, ha⟩
      · have y := (if_neg hb).symm.trans z
        cases y
    · by_cases hb : b = a
      · exact hb
      · exact absurd (if_neg hb) z
theorem walkG {l : PySem.W.OpenLaw} {n k : Nat} {q : Program} {loose : List Str} {XP : (Str → Option Value) → Heap → Prop} {YP : World → Heap → Prop} {d : DefRec} {K : Params → PySem.W.Frag} {CX : World → CXT} {sp : World → Sp} {x : Str}
    (hn : l.most = some n) (hn2 : n ≤ sizeLine) (hdf : d.params.defaults = []) (hr : Room k callerA) (hY : ∀ (w : World) (h : Heap), YP w h → (K w.params).In h)
    (F : ∀ (w : World) (mg : Str → Option Value) (fa : Addr) (h : Heap), (K w.params).In h → h.Ns mainGlobals mg → mg d.name = some (.ref fa) →
      ∃ fd : FuncData, (∀ (s : Shared) (u : Value), BindsTo s fd ⟨[u], []⟩ [(x, u)]) ∧
        ∀ base : Heap, (K w.params).In base → base.Ns mainGlobals mg → FnG l.prog w (K w.params) mg base (CX w) k fa fd [x] (sp w))
    (hsp : ∀ (w : World) (H : Hp) (a : Addr) (ns : List Int), ns.length ≤ n → (∀ z ∈ ns, Builtin.Int.intBits z ≤ 1048576) → Only H → SqL (K w.params) H a (ns.map V.int) → sp w [.ref a] H (fun v _ => v = .bl true) fun _ _ _ => False)
    (hCX : ∀ (w : World) (H : Hp) (s : Shared) (e : Value) (s' : Shared), CX w [] H s (fun _ _ _ => False) e s' → False) :
    PySem.W.WalkO q loose XP YP l.row.toRowW d [] (fun f vs => PySem.call f vs) := by
  refine Att.attach_callB hn hdf fun w s0 s1 mg mb fa o pm cd doc a vs ns G Y ho hd hcd hmg hobj hints hlen hbits hg => ?_
  have KI := hY w _ Y
  obtain ⟨fd, hb, hF⟩ := F w mg fa _ KI G.T.g hmg
  exact lawG KI G.T.g G.T.b G.T.builtins G.T.nolimit hg hobj hints (Nat.le_trans hlen hn2) hr hF hb (fun H hO hS => hsp w H a ns hlen hbits hO hS) fun H e s' => hCX w H s1 e s'
end Rg

set_option Elab.async false
set_option linter.all false
set_option maxRecDepth 100000
set_option maxHeartbeats 4000000
namespace K1
open PySem PySem.Spec PyProof.Rows L2
def topS (i : Nat) : Stmt := PySem.Challenge.pw_keptnomore_k01_errors_and_their_fields.main.body.getD i (.Pass ⟨0, 0, 0, 0⟩)
abbrev s_box : Stmt := topS 20
abbrev n_box : List Str := ["_law_script", "_law_k", "_law_own", "_law_cell", "_law_seed"]
theorem sc_box : FnScope n_box ["_law_script", "_law_k", "_law_own"] (defScope s_box) := ⟨rfl, rfl, rfl, by decide +kernel, rfl, by decide +kernel, by decide +kernel⟩
abbrev s_take : Stmt := topS 21
abbrev n_take : List Str := ["_law_box_here", "_law_many", "_law_digit", "_law_raw", "_law_wide"]
theorem sc_take : FnScope n_take ["_law_box_here", "_law_many"] (defScope s_take) := ⟨rfl, rfl, rfl, by decide +kernel, rfl, by decide +kernel, by decide +kernel⟩
/-- what the walk asks of the module's names -/
structure Nm (mg : Str → Option Value) : Prop where
  n_len : mg "len" = none
  n_abs : mg "abs" = none
  n_int : mg "int" = none
/-- a box: what is left of the cell, the seed, how often it was asked beyond the cell -/
def BoxAt (H : Hp) (p : Addr) (m : Nat) : Prop := ∃ c sd n : Int, H p = some (.lst [.int c, .int sd, .int n]) ∧ 0 ≤ c ∧ 0 < sd ∧ sd ≤ 2147483629 ∧ 0 ≤ n ∧ n ≤ m
def spTake : Sp := fun vs H Q _ => ∃ (p : Addr) (many : Int) (m : Nat), vs = [.ref p, .int many] ∧ BoxAt H p m ∧ m ≤ 1000000 ∧ 0 < many ∧ many < 1073741824 ∧
  ∀ (d : Int) (H' : Hp), 0 ≤ d → d < many → BoxAt H' p (m + 1) → (∀ b, b ≠ p → H' b = H b) → Q (.int d) H'
section
variable {P : Program} {w : World} {K : PySem.W.Frag} {mg : Str → Option Value} {base : Heap}
theorem ok_take {f : Addr} {fd : FuncData} (F : Fun K "_law_take" "_law_take" s_take f fd) : FnOk P w K mg base CX0 1 f fd ["_law_box_here", "_law_many"] spTake := by
  refine F.ok sc_take (fun vs H Q E h => ?_) (fun cdv A outer s H vs Q E hr h => ?_)
  · obtain ⟨p, many, m, rfl, _⟩ := h
    rfl
  · obtain ⟨p, many, m, rfl, ⟨c, sd, n, hb, hc, hs0, hs1, hn0, hn1⟩, hm, h0, h1, k⟩ := h
    refine ⟨_, (pss_cons (ps_if (pt_cmpR op_gt (pe_ix ix_list (pv 0) pe_int (fun _ _ => rfl)) pe_int (nomark _)) (pss_cons (ps_set (i := 2) sc_take.nd rfl (.inl rfl) (pe_op op_mod (pe_ix ix_list (pv 0) pe_int (fun _ _ => rfl)) (pv 1)))
  (pss_cons (ps_asg (pe_op op_fdiv (pe_ix ix_list (pv 0) pe_int (fun _ _ => rfl)) (pv 1)) (pg_sub (pv 0) pe_int set_list))
  (pss_one (ps_ret (pv 2))))) pss_nil)
  (pss_cons (ps_asg (pe_op op_add (pe_ix ix_list (pv 0) pe_int (fun _ _ => rfl)) pe_int) (pg_sub (pv 0) pe_int set_list))
  (pss_cons (ps_set (i := 3) sc_take.nd rfl (.inl rfl) (pe_op op_mod (pe_op op_mul (pe_op op_add (pe_ix ix_list (pv 0) pe_int (fun _ _ => rfl)) (pe_op op_mul pe_int (pe_ix ix_list (pv 0) pe_int (fun _ _ => rfl)))) pe_int) pe_int))
  (pss_cons (ps_asg (pe_op op_add (pe_op op_mod (pe_op op_add (pe_op op_mul (pv 3) pe_int) pe_int) pe_int) pe_int) (pg_sub (pv 0) pe_int set_list))
  (pss_cons (ps_if (pt_cmpR op_lt (pv 1) (pe_op op_pow pe_int pe_int) (nomark _)) (pss_one (ps_ret (pe_op op_mod (pe_op op_fdiv (pe_op op_add (pe_op op_mul (pv 3) pe_int) (pe_ix ix_list (pv 0) pe_int (fun _ _ => rfl))) pe_int) (pv 1)))) pss_nil)
  pss_never))))), ?_⟩
    -- if box[0] > 0
    refine ⟨_, rfl, p, _, _, _, rfl, rfl, SqL.of hb, rfl, _, _, rfl, rfl, _, rfl, ?_⟩
    refine ite2 (fun cpos => ?_) (fun cneg => ?_)
    · refine ⟨_, rfl, p, _, _, _, rfl, rfl, SqL.of hb, rfl, _, rfl, _, _, rfl, rfl, h0, ?_⟩
      refine ⟨_, rfl, p, _, _, _, rfl, rfl, SqL.of hb, rfl, _, rfl, _, _, rfl, rfl, ⟨h0, h1⟩, ?_⟩
      refine ⟨_, rfl, p, _, _, _, rfl, rfl, hb, rfl, ?_⟩
      refine ⟨_, rfl, ?_⟩
      refine k _ _ (Int.emod_nonneg _ (by omega)) (Int.emod_lt_of_pos _ h0) ⟨c / many, sd, n, upd_same, Int.ediv_nonneg hc (by omega), hs0, hs1, hn0, by omega⟩ fun b hb' => upd_ne hb'
    · -- box[2] = box[2] + 1
      refine ⟨_, rfl, p, _, _, _, rfl, rfl, SqL.of hb, rfl, _, _, rfl, rfl, ?_⟩
      refine ⟨_, rfl, p, _, _, _, rfl, rfl, hb, rfl, ?_⟩
      -- raw
      refine ⟨_, rfl, p, _, _, _, rfl, rfl, SqL.of upd_same, rfl, ?_⟩
      refine ⟨_, rfl, p, _, _, _, rfl, rfl, SqL.of upd_same, rfl, _, _, rfl, rfl, .inl ⟨by decide, by decide⟩, _, _, rfl, rfl, ?_⟩
      refine ⟨_, _, rfl, rfl, .inl ⟨by omega, by omega⟩, _, _, rfl, rfl, (by show (0 : Int) < 2147483647; decide), ?_⟩
      have hr0 := Int.emod_nonneg ((sd + 104729 * (n + 1)) * 69623) (show (2147483647 : Int) ≠ 0 by decide)
      have hr1 := Int.emod_lt_of_pos ((sd + 104729 * (n + 1)) * 69623) (show (0 : Int) < 2147483647 by decide)
      have hw : (0 : Int) < 2147483647 := by decide
      have hv : (0 : Int) < 2147483629 := by decide
      -- box[1]
      refine ⟨_, rfl, _, _, rfl, rfl, .inl ⟨by omega, by omega⟩, _, _, rfl, rfl, _, _, rfl, rfl, hv, _, _, rfl, rfl, ?_⟩
      refine ⟨_, rfl, p, _, _, _, rfl, rfl, upd_same, rfl, ?_⟩
      -- if many < 2 ** 40
      refine ⟨_, rfl, _, _, rfl, rfl, ⟨by decide, by decide, by decide⟩, _, _, rfl, rfl, _, rfl, ?_⟩
      refine ite2 (fun ct => ?_) (fun cf => ?_)
      · refine ⟨_, rfl, _, _, rfl, rfl, .inl ⟨by omega, by omega⟩, ?_⟩
        refine ⟨_, rfl, p, _, _, _, rfl, rfl, SqL.of upd_same, rfl, _, _, rfl, rfl, _, _, rfl, rfl, ⟨by decide, by decide⟩, _, rfl, _, _, rfl, rfl, h0, ?_⟩
        refine k _ _ (Int.emod_nonneg _ (by omega)) (Int.emod_lt_of_pos _ h0) ⟨c, _, n + 1, upd_same, hc, by omega, by omega, by omega, by push_cast; omega⟩ fun b hb' => ?_
        rw [upd_ne hb', upd_ne hb']
      · exfalso
        apply cf
        apply decide_eq_true
        show many < (2 : Int) ^ (40 : Nat)
        have e : (2 : Int) ^ (40 : Nat) = 1099511627776 := by decide
        omega
def spBox (K : PySem.W.Frag) : Sp := fun vs H Q _ => ∃ (l : Addr) (ns : List Int) (k own : Nat), vs = [.ref l, .int (k : Int), .int (own : Int)] ∧ SqL K H l (ns.map V.int) ∧ k ≤ 1000 ∧ own ≤ 1000 ∧
  ∀ (p : Addr) (H' : Hp), H p = none → Same H H' → BoxAt H' p 0 → Q (.ref p) H'
theorem atInt {ns : List Int} {j : Nat} (h : j < ns.length) : atI (ns.map V.int) (j : Int) = some (.int ns[j]) := by
  apply atI_nat
  rw [List.getElem?_map, List.getElem?_eq_getElem h]
  rfl
theorem abs_nn (i : Int) : 0 ≤ (if i < 0 then -i else i) := by split <;> omega
theorem ok_box {f : Addr} {fd : FuncData} (F : Fun K "_law_box" "_law_box" s_box f fd) (T : Nm mg) : FnOk P w K mg base CX0 1 f fd ["_law_script", "_law_k", "_law_own"] (spBox K) := by
  refine F.ok sc_box (fun vs H Q E h => ?_) (fun cdv A outer s H vs Q E hr h => ?_)
  · obtain ⟨l, ns, k, own, rfl, _⟩ := h
    rfl
  · obtain ⟨l, ns, k, own, rfl, hl, hk, ho, q⟩ := h
    refine ⟨_, (pss_cons (ps_set (i := 3) sc_box.nd rfl (.inl rfl) (pe_op op_add (pe_op op_add (pe_op op_mul pe_int (pv 1)) (pe_op op_mul pe_int (pv 2))) pe_int))
  (C8.pss_cut (ps_if (pt_cmpR op_lt (pv 1) (pe_callB call_len_seq (by rfl) T.n_len (by decide +kernel) (pa_cons (pv 0) pa_nil)) (nomark _)) (pss_one (ps_set (i := 3) sc_box.nd rfl (.inl rfl) (pe_callB call_abs (by rfl) T.n_abs (by decide +kernel) (pa_cons (pe_ix ix_list (pv 0) (pv 1) (fun _ _ => rfl)) pa_nil)))) (pss_one (ps_if (pt_cmpR op_gt (pe_callB call_len_seq (by rfl) T.n_len (by decide +kernel) (pa_cons (pv 0) pa_nil)) pe_int (nomark _)) (pss_one (ps_set (i := 3) sc_box.nd rfl (.inl rfl) (pe_op op_add (pv 3) (pe_op op_mul (pe_op op_mod (pe_callB call_abs (by rfl) T.n_abs (by decide +kernel) (pa_cons (pe_ix ix_list (pv 0) (pe_op op_mod (pv 1) (pe_callB call_len_seq (by rfl) T.n_len (by decide +kernel) (pa_cons (pv 0) pa_nil))) (fun _ _ => rfl)) pa_nil)) pe_int) pe_int)))) pss_nil)))
  (pss_cons (ps_set (i := 4) sc_box.nd rfl (.inl rfl) (pe_op op_add (pe_op op_mod (pe_op op_add (pe_op op_mul (pe_op op_mod (pv 3) pe_int) pe_int) (pe_op op_mul pe_int (pe_op op_add (pv 1) (pe_op op_mul pe_int (pv 2))))) pe_int) pe_int))
  (pss_one (ps_ret (pe_lst (pa_cons (pe_ix ix_list (pe_lst (pa_cons pe_int (pa_cons (pv 3) pa_nil))) (pe_callTy call_int1 (by rfl) T.n_int (by decide +kernel) (pa_cons (pe_cmpR op_ge (pv 3) (pe_op op_pow pe_int pe_int) (nomark _)) pa_nil)) (fun _ _ => rfl)) (pa_cons (pv 4) (pa_cons pe_int pa_nil))))))))), ?_⟩
    refine ⟨_, rfl, _, _, rfl, rfl, .inl ⟨by decide, by decide⟩, ?_⟩
    refine ⟨_, rfl, _, _, rfl, rfl, .inl ⟨by decide, by decide⟩, _, _, rfl, rfl, _, _, rfl, rfl, ?_⟩
    refine ⟨fun σ' H' => ∃ c : Int, σ' = [some (.ref l), some (.int (k : Int)), some (.int (own : Int)), some (.int c), none] ∧ H' = H ∧ 0 ≤ c, ?_, ?_⟩
    · have hlen : (ns.map V.int).length = ns.length := List.length_map ..
      refine ⟨_, rfl, _, rfl, l, _, rfl, .inl hl, _, _, rfl, rfl, _, rfl, ?_⟩
      refine ite2 (fun ct => ?_) (fun cf => ?_)
      · have ct' := of_decide_eq_true ct
        have hkl : k < ns.length := by omega
        refine ⟨_, rfl, _, rfl, l, _, _, _, rfl, rfl, hl, atInt hkl, _, rfl, ?_⟩
        exact ⟨_, rfl, rfl, abs_nn _⟩
      · refine ⟨_, rfl, l, _, rfl, .inl hl, _, _, rfl, rfl, _, rfl, ?_⟩
        refine ite2 (fun dt => ?_) (fun df => ?_)
        · have dt' := of_decide_eq_true dt
          have hpos : 0 < ns.length := by omega
          have hm : (k : Int) % ((ns.map V.int).length : Int) = ((k % ns.length : Nat) : Int) := by rw [hlen]; rfl
          refine ⟨_, rfl, _, rfl, _, rfl, _, rfl, l, _, rfl, .inl hl, _, _, rfl, rfl, (by show (0 : Int) < _; omega), l, _, _, _, rfl, rfl, hl, (by rw [hm]; exact atInt (Nat.mod_lt _ hpos)), _, rfl, ?_⟩
          refine ⟨_, _, rfl, rfl, (by show (0 : Int) < 2147483629; decide), _, _, rfl, rfl, .inr ⟨by decide, by decide⟩, _, _, rfl, rfl, ?_⟩
          refine ⟨_, rfl, rfl, ?_⟩
          have := Int.emod_nonneg (if ns[k % ns.length]'(Nat.mod_lt _ hpos) < 0 then -ns[k % ns.length]'(Nat.mod_lt _ hpos) else ns[k % ns.length]'(Nat.mod_lt _ hpos)) (show (2147483629 : Int) ≠ 0 by decide)
          omega
        · exact ⟨_, rfl, rfl, by omega⟩
    · rintro σ' H' ⟨c, rfl, rfl, hc⟩
      -- the seed
      refine ⟨_, rfl, _, _, rfl, rfl, (by show (0 : Int) < 2147483629; decide), _, _, rfl, rfl, .inr ⟨by decide, by decide⟩, ?_⟩
      refine ⟨_, rfl, _, rfl, _, _, rfl, rfl, .inl ⟨by decide, by decide⟩, _, _, rfl, rfl, _, _, rfl, rfl, .inl ⟨by decide, by decide⟩, _, _, rfl, rfl, ?_⟩
      refine ⟨_, _, rfl, rfl, (by show (0 : Int) < 2147483629; decide), _, _, rfl, rfl, ?_⟩
      -- [0, cell]
      refine ⟨_, rfl, (by show 2 ≤ sizeLine; decide), fun z hz => ?_⟩
      refine ⟨_, rfl, _, _, rfl, rfl, ⟨by decide, by decide, by decide⟩, _, _, rfl, rfl, .inr ⟨_, rfl, ?_⟩⟩
      have s1 : Same H' (upd H' z (.lst [.int 0, .int c])) := fun b o e => by
        rw [upd_ne (ne_of_none e hz)]
        exact e
      by_cases big : (10 : Int) ^ (18 : Nat) ≤ c
      · have ed : decide ((10 : Int) ^ (Int.toNat 18) ≤ c) = true := decide_eq_true big
        refine ⟨z, _, _, .int c, rfl, rfl, SqL.of upd_same, (by rw [ed]; rfl), _, rfl, (by show 3 ≤ sizeLine; decide), fun p hp => ?_⟩
        refine q p _ (s1.free hp) (fun b o e => ?_) ⟨c, _, 0, upd_same, hc, ?_, ?_, by decide, by decide⟩
        · rw [upd_ne (ne_of_none (s1 b o e) hp)]
          exact s1 b o e
        · omega
        · omega
      · have ed : decide ((10 : Int) ^ (Int.toNat 18) ≤ c) = false := decide_eq_false big
        refine ⟨z, _, _, .int 0, rfl, rfl, SqL.of upd_same, (by rw [ed]; rfl), _, rfl, (by show 3 ≤ sizeLine; decide), fun p hp => ?_⟩
        refine q p _ (s1.free hp) (fun b o e => ?_) ⟨0, _, 0, upd_same, by decide, ?_, ?_, by decide, by decide⟩
        · rw [upd_ne (ne_of_none (s1 b o e) hp)]
          exact s1 b o e
        · omega
        · omega
end
end K1

set_option Elab.async false
set_option linter.all false
set_option maxRecDepth 100000
set_option maxHeartbeats 4000000
namespace K1
open PySem PySem.Spec PyProof.Rows L2
/-! ### data that stands in tracked objects -/
mutual
inductive DV (H : Hp) : V → PyData → Prop
  | non : DV H .non .none
  | bl (b : Bool) : DV H (.bl b) (.bool b)
  | int (i : Int) : DV H (.int i) (.int i)
  | str (x : Str) : DV H (.str x) (.str x)
  | lst {a : Addr} {xs : List V} {ds : List PyData} : H a = some (.lst xs) → DVs H xs ds → DV H (.ref a) (.list ds)
  | tup {a : Addr} {xs : List V} {ds : List PyData} : H a = some (.tup xs) → DVs H xs ds → DV H (.ref a) (.tuple ds)
inductive DVs (H : Hp) : List V → List PyData → Prop
  | nil : DVs H [] []
  | cons {v : V} {vs : List V} {d : PyData} {ds : List PyData} : DV H v d → DVs H vs ds → DVs H (v :: vs) (d :: ds)
end
mutual
theorem DV.dp {K : PySem.W.Frag} {H : Hp} : ∀ (d : PyData) (v : V), DV H v d → Dp K H v d
  | _, _, .non => .non
  | _, _, .bl b => .bl b
  | _, _, .int i => .int i
  | _, _, .str x => .str x
  | _, _, .lst (ds := ds) h r => .lst (SqL.of h) (DVs.dp ds _ r)
  | _, _, .tup (ds := ds) h r => .tup (SqT.of h) (DVs.dp ds _ r)
theorem DVs.dp {K : PySem.W.Frag} {H : Hp} : ∀ (ds : List PyData) (vs : List V), DVs H vs ds → DpAll K H vs ds
  | _, _, .nil => .nil
  | _, _, .cons (d := d) (ds := ds) h r => .cons (DV.dp d _ h) (DVs.dp ds _ r)
end
mutual
theorem DV.mono {H H' : Hp} (s : Same H H') : ∀ (d : PyData) (v : V), DV H v d → DV H' v d
  | _, _, .non => .non
  | _, _, .bl b => .bl b
  | _, _, .int i => .int i
  | _, _, .str x => .str x
  | _, _, .lst (ds := ds) h r => .lst (s _ _ h) (DVs.mono s ds _ r)
  | _, _, .tup (ds := ds) h r => .tup (s _ _ h) (DVs.mono s ds _ r)
theorem DVs.mono {H H' : Hp} (s : Same H H') : ∀ (ds : List PyData) (vs : List V), DVs H vs ds → DVs H' vs ds
  | _, _, .nil => .nil
  | _, _, .cons (d := d) (ds := ds) h r => .cons (DV.mono s d _ h) (DVs.mono s ds _ r)
end
mutual
theorem DV.mono2 {H H' : Hp} (s : ∀ b xs, H b = some (.lst xs) → H' b = some (.lst xs)) (t : ∀ b xs, H b = some (.tup xs) → H' b = some (.tup xs)) : ∀ (d : PyData) (v : V), DV H v d → DV H' v d
  | _, _, .non => .non
  | _, _, .bl b => .bl b
  | _, _, .int i => .int i
  | _, _, .str x => .str x
  | _, _, .lst (ds := ds) h r => .lst (s _ _ h) (DVs.mono2 s t ds _ r)
  | _, _, .tup (ds := ds) h r => .tup (t _ _ h) (DVs.mono2 s t ds _ r)
theorem DVs.mono2 {H H' : Hp} (s : ∀ b xs, H b = some (.lst xs) → H' b = some (.lst xs)) (t : ∀ b xs, H b = some (.tup xs) → H' b = some (.tup xs)) : ∀ (ds : List PyData) (vs : List V), DVs H vs ds → DVs H' vs ds
  | _, _, .nil => .nil
  | _, _, .cons (d := d) (ds := ds) h r => .cons (DV.mono2 s t d _ h) (DVs.mono2 s t ds _ r)
end
theorem DVs.length {H : Hp} : ∀ {vs : List V} {ds : List PyData}, DVs H vs ds → vs.length = ds.length
  | _, _, .nil => rfl
  | _, _, .cons _ r => congrArg (· + 1) (DVs.length r)
theorem DVs.get {H : Hp} : ∀ {vs : List V} {ds : List PyData} {i : Nat} {v : V}, DVs H vs ds → vs[i]? = some v → ∃ d, ds[i]? = some d ∧ DV H v d
  | _, _, 0, _, .cons h _, e => ⟨_, rfl, by have z := Option.some.inj e; rw [← z]; exact h⟩
  | _, _, i + 1, _, .cons _ r, e => DVs.get (i := i) r e
  | _, _, _, _, .nil, e => by simp at e
theorem DVs.snoc {H : Hp} : ∀ {vs : List V} {ds : List PyData} {v : V} {d : PyData}, DVs H vs ds → DV H v d → DVs H (vs ++ [v]) (ds ++ [d])
  | _, _, _, _, .nil, h => .cons h .nil
  | _, _, _, _, .cons g r, h => .cons g (DVs.snoc r h)
def sq : HO → Prop
  | .lst _ => True
  | .tup _ => True
  | _ => False
/-- a datum that is carried by what is new since H: H' the heap now -/
def DN (H H' : Hp) (v : V) (d : PyData) : Prop := ∀ H2 : Hp, (∀ b o, sq o → H b = none → H' b = some o → H2 b = some o) → DV H2 v d
def DNs (H H' : Hp) (vs : List V) (ds : List PyData) : Prop := ∀ H2 : Hp, (∀ b o, sq o → H b = none → H' b = some o → H2 b = some o) → DVs H2 vs ds
theorem DN.now {H H' : Hp} {v : V} {d : PyData} (h : DN H H' v d) : DV H' v d := h H' fun _ _ _ _ z => z
theorem DN.to {H H1 H2 : Hp} {v : V} {d : PyData} (h : DN H H1 v d) (s : ∀ b o, H b = none → H1 b = some o → H2 b = some o) : DV H2 v d := h H2 fun b o _ n e => s b o n e
theorem DN.later {H H1 H2 : Hp} {v : V} {d : PyData} (h : DN H H1 v d) (s : ∀ b o, H b = none → H1 b = some o → H2 b = some o) : DN H H2 v d := fun H3 k => h H3 fun b o z n e => k b o z n (s b o n e)
theorem DN.base {H0 H H' : Hp} {v : V} {d : PyData} (h : DN H H' v d) (s : ∀ b, H b = none → H0 b = none) : DN H0 H' v d := fun H2 k => h H2 fun b o z n e => k b o z (s b n) e
/-- data of at most n lists and tuples within one another, none of them long -/
def fit : Nat → PyData → Prop
  | _, .none => True
  | _, .bool _ => True
  | _, .int _ => True
  | _, .str _ => True
  | 0, .list _ => False
  | 0, .tuple _ => False
  | n + 1, .list ds => ds.length ≤ 1000 ∧ ∀ d ∈ ds, fit n d
  | n + 1, .tuple ds => ds.length ≤ 1000 ∧ ∀ d ∈ ds, fit n d
  | _, .dict _ => False
theorem take_snoc {α : Type} {l : List α} {i : Nat} {x : α} (h : l[i]? = some x) : l.take (i + 1) = l.take i ++ [x] := by
  rw [List.take_add_one, h]
  rfl
theorem keep1 {σ : L2.St} {H : Hp} {A B : Hp → Prop} (h : A H) : tYes σ H (fun b H3 => if b = true then A H3 else B H3) := by
  show (if true = true then A H else B H)
  rw [if_pos rfl]
  exact h
/-! ### own_copy -/
abbrev s_own : Stmt := topS 1
abbrev n_own : List Str := ["value", "item", "key"]
theorem sc_own : FnScope n_own ["value"] (defScope s_own) := ⟨rfl, rfl, rfl, by decide +kernel, rfl, by decide +kernel, by decide +kernel⟩
def spOwn (n : Nat) : Sp := fun vs H Q _ => ∃ (v : V) (d : PyData), vs = [v] ∧ DV H v d ∧ (∃ m, m + 1 = n ∧ fit m d) ∧ ∀ (v' : V) (H' : Hp), Same H H' → DN H H' v' d → Q v' H'
structure NmO (mg : Str → Option Value) (K : PySem.W.Frag) (f : Addr) : Prop where
  g : mg "own_copy" = some (.ref f)
  k : PySem.W.keepIn K (.ref f) = true
  n_isinstance : mg "isinstance" = none
  n_list : mg "list" = none
  n_tuple : mg "tuple" = none
  n_dict : mg "dict" = none
section
variable {P : Program} {w : World} {K : PySem.W.Frag} {mg : Str → Option Value} {base : Heap}
theorem own_step {f : Addr} {fd : FuncData} (F : Fun K "own_copy" "own_copy" s_own f fd) (T : NmO mg K f) (b : Binds K fd ["value"] []) (n : Nat)
    (IH : FnOk P w K mg base CX0 (n + 1) f fd ["value"] (spOwn n)) : FnOk P w K mg base CX0 (n + 2) f fd ["value"] (spOwn (n + 1)) := by
  refine F.ok sc_own (fun vs H Q E h => ?_) (fun cdv A outer s H vs Q E hr h => ?_)
  · obtain ⟨v, d, rfl, _⟩ := h
    rfl
  · obtain ⟨v, d, rfl, hv, ⟨n', en, hd⟩, q⟩ := h
    obtain rfl : n' = n := Nat.succ.inj en
    have rList : ∀ {X : Cx}, RelV (V.ty "list") (Value.type "list") := fun {_} => rfl
    refine ⟨_, pss_cons (ps_if (pt_val (pe_callB call_isi (by rfl) T.n_isinstance (by decide +kernel) (pa_cons (pv 0) (pa_cons (pe_bltn (v := .ty "list") (by rfl) T.n_list (by decide +kernel) rfl) pa_nil))))
        (pss_one (ps_ret (pe_lc (own := [("item", 1)]) (g := gName 1) (tt := tYes) rfl sc_own.nd (pi_list (pv 0)) (blkOk_by (own := [("item", 1)]) (N := n_own) (sc := defScope s_own) (by decide +kernel))
          (fun _ _ _ _ _ => pg_name (i := 1) sc_own.nd rfl (Or.inl rfl)) (fun _ _ _ _ _ => pts_nil) (fun _ _ _ _ _ => pe_call IH hr rfl T.g T.k b .nil pass0 (pa_cons (pv 1) pa_nil))))) pss_nil)
      (pss_cons (ps_if (pt_val (pe_callB call_isi (by rfl) T.n_isinstance (by decide +kernel) (pa_cons (pv 0) (pa_cons (pe_bltn (v := .ty "tuple") (by rfl) T.n_tuple (by decide +kernel) rfl) pa_nil))))
        (pss_one (ps_ret (pe_callTy call_tuple_of (by rfl) T.n_tuple (by decide +kernel) (pa_cons (pe_lc (own := [("item", 1)]) (g := gName 1) (tt := tYes) rfl sc_own.nd (pi_tup (pv 0)) (blkOk_by (own := [("item", 1)]) (N := n_own) (sc := defScope s_own) (by decide +kernel))
          (fun _ _ _ _ _ => pg_name (i := 1) sc_own.nd rfl (Or.inl rfl)) (fun _ _ _ _ _ => pts_nil) (fun _ _ _ _ _ => pe_call IH hr rfl T.g T.k b .nil pass0 (pa_cons (pv 1) pa_nil))) pa_nil)))) pss_nil)
      (pss_cons (ps_if (pt_val (pe_callB call_isi (by rfl) T.n_isinstance (by decide +kernel) (pa_cons (pv 0) (pa_cons (pe_bltn (v := .ty "dict") (by rfl) T.n_dict (by decide +kernel) rfl) pa_nil)))) pss_never pss_nil)
      (pss_one (ps_ret (pv 0))))), ?_⟩
    cases hv with
    | non =>
      refine ⟨_, rfl, _, _, _, _, _, rfl, .ty _, .base .non, kit_ty (by decide +kernel), _, rfl, iteF ?_⟩
      refine ⟨_, rfl, _, _, _, _, _, rfl, .ty _, .base .non, kit_ty (by decide +kernel), _, rfl, iteF ?_⟩
      refine ⟨_, rfl, _, _, _, _, _, rfl, .ty _, .base .non, kit_ty (by decide +kernel), _, rfl, iteF ?_⟩
      exact ⟨_, rfl, q _ _ (Same.refl H) fun H2 _ => .non⟩
    | bl y =>
      refine ⟨_, rfl, _, _, _, _, _, rfl, .ty _, .base (.bl y), kit_ty (by decide +kernel), _, rfl, iteF ?_⟩
      refine ⟨_, rfl, _, _, _, _, _, rfl, .ty _, .base (.bl y), kit_ty (by decide +kernel), _, rfl, iteF ?_⟩
      refine ⟨_, rfl, _, _, _, _, _, rfl, .ty _, .base (.bl y), kit_ty (by decide +kernel), _, rfl, iteF ?_⟩
      exact ⟨_, rfl, q _ _ (Same.refl H) fun H2 _ => .bl y⟩
    | int i =>
      refine ⟨_, rfl, _, _, _, _, _, rfl, .ty _, .base (.int i), kit_ty (by decide +kernel), _, rfl, iteF ?_⟩
      refine ⟨_, rfl, _, _, _, _, _, rfl, .ty _, .base (.int i), kit_ty (by decide +kernel), _, rfl, iteF ?_⟩
      refine ⟨_, rfl, _, _, _, _, _, rfl, .ty _, .base (.int i), kit_ty (by decide +kernel), _, rfl, iteF ?_⟩
      exact ⟨_, rfl, q _ _ (Same.refl H) fun H2 _ => .int i⟩
    | str x =>
      refine ⟨_, rfl, _, _, _, _, _, rfl, .ty _, .base (.str x), kit_ty (by decide +kernel), _, rfl, iteF ?_⟩
      refine ⟨_, rfl, _, _, _, _, _, rfl, .ty _, .base (.str x), kit_ty (by decide +kernel), _, rfl, iteF ?_⟩
      refine ⟨_, rfl, _, _, _, _, _, rfl, .ty _, .base (.str x), kit_ty (by decide +kernel), _, rfl, iteF ?_⟩
      exact ⟨_, rfl, q _ _ (Same.refl H) fun H2 _ => .str x⟩
    | @lst a xs ds ha hr' =>
      obtain ⟨m, rfl⟩ : ∃ m, n' = m + 1 := by
        cases n' with
        | zero => exact hd.elim
        | succ m => exact ⟨m, rfl⟩
      have hlen : xs.length ≤ 1000 := by rw [hr'.length]; exact hd.1
      refine ⟨_, rfl, _, _, _, _, _, rfl, .ty _, .base (.lst ha), kit_ty (by decide +kernel), _, rfl, iteT ?_⟩
      refine ⟨_, rfl, a, rfl, ⟨_, SqL.of ha⟩, fun D nD => ?_⟩
      have s0 : Same H (upd H D (.lst [])) := fun b o e => by
        rw [upd_ne (ne_of_none e nD)]
        exact e
      refine lc_list (K := K) (a := a) (xs := xs) (fun i Hi => Same H Hi ∧ ∃ acc, Hi D = some (.lst acc) ∧ DNs (upd H D (.lst [])) Hi acc (ds.take i) ∧ acc.length = i)
        ⟨s0, [], upd_same, fun _ _ => .nil, rfl⟩ (fun i Hi _ p => SqL.of (p.1 _ _ ha)) (fun i x Hi hx p => ?_) (fun Hi p => ?_)
      · obtain ⟨s1, acc, eD, dn, hl⟩ := p
        obtain ⟨di, hdi, hvi⟩ := hr'.get hx
        refine ⟨rfl, keep1 ?_⟩
        refine ⟨_, rfl, x, di, rfl, DV.mono s1 _ _ hvi, ⟨m, rfl, hd.2 di (List.mem_of_getElem? hdi)⟩, fun v' H' s2 dn' => ?_⟩
        have eD' : H' D = some (.lst acc) := s2 _ _ eD
        refine ⟨acc, eD', ?_, fun b o e => ?_, acc ++ [v'], upd_same, fun H2 k => ?_, by rw [List.length_append, hl]; rfl⟩
        · rw [hl]
          have := (List.getElem?_eq_some_iff.mp hx).1
          exact small1000 (by omega)
        · rw [upd_ne (ne_of_none e nD)]
          exact s2 _ _ (s1 _ _ e)
        · rw [take_snoc hdi]
          have kk : ∀ b o, sq o → upd H D (.lst []) b = none → H' b = some o → H2 b = some o := fun b o z n e => by
            have hb : b ≠ D := fun y => by
              rw [y, upd_same] at n
              cases n
            exact k b o z n (by rw [upd_ne hb]; exact e)
          refine DVs.snoc (dn H2 fun b o z n e => kk b o z n (s2 b o e)) (dn' H2 fun b o z n e => ?_)
          by_cases hb : upd H D (.lst []) b = none
          · exact kk b o z hb e
          · exfalso
            apply hb
            have bD : b ≠ D := fun y => by
              rw [y, eD] at n
              cases n
            rw [upd_ne bD]
            exact s1.free n
      · obtain ⟨s1, acc, eD, dn, hl⟩ := p
        rw [hr'.length, List.take_length] at dn
        refine q _ _ s1 fun H2 k => .lst (k D _ True.intro nD eD) (dn H2 fun b o z n e => k b o z ?_ e)
        by_cases hb : b = D
        · rw [hb]
          exact nD
        · rw [upd_ne hb] at n
          exact n
    | @tup a xs ds ha hr' =>
      obtain ⟨m, rfl⟩ : ∃ m, n' = m + 1 := by
        cases n' with
        | zero => exact hd.elim
        | succ m => exact ⟨m, rfl⟩
      have hlen : xs.length ≤ 1000 := by rw [hr'.length]; exact hd.1
      refine ⟨_, rfl, _, _, _, _, _, rfl, .ty _, .base (.tup ha), kit_ty (by decide +kernel), _, rfl, iteF ?_⟩
      refine ⟨_, rfl, _, _, _, _, _, rfl, .ty _, .base (.tup ha), kit_ty (by decide +kernel), _, rfl, iteT ?_⟩
      refine ⟨_, rfl, a, rfl, ⟨_, SqT.of ha⟩, fun D nD => ?_⟩
      have s0 : Same H (upd H D (.lst [])) := fun b o e => by
        rw [upd_ne (ne_of_none e nD)]
        exact e
      refine lc_tup (K := K) (a := a) (xs := xs) (fun i Hi => Same H Hi ∧ ∃ acc, Hi D = some (.lst acc) ∧ DNs (upd H D (.lst [])) Hi acc (ds.take i) ∧ acc.length = i)
        ⟨s0, [], upd_same, fun _ _ => .nil, rfl⟩ (fun i Hi _ p => SqT.of (p.1 _ _ ha)) (fun i x Hi hx p => ?_) (fun Hi p => ?_)
      · obtain ⟨s1, acc, eD, dn, hl⟩ := p
        obtain ⟨di, hdi, hvi⟩ := hr'.get hx
        refine ⟨rfl, keep1 ?_⟩
        refine ⟨_, rfl, x, di, rfl, DV.mono s1 _ _ hvi, ⟨m, rfl, hd.2 di (List.mem_of_getElem? hdi)⟩, fun v' H' s2 dn' => ?_⟩
        have eD' : H' D = some (.lst acc) := s2 _ _ eD
        refine ⟨acc, eD', ?_, fun b o e => ?_, acc ++ [v'], upd_same, fun H2 k => ?_, by rw [List.length_append, hl]; rfl⟩
        · rw [hl]
          have := (List.getElem?_eq_some_iff.mp hx).1
          exact small1000 (by omega)
        · rw [upd_ne (ne_of_none e nD)]
          exact s2 _ _ (s1 _ _ e)
        · rw [take_snoc hdi]
          have kk : ∀ b o, sq o → upd H D (.lst []) b = none → H' b = some o → H2 b = some o := fun b o z n e => by
            have hb : b ≠ D := fun y => by
              rw [y, upd_same] at n
              cases n
            exact k b o z n (by rw [upd_ne hb]; exact e)
          refine DVs.snoc (dn H2 fun b o z n e => kk b o z n (s2 b o e)) (dn' H2 fun b o z n e => ?_)
          by_cases hb : upd H D (.lst []) b = none
          · exact kk b o z hb e
          · exfalso
            apply hb
            have bD : b ≠ D := fun y => by
              rw [y, eD] at n
              cases n
            rw [upd_ne bD]
            exact s1.free n
      · obtain ⟨s1, acc, eD, dn, hl⟩ := p
        rw [hr'.length, List.take_length] at dn
        refine ⟨D, acc, rfl, .inl ⟨SqL.of eD, fun l nl => ?_⟩⟩
        have s2 : Same H (upd Hi l (.tup acc)) := fun b o e => by
          rw [upd_ne (ne_of_none (s1 _ _ e) nl)]
          exact s1 _ _ e
        refine q _ _ s2 fun H2 k => .tup (k l _ True.intro (s1.free nl) upd_same) (dn H2 fun b o z n e => k b o z ?_ (by rw [upd_ne (ne_of_none e nl)]; exact e))
        by_cases hb : b = D
        · rw [hb]
          exact nD
        · rw [upd_ne hb] at n
          exact n
theorem ok_own {f : Addr} {fd : FuncData} (F : Fun K "own_copy" "own_copy" s_own f fd) (T : NmO mg K f) (b : Binds K fd ["value"] []) : ∀ n, FnOk P w K mg base CX0 (n + 1) f fd ["value"] (spOwn n)
  | 0 => by
    have no : ∀ {vs : List V} {H : Hp} {Q : VK} {E : XK}, spOwn 0 vs H Q E → False := fun {vs H Q E} ⟨_, _, _, _, ⟨_, z, _⟩, _⟩ => by cases z
    exact ⟨fun vs H Q E h => (no h).elim, fun A outer s H args us vs Q E hr he hb hv h => (no h).elim⟩
  | n + 1 => own_step F T b n (ok_own F T b n)
end
end K1

set_option Elab.async false
set_option linter.all false
set_option maxRecDepth 100000
set_option maxHeartbeats 4000000
namespace K1
open PySem PySem.Spec PyProof.Rows L2
/-! ### the exceptions' __init__ -/
/-- one field f, whose value is copied -/
def spI1 (C : Addr) (f : Str) (n : Nat) : Sp := fun vs H Q _ => ∃ (a : Addr) (v : V) (d : PyData), vs = [.ref a, v] ∧ H a = some (exo a C none) ∧ DV H v d ∧ (∃ m, m + 1 = n ∧ fit m d) ∧
  ∀ (dd : Addr) (v' : V) (H' : Hp), H dd = none → H' a = some (exo a C (some dd)) → H' dd = some (exd dd [(f, v')]) → (∀ b o, b ≠ a → H b = some o → H' b = some o) → DN H H' v' d → Q .non H'
def spI0 (C : Addr) : Sp := fun vs H Q _ => ∃ a : Addr, vs = [.ref a] ∧ H a = some (exo a C none) ∧ Q .non H
/-- two of them -/
def spI2 (C : Addr) (n : Nat) : Sp := fun vs H Q _ => ∃ (a : Addr) (v u : V) (d e : PyData), vs = [.ref a, v, u] ∧ H a = some (exo a C none) ∧ DV H v d ∧ (∃ m, m + 1 = n ∧ fit m d) ∧ DV H u e ∧ (∃ m, m + 1 = n ∧ fit m e) ∧
  ∀ (dd : Addr) (v' u' : V) (H' : Hp), H dd = none → H' a = some (exo a C (some dd)) → H' dd = some (exd dd [("mark", u'), ("question", v')]) → (∀ b o, b ≠ a → H b = some o → H' b = some o) → DN H H' v' d → DN H H' u' e → Q .non H'
section
variable {P : Program} {w : World} {K : PySem.W.Frag} {mg : Str → Option Value} {base : Heap}
abbrev s_NoKinds : Stmt := inClass (topS 3) 0
theorem ok_NoKinds {f C cc cda g : Addr} {fdg : FuncData} {B i : String} {n : Nat} {oc : Value} {od : Option Addr} {osl : Array (Option Value)} {dV kV doc pm ct : Value} {an : Option Addr}
    (lk : K.lookup f = some ⟨oc, od, .func (PySem.W.fnX "__init__" "NoKinds.__init__" (defArgs s_NoKinds) (defBody s_NoKinds) (defScope s_NoKinds) [("__class__", cc)] dV kV doc pm an (.ref cda) ct), osl⟩)
    (hcd : PySem.W.codeIn K (.ref cda) "NoKinds.__init__" = true) (D : Sup.SupF P K B i C cc cda) (Ec : Exg.EcC K C) (hno : PySem.W.findIn K (.ref C) "row" = some none)
    (hsup : mg "super" = none) (htop : (P.main.scope.names.lookup ("super" : Str)).isSome = false) (T : NmO mg K g) (G : FnOk P w K mg base CX0 (n + 1) g fdg ["value"] (spOwn n)) (bO : Binds K fdg ["value"] []) :
    FnOk P w K mg base CX0 (n + 2) f (PySem.W.fnX "__init__" "NoKinds.__init__" (defArgs s_NoKinds) (defBody s_NoKinds) (defScope s_NoKinds) [("__class__", cc)] dV kV doc pm an (.ref cda) ct) ["self", "row"] (spI1 C "row" n) := by
  refine Sup.ok_sup (F := ⟨"__init__", "NoKinds.__init__", defArgs s_NoKinds, defBody s_NoKinds, defScope s_NoKinds, [("__class__", cc)], cda⟩) (N := ["self", "row", "__class__"]) D rfl rfl lk hcd (NdefX.nscope_by (by show NdefX.nscB ["self", "row", "__class__"] ["self", "row"] ["__class__"] (defScope s_NoKinds) = true; decide +kernel)) rfl rfl rfl rfl
    (fun L => ⟨_, rfl⟩) hsup htop (fun vs H Q E h => ?_) (fun vs H Q E h => ?_) (fun A outer s H vs Q E hr h => ?_)
  · obtain ⟨a, v, d, rfl, _⟩ := h
    rfl
  · obtain ⟨a, v, d, rfl, ha, _⟩ := h
    exact ⟨a, _, rfl, ha⟩
  · obtain ⟨a, v, d, rfl, ha, hv, hd, q⟩ := h
    refine ⟨_, pss_one (Exg.ps_st (pv 0) (pe_call G hr rfl T.g T.k bO .nil pass0 (pa_cons (pv 1) pa_nil))), ?_⟩
    refine ⟨_, rfl, v, d, rfl, hv, hd, fun v' H1 s1 dn => ?_⟩
    refine ⟨_, rfl, a, C, rfl, Ec, hno, .inl ⟨s1 _ _ ha, fun dx ndx dxa => ?_⟩⟩
    refine q dx v' _ (s1.free ndx) upd_same (by rw [upd_ne dxa, upd_same]) (fun b o ba e => ?_) (dn.later fun b o n e => ?_)
    · rw [upd_ne ba, upd_ne (ne_of_none (s1 _ _ e) ndx)]
      exact s1 _ _ e
    · rw [upd_ne (fun z => by rw [z, ha] at n; cases n), upd_ne (ne_of_none e ndx)]
      exact e
abbrev s_NoRules : Stmt := inClass (topS 4) 0
theorem ok_NoRules {f C cc cda g : Addr} {fdg : FuncData} {B i : String} {n : Nat} {oc : Value} {od : Option Addr} {osl : Array (Option Value)} {dV kV doc pm ct : Value} {an : Option Addr}
    (lk : K.lookup f = some ⟨oc, od, .func (PySem.W.fnX "__init__" "NoRules.__init__" (defArgs s_NoRules) (defBody s_NoRules) (defScope s_NoRules) [("__class__", cc)] dV kV doc pm an (.ref cda) ct), osl⟩)
    (hcd : PySem.W.codeIn K (.ref cda) "NoRules.__init__" = true) (D : Sup.SupF P K B i C cc cda) (Ec : Exg.EcC K C) (hno : PySem.W.findIn K (.ref C) "row" = some none)
    (hsup : mg "super" = none) (htop : (P.main.scope.names.lookup ("super" : Str)).isSome = false) (T : NmO mg K g) (G : FnOk P w K mg base CX0 (n + 1) g fdg ["value"] (spOwn n)) (bO : Binds K fdg ["value"] []) :
    FnOk P w K mg base CX0 (n + 2) f (PySem.W.fnX "__init__" "NoRules.__init__" (defArgs s_NoRules) (defBody s_NoRules) (defScope s_NoRules) [("__class__", cc)] dV kV doc pm an (.ref cda) ct) ["self", "row"] (spI1 C "row" n) := by
  refine Sup.ok_sup (F := ⟨"__init__", "NoRules.__init__", defArgs s_NoRules, defBody s_NoRules, defScope s_NoRules, [("__class__", cc)], cda⟩) (N := ["self", "row", "__class__"]) D rfl rfl lk hcd (NdefX.nscope_by (by show NdefX.nscB ["self", "row", "__class__"] ["self", "row"] ["__class__"] (defScope s_NoRules) = true; decide +kernel)) rfl rfl rfl rfl
    (fun L => ⟨_, rfl⟩) hsup htop (fun vs H Q E h => ?_) (fun vs H Q E h => ?_) (fun A outer s H vs Q E hr h => ?_)
  · obtain ⟨a, v, d, rfl, _⟩ := h
    rfl
  · obtain ⟨a, v, d, rfl, ha, _⟩ := h
    exact ⟨a, _, rfl, ha⟩
  · obtain ⟨a, v, d, rfl, ha, hv, hd, q⟩ := h
    refine ⟨_, pss_one (Exg.ps_st (pv 0) (pe_call G hr rfl T.g T.k bO .nil pass0 (pa_cons (pv 1) pa_nil))), ?_⟩
    refine ⟨_, rfl, v, d, rfl, hv, hd, fun v' H1 s1 dn => ?_⟩
    refine ⟨_, rfl, a, C, rfl, Ec, hno, .inl ⟨s1 _ _ ha, fun dx ndx dxa => ?_⟩⟩
    refine q dx v' _ (s1.free ndx) upd_same (by rw [upd_ne dxa, upd_same]) (fun b o ba e => ?_) (dn.later fun b o n e => ?_)
    · rw [upd_ne ba, upd_ne (ne_of_none (s1 _ _ e) ndx)]
      exact s1 _ _ e
    · rw [upd_ne (fun z => by rw [z, ha] at n; cases n), upd_ne (ne_of_none e ndx)]
      exact e
abbrev s_NoQuestion : Stmt := inClass (topS 5) 0
theorem ok_NoQuestion {f C cc cda g : Addr} {fdg : FuncData} {B i : String} {n : Nat} {oc : Value} {od : Option Addr} {osl : Array (Option Value)} {dV kV doc pm ct : Value} {an : Option Addr}
    (lk : K.lookup f = some ⟨oc, od, .func (PySem.W.fnX "__init__" "NoQuestion.__init__" (defArgs s_NoQuestion) (defBody s_NoQuestion) (defScope s_NoQuestion) [("__class__", cc)] dV kV doc pm an (.ref cda) ct), osl⟩)
    (hcd : PySem.W.codeIn K (.ref cda) "NoQuestion.__init__" = true) (D : Sup.SupF P K B i C cc cda) (Ec : Exg.EcC K C) (hno : PySem.W.findIn K (.ref C) "at" = some none)
    (hsup : mg "super" = none) (htop : (P.main.scope.names.lookup ("super" : Str)).isSome = false) (T : NmO mg K g) (G : FnOk P w K mg base CX0 (n + 1) g fdg ["value"] (spOwn n)) (bO : Binds K fdg ["value"] []) :
    FnOk P w K mg base CX0 (n + 2) f (PySem.W.fnX "__init__" "NoQuestion.__init__" (defArgs s_NoQuestion) (defBody s_NoQuestion) (defScope s_NoQuestion) [("__class__", cc)] dV kV doc pm an (.ref cda) ct) ["self", "at"] (spI1 C "at" n) := by
  refine Sup.ok_sup (F := ⟨"__init__", "NoQuestion.__init__", defArgs s_NoQuestion, defBody s_NoQuestion, defScope s_NoQuestion, [("__class__", cc)], cda⟩) (N := ["self", "at", "__class__"]) D rfl rfl lk hcd (NdefX.nscope_by (by show NdefX.nscB ["self", "at", "__class__"] ["self", "at"] ["__class__"] (defScope s_NoQuestion) = true; decide +kernel)) rfl rfl rfl rfl
    (fun L => ⟨_, rfl⟩) hsup htop (fun vs H Q E h => ?_) (fun vs H Q E h => ?_) (fun A outer s H vs Q E hr h => ?_)
  · obtain ⟨a, v, d, rfl, _⟩ := h
    rfl
  · obtain ⟨a, v, d, rfl, ha, _⟩ := h
    exact ⟨a, _, rfl, ha⟩
  · obtain ⟨a, v, d, rfl, ha, hv, hd, q⟩ := h
    refine ⟨_, pss_one (Exg.ps_st (pv 0) (pe_call G hr rfl T.g T.k bO .nil pass0 (pa_cons (pv 1) pa_nil))), ?_⟩
    refine ⟨_, rfl, v, d, rfl, hv, hd, fun v' H1 s1 dn => ?_⟩
    refine ⟨_, rfl, a, C, rfl, Ec, hno, .inl ⟨s1 _ _ ha, fun dx ndx dxa => ?_⟩⟩
    refine q dx v' _ (s1.free ndx) upd_same (by rw [upd_ne dxa, upd_same]) (fun b o ba e => ?_) (dn.later fun b o n e => ?_)
    · rw [upd_ne ba, upd_ne (ne_of_none (s1 _ _ e) ndx)]
      exact s1 _ _ e
    · rw [upd_ne (fun z => by rw [z, ha] at n; cases n), upd_ne (ne_of_none e ndx)]
      exact e
abbrev s_NoTree : Stmt := inClass (topS 6) 0
theorem ok_NoTree {f C cc cda g : Addr} {fdg : FuncData} {B i : String} {n : Nat} {oc : Value} {od : Option Addr} {osl : Array (Option Value)} {dV kV doc pm ct : Value} {an : Option Addr}
    (lk : K.lookup f = some ⟨oc, od, .func (PySem.W.fnX "__init__" "NoTree.__init__" (defArgs s_NoTree) (defBody s_NoTree) (defScope s_NoTree) [("__class__", cc)] dV kV doc pm an (.ref cda) ct), osl⟩)
    (hcd : PySem.W.codeIn K (.ref cda) "NoTree.__init__" = true) (D : Sup.SupF P K B i C cc cda) (Ec : Exg.EcC K C) (hno : PySem.W.findIn K (.ref C) "at" = some none)
    (hsup : mg "super" = none) (htop : (P.main.scope.names.lookup ("super" : Str)).isSome = false) (T : NmO mg K g) (G : FnOk P w K mg base CX0 (n + 1) g fdg ["value"] (spOwn n)) (bO : Binds K fdg ["value"] []) :
    FnOk P w K mg base CX0 (n + 2) f (PySem.W.fnX "__init__" "NoTree.__init__" (defArgs s_NoTree) (defBody s_NoTree) (defScope s_NoTree) [("__class__", cc)] dV kV doc pm an (.ref cda) ct) ["self", "at"] (spI1 C "at" n) := by
  refine Sup.ok_sup (F := ⟨"__init__", "NoTree.__init__", defArgs s_NoTree, defBody s_NoTree, defScope s_NoTree, [("__class__", cc)], cda⟩) (N := ["self", "at", "__class__"]) D rfl rfl lk hcd (NdefX.nscope_by (by show NdefX.nscB ["self", "at", "__class__"] ["self", "at"] ["__class__"] (defScope s_NoTree) = true; decide +kernel)) rfl rfl rfl rfl
    (fun L => ⟨_, rfl⟩) hsup htop (fun vs H Q E h => ?_) (fun vs H Q E h => ?_) (fun A outer s H vs Q E hr h => ?_)
  · obtain ⟨a, v, d, rfl, _⟩ := h
    rfl
  · obtain ⟨a, v, d, rfl, ha, _⟩ := h
    exact ⟨a, _, rfl, ha⟩
  · obtain ⟨a, v, d, rfl, ha, hv, hd, q⟩ := h
    refine ⟨_, pss_one (Exg.ps_st (pv 0) (pe_call G hr rfl T.g T.k bO .nil pass0 (pa_cons (pv 1) pa_nil))), ?_⟩
    refine ⟨_, rfl, v, d, rfl, hv, hd, fun v' H1 s1 dn => ?_⟩
    refine ⟨_, rfl, a, C, rfl, Ec, hno, .inl ⟨s1 _ _ ha, fun dx ndx dxa => ?_⟩⟩
    refine q dx v' _ (s1.free ndx) upd_same (by rw [upd_ne dxa, upd_same]) (fun b o ba e => ?_) (dn.later fun b o n e => ?_)
    · rw [upd_ne ba, upd_ne (ne_of_none (s1 _ _ e) ndx)]
      exact s1 _ _ e
    · rw [upd_ne (fun z => by rw [z, ha] at n; cases n), upd_ne (ne_of_none e ndx)]
      exact e
abbrev s_NoBundle : Stmt := inClass (topS 7) 0
theorem ok_NoBundle {f C cc cda g : Addr} {fdg : FuncData} {B i : String} {n : Nat} {oc : Value} {od : Option Addr} {osl : Array (Option Value)} {dV kV doc pm ct : Value} {an : Option Addr}
    (lk : K.lookup f = some ⟨oc, od, .func (PySem.W.fnX "__init__" "NoBundle.__init__" (defArgs s_NoBundle) (defBody s_NoBundle) (defScope s_NoBundle) [("__class__", cc)] dV kV doc pm an (.ref cda) ct), osl⟩)
    (hcd : PySem.W.codeIn K (.ref cda) "NoBundle.__init__" = true) (D : Sup.SupF P K B i C cc cda) (Ec : Exg.EcC K C) (hno : PySem.W.findIn K (.ref C) "at" = some none)
    (hsup : mg "super" = none) (htop : (P.main.scope.names.lookup ("super" : Str)).isSome = false) (T : NmO mg K g) (G : FnOk P w K mg base CX0 (n + 1) g fdg ["value"] (spOwn n)) (bO : Binds K fdg ["value"] []) :
    FnOk P w K mg base CX0 (n + 2) f (PySem.W.fnX "__init__" "NoBundle.__init__" (defArgs s_NoBundle) (defBody s_NoBundle) (defScope s_NoBundle) [("__class__", cc)] dV kV doc pm an (.ref cda) ct) ["self", "at"] (spI1 C "at" n) := by
  refine Sup.ok_sup (F := ⟨"__init__", "NoBundle.__init__", defArgs s_NoBundle, defBody s_NoBundle, defScope s_NoBundle, [("__class__", cc)], cda⟩) (N := ["self", "at", "__class__"]) D rfl rfl lk hcd (NdefX.nscope_by (by show NdefX.nscB ["self", "at", "__class__"] ["self", "at"] ["__class__"] (defScope s_NoBundle) = true; decide +kernel)) rfl rfl rfl rfl
    (fun L => ⟨_, rfl⟩) hsup htop (fun vs H Q E h => ?_) (fun vs H Q E h => ?_) (fun A outer s H vs Q E hr h => ?_)
  · obtain ⟨a, v, d, rfl, _⟩ := h
    rfl
  · obtain ⟨a, v, d, rfl, ha, _⟩ := h
    exact ⟨a, _, rfl, ha⟩
  · obtain ⟨a, v, d, rfl, ha, hv, hd, q⟩ := h
    refine ⟨_, pss_one (Exg.ps_st (pv 0) (pe_call G hr rfl T.g T.k bO .nil pass0 (pa_cons (pv 1) pa_nil))), ?_⟩
    refine ⟨_, rfl, v, d, rfl, hv, hd, fun v' H1 s1 dn => ?_⟩
    refine ⟨_, rfl, a, C, rfl, Ec, hno, .inl ⟨s1 _ _ ha, fun dx ndx dxa => ?_⟩⟩
    refine q dx v' _ (s1.free ndx) upd_same (by rw [upd_ne dxa, upd_same]) (fun b o ba e => ?_) (dn.later fun b o n e => ?_)
    · rw [upd_ne ba, upd_ne (ne_of_none (s1 _ _ e) ndx)]
      exact s1 _ _ e
    · rw [upd_ne (fun z => by rw [z, ha] at n; cases n), upd_ne (ne_of_none e ndx)]
      exact e
abbrev s_TooMany : Stmt := inClass (topS 8) 0
theorem ok_TooMany {f C cc cda g : Addr} {fdg : FuncData} {B i : String} {n : Nat} {oc : Value} {od : Option Addr} {osl : Array (Option Value)} {dV kV doc pm ct : Value} {an : Option Addr}
    (lk : K.lookup f = some ⟨oc, od, .func (PySem.W.fnX "__init__" "TooMany.__init__" (defArgs s_TooMany) (defBody s_TooMany) (defScope s_TooMany) [("__class__", cc)] dV kV doc pm an (.ref cda) ct), osl⟩)
    (hcd : PySem.W.codeIn K (.ref cda) "TooMany.__init__" = true) (D : Sup.SupF P K B i C cc cda) (Ec : Exg.EcC K C) (hno : PySem.W.findIn K (.ref C) "word" = some none)
    (hsup : mg "super" = none) (htop : (P.main.scope.names.lookup ("super" : Str)).isSome = false) (T : NmO mg K g) (G : FnOk P w K mg base CX0 (n + 1) g fdg ["value"] (spOwn n)) (bO : Binds K fdg ["value"] []) :
    FnOk P w K mg base CX0 (n + 2) f (PySem.W.fnX "__init__" "TooMany.__init__" (defArgs s_TooMany) (defBody s_TooMany) (defScope s_TooMany) [("__class__", cc)] dV kV doc pm an (.ref cda) ct) ["self", "word"] (spI1 C "word" n) := by
  refine Sup.ok_sup (F := ⟨"__init__", "TooMany.__init__", defArgs s_TooMany, defBody s_TooMany, defScope s_TooMany, [("__class__", cc)], cda⟩) (N := ["self", "word", "__class__"]) D rfl rfl lk hcd (NdefX.nscope_by (by show NdefX.nscB ["self", "word", "__class__"] ["self", "word"] ["__class__"] (defScope s_TooMany) = true; decide +kernel)) rfl rfl rfl rfl
    (fun L => ⟨_, rfl⟩) hsup htop (fun vs H Q E h => ?_) (fun vs H Q E h => ?_) (fun A outer s H vs Q E hr h => ?_)
  · obtain ⟨a, v, d, rfl, _⟩ := h
    rfl
  · obtain ⟨a, v, d, rfl, ha, _⟩ := h
    exact ⟨a, _, rfl, ha⟩
  · obtain ⟨a, v, d, rfl, ha, hv, hd, q⟩ := h
    refine ⟨_, pss_one (Exg.ps_st (pv 0) (pe_call G hr rfl T.g T.k bO .nil pass0 (pa_cons (pv 1) pa_nil))), ?_⟩
    refine ⟨_, rfl, v, d, rfl, hv, hd, fun v' H1 s1 dn => ?_⟩
    refine ⟨_, rfl, a, C, rfl, Ec, hno, .inl ⟨s1 _ _ ha, fun dx ndx dxa => ?_⟩⟩
    refine q dx v' _ (s1.free ndx) upd_same (by rw [upd_ne dxa, upd_same]) (fun b o ba e => ?_) (dn.later fun b o n e => ?_)
    · rw [upd_ne ba, upd_ne (ne_of_none (s1 _ _ e) ndx)]
      exact s1 _ _ e
    · rw [upd_ne (fun z => by rw [z, ha] at n; cases n), upd_ne (ne_of_none e ndx)]
      exact e
abbrev s_TooGreat : Stmt := inClass (topS 9) 0
theorem ok_TooGreat {f C cc cda g : Addr} {fdg : FuncData} {B i : String} {n : Nat} {oc : Value} {od : Option Addr} {osl : Array (Option Value)} {dV kV doc pm ct : Value} {an : Option Addr}
    (lk : K.lookup f = some ⟨oc, od, .func (PySem.W.fnX "__init__" "TooGreat.__init__" (defArgs s_TooGreat) (defBody s_TooGreat) (defScope s_TooGreat) [("__class__", cc)] dV kV doc pm an (.ref cda) ct), osl⟩)
    (hcd : PySem.W.codeIn K (.ref cda) "TooGreat.__init__" = true) (D : Sup.SupF P K B i C cc cda) (Ec : Exg.EcC K C) (hno : PySem.W.findIn K (.ref C) "product" = some none)
    (hsup : mg "super" = none) (htop : (P.main.scope.names.lookup ("super" : Str)).isSome = false) (T : NmO mg K g) (G : FnOk P w K mg base CX0 (n + 1) g fdg ["value"] (spOwn n)) (bO : Binds K fdg ["value"] []) :
    FnOk P w K mg base CX0 (n + 2) f (PySem.W.fnX "__init__" "TooGreat.__init__" (defArgs s_TooGreat) (defBody s_TooGreat) (defScope s_TooGreat) [("__class__", cc)] dV kV doc pm an (.ref cda) ct) ["self", "product"] (spI1 C "product" n) := by
  refine Sup.ok_sup (F := ⟨"__init__", "TooGreat.__init__", defArgs s_TooGreat, defBody s_TooGreat, defScope s_TooGreat, [("__class__", cc)], cda⟩) (N := ["self", "product", "__class__"]) D rfl rfl lk hcd (NdefX.nscope_by (by show NdefX.nscB ["self", "product", "__class__"] ["self", "product"] ["__class__"] (defScope s_TooGreat) = true; decide +kernel)) rfl rfl rfl rfl
    (fun L => ⟨_, rfl⟩) hsup htop (fun vs H Q E h => ?_) (fun vs H Q E h => ?_) (fun A outer s H vs Q E hr h => ?_)
  · obtain ⟨a, v, d, rfl, _⟩ := h
    rfl
  · obtain ⟨a, v, d, rfl, ha, _⟩ := h
    exact ⟨a, _, rfl, ha⟩
  · obtain ⟨a, v, d, rfl, ha, hv, hd, q⟩ := h
    refine ⟨_, pss_one (Exg.ps_st (pv 0) (pe_call G hr rfl T.g T.k bO .nil pass0 (pa_cons (pv 1) pa_nil))), ?_⟩
    refine ⟨_, rfl, v, d, rfl, hv, hd, fun v' H1 s1 dn => ?_⟩
    refine ⟨_, rfl, a, C, rfl, Ec, hno, .inl ⟨s1 _ _ ha, fun dx ndx dxa => ?_⟩⟩
    refine q dx v' _ (s1.free ndx) upd_same (by rw [upd_ne dxa, upd_same]) (fun b o ba e => ?_) (dn.later fun b o n e => ?_)
    · rw [upd_ne ba, upd_ne (ne_of_none (s1 _ _ e) ndx)]
      exact s1 _ _ e
    · rw [upd_ne (fun z => by rw [z, ha] at n; cases n), upd_ne (ne_of_none e ndx)]
      exact e
abbrev s_UnknownKind : Stmt := inClass (topS 10) 0
theorem ok_UnknownKind {f C cc cda g : Addr} {fdg : FuncData} {B i : String} {n : Nat} {oc : Value} {od : Option Addr} {osl : Array (Option Value)} {dV kV doc pm ct : Value} {an : Option Addr}
    (lk : K.lookup f = some ⟨oc, od, .func (PySem.W.fnX "__init__" "UnknownKind.__init__" (defArgs s_UnknownKind) (defBody s_UnknownKind) (defScope s_UnknownKind) [("__class__", cc)] dV kV doc pm an (.ref cda) ct), osl⟩)
    (hcd : PySem.W.codeIn K (.ref cda) "UnknownKind.__init__" = true) (D : Sup.SupF P K B i C cc cda) (Ec : Exg.EcC K C) (hno : PySem.W.findIn K (.ref C) "kind" = some none)
    (hsup : mg "super" = none) (htop : (P.main.scope.names.lookup ("super" : Str)).isSome = false) (T : NmO mg K g) (G : FnOk P w K mg base CX0 (n + 1) g fdg ["value"] (spOwn n)) (bO : Binds K fdg ["value"] []) :
    FnOk P w K mg base CX0 (n + 2) f (PySem.W.fnX "__init__" "UnknownKind.__init__" (defArgs s_UnknownKind) (defBody s_UnknownKind) (defScope s_UnknownKind) [("__class__", cc)] dV kV doc pm an (.ref cda) ct) ["self", "kind"] (spI1 C "kind" n) := by
  refine Sup.ok_sup (F := ⟨"__init__", "UnknownKind.__init__", defArgs s_UnknownKind, defBody s_UnknownKind, defScope s_UnknownKind, [("__class__", cc)], cda⟩) (N := ["self", "kind", "__class__"]) D rfl rfl lk hcd (NdefX.nscope_by (by show NdefX.nscB ["self", "kind", "__class__"] ["self", "kind"] ["__class__"] (defScope s_UnknownKind) = true; decide +kernel)) rfl rfl rfl rfl
    (fun L => ⟨_, rfl⟩) hsup htop (fun vs H Q E h => ?_) (fun vs H Q E h => ?_) (fun A outer s H vs Q E hr h => ?_)
  · obtain ⟨a, v, d, rfl, _⟩ := h
    rfl
  · obtain ⟨a, v, d, rfl, ha, _⟩ := h
    exact ⟨a, _, rfl, ha⟩
  · obtain ⟨a, v, d, rfl, ha, hv, hd, q⟩ := h
    refine ⟨_, pss_one (Exg.ps_st (pv 0) (pe_call G hr rfl T.g T.k bO .nil pass0 (pa_cons (pv 1) pa_nil))), ?_⟩
    refine ⟨_, rfl, v, d, rfl, hv, hd, fun v' H1 s1 dn => ?_⟩
    refine ⟨_, rfl, a, C, rfl, Ec, hno, .inl ⟨s1 _ _ ha, fun dx ndx dxa => ?_⟩⟩
    refine q dx v' _ (s1.free ndx) upd_same (by rw [upd_ne dxa, upd_same]) (fun b o ba e => ?_) (dn.later fun b o n e => ?_)
    · rw [upd_ne ba, upd_ne (ne_of_none (s1 _ _ e) ndx)]
      exact s1 _ _ e
    · rw [upd_ne (fun z => by rw [z, ha] at n; cases n), upd_ne (ne_of_none e ndx)]
      exact e
abbrev s_NoEvent : Stmt := inClass (topS 12) 0
theorem ok_NoEvent {f C cc cda g : Addr} {fdg : FuncData} {B i : String} {n : Nat} {oc : Value} {od : Option Addr} {osl : Array (Option Value)} {dV kV doc pm ct : Value} {an : Option Addr}
    (lk : K.lookup f = some ⟨oc, od, .func (PySem.W.fnX "__init__" "NoEvent.__init__" (defArgs s_NoEvent) (defBody s_NoEvent) (defScope s_NoEvent) [("__class__", cc)] dV kV doc pm an (.ref cda) ct), osl⟩)
    (hcd : PySem.W.codeIn K (.ref cda) "NoEvent.__init__" = true) (D : Sup.SupF P K B i C cc cda) (Ec : Exg.EcC K C) (hno : PySem.W.findIn K (.ref C) "event" = some none)
    (hsup : mg "super" = none) (htop : (P.main.scope.names.lookup ("super" : Str)).isSome = false) (T : NmO mg K g) (G : FnOk P w K mg base CX0 (n + 1) g fdg ["value"] (spOwn n)) (bO : Binds K fdg ["value"] []) :
    FnOk P w K mg base CX0 (n + 2) f (PySem.W.fnX "__init__" "NoEvent.__init__" (defArgs s_NoEvent) (defBody s_NoEvent) (defScope s_NoEvent) [("__class__", cc)] dV kV doc pm an (.ref cda) ct) ["self", "event"] (spI1 C "event" n) := by
  refine Sup.ok_sup (F := ⟨"__init__", "NoEvent.__init__", defArgs s_NoEvent, defBody s_NoEvent, defScope s_NoEvent, [("__class__", cc)], cda⟩) (N := ["self", "event", "__class__"]) D rfl rfl lk hcd (NdefX.nscope_by (by show NdefX.nscB ["self", "event", "__class__"] ["self", "event"] ["__class__"] (defScope s_NoEvent) = true; decide +kernel)) rfl rfl rfl rfl
    (fun L => ⟨_, rfl⟩) hsup htop (fun vs H Q E h => ?_) (fun vs H Q E h => ?_) (fun A outer s H vs Q E hr h => ?_)
  · obtain ⟨a, v, d, rfl, _⟩ := h
    rfl
  · obtain ⟨a, v, d, rfl, ha, _⟩ := h
    exact ⟨a, _, rfl, ha⟩
  · obtain ⟨a, v, d, rfl, ha, hv, hd, q⟩ := h
    refine ⟨_, pss_one (Exg.ps_st (pv 0) (pe_call G hr rfl T.g T.k bO .nil pass0 (pa_cons (pv 1) pa_nil))), ?_⟩
    refine ⟨_, rfl, v, d, rfl, hv, hd, fun v' H1 s1 dn => ?_⟩
    refine ⟨_, rfl, a, C, rfl, Ec, hno, .inl ⟨s1 _ _ ha, fun dx ndx dxa => ?_⟩⟩
    refine q dx v' _ (s1.free ndx) upd_same (by rw [upd_ne dxa, upd_same]) (fun b o ba e => ?_) (dn.later fun b o n e => ?_)
    · rw [upd_ne ba, upd_ne (ne_of_none (s1 _ _ e) ndx)]
      exact s1 _ _ e
    · rw [upd_ne (fun z => by rw [z, ha] at n; cases n), upd_ne (ne_of_none e ndx)]
      exact e
abbrev s_Refused : Stmt := inClass (topS 13) 0
theorem ok_Refused {f C cc cda g : Addr} {fdg : FuncData} {B i : String} {n : Nat} {oc : Value} {od : Option Addr} {osl : Array (Option Value)} {dV kV doc pm ct : Value} {an : Option Addr}
    (lk : K.lookup f = some ⟨oc, od, .func (PySem.W.fnX "__init__" "Refused.__init__" (defArgs s_Refused) (defBody s_Refused) (defScope s_Refused) [("__class__", cc)] dV kV doc pm an (.ref cda) ct), osl⟩)
    (hcd : PySem.W.codeIn K (.ref cda) "Refused.__init__" = true) (D : Sup.SupF P K B i C cc cda) (Ec : Exg.EcC K C) (hno : PySem.W.findIn K (.ref C) "event" = some none)
    (hsup : mg "super" = none) (htop : (P.main.scope.names.lookup ("super" : Str)).isSome = false) (T : NmO mg K g) (G : FnOk P w K mg base CX0 (n + 1) g fdg ["value"] (spOwn n)) (bO : Binds K fdg ["value"] []) :
    FnOk P w K mg base CX0 (n + 2) f (PySem.W.fnX "__init__" "Refused.__init__" (defArgs s_Refused) (defBody s_Refused) (defScope s_Refused) [("__class__", cc)] dV kV doc pm an (.ref cda) ct) ["self", "event"] (spI1 C "event" n) := by
  refine Sup.ok_sup (F := ⟨"__init__", "Refused.__init__", defArgs s_Refused, defBody s_Refused, defScope s_Refused, [("__class__", cc)], cda⟩) (N := ["self", "event", "__class__"]) D rfl rfl lk hcd (NdefX.nscope_by (by show NdefX.nscB ["self", "event", "__class__"] ["self", "event"] ["__class__"] (defScope s_Refused) = true; decide +kernel)) rfl rfl rfl rfl
    (fun L => ⟨_, rfl⟩) hsup htop (fun vs H Q E h => ?_) (fun vs H Q E h => ?_) (fun A outer s H vs Q E hr h => ?_)
  · obtain ⟨a, v, d, rfl, _⟩ := h
    rfl
  · obtain ⟨a, v, d, rfl, ha, _⟩ := h
    exact ⟨a, _, rfl, ha⟩
  · obtain ⟨a, v, d, rfl, ha, hv, hd, q⟩ := h
    refine ⟨_, pss_one (Exg.ps_st (pv 0) (pe_call G hr rfl T.g T.k bO .nil pass0 (pa_cons (pv 1) pa_nil))), ?_⟩
    refine ⟨_, rfl, v, d, rfl, hv, hd, fun v' H1 s1 dn => ?_⟩
    refine ⟨_, rfl, a, C, rfl, Ec, hno, .inl ⟨s1 _ _ ha, fun dx ndx dxa => ?_⟩⟩
    refine q dx v' _ (s1.free ndx) upd_same (by rw [upd_ne dxa, upd_same]) (fun b o ba e => ?_) (dn.later fun b o n e => ?_)
    · rw [upd_ne ba, upd_ne (ne_of_none (s1 _ _ e) ndx)]
      exact s1 _ _ e
    · rw [upd_ne (fun z => by rw [z, ha] at n; cases n), upd_ne (ne_of_none e ndx)]
      exact e
abbrev s_RefusedAt : Stmt := inClass (topS 14) 0
theorem ok_RefusedAt {f C cc cda g : Addr} {fdg : FuncData} {B i : String} {n : Nat} {oc : Value} {od : Option Addr} {osl : Array (Option Value)} {dV kV doc pm ct : Value} {an : Option Addr}
    (lk : K.lookup f = some ⟨oc, od, .func (PySem.W.fnX "__init__" "RefusedAt.__init__" (defArgs s_RefusedAt) (defBody s_RefusedAt) (defScope s_RefusedAt) [("__class__", cc)] dV kV doc pm an (.ref cda) ct), osl⟩)
    (hcd : PySem.W.codeIn K (.ref cda) "RefusedAt.__init__" = true) (D : Sup.SupF P K B i C cc cda) (Ec : Exg.EcC K C) (hno : PySem.W.findIn K (.ref C) "at" = some none)
    (hsup : mg "super" = none) (htop : (P.main.scope.names.lookup ("super" : Str)).isSome = false) (T : NmO mg K g) (G : FnOk P w K mg base CX0 (n + 1) g fdg ["value"] (spOwn n)) (bO : Binds K fdg ["value"] []) :
    FnOk P w K mg base CX0 (n + 2) f (PySem.W.fnX "__init__" "RefusedAt.__init__" (defArgs s_RefusedAt) (defBody s_RefusedAt) (defScope s_RefusedAt) [("__class__", cc)] dV kV doc pm an (.ref cda) ct) ["self", "at"] (spI1 C "at" n) := by
  refine Sup.ok_sup (F := ⟨"__init__", "RefusedAt.__init__", defArgs s_RefusedAt, defBody s_RefusedAt, defScope s_RefusedAt, [("__class__", cc)], cda⟩) (N := ["self", "at", "__class__"]) D rfl rfl lk hcd (NdefX.nscope_by (by show NdefX.nscB ["self", "at", "__class__"] ["self", "at"] ["__class__"] (defScope s_RefusedAt) = true; decide +kernel)) rfl rfl rfl rfl
    (fun L => ⟨_, rfl⟩) hsup htop (fun vs H Q E h => ?_) (fun vs H Q E h => ?_) (fun A outer s H vs Q E hr h => ?_)
  · obtain ⟨a, v, d, rfl, _⟩ := h
    rfl
  · obtain ⟨a, v, d, rfl, ha, _⟩ := h
    exact ⟨a, _, rfl, ha⟩
  · obtain ⟨a, v, d, rfl, ha, hv, hd, q⟩ := h
    refine ⟨_, pss_one (Exg.ps_st (pv 0) (pe_call G hr rfl T.g T.k bO .nil pass0 (pa_cons (pv 1) pa_nil))), ?_⟩
    refine ⟨_, rfl, v, d, rfl, hv, hd, fun v' H1 s1 dn => ?_⟩
    refine ⟨_, rfl, a, C, rfl, Ec, hno, .inl ⟨s1 _ _ ha, fun dx ndx dxa => ?_⟩⟩
    refine q dx v' _ (s1.free ndx) upd_same (by rw [upd_ne dxa, upd_same]) (fun b o ba e => ?_) (dn.later fun b o n e => ?_)
    · rw [upd_ne ba, upd_ne (ne_of_none (s1 _ _ e) ndx)]
      exact s1 _ _ e
    · rw [upd_ne (fun z => by rw [z, ha] at n; cases n), upd_ne (ne_of_none e ndx)]
      exact e
abbrev s_NoCommand : Stmt := inClass (topS 17) 0
theorem ok_NoCommand {f C cc cda g : Addr} {fdg : FuncData} {B i : String} {n : Nat} {oc : Value} {od : Option Addr} {osl : Array (Option Value)} {dV kV doc pm ct : Value} {an : Option Addr}
    (lk : K.lookup f = some ⟨oc, od, .func (PySem.W.fnX "__init__" "NoCommand.__init__" (defArgs s_NoCommand) (defBody s_NoCommand) (defScope s_NoCommand) [("__class__", cc)] dV kV doc pm an (.ref cda) ct), osl⟩)
    (hcd : PySem.W.codeIn K (.ref cda) "NoCommand.__init__" = true) (D : Sup.SupF P K B i C cc cda) (Ec : Exg.EcC K C) (hno : PySem.W.findIn K (.ref C) "row" = some none)
    (hsup : mg "super" = none) (htop : (P.main.scope.names.lookup ("super" : Str)).isSome = false) (T : NmO mg K g) (G : FnOk P w K mg base CX0 (n + 1) g fdg ["value"] (spOwn n)) (bO : Binds K fdg ["value"] []) :
    FnOk P w K mg base CX0 (n + 2) f (PySem.W.fnX "__init__" "NoCommand.__init__" (defArgs s_NoCommand) (defBody s_NoCommand) (defScope s_NoCommand) [("__class__", cc)] dV kV doc pm an (.ref cda) ct) ["self", "row"] (spI1 C "row" n) := by
  refine Sup.ok_sup (F := ⟨"__init__", "NoCommand.__init__", defArgs s_NoCommand, defBody s_NoCommand, defScope s_NoCommand, [("__class__", cc)], cda⟩) (N := ["self", "row", "__class__"]) D rfl rfl lk hcd (NdefX.nscope_by (by show NdefX.nscB ["self", "row", "__class__"] ["self", "row"] ["__class__"] (defScope s_NoCommand) = true; decide +kernel)) rfl rfl rfl rfl
    (fun L => ⟨_, rfl⟩) hsup htop (fun vs H Q E h => ?_) (fun vs H Q E h => ?_) (fun A outer s H vs Q E hr h => ?_)
  · obtain ⟨a, v, d, rfl, _⟩ := h
    rfl
  · obtain ⟨a, v, d, rfl, ha, _⟩ := h
    exact ⟨a, _, rfl, ha⟩
  · obtain ⟨a, v, d, rfl, ha, hv, hd, q⟩ := h
    refine ⟨_, pss_one (Exg.ps_st (pv 0) (pe_call G hr rfl T.g T.k bO .nil pass0 (pa_cons (pv 1) pa_nil))), ?_⟩
    refine ⟨_, rfl, v, d, rfl, hv, hd, fun v' H1 s1 dn => ?_⟩
    refine ⟨_, rfl, a, C, rfl, Ec, hno, .inl ⟨s1 _ _ ha, fun dx ndx dxa => ?_⟩⟩
    refine q dx v' _ (s1.free ndx) upd_same (by rw [upd_ne dxa, upd_same]) (fun b o ba e => ?_) (dn.later fun b o n e => ?_)
    · rw [upd_ne ba, upd_ne (ne_of_none (s1 _ _ e) ndx)]
      exact s1 _ _ e
    · rw [upd_ne (fun z => by rw [z, ha] at n; cases n), upd_ne (ne_of_none e ndx)]
      exact e
abbrev s_NoDocument : Stmt := inClass (topS 11) 0
theorem ok_NoDocument {f C cc cda : Addr} {B i : String} {oc : Value} {od : Option Addr} {osl : Array (Option Value)} {dV kV doc pm ct : Value} {an : Option Addr}
    (lk : K.lookup f = some ⟨oc, od, .func (PySem.W.fnX "__init__" "NoDocument.__init__" (defArgs s_NoDocument) (defBody s_NoDocument) (defScope s_NoDocument) [("__class__", cc)] dV kV doc pm an (.ref cda) ct), osl⟩)
    (hcd : PySem.W.codeIn K (.ref cda) "NoDocument.__init__" = true) (D : Sup.SupF P K B i C cc cda)
    (hsup : mg "super" = none) (htop : (P.main.scope.names.lookup ("super" : Str)).isSome = false) :
    FnOk P w K mg base CX0 2 f (PySem.W.fnX "__init__" "NoDocument.__init__" (defArgs s_NoDocument) (defBody s_NoDocument) (defScope s_NoDocument) [("__class__", cc)] dV kV doc pm an (.ref cda) ct) ["self"] (spI0 C) := by
  refine Sup.ok_sup (F := ⟨"__init__", "NoDocument.__init__", defArgs s_NoDocument, defBody s_NoDocument, defScope s_NoDocument, [("__class__", cc)], cda⟩) (N := ["self", "__class__"]) D rfl rfl lk hcd
    (NdefX.nscope_by (by show NdefX.nscB ["self", "__class__"] ["self"] ["__class__"] (defScope s_NoDocument) = true; decide +kernel)) rfl rfl rfl rfl
    (fun L => ⟨_, rfl⟩) hsup htop (fun vs H Q E h => ?_) (fun vs H Q E h => ?_) (fun A outer s H vs Q E hr h => ?_)
  · obtain ⟨a, rfl, _⟩ := h
    rfl
  · obtain ⟨a, rfl, ha, _⟩ := h
    exact ⟨a, _, rfl, ha⟩
  · obtain ⟨a, rfl, ha, q⟩ := h
    exact ⟨_, pss_nil, q⟩
abbrev s_Resting : Stmt := inClass (topS 15) 0
theorem ok_Resting {f C cc cda : Addr} {B i : String} {oc : Value} {od : Option Addr} {osl : Array (Option Value)} {dV kV doc pm ct : Value} {an : Option Addr}
    (lk : K.lookup f = some ⟨oc, od, .func (PySem.W.fnX "__init__" "Resting.__init__" (defArgs s_Resting) (defBody s_Resting) (defScope s_Resting) [("__class__", cc)] dV kV doc pm an (.ref cda) ct), osl⟩)
    (hcd : PySem.W.codeIn K (.ref cda) "Resting.__init__" = true) (D : Sup.SupF P K B i C cc cda)
    (hsup : mg "super" = none) (htop : (P.main.scope.names.lookup ("super" : Str)).isSome = false) :
    FnOk P w K mg base CX0 2 f (PySem.W.fnX "__init__" "Resting.__init__" (defArgs s_Resting) (defBody s_Resting) (defScope s_Resting) [("__class__", cc)] dV kV doc pm an (.ref cda) ct) ["self"] (spI0 C) := by
  refine Sup.ok_sup (F := ⟨"__init__", "Resting.__init__", defArgs s_Resting, defBody s_Resting, defScope s_Resting, [("__class__", cc)], cda⟩) (N := ["self", "__class__"]) D rfl rfl lk hcd
    (NdefX.nscope_by (by show NdefX.nscB ["self", "__class__"] ["self"] ["__class__"] (defScope s_Resting) = true; decide +kernel)) rfl rfl rfl rfl
    (fun L => ⟨_, rfl⟩) hsup htop (fun vs H Q E h => ?_) (fun vs H Q E h => ?_) (fun A outer s H vs Q E hr h => ?_)
  · obtain ⟨a, rfl, _⟩ := h
    rfl
  · obtain ⟨a, rfl, ha, _⟩ := h
    exact ⟨a, _, rfl, ha⟩
  · obtain ⟨a, rfl, ha, q⟩ := h
    exact ⟨_, pss_nil, q⟩
abbrev s_OtherSpace : Stmt := inClass (topS 16) 0
theorem ok_OtherSpace {f C cc cda : Addr} {B i : String} {oc : Value} {od : Option Addr} {osl : Array (Option Value)} {dV kV doc pm ct : Value} {an : Option Addr}
    (lk : K.lookup f = some ⟨oc, od, .func (PySem.W.fnX "__init__" "OtherSpace.__init__" (defArgs s_OtherSpace) (defBody s_OtherSpace) (defScope s_OtherSpace) [("__class__", cc)] dV kV doc pm an (.ref cda) ct), osl⟩)
    (hcd : PySem.W.codeIn K (.ref cda) "OtherSpace.__init__" = true) (D : Sup.SupF P K B i C cc cda)
    (hsup : mg "super" = none) (htop : (P.main.scope.names.lookup ("super" : Str)).isSome = false) :
    FnOk P w K mg base CX0 2 f (PySem.W.fnX "__init__" "OtherSpace.__init__" (defArgs s_OtherSpace) (defBody s_OtherSpace) (defScope s_OtherSpace) [("__class__", cc)] dV kV doc pm an (.ref cda) ct) ["self"] (spI0 C) := by
  refine Sup.ok_sup (F := ⟨"__init__", "OtherSpace.__init__", defArgs s_OtherSpace, defBody s_OtherSpace, defScope s_OtherSpace, [("__class__", cc)], cda⟩) (N := ["self", "__class__"]) D rfl rfl lk hcd
    (NdefX.nscope_by (by show NdefX.nscB ["self", "__class__"] ["self"] ["__class__"] (defScope s_OtherSpace) = true; decide +kernel)) rfl rfl rfl rfl
    (fun L => ⟨_, rfl⟩) hsup htop (fun vs H Q E h => ?_) (fun vs H Q E h => ?_) (fun A outer s H vs Q E hr h => ?_)
  · obtain ⟨a, rfl, _⟩ := h
    rfl
  · obtain ⟨a, rfl, ha, _⟩ := h
    exact ⟨a, _, rfl, ha⟩
  · obtain ⟨a, rfl, ha, q⟩ := h
    exact ⟨_, pss_nil, q⟩
abbrev s_NotPending : Stmt := inClass (topS 18) 0
theorem ok_NotPending {f C cc cda g : Addr} {fdg : FuncData} {B i : String} {n : Nat} {oc : Value} {od : Option Addr} {osl : Array (Option Value)} {dV kV doc pm ct : Value} {an : Option Addr}
    (lk : K.lookup f = some ⟨oc, od, .func (PySem.W.fnX "__init__" "NotPending.__init__" (defArgs s_NotPending) (defBody s_NotPending) (defScope s_NotPending) [("__class__", cc)] dV kV doc pm an (.ref cda) ct), osl⟩)
    (hcd : PySem.W.codeIn K (.ref cda) "NotPending.__init__" = true) (D : Sup.SupF P K B i C cc cda) (Ec : Exg.EcC K C) (hno1 : PySem.W.findIn K (.ref C) "question" = some none) (hno2 : PySem.W.findIn K (.ref C) "mark" = some none)
    (hsup : mg "super" = none) (htop : (P.main.scope.names.lookup ("super" : Str)).isSome = false) (T : NmO mg K g) (G : FnOk P w K mg base CX0 (n + 1) g fdg ["value"] (spOwn n)) (bO : Binds K fdg ["value"] []) :
    FnOk P w K mg base CX0 (n + 2) f (PySem.W.fnX "__init__" "NotPending.__init__" (defArgs s_NotPending) (defBody s_NotPending) (defScope s_NotPending) [("__class__", cc)] dV kV doc pm an (.ref cda) ct) ["self", "question", "mark"] (spI2 C n) := by
  refine Sup.ok_sup (F := ⟨"__init__", "NotPending.__init__", defArgs s_NotPending, defBody s_NotPending, defScope s_NotPending, [("__class__", cc)], cda⟩) (N := ["self", "question", "mark", "__class__"]) D rfl rfl lk hcd
    (NdefX.nscope_by (by show NdefX.nscB ["self", "question", "mark", "__class__"] ["self", "question", "mark"] ["__class__"] (defScope s_NotPending) = true; decide +kernel)) rfl rfl rfl rfl
    (fun L => ⟨_, rfl⟩) hsup htop (fun vs H Q E h => ?_) (fun vs H Q E h => ?_) (fun A outer s H vs Q E hr h => ?_)
  · obtain ⟨a, v, u, d, e, rfl, _⟩ := h
    rfl
  · obtain ⟨a, v, u, d, e, rfl, ha, _⟩ := h
    exact ⟨a, _, rfl, ha⟩
  · obtain ⟨a, v, u, d, e, rfl, ha, hv, hd, hu, he, q⟩ := h
    refine ⟨_, pss_cons (Exg.ps_st (pv 0) (pe_call G hr rfl T.g T.k bO .nil pass0 (pa_cons (pv 1) pa_nil))) (pss_one (Exg.ps_st (pv 0) (pe_call G hr rfl T.g T.k bO .nil pass0 (pa_cons (pv 2) pa_nil)))), ?_⟩
    refine ⟨_, rfl, v, d, rfl, hv, hd, fun v' H1 s1 dn => ?_⟩
    refine ⟨_, rfl, a, C, rfl, Ec, hno1, .inl ⟨s1 _ _ ha, fun dx ndx dxa => ?_⟩⟩
    have s2 : ∀ b o, b ≠ a → H b = some o → (upd (upd H1 dx (exd dx [("question", v')])) a (exo a C (some dx))) b = some o := fun b o ba z => by
      rw [upd_ne ba, upd_ne (ne_of_none (s1 _ _ z) ndx)]
      exact s1 _ _ z
    have ea : (upd (upd H1 dx (exd dx [("question", v')])) a (exo a C (some dx))) a = some (exo a C (some dx)) := upd_same
    have ed : (upd (upd H1 dx (exd dx [("question", v')])) a (exo a C (some dx))) dx = some (exd dx [("question", v')]) := by rw [upd_ne dxa, upd_same]
    have hu2 := DV.mono2 (fun b xs z => s2 b _ (ne_of z ha (fun y => by cases y)) z) (fun b xs z => s2 b _ (ne_of z ha (fun y => by cases y)) z) _ _ hu
    refine ⟨_, rfl, u, e, rfl, hu2, he, fun u' H3 s3 dn2 => ?_⟩
    refine ⟨_, rfl, a, C, rfl, Ec, hno2, .inr ⟨dx, _, s3 _ _ ea, s3 _ _ ed, (by show 1 ≤ 900; decide), ?_⟩⟩
    have axd : a ≠ dx := fun z => dxa z.symm
    refine q dx v' u' _ (s1.free ndx) (by rw [upd_ne axd]; exact s3 _ _ ea) upd_same (fun b o ba z => ?_) (dn.later fun b o n z => ?_) (DN.base (DN.later dn2 fun b o n z => ?_) fun b n => ?_)
    · rw [upd_ne (ne_of_none (s1 _ _ z) ndx)]
      exact s3 _ _ (s2 _ _ ba z)
    · have bd : b ≠ dx := ne_of_none z ndx
      have ba : b ≠ a := fun y => by
        rw [y, ha] at n
        cases n
      rw [upd_ne bd]
      exact s3 _ _ (by rw [upd_ne ba, upd_ne bd]; exact z)
    · have bd : b ≠ dx := fun y => by
        rw [y, ed] at n
        cases n
      rw [upd_ne bd]
      exact z
    · cases hb : H b with
      | none => rfl
      | some o =>
        by_cases ba : b = a
        · rw [ba, ea] at n
          cases n
        · rw [s2 b o ba hb] at n
          cases n
end
end K1

set_option Elab.async false
set_option linter.all false
set_option maxRecDepth 100000
set_option maxHeartbeats 4000000
namespace K1
open PySem PySem.Spec PyProof.Rows L2
/-! ### how long the text of a datum is -/
theorem from_le : ∀ (ts : List Str) (k : Nat) (acc : Str), (textFrom k acc ts).length ≤ acc.length + piled ts
  | [], k, acc => Nat.le_add_right _ _
  | t :: r, k, acc => by
    have h := from_le r (k + 1) (acc ++ (if k > 0 then ", " else "" : String) ++ t)
    have e : (acc ++ (if k > 0 then ", " else "" : String) ++ t).length ≤ acc.length + 2 + t.length := by
      rw [strLen_append, strLen_append]
      by_cases hk : k > 0
      · rw [if_pos hk]
        have : (Str.ofString ", ").length = 2 := rfl
        omega
      · rw [if_neg hk]
        have : (Str.ofString "").length = 0 := rfl
        omega
    have p : piled (t :: r) = t.length + 2 + piled r := by simp [piled]
    show (textFrom (k + 1) _ r).length ≤ _
    omega
theorem list_le (ts : List Str) : (listText ts).length ≤ piled ts + 2 := by
  have h := from_le ts 0 "["
  have e1 : (Str.ofString "[").length = 1 := rfl
  have e2 : (Str.ofString "]").length = 1 := rfl
  show (textFrom 0 "[" ts ++ "]").length ≤ _
  rw [strLen_append]
  omega
theorem tuple_le (ts : List Str) : (tupleText ts).length ≤ piled ts + 3 := by
  unfold tupleText
  rw [strLen_append, strLen_append]
  have e1 : (Str.ofString "(").length = 1 := rfl
  have e2 : ((if ts.length == 1 then ",)" else ")" : String) : Str).length ≤ 2 := by
    split
    · exact Nat.le_refl 2
    · exact (by decide : 1 ≤ 2)
  have e3 : (Str.join ", " ts).length ≤ piled ts := by
    cases ts with
    | nil => exact Nat.zero_le _
    | cons x r =>
      have := join_length_add (x :: r) (by simp)
      omega
  omega
theorem piled_le {L : Nat} : ∀ {ds : List PyData}, (∀ d ∈ ds, d.shown.length ≤ L) → piled (PyData.shownAll ds) ≤ ds.length * (L + 2)
  | [], _ => Nat.zero_le _
  | d :: r, h => by
    have ih := piled_le (ds := r) fun x hx => h x (List.mem_cons_of_mem _ hx)
    have h1 := h d (List.mem_cons_self ..)
    have p : piled (PyData.shownAll (d :: r)) = d.shown.length + 2 + piled (PyData.shownAll r) := by
      show piled (d.shown :: PyData.shownAll r) = _
      exact piled_cons _ _
    rw [p, List.length_cons, Nat.succ_mul]
    omega
/-- a datum that repr shows, its depth, the length of its text -/
structure Sh (k L : Nat) (d : PyData) : Prop where
  s : d.showable = true
  n : d.hasDict = false
  k : d.depth ≤ k
  l : d.shown.length ≤ L
theorem all_show : ∀ {ds : List PyData}, (∀ d ∈ ds, d.showable = true) → PyData.showableAll ds = true
  | [], _ => rfl
  | d :: r, h => by
    unfold PyData.showableAll
    rw [h d (List.mem_cons_self ..), all_show fun x hx => h x (List.mem_cons_of_mem _ hx)]
    rfl
theorem all_noDict : ∀ {ds : List PyData}, (∀ d ∈ ds, d.hasDict = false) → PyData.hasDictAll ds = false
  | [], _ => rfl
  | d :: r, h => by
    unfold PyData.hasDictAll
    rw [h d (List.mem_cons_self ..), all_noDict fun x hx => h x (List.mem_cons_of_mem _ hx)]
    rfl
theorem all_depth {k : Nat} : ∀ {ds : List PyData}, (∀ d ∈ ds, d.depth ≤ k) → PyData.depthAll ds ≤ k
  | [], _ => Nat.zero_le _
  | d :: r, h => by
    unfold PyData.depthAll
    have h1 := h d (List.mem_cons_self ..)
    have h2 := all_depth (ds := r) fun x hx => h x (List.mem_cons_of_mem _ hx)
    omega
theorem Sh.list {k L n : Nat} {ds : List PyData} (h : ∀ d ∈ ds, Sh k L d) (hn : ds.length ≤ n) : Sh (k + 1) (n * (L + 2) + 3) (.list ds) := by
  refine ⟨?_, ?_, ?_, ?_⟩
  · unfold PyData.showable
    exact all_show fun d hd => (h d hd).s
  · unfold PyData.hasDict
    exact all_noDict fun d hd => (h d hd).n
  · unfold PyData.depth
    have := all_depth fun d hd => (h d hd).k
    omega
  · unfold PyData.shown
    have h1 := list_le (PyData.shownAll ds)
    have h2 := piled_le fun d hd => (h d hd).l
    have h3 := Nat.mul_le_mul_right (L + 2) hn
    omega
theorem Sh.tuple {k L n : Nat} {ds : List PyData} (h : ∀ d ∈ ds, Sh k L d) (hn : ds.length ≤ n) : Sh (k + 1) (n * (L + 2) + 3) (.tuple ds) := by
  refine ⟨?_, ?_, ?_, ?_⟩
  · unfold PyData.showable
    exact all_show fun d hd => (h d hd).s
  · unfold PyData.hasDict
    exact all_noDict fun d hd => (h d hd).n
  · unfold PyData.depth
    have := all_depth fun d hd => (h d hd).k
    omega
  · unfold PyData.shown
    have h1 := tuple_le (PyData.shownAll ds)
    have h2 := piled_le fun d hd => (h d hd).l
    have h3 := Nat.mul_le_mul_right (L + 2) hn
    omega
theorem Sh.int {i : Int} (h0 : 0 ≤ i) (h : i < 10 ^ 9) : Sh 0 20 (.int i) := by
  have hn : i.natAbs < 10 ^ 9 := by
    have e : (10 : Int) ^ 9 = 1000000000 := by decide
    have e2 : (10 : Nat) ^ 9 = 1000000000 := by decide
    omega
  refine ⟨decide_eq_true ?_, rfl, Nat.zero_le _, ?_⟩
  · by_cases z : i.natAbs = 0
    · rw [z]
      decide
    · exact Nat.lt_of_lt_of_le ((Nat.log2_lt z).mpr (Nat.lt_of_lt_of_le hn (by decide : 10 ^ 9 ≤ 2 ^ 30))) (by decide)
  · show (Str.ofString (toString i)).length ≤ 20
    exact Nat.le_trans (toString_length_le h0 (k := 9) (by decide) h) (by decide)
/-! ### a drawn value -/
abbrev s_value : Stmt := topS 28
abbrev n_value : List Str := ["_law_box_here", "_law_some"]
theorem sc_value : FnScope n_value ["_law_box_here"] (defScope s_value) := ⟨rfl, rfl, rfl, by decide +kernel, rfl, by decide +kernel, by decide +kernel⟩
/-- what is drawn: small data of at most one list or tuple -/
structure Gd (d : PyData) : Prop where
  f : fit 1 d
  s : Sh 1 70 d
theorem gd_small {d : PyData} (f : fit 1 d) (s : d.showable = true) (n : d.hasDict = false) (k : d.depth ≤ 1) (l : d.shown.length ≤ 70) : Gd d := ⟨f, s, n, k, l⟩
def spValue : Sp := fun vs H Q _ => ∃ (p : Addr) (m : Nat), vs = [.ref p] ∧ BoxAt H p m ∧ m ≤ 1000 ∧
  ∀ (v : V) (d : PyData) (H' : Hp), (∀ H2 : Hp, (∀ b o, b ≠ p → H' b = some o → H2 b = some o) → DV H2 v d) → Gd d → BoxAt H' p (m + 2) → (∀ b o, b ≠ p → H b = some o → H' b = some o) → Q v H'
theorem new_same {H : Hp} {p : Addr} {o : HO} (h : H p = none) : Same H (upd H p o) := fun b x e => by
  rw [upd_ne (ne_of_none e h)]
  exact e
structure NmV (mg : Str → Option Value) (K : PySem.W.Frag) (ft : Addr) : Prop where
  gt : mg "_law_take" = some (.ref ft)
  kt : PySem.W.keepIn K (.ref ft) = true
  n_len : mg "len" = none
section
variable {P : Program} {w : World} {K : PySem.W.Frag} {mg : Str → Option Value} {base : Heap}
theorem Sh.up {d : PyData} (h : Sh 0 20 d) : Sh 1 70 d := ⟨h.s, h.n, Nat.le_trans h.k (by decide), Nat.le_trans h.l (by decide)⟩
theorem ok_value {f ft : Addr} {fd fdt : FuncData} (F : Fun K "_law_value" "_law_value" s_value f fd) (T : NmV mg K ft) (G : FnOk P w K mg base CX0 1 ft fdt ["_law_box_here", "_law_many"] spTake) (bT : Binds K fdt ["_law_box_here", "_law_many"] []) :
    FnOk P w K mg base CX0 2 f fd ["_law_box_here"] spValue := by
  refine F.ok sc_value (fun vs H Q E h => ?_) (fun cdv A outer s H vs Q E hr h => ?_)
  · obtain ⟨p, m, rfl, _⟩ := h
    rfl
  · obtain ⟨p, m, rfl, hb, hm, q⟩ := h
    refine ⟨_, (pss_cons (ps_set (i := 1) sc_value.nd rfl (.inl rfl) (pe_lst (pa_cons pe_int (pa_cons pe_int (pa_cons (pe_un un_neg pe_int) (pa_cons pe_bl (pa_cons pe_non (pa_cons pe_str (pa_cons pe_str (pa_cons (pe_tup pa_nil) (pa_cons (pe_tup (pa_cons pe_str pa_nil)) (pa_cons (pe_lst (pa_cons pe_str pa_nil)) (pa_cons (pe_tup (pa_cons pe_str (pa_cons pe_str (pa_cons pe_int pa_nil)))) (pa_cons (pe_call G hr rfl T.gt T.kt bT .nil pass0 (pa_cons (pv 0) (pa_cons (pe_op op_pow pe_int pe_int) pa_nil))) pa_nil))))))))))))))
  (pss_one (ps_ret (pe_ix ix_list (pv 1) (pe_call G hr rfl T.gt T.kt bT .nil pass0 (pa_cons (pv 0) (pa_cons (pe_callB call_len_seq (by rfl) T.n_len (by decide +kernel) (pa_cons (pv 1) pa_nil)) pa_nil))) (fun _ _ => rfl))))), ?_⟩
    obtain ⟨c, sd, n, ep, hc, hs0, hs1, hn0, hn1⟩ := hb
    -- 0, 1, -1, True, None, '', 'A'
    refine ⟨_, rfl, ?_⟩
    refine ⟨Nat.zero_le _, fun t0 h0 => ?_⟩
    refine ⟨(by show 1 ≤ sizeLine; decide), fun t1 h1 => ?_⟩
    refine ⟨(by show 1 ≤ sizeLine; decide), fun l1 h2 => ?_⟩
    refine ⟨(by show 3 ≤ sizeLine; decide), fun t2 h3 => ?_⟩
    have S1 := new_same (o := .tup []) h0
    have S2 := S1.trans (new_same (o := .tup [.str "close"]) h1)
    have S3 := S2.trans (new_same (o := .lst [.str "x"]) h2)
    have S4 := S3.trans (new_same (o := .tup [.str "open", .str "a", .int 3]) h3)
    have g0 := new_same (o := .tup [.str "open", .str "a", .int 3]) h3 _ _ (new_same (o := .lst [.str "x"]) h2 _ _ (new_same (o := .tup [.str "close"]) h1 t0 (.tup []) upd_same))
    have g1 := new_same (o := .tup [.str "open", .str "a", .int 3]) h3 _ _ (new_same (o := .lst [.str "x"]) h2 t1 (.tup [.str "close"]) upd_same)
    have g2 := new_same (o := .tup [.str "open", .str "a", .int 3]) h3 l1 (.lst [.str "x"]) upd_same
    have g3 : upd (upd (upd (upd H t0 (.tup [])) t1 (.tup [.str "close"])) l1 (.lst [.str "x"])) t2 (.tup [.str "open", .str "a", .int 3]) t2 = some (.tup [.str "open", .str "a", .int 3]) := upd_same
    have np0 : t0 ≠ p := fun z => by rw [z, ep] at h0; cases h0
    have np1 : t1 ≠ p := fun z => by rw [z, S1 _ _ ep] at h1; cases h1
    have np2 : l1 ≠ p := fun z => by rw [z, S2 _ _ ep] at h2; cases h2
    have np3 : t2 ≠ p := fun z => by rw [z, S3 _ _ ep] at h3; cases h3
    have ep4 := S4 _ _ ep
    generalize upd (upd (upd (upd H t0 (.tup [])) t1 (.tup [.str "close"])) l1 (.lst [.str "x"])) t2 (.tup [.str "open", .str "a", .int 3]) = H4 at *
    refine ⟨_, rfl, _, _, rfl, rfl, ⟨by decide, by decide, by decide⟩, p, _, m, rfl, ⟨c, sd, n, ep4, hc, hs0, hs1, hn0, hn1⟩, by omega, (by show (0 : Int) < 10 ^ 9; decide), (by show (10 : Int) ^ 9 < 1073741824; decide), fun x H5 x0 x1 hb5 k5 => ?_⟩
    have x1' : x < 10 ^ 9 := x1
    refine ⟨(by show 12 ≤ sizeLine; decide), fun l hl => ?_⟩
    have npl : l ≠ p := fun z => by
      obtain ⟨_, _, _, e5, _⟩ := hb5
      rw [z, e5] at hl
      cases hl
    have S6 := new_same (o := .lst [.int 0, .int 1, .int (-1), .bl true, .non, .str "", .str "A", .ref t0, .ref t1, .ref l1, .ref t2, .int x]) hl
    have hb6 : BoxAt (upd H5 l (.lst [.int 0, .int 1, .int (-1), .bl true, .non, .str "", .str "A", .ref t0, .ref t1, .ref l1, .ref t2, .int x])) p (m + 1) := by
      obtain ⟨c5, sd5, n5, e5, r5⟩ := hb5
      exact ⟨c5, sd5, n5, S6 _ _ e5, r5⟩
    have el : upd H5 l (.lst [.int 0, .int 1, .int (-1), .bl true, .non, .str "", .str "A", .ref t0, .ref t1, .ref l1, .ref t2, .int x]) l = some (.lst [.int 0, .int 1, .int (-1), .bl true, .non, .str "", .str "A", .ref t0, .ref t1, .ref l1, .ref t2, .int x]) := upd_same
    have G0 := S6 t0 _ (by rw [k5 t0 np0]; exact g0)
    have G1 := S6 t1 _ (by rw [k5 t1 np1]; exact g1)
    have G2 := S6 l1 _ (by rw [k5 l1 np2]; exact g2)
    have G3 := S6 t2 _ (by rw [k5 t2 np3]; exact g3)
    have keep6 : ∀ b o, b ≠ p → H b = some o → upd H5 l (.lst [.int 0, .int 1, .int (-1), .bl true, .non, .str "", .str "A", .ref t0, .ref t1, .ref l1, .ref t2, .int x]) b = some o := fun b o bp e =>
      S6 b o (by rw [k5 b bp]; exact S4 b o e)
    generalize upd H5 l (.lst [.int 0, .int 1, .int (-1), .bl true, .non, .str "", .str "A", .ref t0, .ref t1, .ref l1, .ref t2, .int x]) = H6 at *
    -- return some[take(box, len(some))]
    refine ⟨_, rfl, _, rfl, _, rfl, l, _, rfl, .inl (SqL.of el), p, 12, m + 1, rfl, hb6, by omega, by decide, by decide, fun j H7 j0 j1 hb7 k7 => ?_⟩
    have el7 : H7 l = _ := (k7 l npl).trans el
    have D : ∀ H8 : Hp, (∀ b o, b ≠ p → H7 b = some o → H8 b = some o) → DVs H8 [.int 0, .int 1, .int (-1), .bl true, .non, .str "", .str "A", .ref t0, .ref t1, .ref l1, .ref t2, .int x]
        [.int 0, .int 1, .int (-1), .bool true, .none, .str "", .str "A", .tuple [], .tuple [.str "close"], .list [.str "x"], .tuple [.str "open", .str "a", .int 3], .int x] := fun H8 k8 =>
      .cons (.int _) (.cons (.int _) (.cons (.int _) (.cons (.bl _) (.cons .non (.cons (.str _) (.cons (.str _) (.cons (.tup (k8 _ _ np0 ((k7 t0 np0).trans G0)) .nil) (.cons (.tup (k8 _ _ np1 ((k7 t1 np1).trans G1)) (.cons (.str _) .nil))
        (.cons (.lst (k8 _ _ np2 ((k7 l1 np2).trans G2)) (.cons (.str _) .nil)) (.cons (.tup (k8 _ _ np3 ((k7 t2 np3).trans G3)) (.cons (.str _) (.cons (.str _) (.cons (.int _) .nil)))) (.cons (.int _) .nil)))))))))))
    obtain ⟨i, rfl⟩ : ∃ i : Nat, j = (i : Int) := ⟨j.toNat, by omega⟩
    have hi : i < 12 := by omega
    obtain ⟨v, hv⟩ : ∃ v, [V.int 0, .int 1, .int (-1), .bl true, .non, .str "", .str "A", .ref t0, .ref t1, .ref l1, .ref t2, .int x][i]? = some v := ⟨_, List.getElem?_eq_getElem hi⟩
    obtain ⟨d, hd, _⟩ := (D H7 fun _ _ _ z => z).get hv
    have dv : ∀ H8 : Hp, (∀ b o, b ≠ p → H7 b = some o → H8 b = some o) → DV H8 v d := fun H8 k8 => by
      obtain ⟨d2, hd2, dv2⟩ := (D H8 k8).get hv
      rw [hd] at hd2
      cases hd2
      exact dv2
    refine ⟨l, _, _, v, rfl, rfl, SqL.of el7, atI_nat hv, ?_⟩
    refine q v d H7 dv ?_ hb7 fun b o bp e => by rw [k7 b bp]; exact keep6 b o bp e
    have all : ∀ y ∈ ([.int 0, .int 1, .int (-1), .bool true, .none, .str "", .str "A", .tuple [], .tuple [.str "close"], .list [.str "x"], .tuple [.str "open", .str "a", .int 3], .int x] : List PyData), Gd y := by
      intro y hy
      simp only [List.mem_cons, List.not_mem_nil, or_false] at hy
      rcases hy with rfl | rfl | rfl | rfl | rfl | rfl | rfl | rfl | rfl | rfl | rfl | rfl
      · exact gd_small (by simp [fit]) (by decide) (by decide) (by decide) (by decide +kernel)
      · exact gd_small (by simp [fit]) (by decide) (by decide) (by decide) (by decide +kernel)
      · exact gd_small (by simp [fit]) (by decide) (by decide) (by decide) (by decide +kernel)
      · exact gd_small (by simp [fit]) (by decide) (by decide) (by decide) (by decide +kernel)
      · exact gd_small (by simp [fit]) (by decide) (by decide) (by decide) (by decide +kernel)
      · exact gd_small (by simp [fit]) (by decide) (by decide) (by decide) (by decide +kernel)
      · exact gd_small (by simp [fit]) (by decide) (by decide) (by decide) (by decide +kernel)
      · exact gd_small (by simp [fit]) (by decide) (by decide) (by decide) (by decide +kernel)
      · exact gd_small (by simp [fit]) (by decide) (by decide) (by decide) (by decide +kernel)
      · exact gd_small (by simp [fit]) (by decide) (by decide) (by decide) (by decide +kernel)
      · exact gd_small (by simp [fit]) (by decide) (by decide) (by decide) (by decide +kernel)
      · exact ⟨by simp [fit], (Sh.int x0 x1').up⟩
    exact all d (List.mem_of_getElem? hd)
end
end K1

set_option Elab.async false
set_option linter.all false
set_option maxRecDepth 100000
set_option maxHeartbeats 4000000
namespace K1
open PySem PySem.Spec PyProof.Rows L2
/-! ### the errors: A j the class of the j-th -/
abbrev Ads := Nat → Addr
/-- the names of the classes -/
structure Er (mg : Str → Option Value) (K : PySem.W.Frag) (A : Ads) : Prop where
  g_NoKinds : mg "NoKinds" = some (.ref (A 0))
  g_NoRules : mg "NoRules" = some (.ref (A 1))
  g_NoQuestion : mg "NoQuestion" = some (.ref (A 2))
  g_NoTree : mg "NoTree" = some (.ref (A 3))
  g_NoBundle : mg "NoBundle" = some (.ref (A 4))
  g_TooMany : mg "TooMany" = some (.ref (A 5))
  g_TooGreat : mg "TooGreat" = some (.ref (A 6))
  g_UnknownKind : mg "UnknownKind" = some (.ref (A 7))
  g_NoDocument : mg "NoDocument" = some (.ref (A 8))
  g_NoEvent : mg "NoEvent" = some (.ref (A 9))
  g_Refused : mg "Refused" = some (.ref (A 10))
  g_RefusedAt : mg "RefusedAt" = some (.ref (A 11))
  g_Resting : mg "Resting" = some (.ref (A 12))
  g_OtherSpace : mg "OtherSpace" = some (.ref (A 13))
  g_NoCommand : mg "NoCommand" = some (.ref (A 14))
  g_NotPending : mg "NotPending" = some (.ref (A 15))
  g_KeptError : mg "KeptError" = some (.ref (A 16))
  n_isinstance : mg "isinstance" = none
  exc : ∀ j, j < 16 → ExcC K (A j)
  kit : ∀ i j, i < 16 → j < 16 → PySem.W.kitOne K (.ref (A j)) (.ref (A i)) = some (decide (i = j))
/-- an error of the j-th class stands at a -/
def ErrAt (A : Ads) (H : Hp) (a : Addr) (j : Nat) : Prop := ∃ dd : Option Addr, H a = some (exo a (A j) dd) ∧ (dd = none ∨ ∃ d fs, dd = some d ∧ H d = some (exd d fs))
theorem ErrAt.mono {A : Ads} {H H' : Hp} {a : Addr} {j : Nat} (h : ErrAt A H a j) (s : Same H H') : ErrAt A H' a j := by
  obtain ⟨dd, e, hd⟩ := h
  refine ⟨dd, s _ _ e, ?_⟩
  rcases hd with hd | ⟨d, fs, hd, ed⟩
  · exact .inl hd
  · exact .inr ⟨d, fs, hd, s _ _ ed⟩
theorem ErrAt.monoD {A : Ads} {H H' : Hp} {a : Addr} {j : Nat} {dd : Option Addr} (h : H a = some (exo a (A j) dd) ∧ (dd = none ∨ ∃ d fs, dd = some d ∧ H d = some (exd d fs))) (s : Same H H') :
    H' a = some (exo a (A j) dd) ∧ (dd = none ∨ ∃ d fs, dd = some d ∧ H' d = some (exd d fs)) := by
  obtain ⟨e, hd⟩ := h
  refine ⟨s _ _ e, ?_⟩
  rcases hd with hd | ⟨d, fs, hd, ed⟩
  · exact .inl hd
  · exact .inr ⟨d, fs, hd, s _ _ ed⟩
theorem isX_go {K : PySem.W.Frag} {mg : Str → Option Value} {A : Ads} {H : Hp} {a : Addr} {i j : Nat} {Q : VK} (T : Er mg K A) (hj : j < 16) (hi : i < 16) (h : ErrAt A H a j) (q : Q (.bl (decide (i = j))) H) : Exv.rIsX K [.ref a, .ref (A i)] H Q := by
  obtain ⟨dd, e, hd⟩ := h
  exact ⟨a, A j, dd, .ref (A i), .ref (A i), _, rfl, e, hd, T.exc j hj, fun u z => z, T.kit i j hi hj, q⟩
abbrev s_sorts : Stmt := topS 22
abbrev n_sorts : List Str := ["_law_error", "_law_first"]
theorem sc_sorts : FnScope n_sorts ["_law_error"] (defScope s_sorts) := ⟨rfl, rfl, rfl, by decide +kernel, rfl, by decide +kernel, by decide +kernel⟩
def sortsOf (j : Nat) : List V := (List.range 16).map fun i => .bl (decide (i = j))
def spSorts (A : Ads) : Sp := fun vs H Q _ => ∃ (a : Addr) (j : Nat), vs = [.ref a] ∧ j < 16 ∧ ErrAt A H a j ∧ ∀ (r : Addr) (H' : Hp), Same H H' → H r = none → H' r = some (.lst (sortsOf j)) → Q (.ref r) H'
section
variable {P : Program} {w : World} {K : PySem.W.Frag} {mg : Str → Option Value} {base : Heap}
theorem ok_sorts {A : Ads} {f : Addr} {fd : FuncData} (F : Fun K "_law_sorts" "_law_sorts" s_sorts f fd) (T : Er mg K A) : FnOk P w K mg base CX0 1 f fd ["_law_error"] (spSorts A) := by
  refine F.ok sc_sorts (fun vs H Q E h => ?_) (fun cdv Ar outer s H vs Q E hr h => ?_)
  · obtain ⟨a, j, rfl, _⟩ := h
    rfl
  · obtain ⟨a, j, rfl, hj, ⟨dd, hE⟩, q⟩ := h
    refine ⟨_, (pss_cons (ps_set (i := 1) sc_sorts.nd rfl (.inl rfl) (pe_lst (pa_cons (pe_callB Exv.call_isX (by rfl) T.n_isinstance (by decide +kernel) (pa_cons (pv 0) (pa_cons (pe_glob (v := .ref _) rfl T.g_NoKinds rfl) pa_nil))) (pa_cons (pe_callB Exv.call_isX (by rfl) T.n_isinstance (by decide +kernel) (pa_cons (pv 0) (pa_cons (pe_glob (v := .ref _) rfl T.g_NoRules rfl) pa_nil))) (pa_cons (pe_callB Exv.call_isX (by rfl) T.n_isinstance (by decide +kernel) (pa_cons (pv 0) (pa_cons (pe_glob (v := .ref _) rfl T.g_NoQuestion rfl) pa_nil))) pa_nil)))))
      (pss_cons (ps_expr (pe_bm PySem.F.plainAttrs_list PySem.F.slot_list_extend PySem.F.type_list_extend mt_extend (pv 1) (pa_cons (pe_lst (pa_cons (pe_callB Exv.call_isX (by rfl) T.n_isinstance (by decide +kernel) (pa_cons (pv 0) (pa_cons (pe_glob (v := .ref _) rfl T.g_NoTree rfl) pa_nil))) (pa_cons (pe_callB Exv.call_isX (by rfl) T.n_isinstance (by decide +kernel) (pa_cons (pv 0) (pa_cons (pe_glob (v := .ref _) rfl T.g_NoBundle rfl) pa_nil))) (pa_cons (pe_callB Exv.call_isX (by rfl) T.n_isinstance (by decide +kernel) (pa_cons (pv 0) (pa_cons (pe_glob (v := .ref _) rfl T.g_TooMany rfl) pa_nil))) pa_nil)))) pa_nil)))
      (pss_cons (ps_expr (pe_bm PySem.F.plainAttrs_list PySem.F.slot_list_extend PySem.F.type_list_extend mt_extend (pv 1) (pa_cons (pe_lst (pa_cons (pe_callB Exv.call_isX (by rfl) T.n_isinstance (by decide +kernel) (pa_cons (pv 0) (pa_cons (pe_glob (v := .ref _) rfl T.g_TooGreat rfl) pa_nil))) (pa_cons (pe_callB Exv.call_isX (by rfl) T.n_isinstance (by decide +kernel) (pa_cons (pv 0) (pa_cons (pe_glob (v := .ref _) rfl T.g_UnknownKind rfl) pa_nil))) (pa_cons (pe_callB Exv.call_isX (by rfl) T.n_isinstance (by decide +kernel) (pa_cons (pv 0) (pa_cons (pe_glob (v := .ref _) rfl T.g_NoDocument rfl) pa_nil))) pa_nil)))) pa_nil)))
      (pss_cons (ps_expr (pe_bm PySem.F.plainAttrs_list PySem.F.slot_list_extend PySem.F.type_list_extend mt_extend (pv 1) (pa_cons (pe_lst (pa_cons (pe_callB Exv.call_isX (by rfl) T.n_isinstance (by decide +kernel) (pa_cons (pv 0) (pa_cons (pe_glob (v := .ref _) rfl T.g_NoEvent rfl) pa_nil))) (pa_cons (pe_callB Exv.call_isX (by rfl) T.n_isinstance (by decide +kernel) (pa_cons (pv 0) (pa_cons (pe_glob (v := .ref _) rfl T.g_Refused rfl) pa_nil))) (pa_cons (pe_callB Exv.call_isX (by rfl) T.n_isinstance (by decide +kernel) (pa_cons (pv 0) (pa_cons (pe_glob (v := .ref _) rfl T.g_RefusedAt rfl) pa_nil))) pa_nil)))) pa_nil)))
      (pss_cons (ps_expr (pe_bm PySem.F.plainAttrs_list PySem.F.slot_list_extend PySem.F.type_list_extend mt_extend (pv 1) (pa_cons (pe_lst (pa_cons (pe_callB Exv.call_isX (by rfl) T.n_isinstance (by decide +kernel) (pa_cons (pv 0) (pa_cons (pe_glob (v := .ref _) rfl T.g_Resting rfl) pa_nil))) (pa_cons (pe_callB Exv.call_isX (by rfl) T.n_isinstance (by decide +kernel) (pa_cons (pv 0) (pa_cons (pe_glob (v := .ref _) rfl T.g_OtherSpace rfl) pa_nil))) (pa_cons (pe_callB Exv.call_isX (by rfl) T.n_isinstance (by decide +kernel) (pa_cons (pv 0) (pa_cons (pe_glob (v := .ref _) rfl T.g_NoCommand rfl) pa_nil))) pa_nil)))) pa_nil)))
      (pss_one (ps_ret (pe_op op_cat (pv 1) (pe_lst (pa_cons (pe_callB Exv.call_isX (by rfl) T.n_isinstance (by decide +kernel) (pa_cons (pv 0) (pa_cons (pe_glob (v := .ref _) rfl T.g_NotPending rfl) pa_nil))) pa_nil)))))))))), ?_⟩
    refine ⟨_, rfl, a, A j, dd, .ref (A 0), .ref (A 0), _, rfl, hE.1, hE.2, T.exc j hj, fun u z => z, T.kit 0 j (by decide) hj, ?_⟩
    refine ⟨_, rfl, a, A j, dd, .ref (A 1), .ref (A 1), _, rfl, hE.1, hE.2, T.exc j hj, fun u z => z, T.kit 1 j (by decide) hj, ?_⟩
    refine ⟨_, rfl, a, A j, dd, .ref (A 2), .ref (A 2), _, rfl, hE.1, hE.2, T.exc j hj, fun u z => z, T.kit 2 j (by decide) hj, ?_⟩
    refine ⟨(by show 3 ≤ sizeLine; decide), fun l hl => ?_⟩
    have s1 := new_same (o := .lst [.bl (decide (0 = j)), .bl (decide (1 = j)), .bl (decide (2 = j))]) hl
    have el : upd H l (.lst [.bl (decide (0 = j)), .bl (decide (1 = j)), .bl (decide (2 = j))]) l = some (.lst [.bl (decide (0 = j)), .bl (decide (1 = j)), .bl (decide (2 = j))]) := upd_same
    generalize upd H l (.lst [.bl (decide (0 = j)), .bl (decide (1 = j)), .bl (decide (2 = j))]) = H1 at *
    -- extend
    refine ⟨_, rfl, .inl ⟨rfl, _, SqL.of el⟩, ?_⟩
    refine ⟨_, rfl, a, A j, dd, .ref (A 3), .ref (A 3), _, rfl, (ErrAt.monoD hE s1).1, (ErrAt.monoD hE s1).2, T.exc j hj, fun u z => z, T.kit 3 j (by decide) hj, ?_⟩
    refine ⟨_, rfl, a, A j, dd, .ref (A 4), .ref (A 4), _, rfl, (ErrAt.monoD hE s1).1, (ErrAt.monoD hE s1).2, T.exc j hj, fun u z => z, T.kit 4 j (by decide) hj, ?_⟩
    refine ⟨_, rfl, a, A j, dd, .ref (A 5), .ref (A 5), _, rfl, (ErrAt.monoD hE s1).1, (ErrAt.monoD hE s1).2, T.exc j hj, fun u z => z, T.kit 5 j (by decide) hj, ?_⟩
    refine ⟨(by show 3 ≤ sizeLine; decide), fun b hb => ?_⟩
    refine ⟨l, b, _, _, rfl, rfl, new_same hb _ _ el, upd_same, (by show 3 + 3 ≤ sizeLine; decide), ?_⟩
    have s2 : Same H (upd (upd H1 b (.lst [.bl (decide (3 = j)), .bl (decide (4 = j)), .bl (decide (5 = j))])) l (.lst ([.bl (decide (0 = j)), .bl (decide (1 = j)), .bl (decide (2 = j))] ++ [.bl (decide (3 = j)), .bl (decide (4 = j)), .bl (decide (5 = j))]))) := fun x o e => by
      rw [upd_ne (ne_of_none e hl)]
      exact new_same hb _ _ (s1 _ _ e)
    have e2 : upd (upd H1 b (.lst [.bl (decide (3 = j)), .bl (decide (4 = j)), .bl (decide (5 = j))])) l (.lst ([.bl (decide (0 = j)), .bl (decide (1 = j)), .bl (decide (2 = j))] ++ [.bl (decide (3 = j)), .bl (decide (4 = j)), .bl (decide (5 = j))])) l = some (.lst [.bl (decide (0 = j)), .bl (decide (1 = j)), .bl (decide (2 = j)), .bl (decide (3 = j)), .bl (decide (4 = j)), .bl (decide (5 = j))]) := upd_same
    clear s1 el
    have s1 := s2
    have el := e2
    clear s2 e2
    generalize upd (upd H1 b (.lst [.bl (decide (3 = j)), .bl (decide (4 = j)), .bl (decide (5 = j))])) l (.lst ([.bl (decide (0 = j)), .bl (decide (1 = j)), .bl (decide (2 = j))] ++ [.bl (decide (3 = j)), .bl (decide (4 = j)), .bl (decide (5 = j))])) = H2 at *
    -- extend
    refine ⟨_, rfl, .inl ⟨rfl, _, SqL.of el⟩, ?_⟩
    refine ⟨_, rfl, a, A j, dd, .ref (A 6), .ref (A 6), _, rfl, (ErrAt.monoD hE s1).1, (ErrAt.monoD hE s1).2, T.exc j hj, fun u z => z, T.kit 6 j (by decide) hj, ?_⟩
    refine ⟨_, rfl, a, A j, dd, .ref (A 7), .ref (A 7), _, rfl, (ErrAt.monoD hE s1).1, (ErrAt.monoD hE s1).2, T.exc j hj, fun u z => z, T.kit 7 j (by decide) hj, ?_⟩
    refine ⟨_, rfl, a, A j, dd, .ref (A 8), .ref (A 8), _, rfl, (ErrAt.monoD hE s1).1, (ErrAt.monoD hE s1).2, T.exc j hj, fun u z => z, T.kit 8 j (by decide) hj, ?_⟩
    refine ⟨(by show 3 ≤ sizeLine; decide), fun b hb => ?_⟩
    refine ⟨l, b, _, _, rfl, rfl, new_same hb _ _ el, upd_same, (by show 6 + 3 ≤ sizeLine; decide), ?_⟩
    have s2 : Same H (upd (upd H2 b (.lst [.bl (decide (6 = j)), .bl (decide (7 = j)), .bl (decide (8 = j))])) l (.lst ([.bl (decide (0 = j)), .bl (decide (1 = j)), .bl (decide (2 = j)), .bl (decide (3 = j)), .bl (decide (4 = j)), .bl (decide (5 = j))] ++ [.bl (decide (6 = j)), .bl (decide (7 = j)), .bl (decide (8 = j))]))) := fun x o e => by
      rw [upd_ne (ne_of_none e hl)]
      exact new_same hb _ _ (s1 _ _ e)
    have e2 : upd (upd H2 b (.lst [.bl (decide (6 = j)), .bl (decide (7 = j)), .bl (decide (8 = j))])) l (.lst ([.bl (decide (0 = j)), .bl (decide (1 = j)), .bl (decide (2 = j)), .bl (decide (3 = j)), .bl (decide (4 = j)), .bl (decide (5 = j))] ++ [.bl (decide (6 = j)), .bl (decide (7 = j)), .bl (decide (8 = j))])) l = some (.lst [.bl (decide (0 = j)), .bl (decide (1 = j)), .bl (decide (2 = j)), .bl (decide (3 = j)), .bl (decide (4 = j)), .bl (decide (5 = j)), .bl (decide (6 = j)), .bl (decide (7 = j)), .bl (decide (8 = j))]) := upd_same
    clear s1 el
    have s1 := s2
    have el := e2
    clear s2 e2
    generalize upd (upd H2 b (.lst [.bl (decide (6 = j)), .bl (decide (7 = j)), .bl (decide (8 = j))])) l (.lst ([.bl (decide (0 = j)), .bl (decide (1 = j)), .bl (decide (2 = j)), .bl (decide (3 = j)), .bl (decide (4 = j)), .bl (decide (5 = j))] ++ [.bl (decide (6 = j)), .bl (decide (7 = j)), .bl (decide (8 = j))])) = H3 at *
    -- extend
    refine ⟨_, rfl, .inl ⟨rfl, _, SqL.of el⟩, ?_⟩
    refine ⟨_, rfl, a, A j, dd, .ref (A 9), .ref (A 9), _, rfl, (ErrAt.monoD hE s1).1, (ErrAt.monoD hE s1).2, T.exc j hj, fun u z => z, T.kit 9 j (by decide) hj, ?_⟩
    refine ⟨_, rfl, a, A j, dd, .ref (A 10), .ref (A 10), _, rfl, (ErrAt.monoD hE s1).1, (ErrAt.monoD hE s1).2, T.exc j hj, fun u z => z, T.kit 10 j (by decide) hj, ?_⟩
    refine ⟨_, rfl, a, A j, dd, .ref (A 11), .ref (A 11), _, rfl, (ErrAt.monoD hE s1).1, (ErrAt.monoD hE s1).2, T.exc j hj, fun u z => z, T.kit 11 j (by decide) hj, ?_⟩
    refine ⟨(by show 3 ≤ sizeLine; decide), fun b hb => ?_⟩
    refine ⟨l, b, _, _, rfl, rfl, new_same hb _ _ el, upd_same, (by show 9 + 3 ≤ sizeLine; decide), ?_⟩
    have s2 : Same H (upd (upd H3 b (.lst [.bl (decide (9 = j)), .bl (decide (10 = j)), .bl (decide (11 = j))])) l (.lst ([.bl (decide (0 = j)), .bl (decide (1 = j)), .bl (decide (2 = j)), .bl (decide (3 = j)), .bl (decide (4 = j)), .bl (decide (5 = j)), .bl (decide (6 = j)), .bl (decide (7 = j)), .bl (decide (8 = j))] ++ [.bl (decide (9 = j)), .bl (decide (10 = j)), .bl (decide (11 = j))]))) := fun x o e => by
      rw [upd_ne (ne_of_none e hl)]
      exact new_same hb _ _ (s1 _ _ e)
    have e2 : upd (upd H3 b (.lst [.bl (decide (9 = j)), .bl (decide (10 = j)), .bl (decide (11 = j))])) l (.lst ([.bl (decide (0 = j)), .bl (decide (1 = j)), .bl (decide (2 = j)), .bl (decide (3 = j)), .bl (decide (4 = j)), .bl (decide (5 = j)), .bl (decide (6 = j)), .bl (decide (7 = j)), .bl (decide (8 = j))] ++ [.bl (decide (9 = j)), .bl (decide (10 = j)), .bl (decide (11 = j))])) l = some (.lst [.bl (decide (0 = j)), .bl (decide (1 = j)), .bl (decide (2 = j)), .bl (decide (3 = j)), .bl (decide (4 = j)), .bl (decide (5 = j)), .bl (decide (6 = j)), .bl (decide (7 = j)), .bl (decide (8 = j)), .bl (decide (9 = j)), .bl (decide (10 = j)), .bl (decide (11 = j))]) := upd_same
    clear s1 el
    have s1 := s2
    have el := e2
    clear s2 e2
    generalize upd (upd H3 b (.lst [.bl (decide (9 = j)), .bl (decide (10 = j)), .bl (decide (11 = j))])) l (.lst ([.bl (decide (0 = j)), .bl (decide (1 = j)), .bl (decide (2 = j)), .bl (decide (3 = j)), .bl (decide (4 = j)), .bl (decide (5 = j)), .bl (decide (6 = j)), .bl (decide (7 = j)), .bl (decide (8 = j))] ++ [.bl (decide (9 = j)), .bl (decide (10 = j)), .bl (decide (11 = j))])) = H4 at *
    -- extend
    refine ⟨_, rfl, .inl ⟨rfl, _, SqL.of el⟩, ?_⟩
    refine ⟨_, rfl, a, A j, dd, .ref (A 12), .ref (A 12), _, rfl, (ErrAt.monoD hE s1).1, (ErrAt.monoD hE s1).2, T.exc j hj, fun u z => z, T.kit 12 j (by decide) hj, ?_⟩
    refine ⟨_, rfl, a, A j, dd, .ref (A 13), .ref (A 13), _, rfl, (ErrAt.monoD hE s1).1, (ErrAt.monoD hE s1).2, T.exc j hj, fun u z => z, T.kit 13 j (by decide) hj, ?_⟩
    refine ⟨_, rfl, a, A j, dd, .ref (A 14), .ref (A 14), _, rfl, (ErrAt.monoD hE s1).1, (ErrAt.monoD hE s1).2, T.exc j hj, fun u z => z, T.kit 14 j (by decide) hj, ?_⟩
    refine ⟨(by show 3 ≤ sizeLine; decide), fun b hb => ?_⟩
    refine ⟨l, b, _, _, rfl, rfl, new_same hb _ _ el, upd_same, (by show 12 + 3 ≤ sizeLine; decide), ?_⟩
    have s2 : Same H (upd (upd H4 b (.lst [.bl (decide (12 = j)), .bl (decide (13 = j)), .bl (decide (14 = j))])) l (.lst ([.bl (decide (0 = j)), .bl (decide (1 = j)), .bl (decide (2 = j)), .bl (decide (3 = j)), .bl (decide (4 = j)), .bl (decide (5 = j)), .bl (decide (6 = j)), .bl (decide (7 = j)), .bl (decide (8 = j)), .bl (decide (9 = j)), .bl (decide (10 = j)), .bl (decide (11 = j))] ++ [.bl (decide (12 = j)), .bl (decide (13 = j)), .bl (decide (14 = j))]))) := fun x o e => by
      rw [upd_ne (ne_of_none e hl)]
      exact new_same hb _ _ (s1 _ _ e)
    have e2 : upd (upd H4 b (.lst [.bl (decide (12 = j)), .bl (decide (13 = j)), .bl (decide (14 = j))])) l (.lst ([.bl (decide (0 = j)), .bl (decide (1 = j)), .bl (decide (2 = j)), .bl (decide (3 = j)), .bl (decide (4 = j)), .bl (decide (5 = j)), .bl (decide (6 = j)), .bl (decide (7 = j)), .bl (decide (8 = j)), .bl (decide (9 = j)), .bl (decide (10 = j)), .bl (decide (11 = j))] ++ [.bl (decide (12 = j)), .bl (decide (13 = j)), .bl (decide (14 = j))])) l = some (.lst [.bl (decide (0 = j)), .bl (decide (1 = j)), .bl (decide (2 = j)), .bl (decide (3 = j)), .bl (decide (4 = j)), .bl (decide (5 = j)), .bl (decide (6 = j)), .bl (decide (7 = j)), .bl (decide (8 = j)), .bl (decide (9 = j)), .bl (decide (10 = j)), .bl (decide (11 = j)), .bl (decide (12 = j)), .bl (decide (13 = j)), .bl (decide (14 = j))]) := upd_same
    clear s1 el
    have s1 := s2
    have el := e2
    clear s2 e2
    generalize upd (upd H4 b (.lst [.bl (decide (12 = j)), .bl (decide (13 = j)), .bl (decide (14 = j))])) l (.lst ([.bl (decide (0 = j)), .bl (decide (1 = j)), .bl (decide (2 = j)), .bl (decide (3 = j)), .bl (decide (4 = j)), .bl (decide (5 = j)), .bl (decide (6 = j)), .bl (decide (7 = j)), .bl (decide (8 = j)), .bl (decide (9 = j)), .bl (decide (10 = j)), .bl (decide (11 = j))] ++ [.bl (decide (12 = j)), .bl (decide (13 = j)), .bl (decide (14 = j))])) = H5 at *
    refine ⟨_, rfl, _, rfl, a, A j, dd, .ref (A 15), .ref (A 15), _, rfl, (ErrAt.monoD hE s1).1, (ErrAt.monoD hE s1).2, T.exc j hj, fun u z => z, T.kit 15 j (by decide) hj, ?_⟩
    refine ⟨(by show 1 ≤ sizeLine; decide), fun b hb => ?_⟩
    refine ⟨l, b, _, _, rfl, rfl, new_same hb _ _ el, upd_same, (by show 15 + 1 ≤ sizeLine; decide), fun r hr0 => ?_⟩
    have s2 := s1.trans (new_same (o := .lst [.bl (decide (15 = j))]) hb)
    exact q r _ (s2.trans (new_same hr0)) (s2.free hr0) upd_same
end
end K1

set_option Elab.async false
set_option linter.all false
set_option maxRecDepth 100000
set_option maxHeartbeats 16000000
namespace K1
open PySem PySem.Spec PyProof.Rows L2
/-! ### sixteen errors of one value -/
def fldsOf : Nat → List Str
  | 0 => ["row"]
  | 1 => ["row"]
  | 2 => ["at"]
  | 3 => ["at"]
  | 4 => ["at"]
  | 5 => ["word"]
  | 6 => ["product"]
  | 7 => ["kind"]
  | 9 => ["event"]
  | 10 => ["event"]
  | 11 => ["at"]
  | 14 => ["row"]
  | 15 => ["mark", "question"]
  | _ => []
/-- the j-th error at a, its fields copies of d, made since H0 -/
def ErrV (A : Ads) (H0 H : Hp) (a : Addr) (j : Nat) (d : PyData) : Prop := ∃ (dd : Option Addr) (fs : List (Str × V)), H a = some (exo a (A j) dd) ∧ fs.map (·.1) = fldsOf j ∧ (∀ p ∈ fs, DN H0 H p.2 d) ∧
  ((dd = none ∧ fs = []) ∨ ∃ x, dd = some x ∧ H x = some (exd x fs))
theorem ErrV.at {A : Ads} {H0 H : Hp} {a : Addr} {j : Nat} {d : PyData} (h : ErrV A H0 H a j d) : ErrAt A H a j := by
  obtain ⟨dd, fs, e, _, _, hd⟩ := h
  refine ⟨dd, e, ?_⟩
  rcases hd with ⟨hd, _⟩ | ⟨x, hd, ex⟩
  · exact .inl hd
  · exact .inr ⟨x, fs, hd, ex⟩
theorem ErrV.none {A : Ads} {H0 H : Hp} {a : Addr} {j : Nat} {d : PyData} (e : H a = some (exo a (A j) none)) (hf : fldsOf j = []) : ErrV A H0 H a j d :=
  ⟨_, [], e, hf.symm, fun p hp => by simp at hp, .inl ⟨rfl, rfl⟩⟩
theorem ErrV.one {A : Ads} {H0 Hb H1 H : Hp} {a x : Addr} {j : Nat} {f : Str} {v : V} {d : PyData} (e : H1 a = some (exo a (A j) (some x))) (ex : H1 x = some (exd x [(f, v)])) (nx : Hb x = .none) (dn : DN Hb H1 v d) (hb : ∀ b, Hb b = .none → H0 b = .none)
    (s : ∀ b o, (Hb b = .none ∨ b = a) → H1 b = some o → H b = some o) (hf : fldsOf j = [f]) : ErrV A H0 H a j d :=
  ⟨_, [(f, v)], s _ _ (.inr rfl) e, hf.symm, fun p hp => by
    obtain rfl := List.mem_singleton.mp hp
    exact DN.base (DN.later dn fun b o n z => s b o (.inl n) z) hb, .inr ⟨x, rfl, s _ _ (.inl nx) ex⟩⟩
theorem ErrV.two {A : Ads} {H0 Hb H1 H : Hp} {a x : Addr} {j : Nat} {f g : Str} {v u : V} {d : PyData} (e : H1 a = some (exo a (A j) (some x))) (ex : H1 x = some (exd x [(g, u), (f, v)])) (nx : Hb x = .none) (dn : DN Hb H1 v d) (dn2 : DN Hb H1 u d) (hb : ∀ b, Hb b = .none → H0 b = .none)
    (s : ∀ b o, (Hb b = .none ∨ b = a) → H1 b = some o → H b = some o) (hf : fldsOf j = [g, f]) : ErrV A H0 H a j d :=
  ⟨_, [(g, u), (f, v)], s _ _ (.inr rfl) e, hf.symm, fun p hp => by
    simp only [List.mem_cons, List.not_mem_nil, or_false] at hp
    rcases hp with rfl | rfl
    · exact DN.base (DN.later dn2 fun b o n z => s b o (.inl n) z) hb
    · exact DN.base (DN.later dn fun b o n z => s b o (.inl n) z) hb, .inr ⟨x, rfl, s _ _ (.inl nx) ex⟩⟩
theorem not_l {H : Hp} {a l : Addr} {o x : HO} (na : H a = none) (el : H l = some x) : ∀ b, (upd H a o b = none ∨ b = a) → b ≠ l := fun b h z => by
  subst z
  rcases h with h | h
  · by_cases ba : b = a
    · rw [ba, upd_same] at h
      cases h
    · rw [upd_ne ba, el] at h
      cases h
  · rw [h, na] at el
    cases el
theorem free_of {H0 H : Hp} (s : Same H0 H) {a : Addr} {o : HO} : ∀ b, upd H a o b = none → H0 b = none := fun b n => by
  cases e : H0 b with
  | none => rfl
  | some x =>
    by_cases hb : b = a
    · rw [hb, upd_same] at n
      cases n
    · rw [upd_ne hb, s b x e] at n
      cases n
structure Ms (P : Program) (w : World) (K : PySem.W.Frag) (mg : Str → Option Value) (base : Heap) (A : Ads) (n : Nat) : Prop where
  m_NoKinds : ∃ fI fdI, Exv.MkOk P w K (A 0) fI ∧ FnOk P w K mg base CX0 (n + 2) fI fdI ["self", "row"] (spI1 (A 0) "row" n) ∧ Binds K fdI ["self", "row"] []
  k_NoKinds : PySem.W.keepIn K (.ref (A 0)) = true
  m_NoRules : ∃ fI fdI, Exv.MkOk P w K (A 1) fI ∧ FnOk P w K mg base CX0 (n + 2) fI fdI ["self", "row"] (spI1 (A 1) "row" n) ∧ Binds K fdI ["self", "row"] []
  k_NoRules : PySem.W.keepIn K (.ref (A 1)) = true
  m_NoQuestion : ∃ fI fdI, Exv.MkOk P w K (A 2) fI ∧ FnOk P w K mg base CX0 (n + 2) fI fdI ["self", "at"] (spI1 (A 2) "at" n) ∧ Binds K fdI ["self", "at"] []
  k_NoQuestion : PySem.W.keepIn K (.ref (A 2)) = true
  m_NoTree : ∃ fI fdI, Exv.MkOk P w K (A 3) fI ∧ FnOk P w K mg base CX0 (n + 2) fI fdI ["self", "at"] (spI1 (A 3) "at" n) ∧ Binds K fdI ["self", "at"] []
  k_NoTree : PySem.W.keepIn K (.ref (A 3)) = true
  m_NoBundle : ∃ fI fdI, Exv.MkOk P w K (A 4) fI ∧ FnOk P w K mg base CX0 (n + 2) fI fdI ["self", "at"] (spI1 (A 4) "at" n) ∧ Binds K fdI ["self", "at"] []
  k_NoBundle : PySem.W.keepIn K (.ref (A 4)) = true
  m_TooMany : ∃ fI fdI, Exv.MkOk P w K (A 5) fI ∧ FnOk P w K mg base CX0 (n + 2) fI fdI ["self", "word"] (spI1 (A 5) "word" n) ∧ Binds K fdI ["self", "word"] []
  k_TooMany : PySem.W.keepIn K (.ref (A 5)) = true
  m_TooGreat : ∃ fI fdI, Exv.MkOk P w K (A 6) fI ∧ FnOk P w K mg base CX0 (n + 2) fI fdI ["self", "product"] (spI1 (A 6) "product" n) ∧ Binds K fdI ["self", "product"] []
  k_TooGreat : PySem.W.keepIn K (.ref (A 6)) = true
  m_UnknownKind : ∃ fI fdI, Exv.MkOk P w K (A 7) fI ∧ FnOk P w K mg base CX0 (n + 2) fI fdI ["self", "kind"] (spI1 (A 7) "kind" n) ∧ Binds K fdI ["self", "kind"] []
  k_UnknownKind : PySem.W.keepIn K (.ref (A 7)) = true
  m_NoDocument : ∃ fI fdI, Exv.MkOk P w K (A 8) fI ∧ FnOk P w K mg base CX0 (n + 2) fI fdI ["self"] (spI0 (A 8)) ∧ Binds K fdI ["self"] []
  k_NoDocument : PySem.W.keepIn K (.ref (A 8)) = true
  m_NoEvent : ∃ fI fdI, Exv.MkOk P w K (A 9) fI ∧ FnOk P w K mg base CX0 (n + 2) fI fdI ["self", "event"] (spI1 (A 9) "event" n) ∧ Binds K fdI ["self", "event"] []
  k_NoEvent : PySem.W.keepIn K (.ref (A 9)) = true
  m_Refused : ∃ fI fdI, Exv.MkOk P w K (A 10) fI ∧ FnOk P w K mg base CX0 (n + 2) fI fdI ["self", "event"] (spI1 (A 10) "event" n) ∧ Binds K fdI ["self", "event"] []
  k_Refused : PySem.W.keepIn K (.ref (A 10)) = true
  m_RefusedAt : ∃ fI fdI, Exv.MkOk P w K (A 11) fI ∧ FnOk P w K mg base CX0 (n + 2) fI fdI ["self", "at"] (spI1 (A 11) "at" n) ∧ Binds K fdI ["self", "at"] []
  k_RefusedAt : PySem.W.keepIn K (.ref (A 11)) = true
  m_Resting : ∃ fI fdI, Exv.MkOk P w K (A 12) fI ∧ FnOk P w K mg base CX0 (n + 2) fI fdI ["self"] (spI0 (A 12)) ∧ Binds K fdI ["self"] []
  k_Resting : PySem.W.keepIn K (.ref (A 12)) = true
  m_OtherSpace : ∃ fI fdI, Exv.MkOk P w K (A 13) fI ∧ FnOk P w K mg base CX0 (n + 2) fI fdI ["self"] (spI0 (A 13)) ∧ Binds K fdI ["self"] []
  k_OtherSpace : PySem.W.keepIn K (.ref (A 13)) = true
  m_NoCommand : ∃ fI fdI, Exv.MkOk P w K (A 14) fI ∧ FnOk P w K mg base CX0 (n + 2) fI fdI ["self", "row"] (spI1 (A 14) "row" n) ∧ Binds K fdI ["self", "row"] []
  k_NoCommand : PySem.W.keepIn K (.ref (A 14)) = true
  m_NotPending : ∃ fI fdI, Exv.MkOk P w K (A 15) fI ∧ FnOk P w K mg base CX0 (n + 2) fI fdI ["self", "question", "mark"] (spI2 (A 15) n) ∧ Binds K fdI ["self", "question", "mark"] []
  k_NotPending : PySem.W.keepIn K (.ref (A 15)) = true
abbrev s_made : Stmt := topS 23
abbrev n_made : List Str := ["_law_value_here", "_law_found"]
theorem sc_made : FnScope n_made ["_law_value_here"] (defScope s_made) := ⟨rfl, rfl, rfl, by decide +kernel, rfl, by decide +kernel, by decide +kernel⟩
def spMade (A : Ads) (n : Nat) : Sp := fun vs H Q _ => ∃ (v : V) (d : PyData), vs = [v] ∧ DV H v d ∧ (∃ m, m + 1 = n ∧ fit m d) ∧
  ∀ (r : Addr) (as : List Addr) (H' : Hp), Same H H' → H r = none → H' r = some (.lst (as.map V.ref)) → as.length = 16 → (∀ j a, as[j]? = some a → ErrV A H H' a j d) → Q (.ref r) H'
section
variable {P : Program} {w : World} {K : PySem.W.Frag} {mg : Str → Option Value} {base : Heap}
theorem ok_made {A : Ads} {n : Nat} {f : Addr} {fd : FuncData} (F : Fun K "_law_made" "_law_made" s_made f fd) (TE : Er mg K A) (TM : Ms P w K mg base A n) : FnOk P w K mg base CX0 (n + 4) f fd ["_law_value_here"] (spMade A n) := by
  obtain ⟨fI0, fdI0, M0, I0, c0⟩ := TM.m_NoKinds
  obtain ⟨fI1, fdI1, M1, I1, c1⟩ := TM.m_NoRules
  obtain ⟨fI2, fdI2, M2, I2, c2⟩ := TM.m_NoQuestion
  obtain ⟨fI3, fdI3, M3, I3, c3⟩ := TM.m_NoTree
  obtain ⟨fI4, fdI4, M4, I4, c4⟩ := TM.m_NoBundle
  obtain ⟨fI5, fdI5, M5, I5, c5⟩ := TM.m_TooMany
  obtain ⟨fI6, fdI6, M6, I6, c6⟩ := TM.m_TooGreat
  obtain ⟨fI7, fdI7, M7, I7, c7⟩ := TM.m_UnknownKind
  obtain ⟨fI8, fdI8, M8, I8, c8⟩ := TM.m_NoDocument
  obtain ⟨fI9, fdI9, M9, I9, c9⟩ := TM.m_NoEvent
  obtain ⟨fI10, fdI10, M10, I10, c10⟩ := TM.m_Refused
  obtain ⟨fI11, fdI11, M11, I11, c11⟩ := TM.m_RefusedAt
  obtain ⟨fI12, fdI12, M12, I12, c12⟩ := TM.m_Resting
  obtain ⟨fI13, fdI13, M13, I13, c13⟩ := TM.m_OtherSpace
  obtain ⟨fI14, fdI14, M14, I14, c14⟩ := TM.m_NoCommand
  obtain ⟨fI15, fdI15, M15, I15, c15⟩ := TM.m_NotPending
  refine F.ok sc_made (fun vs H Q E h => ?_) (fun cdv Ar outer s H vs Q E hr h => ?_)
  · obtain ⟨v, d, rfl, _⟩ := h
    rfl
  · obtain ⟨v, d, rfl, hv, hf, q⟩ := h
    refine ⟨_, (pss_cons (ps_set (i := 1) sc_made.nd rfl (.inl rfl) (pe_lst (pa_cons (Exv.pe_mkv M0 TM.k_NoKinds I0 hr c0 pass0 rfl TE.g_NoKinds (pa_cons (pv 0) pa_nil)) (pa_cons (Exv.pe_mkv M1 TM.k_NoRules I1 hr c1 pass0 rfl TE.g_NoRules (pa_cons (pv 0) pa_nil)) (pa_cons (Exv.pe_mkv M2 TM.k_NoQuestion I2 hr c2 pass0 rfl TE.g_NoQuestion (pa_cons (pv 0) pa_nil)) (pa_cons (Exv.pe_mkv M3 TM.k_NoTree I3 hr c3 pass0 rfl TE.g_NoTree (pa_cons (pv 0) pa_nil)) (pa_cons (Exv.pe_mkv M4 TM.k_NoBundle I4 hr c4 pass0 rfl TE.g_NoBundle (pa_cons (pv 0) pa_nil)) (pa_cons (Exv.pe_mkv M5 TM.k_TooMany I5 hr c5 pass0 rfl TE.g_TooMany (pa_cons (pv 0) pa_nil)) pa_nil))))))))
      (pss_cons (ps_expr (pe_bm PySem.F.plainAttrs_list PySem.F.slot_list_extend PySem.F.type_list_extend mt_extend (pv 1) (pa_cons (pe_lst (pa_cons (Exv.pe_mkv M6 TM.k_TooGreat I6 hr c6 pass0 rfl TE.g_TooGreat (pa_cons (pv 0) pa_nil)) (pa_cons (Exv.pe_mkv M7 TM.k_UnknownKind I7 hr c7 pass0 rfl TE.g_UnknownKind (pa_cons (pv 0) pa_nil)) (pa_cons (Exv.pe_mkv0 M8 TM.k_NoDocument I8 hr c8 pass0 rfl TE.g_NoDocument) (pa_cons (Exv.pe_mkv M9 TM.k_NoEvent I9 hr c9 pass0 rfl TE.g_NoEvent (pa_cons (pv 0) pa_nil)) (pa_cons (Exv.pe_mkv M10 TM.k_Refused I10 hr c10 pass0 rfl TE.g_Refused (pa_cons (pv 0) pa_nil)) (pa_cons (Exv.pe_mkv M11 TM.k_RefusedAt I11 hr c11 pass0 rfl TE.g_RefusedAt (pa_cons (pv 0) pa_nil)) pa_nil))))))) pa_nil)))
      (pss_one (ps_ret (pe_op op_cat (pv 1) (pe_lst (pa_cons (Exv.pe_mkv0 M12 TM.k_Resting I12 hr c12 pass0 rfl TE.g_Resting) (pa_cons (Exv.pe_mkv0 M13 TM.k_OtherSpace I13 hr c13 pass0 rfl TE.g_OtherSpace) (pa_cons (Exv.pe_mkv M14 TM.k_NoCommand I14 hr c14 pass0 rfl TE.g_NoCommand (pa_cons (pv 0) pa_nil)) (pa_cons (Exv.pe_mkv M15 TM.k_NotPending I15 hr c15 pass0 rfl TE.g_NotPending (pa_cons (pv 0) (pa_cons (pv 0) pa_nil))) pa_nil)))))))))), ?_⟩
    have S := Same.refl H
    refine ⟨_, rfl, (by show 1 ≤ 1000; decide), fun a0 na0 => ⟨a0, v, d, rfl, upd_same, DV.mono (S.trans (new_same na0)) _ _ hv, hf, fun x0 v0 H0 nx0 ea0 ed0 kp0 dn0 => ⟨rfl, ?_⟩⟩⟩
    have s0 : Same H H0 := fun b o e => kp0 b o (ne_of_none e na0) (new_same na0 _ _ e)
    have fr0 := free_of S (a := a0) (o := exo a0 (A 0) none)
    have S := S.trans s0
    refine ⟨_, rfl, (by show 1 ≤ 1000; decide), fun a1 na1 => ⟨a1, v, d, rfl, upd_same, DV.mono (S.trans (new_same na1)) _ _ hv, hf, fun x1 v1 H1 nx1 ea1 ed1 kp1 dn1 => ⟨rfl, ?_⟩⟩⟩
    have s1 : Same H0 H1 := fun b o e => kp1 b o (ne_of_none e na1) (new_same na1 _ _ e)
    have fr1 := free_of S (a := a1) (o := exo a1 (A 1) none)
    have S := S.trans s1
    refine ⟨_, rfl, (by show 1 ≤ 1000; decide), fun a2 na2 => ⟨a2, v, d, rfl, upd_same, DV.mono (S.trans (new_same na2)) _ _ hv, hf, fun x2 v2 H2 nx2 ea2 ed2 kp2 dn2 => ⟨rfl, ?_⟩⟩⟩
    have s2 : Same H1 H2 := fun b o e => kp2 b o (ne_of_none e na2) (new_same na2 _ _ e)
    have fr2 := free_of S (a := a2) (o := exo a2 (A 2) none)
    have S := S.trans s2
    refine ⟨_, rfl, (by show 1 ≤ 1000; decide), fun a3 na3 => ⟨a3, v, d, rfl, upd_same, DV.mono (S.trans (new_same na3)) _ _ hv, hf, fun x3 v3 H3 nx3 ea3 ed3 kp3 dn3 => ⟨rfl, ?_⟩⟩⟩
    have s3 : Same H2 H3 := fun b o e => kp3 b o (ne_of_none e na3) (new_same na3 _ _ e)
    have fr3 := free_of S (a := a3) (o := exo a3 (A 3) none)
    have S := S.trans s3
    refine ⟨_, rfl, (by show 1 ≤ 1000; decide), fun a4 na4 => ⟨a4, v, d, rfl, upd_same, DV.mono (S.trans (new_same na4)) _ _ hv, hf, fun x4 v4 H4 nx4 ea4 ed4 kp4 dn4 => ⟨rfl, ?_⟩⟩⟩
    have s4 : Same H3 H4 := fun b o e => kp4 b o (ne_of_none e na4) (new_same na4 _ _ e)
    have fr4 := free_of S (a := a4) (o := exo a4 (A 4) none)
    have S := S.trans s4
    refine ⟨_, rfl, (by show 1 ≤ 1000; decide), fun a5 na5 => ⟨a5, v, d, rfl, upd_same, DV.mono (S.trans (new_same na5)) _ _ hv, hf, fun x5 v5 H5 nx5 ea5 ed5 kp5 dn5 => ⟨rfl, ?_⟩⟩⟩
    have s5 : Same H4 H5 := fun b o e => kp5 b o (ne_of_none e na5) (new_same na5 _ _ e)
    have fr5 := free_of S (a := a5) (o := exo a5 (A 5) none)
    have S := S.trans s5
    refine ⟨(by show 6 ≤ sizeLine; decide), fun l hl => ?_⟩
    have sl : Same H5 (upd H5 l (.lst [.ref a0, .ref a1, .ref a2, .ref a3, .ref a4, .ref a5])) := new_same hl
    have el : upd H5 l (.lst [.ref a0, .ref a1, .ref a2, .ref a3, .ref a4, .ref a5]) l = some (.lst [.ref a0, .ref a1, .ref a2, .ref a3, .ref a4, .ref a5]) := upd_same
    have nl := S.free hl
    have S := S.trans sl
    generalize upd H5 l (.lst [.ref a0, .ref a1, .ref a2, .ref a3, .ref a4, .ref a5]) = L0 at *
    refine ⟨_, rfl, .inl ⟨rfl, _, SqL.of el⟩, ?_⟩
    refine ⟨_, rfl, (by show 1 ≤ 1000; decide), fun a6 na6 => ⟨a6, v, d, rfl, upd_same, DV.mono (S.trans (new_same na6)) _ _ hv, hf, fun x6 v6 H6 nx6 ea6 ed6 kp6 dn6 => ⟨rfl, ?_⟩⟩⟩
    have s6 : Same L0 H6 := fun b o e => kp6 b o (ne_of_none e na6) (new_same na6 _ _ e)
    have fr6 := free_of S (a := a6) (o := exo a6 (A 6) none)
    have S := S.trans s6
    refine ⟨_, rfl, (by show 1 ≤ 1000; decide), fun a7 na7 => ⟨a7, v, d, rfl, upd_same, DV.mono (S.trans (new_same na7)) _ _ hv, hf, fun x7 v7 H7 nx7 ea7 ed7 kp7 dn7 => ⟨rfl, ?_⟩⟩⟩
    have s7 : Same H6 H7 := fun b o e => kp7 b o (ne_of_none e na7) (new_same na7 _ _ e)
    have fr7 := free_of S (a := a7) (o := exo a7 (A 7) none)
    have S := S.trans s7
    refine ⟨(by show 0 ≤ 1000; decide), fun a8 na8 => ⟨a8, rfl, upd_same, rfl, ?_⟩⟩
    have ea8 : upd H7 a8 (exo a8 (A 8) none) a8 = some (exo a8 (A 8) none) := upd_same
    have kp8 : ∀ b o, b ≠ a8 → H7 b = some o → upd H7 a8 (exo a8 (A 8) none) b = some o := fun b o _ e => new_same na8 _ _ e
    generalize hH8 : upd H7 a8 (exo a8 (A 8) none) = H8 at *
    have s8 : Same H7 H8 := fun b o e => kp8 b o (ne_of_none e na8) e
    have S := S.trans s8
    refine ⟨_, rfl, (by show 1 ≤ 1000; decide), fun a9 na9 => ⟨a9, v, d, rfl, upd_same, DV.mono (S.trans (new_same na9)) _ _ hv, hf, fun x9 v9 H9 nx9 ea9 ed9 kp9 dn9 => ⟨rfl, ?_⟩⟩⟩
    have s9 : Same H8 H9 := fun b o e => kp9 b o (ne_of_none e na9) (new_same na9 _ _ e)
    have fr9 := free_of S (a := a9) (o := exo a9 (A 9) none)
    have S := S.trans s9
    refine ⟨_, rfl, (by show 1 ≤ 1000; decide), fun a10 na10 => ⟨a10, v, d, rfl, upd_same, DV.mono (S.trans (new_same na10)) _ _ hv, hf, fun x10 v10 H10 nx10 ea10 ed10 kp10 dn10 => ⟨rfl, ?_⟩⟩⟩
    have s10 : Same H9 H10 := fun b o e => kp10 b o (ne_of_none e na10) (new_same na10 _ _ e)
    have fr10 := free_of S (a := a10) (o := exo a10 (A 10) none)
    have S := S.trans s10
    refine ⟨_, rfl, (by show 1 ≤ 1000; decide), fun a11 na11 => ⟨a11, v, d, rfl, upd_same, DV.mono (S.trans (new_same na11)) _ _ hv, hf, fun x11 v11 H11 nx11 ea11 ed11 kp11 dn11 => ⟨rfl, ?_⟩⟩⟩
    have s11 : Same H10 H11 := fun b o e => kp11 b o (ne_of_none e na11) (new_same na11 _ _ e)
    have fr11 := free_of S (a := a11) (o := exo a11 (A 11) none)
    have S := S.trans s11
    refine ⟨(by show 6 ≤ sizeLine; decide), fun b1 hb1 => ?_⟩
    have sL : Same L0 H11 := s6.trans (s7.trans (s8.trans (s9.trans (s10.trans s11))))
    refine ⟨l, b1, _, _, rfl, rfl, new_same hb1 _ _ (sL _ _ el), upd_same, (by show 6 + 6 ≤ sizeLine; decide), ?_⟩
    -- the list l is changed: all that is not at l stays
    have sk : ∀ b o, b ≠ l → H11 b = some o → upd (upd H11 b1 (.lst [.ref a6, .ref a7, .ref a8, .ref a9, .ref a10, .ref a11])) l (.lst ([.ref a0, .ref a1, .ref a2, .ref a3, .ref a4, .ref a5] ++ [.ref a6, .ref a7, .ref a8, .ref a9, .ref a10, .ref a11])) b = some o := fun b o bl e => by
      rw [upd_ne bl]
      exact new_same hb1 _ _ e
    have el2 : upd (upd H11 b1 (.lst [.ref a6, .ref a7, .ref a8, .ref a9, .ref a10, .ref a11])) l (.lst ([.ref a0, .ref a1, .ref a2, .ref a3, .ref a4, .ref a5] ++ [.ref a6, .ref a7, .ref a8, .ref a9, .ref a10, .ref a11])) l = some (.lst [.ref a0, .ref a1, .ref a2, .ref a3, .ref a4, .ref a5, .ref a6, .ref a7, .ref a8, .ref a9, .ref a10, .ref a11]) := upd_same
    have S : Same H (upd (upd H11 b1 (.lst [.ref a6, .ref a7, .ref a8, .ref a9, .ref a10, .ref a11])) l (.lst ([.ref a0, .ref a1, .ref a2, .ref a3, .ref a4, .ref a5] ++ [.ref a6, .ref a7, .ref a8, .ref a9, .ref a10, .ref a11]))) := fun b o e => sk b o (ne_of_none e nl) (S b o e)
    generalize upd (upd H11 b1 (.lst [.ref a6, .ref a7, .ref a8, .ref a9, .ref a10, .ref a11])) l (.lst ([.ref a0, .ref a1, .ref a2, .ref a3, .ref a4, .ref a5] ++ [.ref a6, .ref a7, .ref a8, .ref a9, .ref a10, .ref a11])) = L1 at *
    refine ⟨_, rfl, ?_⟩
    refine ⟨(by show 0 ≤ 1000; decide), fun a12 na12 => ⟨a12, rfl, upd_same, rfl, ?_⟩⟩
    have ea12 : upd L1 a12 (exo a12 (A 12) none) a12 = some (exo a12 (A 12) none) := upd_same
    have kp12 : ∀ b o, b ≠ a12 → L1 b = some o → upd L1 a12 (exo a12 (A 12) none) b = some o := fun b o _ e => new_same na12 _ _ e
    generalize hH12 : upd L1 a12 (exo a12 (A 12) none) = H12 at *
    have s12 : Same L1 H12 := fun b o e => kp12 b o (ne_of_none e na12) e
    have S := S.trans s12
    refine ⟨(by show 0 ≤ 1000; decide), fun a13 na13 => ⟨a13, rfl, upd_same, rfl, ?_⟩⟩
    have ea13 : upd H12 a13 (exo a13 (A 13) none) a13 = some (exo a13 (A 13) none) := upd_same
    have kp13 : ∀ b o, b ≠ a13 → H12 b = some o → upd H12 a13 (exo a13 (A 13) none) b = some o := fun b o _ e => new_same na13 _ _ e
    generalize hH13 : upd H12 a13 (exo a13 (A 13) none) = H13 at *
    have s13 : Same H12 H13 := fun b o e => kp13 b o (ne_of_none e na13) e
    have S := S.trans s13
    refine ⟨_, rfl, (by show 1 ≤ 1000; decide), fun a14 na14 => ⟨a14, v, d, rfl, upd_same, DV.mono (S.trans (new_same na14)) _ _ hv, hf, fun x14 v14 H14 nx14 ea14 ed14 kp14 dn14 => ⟨rfl, ?_⟩⟩⟩
    have s14 : Same H13 H14 := fun b o e => kp14 b o (ne_of_none e na14) (new_same na14 _ _ e)
    have fr14 := free_of S (a := a14) (o := exo a14 (A 14) none)
    have S := S.trans s14
    refine ⟨_, rfl, _, rfl, (by show 2 ≤ 1000; decide), fun a15 na15 => ⟨a15, v, v, d, d, rfl, upd_same, DV.mono (S.trans (new_same na15)) _ _ hv, hf, DV.mono (S.trans (new_same na15)) _ _ hv, hf, fun x15 v15 u15 H15 nx15 ea15 ed15 kp15 dn15 dm15 => ⟨rfl, ?_⟩⟩⟩
    have s15 : Same H14 H15 := fun b o e => kp15 b o (ne_of_none e na15) (new_same na15 _ _ e)
    have fr15 := free_of S (a := a15) (o := exo a15 (A 15) none)
    have S := S.trans s15
    refine ⟨(by show 4 ≤ sizeLine; decide), fun b2 hb2 => ?_⟩
    have sM : Same L1 H15 := s12.trans (s13.trans (s14.trans s15))
    refine ⟨l, b2, _, _, rfl, rfl, new_same hb2 _ _ (sM _ _ el2), upd_same, (by show 12 + 4 ≤ sizeLine; decide), fun r hr0 => ?_⟩
    have sE : Same H15 (upd (upd H15 b2 (.lst [.ref a12, .ref a13, .ref a14, .ref a15])) r (.lst ([.ref a0, .ref a1, .ref a2, .ref a3, .ref a4, .ref a5, .ref a6, .ref a7, .ref a8, .ref a9, .ref a10, .ref a11] ++ [.ref a12, .ref a13, .ref a14, .ref a15]))) := (new_same hb2).trans (new_same hr0)
    have er : upd (upd H15 b2 (.lst [.ref a12, .ref a13, .ref a14, .ref a15])) r (.lst ([.ref a0, .ref a1, .ref a2, .ref a3, .ref a4, .ref a5, .ref a6, .ref a7, .ref a8, .ref a9, .ref a10, .ref a11] ++ [.ref a12, .ref a13, .ref a14, .ref a15])) r = some (.lst (List.map V.ref [a0, a1, a2, a3, a4, a5, a6, a7, a8, a9, a10, a11, a12, a13, a14, a15])) := upd_same
    have nr : H r = none := S.free ((new_same hb2).free hr0)
    generalize upd (upd H15 b2 (.lst [.ref a12, .ref a13, .ref a14, .ref a15])) r (.lst ([.ref a0, .ref a1, .ref a2, .ref a3, .ref a4, .ref a5, .ref a6, .ref a7, .ref a8, .ref a9, .ref a10, .ref a11] ++ [.ref a12, .ref a13, .ref a14, .ref a15])) = HE at *
    have t15 := sE
    have t14 := s15.trans t15
    have t13 := s14.trans t14
    have t12 := s13.trans t13
    have tL1 := s12.trans t12
    have w11 := Same.refl H11
    have w10 := s11.trans w11
    have w9 := s10.trans w10
    have w8 := s9.trans w9
    have w7 := s8.trans w8
    have w6 := s7.trans w7
    have wL0 := s6.trans w6
    have z5 : Same H5 HE := fun b o e => tL1 b o (sk b o (ne_of_none e hl) (wL0 b o (sl b o e)))
    have z4 := s5.trans z5
    have z3 := s4.trans z4
    have z2 := s3.trans z3
    have z1 := s2.trans z2
    have z0 := s1.trans z1
    have lp6 := el
    have lp7 := s6 _ _ lp6
    have lp8 := s7 _ _ lp7
    have lp9 := s8 _ _ lp8
    have lp10 := s9 _ _ lp9
    have lp11 := s10 _ _ lp10
    refine q r [a0, a1, a2, a3, a4, a5, a6, a7, a8, a9, a10, a11, a12, a13, a14, a15] HE (S.trans sE) nr er rfl fun j a hj => ?_
    have hj' : j < 16 := (List.getElem?_eq_some_iff.mp hj).1
    rcases (show j = 0 ∨ j = 1 ∨ j = 2 ∨ j = 3 ∨ j = 4 ∨ j = 5 ∨ j = 6 ∨ j = 7 ∨ j = 8 ∨ j = 9 ∨ j = 10 ∨ j = 11 ∨ j = 12 ∨ j = 13 ∨ j = 14 ∨ j = 15 by omega) with rfl | rfl | rfl | rfl | rfl | rfl | rfl | rfl | rfl | rfl | rfl | rfl | rfl | rfl | rfl | rfl
    · obtain rfl : a0 = a := Option.some.inj hj
      exact .one ea0 ed0 nx0 dn0 fr0 (fun b o _ e => z0 b o e) rfl
    · obtain rfl : a1 = a := Option.some.inj hj
      exact .one ea1 ed1 nx1 dn1 fr1 (fun b o _ e => z1 b o e) rfl
    · obtain rfl : a2 = a := Option.some.inj hj
      exact .one ea2 ed2 nx2 dn2 fr2 (fun b o _ e => z2 b o e) rfl
    · obtain rfl : a3 = a := Option.some.inj hj
      exact .one ea3 ed3 nx3 dn3 fr3 (fun b o _ e => z3 b o e) rfl
    · obtain rfl : a4 = a := Option.some.inj hj
      exact .one ea4 ed4 nx4 dn4 fr4 (fun b o _ e => z4 b o e) rfl
    · obtain rfl : a5 = a := Option.some.inj hj
      exact .one ea5 ed5 nx5 dn5 fr5 (fun b o _ e => z5 b o e) rfl
    · obtain rfl : a6 = a := Option.some.inj hj
      exact .one ea6 ed6 nx6 dn6 fr6 (fun b o n e => tL1 b o (sk b o (not_l na6 lp6 b n) (w6 b o e))) rfl
    · obtain rfl : a7 = a := Option.some.inj hj
      exact .one ea7 ed7 nx7 dn7 fr7 (fun b o n e => tL1 b o (sk b o (not_l na7 lp7 b n) (w7 b o e))) rfl
    · obtain rfl : a8 = a := Option.some.inj hj
      exact .none (tL1 _ _ (sk _ _ (fun z => by rw [z, lp8] at na8; cases na8) (w8 _ _ ea8))) rfl
    · obtain rfl : a9 = a := Option.some.inj hj
      exact .one ea9 ed9 nx9 dn9 fr9 (fun b o n e => tL1 b o (sk b o (not_l na9 lp9 b n) (w9 b o e))) rfl
    · obtain rfl : a10 = a := Option.some.inj hj
      exact .one ea10 ed10 nx10 dn10 fr10 (fun b o n e => tL1 b o (sk b o (not_l na10 lp10 b n) (w10 b o e))) rfl
    · obtain rfl : a11 = a := Option.some.inj hj
      exact .one ea11 ed11 nx11 dn11 fr11 (fun b o n e => tL1 b o (sk b o (not_l na11 lp11 b n) (w11 b o e))) rfl
    · obtain rfl : a12 = a := Option.some.inj hj
      exact .none (t12 _ _ ea12) rfl
    · obtain rfl : a13 = a := Option.some.inj hj
      exact .none (t13 _ _ ea13) rfl
    · obtain rfl : a14 = a := Option.some.inj hj
      exact .one ea14 ed14 nx14 dn14 fr14 (fun b o _ e => t14 b o e) rfl
    · obtain rfl : a15 = a := Option.some.inj hj
      exact .two ea15 ed15 nx15 dn15 dm15 fr15 (fun b o _ e => t15 b o e) rfl
end
end K1

set_option Elab.async false
set_option linter.all false
set_option maxRecDepth 100000
set_option maxHeartbeats 16000000
namespace K1
open PySem PySem.Spec PyProof.Rows L2
/-- the errors' fields are read -/
structure No (K : PySem.W.Frag) (A : Ads) : Prop where
  x : ∀ j, j < 16 → XfC K (A j)
  no_NoKinds_row : PySem.W.findIn K (.ref (A 0)) "row" = some none
  no_NoRules_row : PySem.W.findIn K (.ref (A 1)) "row" = some none
  no_NoQuestion_at : PySem.W.findIn K (.ref (A 2)) "at" = some none
  no_NoTree_at : PySem.W.findIn K (.ref (A 3)) "at" = some none
  no_NoBundle_at : PySem.W.findIn K (.ref (A 4)) "at" = some none
  no_TooMany_word : PySem.W.findIn K (.ref (A 5)) "word" = some none
  no_TooGreat_product : PySem.W.findIn K (.ref (A 6)) "product" = some none
  no_UnknownKind_kind : PySem.W.findIn K (.ref (A 7)) "kind" = some none
  no_NoEvent_event : PySem.W.findIn K (.ref (A 9)) "event" = some none
  no_Refused_event : PySem.W.findIn K (.ref (A 10)) "event" = some none
  no_RefusedAt_at : PySem.W.findIn K (.ref (A 11)) "at" = some none
  no_NoCommand_row : PySem.W.findIn K (.ref (A 14)) "row" = some none
  no_NotPending_question : PySem.W.findIn K (.ref (A 15)) "question" = some none
  no_NotPending_mark : PySem.W.findIn K (.ref (A 15)) "mark" = some none
abbrev s_fields : Stmt := topS 24
abbrev n_fields : List Str := ["_law_value_here", "_law_other", "_law_found", "_law_one", "_law_two"]
theorem sc_fields : FnScope n_fields ["_law_value_here", "_law_other"] (defScope s_fields) := ⟨rfl, rfl, rfl, by decide +kernel, rfl, by decide +kernel, by decide +kernel⟩
def spFields (n : Nat) : Sp := fun vs H Q _ => ∃ (v u : V) (d e : PyData), vs = [v, u] ∧ DV H v d ∧ (∃ m, m + 1 = n ∧ fit m d) ∧ DV H u e ∧ (∃ m, m + 1 = n ∧ fit m e) ∧
  ∀ (t r1 r2 : Addr) (vs1 vs2 : List V) (H' : Hp), Same H H' → H' t = some (.tup [.ref r1, .ref r2]) → H' r1 = some (.lst vs1) → H' r2 = some (.lst vs2) → DVs H' vs1 (List.replicate 14 d) → DVs H' vs2 (List.replicate 2 e) → Q (.ref t) H'
section
variable {P : Program} {w : World} {K : PySem.W.Frag} {mg : Str → Option Value} {base : Heap}
theorem ok_fields {A : Ads} {n : Nat} {f : Addr} {fd : FuncData} (F : Fun K "_law_fields" "_law_fields" s_fields f fd) (TE : Er mg K A) (TX : No K A) (TM : Ms P w K mg base A n) : FnOk P w K mg base CX0 (n + 4) f fd ["_law_value_here", "_law_other"] (spFields n) := by
  obtain ⟨fI0, fdI0, M0, I0, c0⟩ := TM.m_NoKinds
  obtain ⟨fI1, fdI1, M1, I1, c1⟩ := TM.m_NoRules
  obtain ⟨fI2, fdI2, M2, I2, c2⟩ := TM.m_NoQuestion
  obtain ⟨fI3, fdI3, M3, I3, c3⟩ := TM.m_NoTree
  obtain ⟨fI4, fdI4, M4, I4, c4⟩ := TM.m_NoBundle
  obtain ⟨fI5, fdI5, M5, I5, c5⟩ := TM.m_TooMany
  obtain ⟨fI6, fdI6, M6, I6, c6⟩ := TM.m_TooGreat
  obtain ⟨fI7, fdI7, M7, I7, c7⟩ := TM.m_UnknownKind
  obtain ⟨fI8, fdI8, M8, I8, c8⟩ := TM.m_NoDocument
  obtain ⟨fI9, fdI9, M9, I9, c9⟩ := TM.m_NoEvent
  obtain ⟨fI10, fdI10, M10, I10, c10⟩ := TM.m_Refused
  obtain ⟨fI11, fdI11, M11, I11, c11⟩ := TM.m_RefusedAt
  obtain ⟨fI12, fdI12, M12, I12, c12⟩ := TM.m_Resting
  obtain ⟨fI13, fdI13, M13, I13, c13⟩ := TM.m_OtherSpace
  obtain ⟨fI14, fdI14, M14, I14, c14⟩ := TM.m_NoCommand
  obtain ⟨fI15, fdI15, M15, I15, c15⟩ := TM.m_NotPending
  refine F.ok sc_fields (fun vs H Q E h => ?_) (fun cdv Ar outer s H vs Q E hr h => ?_)
  · obtain ⟨v, u, d, e, rfl, _⟩ := h
    rfl
  · obtain ⟨v, u, d, e, rfl, hv, hf, hu, he, q⟩ := h
    refine ⟨_, (pss_cons (ps_set (i := 2) sc_fields.nd rfl (.inl rfl) (pe_lst (pa_cons (Exv.pe_att (TX.x 0 (by decide)) TX.no_NoKinds_row (Exv.pe_mkv M0 TM.k_NoKinds I0 hr c0 pass0 rfl TE.g_NoKinds (pa_cons (pv 0) pa_nil))) (pa_cons (Exv.pe_att (TX.x 1 (by decide)) TX.no_NoRules_row (Exv.pe_mkv M1 TM.k_NoRules I1 hr c1 pass0 rfl TE.g_NoRules (pa_cons (pv 0) pa_nil))) (pa_cons (Exv.pe_att (TX.x 2 (by decide)) TX.no_NoQuestion_at (Exv.pe_mkv M2 TM.k_NoQuestion I2 hr c2 pass0 rfl TE.g_NoQuestion (pa_cons (pv 0) pa_nil))) (pa_cons (Exv.pe_att (TX.x 3 (by decide)) TX.no_NoTree_at (Exv.pe_mkv M3 TM.k_NoTree I3 hr c3 pass0 rfl TE.g_NoTree (pa_cons (pv 0) pa_nil))) (pa_cons (Exv.pe_att (TX.x 4 (by decide)) TX.no_NoBundle_at (Exv.pe_mkv M4 TM.k_NoBundle I4 hr c4 pass0 rfl TE.g_NoBundle (pa_cons (pv 0) pa_nil))) pa_nil)))))))
      (pss_cons (ps_expr (pe_bm PySem.F.plainAttrs_list PySem.F.slot_list_extend PySem.F.type_list_extend mt_extend (pv 2) (pa_cons (pe_lst (pa_cons (Exv.pe_att (TX.x 5 (by decide)) TX.no_TooMany_word (Exv.pe_mkv M5 TM.k_TooMany I5 hr c5 pass0 rfl TE.g_TooMany (pa_cons (pv 0) pa_nil))) (pa_cons (Exv.pe_att (TX.x 6 (by decide)) TX.no_TooGreat_product (Exv.pe_mkv M6 TM.k_TooGreat I6 hr c6 pass0 rfl TE.g_TooGreat (pa_cons (pv 0) pa_nil))) (pa_cons (Exv.pe_att (TX.x 7 (by decide)) TX.no_UnknownKind_kind (Exv.pe_mkv M7 TM.k_UnknownKind I7 hr c7 pass0 rfl TE.g_UnknownKind (pa_cons (pv 0) pa_nil))) (pa_cons (Exv.pe_att (TX.x 9 (by decide)) TX.no_NoEvent_event (Exv.pe_mkv M9 TM.k_NoEvent I9 hr c9 pass0 rfl TE.g_NoEvent (pa_cons (pv 0) pa_nil))) pa_nil))))) pa_nil)))
      (pss_cons (ps_expr (pe_bm PySem.F.plainAttrs_list PySem.F.slot_list_extend PySem.F.type_list_extend mt_extend (pv 2) (pa_cons (pe_lst (pa_cons (Exv.pe_att (TX.x 10 (by decide)) TX.no_Refused_event (Exv.pe_mkv M10 TM.k_Refused I10 hr c10 pass0 rfl TE.g_Refused (pa_cons (pv 0) pa_nil))) (pa_cons (Exv.pe_att (TX.x 11 (by decide)) TX.no_RefusedAt_at (Exv.pe_mkv M11 TM.k_RefusedAt I11 hr c11 pass0 rfl TE.g_RefusedAt (pa_cons (pv 0) pa_nil))) (pa_cons (Exv.pe_att (TX.x 14 (by decide)) TX.no_NoCommand_row (Exv.pe_mkv M14 TM.k_NoCommand I14 hr c14 pass0 rfl TE.g_NoCommand (pa_cons (pv 0) pa_nil))) pa_nil)))) pa_nil)))
      (pss_cons (ps_par (i := 3) (j := 4) (by rfl) sc_fields.nd rfl rfl (by decide) rfl rfl (pa_cons (Exv.pe_mkv M15 TM.k_NotPending I15 hr c15 pass0 rfl TE.g_NotPending (pa_cons (pv 0) (pa_cons (pv 1) pa_nil))) (pa_cons (Exv.pe_mkv M15 TM.k_NotPending I15 hr c15 pass0 rfl TE.g_NotPending (pa_cons (pv 1) (pa_cons (pv 0) pa_nil))) pa_nil)) (by rfl))
      (pss_one (ps_ret (pe_tup (pa_cons (pe_op op_cat (pv 2) (pe_lst (pa_cons (Exv.pe_att (TX.x 15 (by decide)) TX.no_NotPending_question (pv 3)) (pa_cons (Exv.pe_att (TX.x 15 (by decide)) TX.no_NotPending_mark (pv 4)) pa_nil)))) (pa_cons (pe_lst (pa_cons (Exv.pe_att (TX.x 15 (by decide)) TX.no_NotPending_question (pv 4)) (pa_cons (Exv.pe_att (TX.x 15 (by decide)) TX.no_NotPending_mark (pv 3)) pa_nil))) pa_nil))))))))), ?_⟩
    have S := Same.refl H
    refine ⟨_, rfl, (by show 1 ≤ 1000; decide), fun a0 na0 => ⟨a0, v, d, rfl, upd_same, DV.mono (S.trans (new_same na0)) _ _ hv, hf, fun x0 v0 H0 nx0 ea0 ed0 kp0 dn0 => ⟨rfl, a0, x0, _, v0, rfl, ea0, ed0, rfl, ?_⟩⟩⟩
    have s0 : Same H H0 := fun b o e => kp0 b o (ne_of_none e na0) (new_same na0 _ _ e)
    have S := S.trans s0
    refine ⟨_, rfl, (by show 1 ≤ 1000; decide), fun a1 na1 => ⟨a1, v, d, rfl, upd_same, DV.mono (S.trans (new_same na1)) _ _ hv, hf, fun x1 v1 H1 nx1 ea1 ed1 kp1 dn1 => ⟨rfl, a1, x1, _, v1, rfl, ea1, ed1, rfl, ?_⟩⟩⟩
    have s1 : Same H0 H1 := fun b o e => kp1 b o (ne_of_none e na1) (new_same na1 _ _ e)
    have S := S.trans s1
    refine ⟨_, rfl, (by show 1 ≤ 1000; decide), fun a2 na2 => ⟨a2, v, d, rfl, upd_same, DV.mono (S.trans (new_same na2)) _ _ hv, hf, fun x2 v2 H2 nx2 ea2 ed2 kp2 dn2 => ⟨rfl, a2, x2, _, v2, rfl, ea2, ed2, rfl, ?_⟩⟩⟩
    have s2 : Same H1 H2 := fun b o e => kp2 b o (ne_of_none e na2) (new_same na2 _ _ e)
    have S := S.trans s2
    refine ⟨_, rfl, (by show 1 ≤ 1000; decide), fun a3 na3 => ⟨a3, v, d, rfl, upd_same, DV.mono (S.trans (new_same na3)) _ _ hv, hf, fun x3 v3 H3 nx3 ea3 ed3 kp3 dn3 => ⟨rfl, a3, x3, _, v3, rfl, ea3, ed3, rfl, ?_⟩⟩⟩
    have s3 : Same H2 H3 := fun b o e => kp3 b o (ne_of_none e na3) (new_same na3 _ _ e)
    have S := S.trans s3
    refine ⟨_, rfl, (by show 1 ≤ 1000; decide), fun a4 na4 => ⟨a4, v, d, rfl, upd_same, DV.mono (S.trans (new_same na4)) _ _ hv, hf, fun x4 v4 H4 nx4 ea4 ed4 kp4 dn4 => ⟨rfl, a4, x4, _, v4, rfl, ea4, ed4, rfl, ?_⟩⟩⟩
    have s4 : Same H3 H4 := fun b o e => kp4 b o (ne_of_none e na4) (new_same na4 _ _ e)
    have S := S.trans s4
    refine ⟨(by show 5 ≤ sizeLine; decide), fun l hl => ?_⟩
    have sl : Same H4 (upd H4 l (.lst [v0, v1, v2, v3, v4])) := new_same hl
    have el : upd H4 l (.lst [v0, v1, v2, v3, v4]) l = some (.lst [v0, v1, v2, v3, v4]) := upd_same
    have nl := S.free hl
    have S := S.trans sl
    generalize upd H4 l (.lst [v0, v1, v2, v3, v4]) = L0 at *
    refine ⟨_, rfl, .inl ⟨rfl, _, SqL.of el⟩, ?_⟩
    refine ⟨_, rfl, (by show 1 ≤ 1000; decide), fun a5 na5 => ⟨a5, v, d, rfl, upd_same, DV.mono (S.trans (new_same na5)) _ _ hv, hf, fun x5 v5 H5 nx5 ea5 ed5 kp5 dn5 => ⟨rfl, a5, x5, _, v5, rfl, ea5, ed5, rfl, ?_⟩⟩⟩
    have s5 : Same L0 H5 := fun b o e => kp5 b o (ne_of_none e na5) (new_same na5 _ _ e)
    have S := S.trans s5
    refine ⟨_, rfl, (by show 1 ≤ 1000; decide), fun a6 na6 => ⟨a6, v, d, rfl, upd_same, DV.mono (S.trans (new_same na6)) _ _ hv, hf, fun x6 v6 H6 nx6 ea6 ed6 kp6 dn6 => ⟨rfl, a6, x6, _, v6, rfl, ea6, ed6, rfl, ?_⟩⟩⟩
    have s6 : Same H5 H6 := fun b o e => kp6 b o (ne_of_none e na6) (new_same na6 _ _ e)
    have S := S.trans s6
    refine ⟨_, rfl, (by show 1 ≤ 1000; decide), fun a7 na7 => ⟨a7, v, d, rfl, upd_same, DV.mono (S.trans (new_same na7)) _ _ hv, hf, fun x7 v7 H7 nx7 ea7 ed7 kp7 dn7 => ⟨rfl, a7, x7, _, v7, rfl, ea7, ed7, rfl, ?_⟩⟩⟩
    have s7 : Same H6 H7 := fun b o e => kp7 b o (ne_of_none e na7) (new_same na7 _ _ e)
    have S := S.trans s7
    refine ⟨_, rfl, (by show 1 ≤ 1000; decide), fun a9 na9 => ⟨a9, v, d, rfl, upd_same, DV.mono (S.trans (new_same na9)) _ _ hv, hf, fun x9 v9 H9 nx9 ea9 ed9 kp9 dn9 => ⟨rfl, a9, x9, _, v9, rfl, ea9, ed9, rfl, ?_⟩⟩⟩
    have s9 : Same H7 H9 := fun b o e => kp9 b o (ne_of_none e na9) (new_same na9 _ _ e)
    have S := S.trans s9
    refine ⟨(by show 4 ≤ sizeLine; decide), fun b1 hb1 => ?_⟩
    have sL1 : Same L0 H9 := s5.trans (s6.trans (s7.trans s9))
    refine ⟨l, b1, _, _, rfl, rfl, new_same hb1 _ _ (sL1 _ _ el), upd_same, (by show 5 + 4 ≤ sizeLine; decide), ?_⟩
    have sk1 : ∀ b o, b ≠ l → H9 b = some o → upd (upd H9 b1 (.lst [v5, v6, v7, v9])) l (.lst ([v0, v1, v2, v3, v4] ++ [v5, v6, v7, v9])) b = some o := fun b o bl e => by
      rw [upd_ne bl]
      exact new_same hb1 _ _ e
    have el2 : upd (upd H9 b1 (.lst [v5, v6, v7, v9])) l (.lst ([v0, v1, v2, v3, v4] ++ [v5, v6, v7, v9])) l = some (.lst [v0, v1, v2, v3, v4, v5, v6, v7, v9]) := upd_same
    have S : Same H (upd (upd H9 b1 (.lst [v5, v6, v7, v9])) l (.lst ([v0, v1, v2, v3, v4] ++ [v5, v6, v7, v9]))) := fun b o e => sk1 b o (ne_of_none e nl) (S b o e)
    generalize upd (upd H9 b1 (.lst [v5, v6, v7, v9])) l (.lst ([v0, v1, v2, v3, v4] ++ [v5, v6, v7, v9])) = L1 at *
    refine ⟨_, rfl, .inl ⟨rfl, _, SqL.of el2⟩, ?_⟩
    refine ⟨_, rfl, (by show 1 ≤ 1000; decide), fun a10 na10 => ⟨a10, v, d, rfl, upd_same, DV.mono (S.trans (new_same na10)) _ _ hv, hf, fun x10 v10 H10 nx10 ea10 ed10 kp10 dn10 => ⟨rfl, a10, x10, _, v10, rfl, ea10, ed10, rfl, ?_⟩⟩⟩
    have s10 : Same L1 H10 := fun b o e => kp10 b o (ne_of_none e na10) (new_same na10 _ _ e)
    have S := S.trans s10
    refine ⟨_, rfl, (by show 1 ≤ 1000; decide), fun a11 na11 => ⟨a11, v, d, rfl, upd_same, DV.mono (S.trans (new_same na11)) _ _ hv, hf, fun x11 v11 H11 nx11 ea11 ed11 kp11 dn11 => ⟨rfl, a11, x11, _, v11, rfl, ea11, ed11, rfl, ?_⟩⟩⟩
    have s11 : Same H10 H11 := fun b o e => kp11 b o (ne_of_none e na11) (new_same na11 _ _ e)
    have S := S.trans s11
    refine ⟨_, rfl, (by show 1 ≤ 1000; decide), fun a14 na14 => ⟨a14, v, d, rfl, upd_same, DV.mono (S.trans (new_same na14)) _ _ hv, hf, fun x14 v14 H14 nx14 ea14 ed14 kp14 dn14 => ⟨rfl, a14, x14, _, v14, rfl, ea14, ed14, rfl, ?_⟩⟩⟩
    have s14 : Same H11 H14 := fun b o e => kp14 b o (ne_of_none e na14) (new_same na14 _ _ e)
    have S := S.trans s14
    refine ⟨(by show 3 ≤ sizeLine; decide), fun b2 hb2 => ?_⟩
    have sL2 : Same L1 H14 := s10.trans (s11.trans s14)
    refine ⟨l, b2, _, _, rfl, rfl, new_same hb2 _ _ (sL2 _ _ el2), upd_same, (by show 9 + 3 ≤ sizeLine; decide), ?_⟩
    have sk2 : ∀ b o, b ≠ l → H14 b = some o → upd (upd H14 b2 (.lst [v10, v11, v14])) l (.lst ([v0, v1, v2, v3, v4, v5, v6, v7, v9] ++ [v10, v11, v14])) b = some o := fun b o bl e => by
      rw [upd_ne bl]
      exact new_same hb2 _ _ e
    have el3 : upd (upd H14 b2 (.lst [v10, v11, v14])) l (.lst ([v0, v1, v2, v3, v4, v5, v6, v7, v9] ++ [v10, v11, v14])) l = some (.lst [v0, v1, v2, v3, v4, v5, v6, v7, v9, v10, v11, v14]) := upd_same
    have S : Same H (upd (upd H14 b2 (.lst [v10, v11, v14])) l (.lst ([v0, v1, v2, v3, v4, v5, v6, v7, v9] ++ [v10, v11, v14]))) := fun b o e => sk2 b o (ne_of_none e nl) (S b o e)
    generalize upd (upd H14 b2 (.lst [v10, v11, v14])) l (.lst ([v0, v1, v2, v3, v4, v5, v6, v7, v9] ++ [v10, v11, v14])) = L2 at *
    refine ⟨_, rfl, _, rfl, (by show 2 ≤ 1000; decide), fun aA naA => ⟨aA, v, u, d, e, rfl, upd_same, DV.mono (S.trans (new_same naA)) _ _ hv, hf, DV.mono (S.trans (new_same naA)) _ _ hu, he, fun xA pA qA HA nxA eaA edA kpA dnA dmA => ⟨rfl, ?_⟩⟩⟩
    have sA : Same L2 HA := fun b o e => kpA b o (ne_of_none e naA) (new_same naA _ _ e)
    have S := S.trans sA
    refine ⟨_, rfl, _, rfl, (by show 2 ≤ 1000; decide), fun aB naB => ⟨aB, u, v, e, d, rfl, upd_same, DV.mono (S.trans (new_same naB)) _ _ hu, he, DV.mono (S.trans (new_same naB)) _ _ hv, hf, fun xB pB qB HB nxB eaB edB kpB dnB dmB => ⟨rfl, ?_⟩⟩⟩
    have sB : Same HA HB := fun b o e => kpB b o (ne_of_none e naB) (new_same naB _ _ e)
    have S := S.trans sB
    refine ⟨_, _, rfl, ?_⟩
    -- (found + [one.question, two.mark], [two.question, one.mark])
    have eaA' := sB _ _ eaA
    have edA' := sB _ _ edA
    refine ⟨_, rfl, _, rfl, aA, xA, _, pA, rfl, eaA', edA', rfl, ?_⟩
    refine ⟨_, rfl, aB, xB, _, qB, rfl, eaB, edB, rfl, ?_⟩
    refine ⟨(by show 2 ≤ sizeLine; decide), fun b3 hb3 => ?_⟩
    have elB := sB _ _ (sA _ _ el3)
    refine ⟨l, b3, _, _, rfl, rfl, new_same hb3 _ _ elB, upd_same, (by show 12 + 2 ≤ sizeLine; decide), fun r1 hr1 => ?_⟩
    have sC := (new_same (o := .lst [pA, qB]) hb3).trans (new_same (o := .lst ([v0, v1, v2, v3, v4, v5, v6, v7, v9, v10, v11, v14] ++ [pA, qB])) hr1)
    refine ⟨_, rfl, aB, xB, _, pB, rfl, sC _ _ eaB, sC _ _ edB, rfl, ?_⟩
    refine ⟨_, rfl, aA, xA, _, qA, rfl, sC _ _ eaA', sC _ _ edA', rfl, ?_⟩
    refine ⟨(by show 2 ≤ sizeLine; decide), fun r2 hr2 => ?_⟩
    refine ⟨(by show 2 ≤ sizeLine; decide), fun t ht => ?_⟩
    have sD := sC.trans ((new_same (o := .lst [pB, qA]) hr2).trans (new_same (o := .tup [.ref r1, .ref r2]) ht))
    have sE := sA.trans (sB.trans sD)
    have er1 := (new_same (o := .lst [pB, qA]) hr2).trans (new_same (o := .tup [.ref r1, .ref r2]) ht) r1 (.lst ([v0, v1, v2, v3, v4, v5, v6, v7, v9, v10, v11, v14] ++ [pA, qB])) upd_same
    have er2 := new_same (o := .tup [.ref r1, .ref r2]) ht r2 (.lst [pB, qA]) upd_same
    have et : upd (upd (upd (upd HB b3 (.lst [pA, qB])) r1 (.lst ([v0, v1, v2, v3, v4, v5, v6, v7, v9, v10, v11, v14] ++ [pA, qB]))) r2 (.lst [pB, qA])) t (.tup [.ref r1, .ref r2]) t = some (.tup [.ref r1, .ref r2]) := upd_same
    generalize upd (upd (upd (upd HB b3 (.lst [pA, qB])) r1 (.lst ([v0, v1, v2, v3, v4, v5, v6, v7, v9, v10, v11, v14] ++ [pA, qB]))) r2 (.lst [pB, qA])) t (.tup [.ref r1, .ref r2]) = HE at *
    have w14 := Same.refl H14
    have w11 := s14.trans w14
    have w10 := s11.trans w11
    have wL1 := s10.trans w10
    have y9 := Same.refl H9
    have y7 := s9.trans y9
    have y6 := s7.trans y7
    have y5 := s6.trans y6
    have yL0 := s5.trans y5
    have g9 : ∀ b o, b ≠ l → H9 b = some o → HE b = some o := fun b o bl e => sE b o (sk2 b o bl (wL1 b o (sk1 b o bl e)))
    have x4 : Same H4 HE := fun b o e => g9 b o (ne_of_none e hl) (yL0 b o (sl b o e))
    have x3 := s4.trans x4
    have x2' := s3.trans x3
    have x1' := s2.trans x2'
    have x0' := s1.trans x1'
    have lp5 := el
    have lp6 := s5 _ _ lp5
    have lp7 := s6 _ _ lp6
    have lp9 := s7 _ _ lp7
    have lp10 := el2
    have lp11 := s10 _ _ lp10
    have lp14 := s11 _ _ lp11
    have D0 := dn0.to (H2 := HE) fun b o _ e => x0' b o e
    have D1 := dn1.to (H2 := HE) fun b o _ e => x1' b o e
    have D2 := dn2.to (H2 := HE) fun b o _ e => x2' b o e
    have D3 := dn3.to (H2 := HE) fun b o _ e => x3 b o e
    have D4 := dn4.to (H2 := HE) fun b o _ e => x4 b o e
    have D5 := dn5.to (H2 := HE) fun b o n e => g9 b o (not_l na5 lp5 b (.inl n)) (y5 b o e)
    have D6 := dn6.to (H2 := HE) fun b o n e => g9 b o (not_l na6 lp6 b (.inl n)) (y6 b o e)
    have D7 := dn7.to (H2 := HE) fun b o n e => g9 b o (not_l na7 lp7 b (.inl n)) (y7 b o e)
    have D9 := dn9.to (H2 := HE) fun b o n e => g9 b o (not_l na9 lp9 b (.inl n)) (y9 b o e)
    have D10 := dn10.to (H2 := HE) fun b o n e => sE b o (sk2 b o (not_l na10 lp10 b (.inl n)) (w10 b o e))
    have D11 := dn11.to (H2 := HE) fun b o n e => sE b o (sk2 b o (not_l na11 lp11 b (.inl n)) (w11 b o e))
    have D14 := dn14.to (H2 := HE) fun b o n e => sE b o (sk2 b o (not_l na14 lp14 b (.inl n)) (w14 b o e))
    have sAE := sB.trans sD
    have DpA := dnA.to (H2 := HE) fun b o _ e => sAE b o e
    have DqA := dmA.to (H2 := HE) fun b o _ e => sAE b o e
    have DpB := dnB.to (H2 := HE) fun b o _ e => sD b o e
    have DqB := dmB.to (H2 := HE) fun b o _ e => sD b o e
    exact q t r1 r2 _ _ HE (S.trans sD) et er1 er2 (.cons D0 (.cons D1 (.cons D2 (.cons D3 (.cons D4 (.cons D5 (.cons D6 (.cons D7 (.cons D9 (.cons D10 (.cons D11 (.cons D14 (.cons DpA (.cons DqB .nil)))))))))))))) (.cons DpB (.cons DqA .nil))
end
end K1

set_option Elab.async false
set_option linter.all false
set_option maxRecDepth 100000
set_option maxHeartbeats 16000000
namespace K1
open PySem PySem.Spec PyProof.Rows L2
/-- the j-th error at a, its fields say d now -/
def ErrR (A : Ads) (H : Hp) (a : Addr) (j : Nat) (d : PyData) : Prop := ∃ (dd : Option Addr) (fs : List (Str × V)), H a = some (exo a (A j) dd) ∧ fs.map (·.1) = fldsOf j ∧ (∀ p ∈ fs, DV H p.2 d) ∧
  ((dd = none ∧ fs = []) ∨ ∃ x, dd = some x ∧ H x = some (exd x fs))
theorem ErrR.one {A : Ads} {H : Hp} {a : Addr} {j : Nat} {d : PyData} {f : Str} (h : ErrR A H a j d) (hf : fldsOf j = [f]) : ∃ x v, H a = some (exo a (A j) (some x)) ∧ H x = some (exd x [(f, v)]) ∧ DV H v d := by
  obtain ⟨dd, fs, e, hm, hv, hd⟩ := h
  rw [hf] at hm
  match fs, hm with
  | [(g, v)], hm =>
    obtain rfl : g = f := List.head_eq_of_cons_eq hm
    rcases hd with ⟨_, z⟩ | ⟨x, rfl, ex⟩
    · cases z
    · exact ⟨x, v, e, ex, hv _ (List.mem_cons_self ..)⟩
theorem ErrR.two {A : Ads} {H : Hp} {a : Addr} {j : Nat} {d : PyData} {f g : Str} (h : ErrR A H a j d) (hf : fldsOf j = [g, f]) : ∃ x v u, H a = some (exo a (A j) (some x)) ∧ H x = some (exd x [(g, u), (f, v)]) ∧ DV H v d ∧ DV H u d := by
  obtain ⟨dd, fs, e, hm, hv, hd⟩ := h
  rw [hf] at hm
  match fs, hm with
  | [(g', u), (f', v)], hm =>
    obtain rfl : g' = g := List.head_eq_of_cons_eq hm
    obtain rfl : f' = f := List.head_eq_of_cons_eq (List.tail_eq_of_cons_eq hm)
    rcases hd with ⟨_, z⟩ | ⟨x, rfl, ex⟩
    · cases z
    · exact ⟨x, v, u, e, ex, hv (_, v) (List.mem_cons_of_mem _ (List.mem_cons_self ..)), hv (_, u) (List.mem_cons_self ..)⟩
abbrev s_kept_of : Stmt := topS 25
abbrev n_kept_of : List Str := ["_law_errors", "_law_found"]
theorem sc_kept_of : FnScope n_kept_of ["_law_errors"] (defScope s_kept_of) := ⟨rfl, rfl, rfl, by decide +kernel, rfl, by decide +kernel, by decide +kernel⟩
def spKept (A : Ads) : Sp := fun vs H Q _ => ∃ (r : Addr) (as : List Addr) (d : PyData), vs = [.ref r] ∧ H r = some (.lst (as.map V.ref)) ∧ as.length = 16 ∧ (∀ j a, as[j]? = some a → ErrR A H a j d) ∧
  ∀ (r' : Addr) (vs' : List V) (H' : Hp), Same H H' → H' r' = some (.lst vs') → DVs H' vs' (List.replicate 14 d) → Q (.ref r') H'
section
variable {P : Program} {w : World} {K : PySem.W.Frag} {mg : Str → Option Value} {base : Heap}
theorem ok_kept {A : Ads} {f : Addr} {fd : FuncData} (F : Fun K "_law_kept_of" "_law_kept_of" s_kept_of f fd) (TX : No K A) : FnOk P w K mg base CX0 1 f fd ["_law_errors"] (spKept A) := by
  refine F.ok sc_kept_of (fun vs H Q E h => ?_) (fun cdv Ar outer s H vs Q E hr h => ?_)
  · obtain ⟨r, as, d, rfl, _⟩ := h
    rfl
  · obtain ⟨r, as, d, rfl, er, hlen, hE, q⟩ := h
    obtain ⟨a0, a1, a2, a3, a4, a5, a6, a7, a8, a9, a10, a11, a12, a13, a14, a15, rfl⟩ : ∃ a0 a1 a2 a3 a4 a5 a6 a7 a8 a9 a10 a11 a12 a13 a14 a15, as = [a0, a1, a2, a3, a4, a5, a6, a7, a8, a9, a10, a11, a12, a13, a14, a15] := by
      match as, hlen with
      | [a0, a1, a2, a3, a4, a5, a6, a7, a8, a9, a10, a11, a12, a13, a14, a15], _ => exact ⟨a0, a1, a2, a3, a4, a5, a6, a7, a8, a9, a10, a11, a12, a13, a14, a15, rfl⟩
    obtain ⟨x0, v0, ea0, ed0, dv0⟩ := (hE 0 a0 rfl).one (f := "row") rfl
    obtain ⟨x1, v1, ea1, ed1, dv1⟩ := (hE 1 a1 rfl).one (f := "row") rfl
    obtain ⟨x2, v2, ea2, ed2, dv2⟩ := (hE 2 a2 rfl).one (f := "at") rfl
    obtain ⟨x3, v3, ea3, ed3, dv3⟩ := (hE 3 a3 rfl).one (f := "at") rfl
    obtain ⟨x4, v4, ea4, ed4, dv4⟩ := (hE 4 a4 rfl).one (f := "at") rfl
    obtain ⟨x5, v5, ea5, ed5, dv5⟩ := (hE 5 a5 rfl).one (f := "word") rfl
    obtain ⟨x6, v6, ea6, ed6, dv6⟩ := (hE 6 a6 rfl).one (f := "product") rfl
    obtain ⟨x7, v7, ea7, ed7, dv7⟩ := (hE 7 a7 rfl).one (f := "kind") rfl
    obtain ⟨x9, v9, ea9, ed9, dv9⟩ := (hE 9 a9 rfl).one (f := "event") rfl
    obtain ⟨x10, v10, ea10, ed10, dv10⟩ := (hE 10 a10 rfl).one (f := "event") rfl
    obtain ⟨x11, v11, ea11, ed11, dv11⟩ := (hE 11 a11 rfl).one (f := "at") rfl
    obtain ⟨x14, v14, ea14, ed14, dv14⟩ := (hE 14 a14 rfl).one (f := "row") rfl
    obtain ⟨x15, v15, u15, ea15, ed15, dv15, du15⟩ := (hE 15 a15 rfl).two (g := "mark") (f := "question") rfl
    refine ⟨_, (pss_cons (ps_set (i := 1) sc_kept_of.nd rfl (.inl rfl) (pe_lst (pa_cons (Exv.pe_att (TX.x 0 (by decide)) TX.no_NoKinds_row (pe_ix ix_list (pv 0) pe_int (fun _ _ => rfl))) (pa_cons (Exv.pe_att (TX.x 1 (by decide)) TX.no_NoRules_row (pe_ix ix_list (pv 0) pe_int (fun _ _ => rfl))) (pa_cons (Exv.pe_att (TX.x 2 (by decide)) TX.no_NoQuestion_at (pe_ix ix_list (pv 0) pe_int (fun _ _ => rfl))) (pa_cons (Exv.pe_att (TX.x 3 (by decide)) TX.no_NoTree_at (pe_ix ix_list (pv 0) pe_int (fun _ _ => rfl))) (pa_cons (Exv.pe_att (TX.x 4 (by decide)) TX.no_NoBundle_at (pe_ix ix_list (pv 0) pe_int (fun _ _ => rfl))) (pa_cons (Exv.pe_att (TX.x 5 (by decide)) TX.no_TooMany_word (pe_ix ix_list (pv 0) pe_int (fun _ _ => rfl))) pa_nil))))))))
      (pss_cons (ps_expr (pe_bm PySem.F.plainAttrs_list PySem.F.slot_list_extend PySem.F.type_list_extend mt_extend (pv 1) (pa_cons (pe_lst (pa_cons (Exv.pe_att (TX.x 6 (by decide)) TX.no_TooGreat_product (pe_ix ix_list (pv 0) pe_int (fun _ _ => rfl))) (pa_cons (Exv.pe_att (TX.x 7 (by decide)) TX.no_UnknownKind_kind (pe_ix ix_list (pv 0) pe_int (fun _ _ => rfl))) (pa_cons (Exv.pe_att (TX.x 9 (by decide)) TX.no_NoEvent_event (pe_ix ix_list (pv 0) pe_int (fun _ _ => rfl))) (pa_cons (Exv.pe_att (TX.x 10 (by decide)) TX.no_Refused_event (pe_ix ix_list (pv 0) pe_int (fun _ _ => rfl))) (pa_cons (Exv.pe_att (TX.x 11 (by decide)) TX.no_RefusedAt_at (pe_ix ix_list (pv 0) pe_int (fun _ _ => rfl))) pa_nil)))))) pa_nil)))
      (pss_one (ps_ret (pe_op op_cat (pv 1) (pe_lst (pa_cons (Exv.pe_att (TX.x 14 (by decide)) TX.no_NoCommand_row (pe_ix ix_list (pv 0) pe_int (fun _ _ => rfl))) (pa_cons (Exv.pe_att (TX.x 15 (by decide)) TX.no_NotPending_question (pe_ix ix_list (pv 0) pe_int (fun _ _ => rfl))) (pa_cons (Exv.pe_att (TX.x 15 (by decide)) TX.no_NotPending_mark (pe_ix ix_list (pv 0) pe_int (fun _ _ => rfl))) pa_nil))))))))), ?_⟩
    refine ⟨_, rfl, r, _, _, .ref a0, rfl, rfl, SqL.of er, rfl, a0, x0, _, v0, rfl, ea0, ed0, rfl, ?_⟩
    refine ⟨_, rfl, r, _, _, .ref a1, rfl, rfl, SqL.of er, rfl, a1, x1, _, v1, rfl, ea1, ed1, rfl, ?_⟩
    refine ⟨_, rfl, r, _, _, .ref a2, rfl, rfl, SqL.of er, rfl, a2, x2, _, v2, rfl, ea2, ed2, rfl, ?_⟩
    refine ⟨_, rfl, r, _, _, .ref a3, rfl, rfl, SqL.of er, rfl, a3, x3, _, v3, rfl, ea3, ed3, rfl, ?_⟩
    refine ⟨_, rfl, r, _, _, .ref a4, rfl, rfl, SqL.of er, rfl, a4, x4, _, v4, rfl, ea4, ed4, rfl, ?_⟩
    refine ⟨_, rfl, r, _, _, .ref a5, rfl, rfl, SqL.of er, rfl, a5, x5, _, v5, rfl, ea5, ed5, rfl, ?_⟩
    refine ⟨(by show 6 ≤ sizeLine; decide), fun l hl => ?_⟩
    have s1 := new_same (o := .lst [v0, v1, v2, v3, v4, v5]) hl
    have el : upd H l (.lst [v0, v1, v2, v3, v4, v5]) l = some (.lst [v0, v1, v2, v3, v4, v5]) := upd_same
    refine ⟨_, rfl, .inl ⟨rfl, _, SqL.of el⟩, ?_⟩
    refine ⟨_, rfl, r, _, _, .ref a6, rfl, rfl, SqL.of (s1 _ _ er), rfl, a6, x6, _, v6, rfl, (s1 _ _ ea6), (s1 _ _ ed6), rfl, ?_⟩
    refine ⟨_, rfl, r, _, _, .ref a7, rfl, rfl, SqL.of (s1 _ _ er), rfl, a7, x7, _, v7, rfl, (s1 _ _ ea7), (s1 _ _ ed7), rfl, ?_⟩
    refine ⟨_, rfl, r, _, _, .ref a9, rfl, rfl, SqL.of (s1 _ _ er), rfl, a9, x9, _, v9, rfl, (s1 _ _ ea9), (s1 _ _ ed9), rfl, ?_⟩
    refine ⟨_, rfl, r, _, _, .ref a10, rfl, rfl, SqL.of (s1 _ _ er), rfl, a10, x10, _, v10, rfl, (s1 _ _ ea10), (s1 _ _ ed10), rfl, ?_⟩
    refine ⟨_, rfl, r, _, _, .ref a11, rfl, rfl, SqL.of (s1 _ _ er), rfl, a11, x11, _, v11, rfl, (s1 _ _ ea11), (s1 _ _ ed11), rfl, ?_⟩
    refine ⟨(by show 5 ≤ sizeLine; decide), fun b hb => ?_⟩
    refine ⟨l, b, _, _, rfl, rfl, new_same hb _ _ el, upd_same, (by show 6 + 5 ≤ sizeLine; decide), ?_⟩
    have s2 : Same H (upd (upd (upd H l (.lst [v0, v1, v2, v3, v4, v5])) b (.lst [v6, v7, v9, v10, v11])) l (.lst ([v0, v1, v2, v3, v4, v5] ++ [v6, v7, v9, v10, v11]))) := fun x o e => by
      rw [upd_ne (ne_of_none e hl)]
      exact new_same hb _ _ (s1 _ _ e)
    have el2 : upd (upd (upd H l (.lst [v0, v1, v2, v3, v4, v5])) b (.lst [v6, v7, v9, v10, v11])) l (.lst ([v0, v1, v2, v3, v4, v5] ++ [v6, v7, v9, v10, v11])) l = some (.lst [v0, v1, v2, v3, v4, v5, v6, v7, v9, v10, v11]) := upd_same
    generalize upd (upd (upd H l (.lst [v0, v1, v2, v3, v4, v5])) b (.lst [v6, v7, v9, v10, v11])) l (.lst ([v0, v1, v2, v3, v4, v5] ++ [v6, v7, v9, v10, v11])) = H2 at *
    refine ⟨_, rfl, ?_⟩
    refine ⟨_, rfl, r, _, _, .ref a14, rfl, rfl, SqL.of (s2 _ _ er), rfl, a14, x14, _, v14, rfl, (s2 _ _ ea14), (s2 _ _ ed14), rfl, ?_⟩
    refine ⟨_, rfl, r, _, _, .ref a15, rfl, rfl, SqL.of (s2 _ _ er), rfl, a15, x15, _, v15, rfl, (s2 _ _ ea15), (s2 _ _ ed15), rfl, ?_⟩
    refine ⟨_, rfl, r, _, _, .ref a15, rfl, rfl, SqL.of (s2 _ _ er), rfl, a15, x15, _, u15, rfl, (s2 _ _ ea15), (s2 _ _ ed15), rfl, ?_⟩
    refine ⟨(by show 3 ≤ sizeLine; decide), fun b2 hb2 => ?_⟩
    refine ⟨l, b2, _, _, rfl, rfl, new_same hb2 _ _ el2, upd_same, (by show 11 + 3 ≤ sizeLine; decide), fun r2 hr2 => ?_⟩
    have s3 := s2.trans ((new_same (o := .lst [v14, v15, u15]) hb2).trans (new_same (o := .lst ([v0, v1, v2, v3, v4, v5, v6, v7, v9, v10, v11] ++ [v14, v15, u15])) hr2))
    have up : ∀ {v : V}, DV H v d → _ := fun {v} h => DV.mono s3 d v h
    exact q r2 _ _ s3 upd_same (.cons (up dv0) (.cons (up dv1) (.cons (up dv2) (.cons (up dv3) (.cons (up dv4) (.cons (up dv5) (.cons (up dv6) (.cons (up dv7) (.cons (up dv9) (.cons (up dv10) (.cons (up dv11) (.cons (up dv14) (.cons (up dv15) (.cons (up du15) .nil))))))))))))))
end
end K1

set_option Elab.async false
set_option linter.all false
set_option maxRecDepth 100000
set_option maxHeartbeats 4000000
/-! several except clauses, with names and without -/
namespace Tr
open PySem PySem.Spec PyProof.Rows L2
abbrev Cl := Value × Option Nat × (Addr → Value → Option Addr → TS)
/-- the ends behind a suite whose name stood in slot i -/
def ends (D : Ends) : Option Nat → Ends
  | none => D
  | some i => { nx := fun σ' H' => D.nx (σ'.set i none) H', rt := D.rt, bk := fun σ' H' => D.bk (σ'.set i none) H', ct := fun σ' H' => D.ct (σ'.set i none) H' }
def named (σ : L2.St) (a : Addr) : Option Nat → L2.St
  | none => σ
  | some i => σ.set i (some (.ref a))
def wMix (K : PySem.W.Frag) (Wout : WX) (D : Ends) : List Cl → WX
  | [] => Wout
  | (c, n, ts) :: r => fun cls d σ H => ∃ b, PySem.W.exmOne K cls c = some b ∧ (b = true → ∀ a, H a = none → ts a cls d (ends D n) (named σ a n) H) ∧ (b = false → wMix K Wout D r cls d σ H)
inductive HdX (X : Cx) : List ExceptHandler → List Cl → Prop
  | nil : HdX X [] []
  | plain {x : Str} {c : Value} {ts : Addr → Value → Option Addr → TS} {b0 : Stmt} {suite : List Stmt} {np pos' : Pos} {hds : List ExceptHandler} {l : List Cl} (hc : Names X x c)
      (hsu : ∀ (a : Addr) (oe : Obj) (cls : Value) (d : Option Addr) (pn : List (Addr × Obj)), Zc cls d oe → (∃ vs, oe.data = .fields vs) → PSs (X.suite a ((a, oe) :: pn)) (b0 :: suite) (ts a cls d)) (r : HdX X hds l) :
      HdX X (.ExceptHandler (some (.Name x np)) none (b0 :: suite) pos' :: hds) ((c, none, ts) :: l)
  | as {x n : Str} {i : Nat} {c : Value} {ts : Addr → Value → Option Addr → TS} {b0 : Stmt} {suite : List Stmt} {np pos' : Pos} {hds : List ExceptHandler} {l : List Cl} (hN : X.N.Nodup) (hi : X.N[i]? = some n) (hln : X.env.kindOf n = some .local) (hc : Names X x c)
      (hsu : ∀ (a : Addr) (oe : Obj) (cls : Value) (d : Option Addr) (pn : List (Addr × Obj)), Zc cls d oe → (∃ vs, oe.data = .fields vs) → PSs (X.suite a ((a, oe) :: pn)) (b0 :: suite) (ts a cls d)) (r : HdX X hds l) :
      HdX X (.ExceptHandler (some (.Name x np)) (some n) (b0 :: suite) pos' :: hds) ((c, some i, ts) :: l)
section
variable {X : Cx} {body : List Stmt} {h0 : ExceptHandler} {hds : List ExceptHandler} {l : List Cl} {pos : Pos} {tb : WX → TS} {Wout : WX}
theorem ps_try_mix (hs : X.stack = X.env :: X.outer) (hf : X.env.frame = some X.env.locals) (tk : Takes X Wout)
    (hb : ∀ (W : WX) (pn : List (Addr × Obj)) (xe : Value → Shared → Prop), Takes (X.tr pn xe) W → PassesOwn (model X.prog X.w) X.A X.env xe → PSs (X.tr pn xe) body (tb W))
    (hh : HdX X (h0 :: hds) l) : PS X (.Try body (h0 :: hds) [] [] pos) (fun D σ H => tb (wMix X.K Wout D l) D σ H) := by
  refine ⟨fun pins s σ H D I h => wpAny_Try_except ?_⟩
  have ok := I.ok
  have hfr : X.A.frames = some (X.env :: X.outer) := by rw [ok.frames, hs]
  refine wpAny_mono ((hb (wMix X.K Wout D l) (X.pn ++ pins) (fun e t1 => wpAny (model X.prog X.w) X.A (noteFrame e X.env) (fun _ t2 => wpAny (model X.prog X.w) X.A (setFlight e none) (fun _ t3 =>
    wpAny (model X.prog X.w) X.A (handleBy e X.env (h0 :: hds)) (SP X pins D) X.xe t3) X.xe t2) X.xe t1) (fun u s' xx => ?_) PassesOwn.looking).run [] s σ H D (I.toTry _) h) (fun f s1 hsp => ?_) (fun _ _ he => he)
  · obtain ⟨a, B, sI, pins', σ', H', cls, d, rfl, J', nb, up, sky, na, os, ag, w⟩ := xx
    have J : Inv X pins σ' H' sI := J'.ofTry ok
    have sky2 : Sky B (X.env :: X.outer) a (Zc cls d) X.env.locals s'.heap := by
      rw [← hs]
      exact sky
    show wpAny (model X.prog X.w) X.A (noteFrame (.ref a) X.env) _ _ _
    refine Sky.land Zc.steady hfr hf sky2 fun h3 fl3 up3 => ?_
    have J3 : Inv X pins σ' H' { s' with heap := h3 } := J.landed nb fl3.1 (up.trans up3) os ag
    obtain ⟨oe3, vs3, he3, hz3, hd3⟩ := fl3.there
    have off : a ∉ frs (X.env :: X.outer) := fun hm => by
      obtain ⟨_, o', e', hnf⟩ := fl3.2.2.1.mem hm
      rw [he3] at e'
      cases e'
      exact hnf _ hd3
    have nL : a ≠ X.env.locals := fun z => off (List.mem_filterMap.mpr ⟨X.env, List.mem_cons_self, by rw [hf, z]⟩)
    have nF : a ∉ X.fs := fun hm => by
      obtain ⟨e, he, q⟩ := List.mem_filterMap.mp hm
      exact off (List.mem_filterMap.mpr ⟨e, List.mem_cons_of_mem _ he, q⟩)
    have S3 := J3.suite he3 hd3 na nL nF
    have LT : PySem.W.Looks (model X.prog X.w) h3 (typeOf (.ref a)) cls := fun A Q E s k q => wpAny_typeOf_ref (k _ _ he3) (by rw [hz3.1]; exact q)
    have look : ∀ {x : Str} {c : Value} {np : Pos}, Names X x c → ∀ {Q : Value → Shared → Prop} {E : Value → Shared → Prop}, Q c { s' with heap := h3 } →
        wpAny (model X.prog X.w) (X.A.mark (some (.ref a))) (eval (.Name x np) X.env) Q E { s' with heap := h3 } := fun {x c np} hc {Q E} q => by
      obtain ⟨hg, hdbg, hm | ⟨hm, hv, hnn⟩⟩ := hc
      · exact ld_glob (X := X.suite a ((a, oe3) :: (X.pn ++ pins))) S3 hg hm q hdbg
      · exact ld_blt (X := X.suite a ((a, oe3) :: (X.pn ++ pins))) S3 hg hm hv q hnn hdbg
    have go : ∀ {hds' : List ExceptHandler} {l' : List Cl}, HdX X hds' l' → wMix X.K Wout D l' cls d σ' H' →
        wpAny (model X.prog X.w) X.A (handleBy (.ref a) X.env hds') (SP X pins D) X.xe { s' with heap := h3 } := by
      intro hds' l' hk
      induction hk with
      | nil =>
        intro w
        refine wpAny_handleBy_nil ?_
        obtain ⟨k1, k2, k3, oe, vs, T, oT, ts', he, hz, hd, h1, hr⟩ := id fl3
        unfold PySem.passOn
        refine wpAny_bind (wpAny_field he hd h1 ?_)
        rw [if_neg (show ¬ ((Value.ref T == Value.none) = true) from by simp)]
        have fin : wpAny (model X.prog X.w) X.A (setFlight (.ref a) X.env.frame) (fun _ s4 => wpAny (model X.prog X.w) X.A (throw (.ref a) : Sem Flow) (SP X pins D) X.xe s4) X.xe { s' with heap := h3 } := by
          rw [hf]
          refine HandSPX.setFlight_upZ fl3 fun h4 hh4 up4 => wpAny_throw (tk _ _ ?_)
          exact ⟨a, B, sI, pins, σ', H', cls, d, rfl, J, nb, (up.trans up3).trans up4, .inr (.inr (by rw [hs]; exact hh4)), na, os, ag, w⟩
        first
          | exact wpAny_bind (wpAny_pure (wpAny_bind fin))
          | exact wpAny_bind fin
      | @plain x c ts b0 suite np pos' hds2 l2 hc hsu r ih =>
        intro w
        obtain ⟨b, hb1, hyes, hno⟩ := w
        refine wpAny_handleBy_cons (codeAny_handlers_test (look hc ((PySem.W.exm_one (M := model X.prog X.w) J3.kIn LT hb1).here ?_))) (by intro q; cases q)
        cases b with
        | true =>
          refine codeAny_handlers_suite (HandSPX.lands_againZ fl3 fun h4 fl4 up4 => ?_)
          have J4 : Inv X pins σ' H' { s' with heap := h4 } := J.landed nb fl4.1 ((up.trans up3).trans up4) os ag
          obtain ⟨oe4, vs4, he4, hz4, hd4⟩ := fl4.there
          refine wpAny_mono ((hsu a oe4 cls d (X.pn ++ pins) hz4 ⟨_, hd4⟩).run [] _ _ H' _ (J4.suite he4 hd4 na nL nF) (hyes rfl a na)) (fun f s6 hsp => ?_) (fun _ _ z => False.elim z)
          match f, hsp with
          | .next, ⟨σ6, H6, S6, q6⟩ => exact ⟨_, _, S6.unsuite ok, q6⟩
          | .brk, ⟨σ6, H6, S6, q6⟩ => exact ⟨_, _, S6.unsuite ok, q6⟩
          | .cont, ⟨σ6, H6, S6, q6⟩ => exact ⟨_, _, S6.unsuite ok, q6⟩
          | .ret u, ⟨v6, σ6, H6, S6, r6, q6⟩ => exact ⟨_, _, _, S6.unsuite ok, r6, q6⟩
        | false =>
          show wpAny _ X.A (handleBy (.ref a) X.env hds2) _ _ _
          exact ih (hno rfl)
      | @as x n i c ts b0 suite np pos' hds2 l2 hN hi hln hc hsu r ih =>
        intro w
        obtain ⟨b, hb1, hyes, hno⟩ := w
        refine wpAny_handleBy_cons (codeAny_handlers_test (look hc ((PySem.W.exm_one (M := model X.prog X.w) J3.kIn LT hb1).here ?_))) (by intro q; cases q)
        cases b with
        | true =>
          refine codeAny_handlers_suite_as (HandSPX.lands_againZ fl3 fun h4 fl4 up4 => ?_)
          have J4 : Inv X pins σ' H' { s' with heap := h4 } := J.landed nb fl4.1 ((up.trans up3).trans up4) os ag
          obtain ⟨oe4, vs4, he4, hz4, hd4⟩ := fl4.there
          refine store_ok (X := X.suite a ((a, oe4) :: (X.pn ++ pins))) (v := .ref a) (J4.suite he4 hd4 na nL nF) hN hi (.inl hln) rfl (fun s5 S5 => ?_) (.inr hln)
          refine wpAny_mono ((hsu a oe4 cls d (X.pn ++ pins) hz4 ⟨_, hd4⟩).run [] s5 _ H' _ S5 (hyes rfl a na)) (fun f s6 hsp => ?_) (fun _ _ z => False.elim z)
          have over : ∀ {σ6 : L2.St} {H6 : Hp} {Q : Shared → Prop}, Inv (X.suite a ((a, oe4) :: (X.pn ++ pins))) [] σ6 H6 s6 → (∀ s7, Inv X pins (σ6.set i none) H6 s7 → Q s7) →
              wpAny (model X.prog X.w) X.A (do bindName X.env n .none; unbindBehindTheSuite X.env n pos') (fun _ s7 => Q s7) X.xe s6 := fun {σ6 H6 Q} S6 hq => gone_ok (S6.unsuite ok) hN hi hln hq
          match f, hsp with
          | .next, ⟨σ6, H6, S6, q6⟩ => exact over S6 fun s7 J7 => ⟨_, _, J7, q6⟩
          | .brk, ⟨σ6, H6, S6, q6⟩ => exact over S6 fun s7 J7 => ⟨_, _, J7, q6⟩
          | .cont, ⟨σ6, H6, S6, q6⟩ => exact over S6 fun s7 J7 => ⟨_, _, J7, q6⟩
          | .ret u, ⟨v6, σ6, H6, S6, r6, q6⟩ => exact over S6 fun s7 J7 => ⟨_, _, _, J7, r6, q6⟩
        | false =>
          show wpAny _ X.A (handleBy (.ref a) X.env hds2) _ _ _
          exact ih (hno rfl)
    exact go hh w
  · match f, hsp with
    | .next, ⟨σ', H', J', q⟩ => exact wpAny_execs_nil ⟨σ', H', J'.ofTry ok, q⟩
    | .brk, ⟨σ', H', J', q⟩ => exact ⟨σ', H', J'.ofTry ok, q⟩
    | .cont, ⟨σ', H', J', q⟩ => exact ⟨σ', H', J'.ofTry ok, q⟩
    | .ret u, ⟨v, σ', H', J', r, q⟩ => exact ⟨v, σ', H', J'.ofTry ok, r, q⟩
end
section
variable {X : Cx}
theorem pmk_of {CX : CXT} {x : Str} {C fI : Addr} {k : Nat} {fd : FuncData} {ps : List Str} {sp : Sp} {e : Expr} {es : List Expr} {ta : TA} {p pos : Pos} (MK : Exv.MkOk X.prog X.w X.K C fI) (kC : PySem.W.keepIn X.K (.ref C) = true) (R : Raises X (.ref C))
    (F1 : FnOk X.prog X.w X.K X.mg X.base CX k fI fd ps sp) (hr : Room (k + 1) X.A) (hb : Binds X.K fd ps []) (hx : Passes CX X (fun _ _ _ => False)) (hg : Gl X x) (hm : X.mg x = some (.ref C)) (ha : PA X (e :: es) ta)
    (hdb : (x == ("__debug__" : Str)) = false := by decide) (he : starEach (e :: es) X.env = (false, eval e X.env) :: starEach es X.env := by rfl) (hpl : (backTo pos (starEach es X.env)).any (·.1) = false := by rfl) :
    PMk X (.Call (.Name x p) (e :: es) [] pos) (tMkO C sp [] ta) := by
  intro pins s σ H Q I h
  refine wpAny_Call_Name_kw (ld_glob I hg hm ?_ hdb)
  refine PySem.W.callWith_K (h₀ := X.base) I.ok.mod.kin kC (thn (ha.run pos pins s σ H _ I h) fun us s1 hh => ?_) he hpl
  obtain ⟨vs, H1, I1, r1, hz, q1⟩ := hh
  refine ⟨I1.kIn, ?_⟩
  show wpAny _ _ (call (.ref C) us) _ _ _
  obtain ⟨hp, g, dr, tk, os⟩ := s1
  have up1 : hp.objs.size ≤ hp.objs.size + 1 := Nat.le_succ _
  have hq0 := q1 (hp.objs.size + 1) (I1.hok.fresh up1)
  rw [List.append_nil] at hq0
  have kk : ∀ b o, hp.get? b = some o → ((hp.push (PySem.W.kdv_tup us)).push (PySem.HandSPX.excO C hp.objs.size)).get? b = some o := fun b o z =>
    Heap.get?_push_of_some _ (Heap.get?_push_of_some _ z)
  have hat : ((hp.push (PySem.W.kdv_tup us)).push (PySem.HandSPX.excO C hp.objs.size)).get? (hp.objs.size + 1) = some (PySem.HandSPX.excO C hp.objs.size) := by heap_get
  have I2 : Inv X pins σ (upd H1 (hp.objs.size + 1) (exo (hp.objs.size + 1) C none)) ⟨(hp.push (PySem.W.kdv_tup us)).push (PySem.HandSPX.excO C hp.objs.size), g, dr, tk, os⟩ := I1.laid (t' := tk) (a := hp.objs.size + 1) (o := exo (hp.objs.size + 1) C none)
    (h' := (hp.push (PySem.W.kdv_tup us)).push (PySem.HandSPX.excO C hp.objs.size)) kk up1 (exo_ok hat)
  have r2 : Vals (V.ref (hp.objs.size + 1) :: vs) (Value.ref (hp.objs.size + 1) :: us) :=
    .cons rfl r1
  have hl : (Value.ref (hp.objs.size + 1) :: us).length = ps.length := by
    rw [← r2.length]
    exact F1.len _ _ _ _ hq0
  have hus : us.length ≤ sizeLine := Nat.le_trans (Nat.le_of_eq (Paired.length r1).symm) (Nat.le_trans hz (by rw [sizeLine_eq]; decide))
  refine wpAny_call (MK _ _ hp g dr tk os us I1.kIn hus (codeAny_mono (F1.run _ X.stack _ _ ⟨Value.ref (hp.objs.size + 1) :: us, []⟩ (Value.ref (hp.objs.size + 1) :: us) _ _ (fun _ _ _ => False)
    (hr.make C us []) (I2.env0.make C us []) (by have z := hb _ (Value.ref (hp.objs.size + 1) :: us) I2.kIn (by rw [List.append_nil]; exact hl); rw [List.append_nil] at z; exact z) r2 hq0) fun r s' hq' => ?_))
  match r, hq' with
  | .error er, hq' => exact hx pins σ _ _ er s' I2 hq'
  | .ok (.ret u), ⟨v, H2, os2, bare2, un2, hok2, rv, ev, d, fs, ea, ed, hd1, q2⟩ =>
    subst ev
    obtain ⟨h2, g2, d2, t2, os'⟩ := s'
    exact ⟨rv, mk_end R I1 up1 kk un2 hok2 os2 bare2 ea ed hd1 q2⟩
  | .ok .next, hq' => exact False.elim hq'
  | .ok .brk, hq' => exact False.elim hq'
  | .ok .cont, hq' => exact False.elim hq'
end
end Tr

set_option Elab.async false
set_option linter.all false
set_option maxRecDepth 100000
set_option maxHeartbeats 16000000
namespace K1
open PySem PySem.Spec PyProof.Rows L2
/-! ### two errors raised and caught -/
abbrev s_caught : Stmt := topS 27
abbrev n_caught : List Str := ["_law_value_here", "_law_found", "e"]
theorem sc_caught : FnScope n_caught ["_law_value_here"] (defScope s_caught) := ⟨rfl, rfl, rfl, by decide +kernel, rfl, by decide +kernel, by decide +kernel⟩
/-- which clause takes which error -/
structure Cat (K : PySem.W.Frag) (mg : Str → Option Value) (A : Ads) : Prop where
  e1 : PySem.W.exmOne K (.ref (A 11)) (.ref (A 10)) = some false
  e2 : PySem.W.exmOne K (.ref (A 11)) (.ref (A 16)) = some true
  e3 : PySem.W.exmOne K (.ref (A 15)) (.ref (A 16)) = some false
  e4 : PySem.W.exmOne K (.ref (A 15)) (.type "KeyError") = some true
  n_KeyError : mg "KeyError" = none
  b11 : PySem.W.subIn K (.ref (A 11)) (.type "BaseException") = some true
  t11 : PySem.W.typeIn K (.ref (A 11)) = some (.type "type")
  b15 : PySem.W.subIn K (.ref (A 15)) (.type "BaseException") = some true
  t15 : PySem.W.typeIn K (.ref (A 15)) = some (.type "type")
def spCaught (n : Nat) : Sp := fun vs H Q _ => ∃ (v : V) (d : PyData), vs = [v] ∧ DV H v d ∧ (∃ m, m + 1 = n ∧ fit m d) ∧
  ∀ (r : Addr) (v' : V) (H' : Hp), Same H H' → H' r = some (.lst [v', .str "key"]) → DV H' v' d → Q (.ref r) H'
def tsA (K : PySem.W.Frag) (c : Str) : Addr → Value → Option Addr → TS := fun _ _ _ => tDrop (tBM K "list" rAppend (tVar 1) (tCons (tC (.str c)) tNil))
def tsX (K : PySem.W.Frag) (C : Addr) : Addr → Value → Option Addr → TS := fun a cls d => tDrop (tBM K "list" rAppend (tVar 1) (tCons (tXf a cls d C "at" (tVar 2)) tNil))
theorem fit_int (m : Nat) (i : Int) : fit m (.int i) := by
  cases m <;> exact True.intro
section
variable {P : Program} {w : World} {K : PySem.W.Frag} {mg : Str → Option Value} {base : Heap}
theorem ok_caught {A : Ads} {n : Nat} {f : Addr} {fd : FuncData} (F : Fun K "_law_caught" "_law_caught" s_caught f fd) (TE : Er mg K A) (TX : No K A) (TM : Ms P w K mg base A n) (TC : Cat K mg A) : FnOk P w K mg base CX0 (n + 4) f fd ["_law_value_here"] (spCaught n) := by
  obtain ⟨fI11, fdI11, M11, I11, c11⟩ := TM.m_RefusedAt
  obtain ⟨fI15, fdI15, M15, I15, c15⟩ := TM.m_NotPending
  refine F.ok sc_caught (fun vs H Q E h => ?_) (fun cdv Ar outer s H vs Q E hr h => ?_)
  · obtain ⟨v, d, rfl, _⟩ := h
    rfl
  · obtain ⟨v, d, rfl, hv, hf, q⟩ := h
    have nd2 : ∀ {X : Cx}, X.N = n_caught → X.N.Nodup := fun {X} e => e ▸ sc_caught.nd
    refine ⟨_, pss_cons (ps_set (i := 1) sc_caught.nd rfl (.inl rfl) (pe_lst pa_nil)) (pss_cons (Tr.ps_try_mix rfl rfl takes0 (fun W pn xe tk _ => by exact pss_one (ps_raise rfl tk (Tr.pmk_of M11 TM.k_RefusedAt (raises_own TC.b11 TC.t11) I11 hr c11 pass0 rfl TE.g_RefusedAt (pa_cons (pv 0) pa_nil)))) (l := [(.ref (A 10), none, tsA K "refused"), (.ref (A 16), some 2, tsX K (A 11))]) (by exact .plain (ts := tsA K "refused") ⟨rfl, by decide, .inl TE.g_Refused⟩ (fun a oe cls d pn hz hf => by exact pss_one (ps_expr (pe_bm PySem.F.plainAttrs_list PySem.F.slot_list_append PySem.F.type_list_append mt_append (pv 1) (pa_cons pe_str pa_nil)))) (.as (i := 2) (ts := tsX K (A 11)) sc_caught.nd rfl rfl ⟨rfl, by decide, .inl TE.g_KeptError⟩ (fun a oe cls d pn hz hf => by exact pss_one (ps_expr (pe_bm PySem.F.plainAttrs_list PySem.F.slot_list_append PySem.F.type_list_append mt_append (pv 1) (pa_cons (pe_xf (TX.x 11 (by decide)) TX.no_RefusedAt_at hz hf (pv 2)) pa_nil)))) .nil))) (pss_cons (Tr.ps_try_mix rfl rfl takes0 (fun W pn xe tk _ => by exact pss_one (ps_raise rfl tk (Tr.pmk_of M15 TM.k_NotPending (raises_own TC.b15 TC.t15) I15 hr c15 pass0 rfl TE.g_NotPending (pa_cons (pv 0) (pa_cons pe_int pa_nil))))) (l := [(.ref (A 16), none, tsA K "kept"), (.type "KeyError", none, tsA K "key")]) (by exact .plain (ts := tsA K "kept") ⟨rfl, by decide, .inl TE.g_KeptError⟩ (fun a oe cls d pn hz hf => by exact pss_one (ps_expr (pe_bm PySem.F.plainAttrs_list PySem.F.slot_list_append PySem.F.type_list_append mt_append (pv 1) (pa_cons pe_str pa_nil)))) (.plain (ts := tsA K "key") ⟨rfl, by decide, .inr ⟨TC.n_KeyError, by decide +kernel, by decide⟩⟩ (fun a oe cls d pn hz hf => by exact pss_one (ps_expr (pe_bm PySem.F.plainAttrs_list PySem.F.slot_list_append PySem.F.type_list_append mt_append (pv 1) (pa_cons pe_str pa_nil)))) .nil))) (pss_one (ps_ret (pv 1))))), ?_⟩
    refine ⟨Nat.zero_le _, fun l hl => ?_⟩
    have s0 := new_same (o := .lst []) hl
    have el : upd H l (.lst []) l = some (.lst []) := upd_same
    generalize upd H l (.lst []) = H0 at *
    -- raise RefusedAt(value)
    refine ⟨_, rfl, (by show 1 ≤ 1000; decide), fun a na => ⟨a, v, d, rfl, upd_same, DV.mono (s0.trans (new_same na)) _ _ hv, hf, fun x v1 H1 nx ea ed kp dn => ⟨rfl, x, _, ea, ed, ?_, ?_⟩⟩⟩
    · by_cases xa : x = a
      · rw [xa]
        exact na
      · rw [upd_ne xa] at nx
        exact nx
    have xa : x ≠ a := fun z => by
      rw [z, upd_same] at nx
      cases nx
    have nx0 : H0 x = none := by
      rw [upd_ne xa] at nx
      exact nx
    have s1 : Same H0 (upd (del H1 a) x (.xd [("at", v1)])) := fun b o e => by
      rw [upd_ne (ne_of_none e nx0), del_ne (ne_of_none e na)]
      exact kp b o (ne_of_none e na) (new_same na _ _ e)
    have dn2 : DN H0 (upd (del H1 a) x (.xd [("at", v1)])) v1 d := fun H3 k => dn H3 fun b o z n e => by
      have ba : b ≠ a := fun y => by
        rw [y, upd_same] at n
        cases n
      have bx : b ≠ x := fun y => by
        rw [y, ed] at e
        cases e
        exact z.elim
      rw [upd_ne ba] at n
      refine k b o z n ?_
      rw [upd_ne bx, del_ne ba]
      exact e
    have ex : upd (del H1 a) x (.xd [("at", v1)]) x = some (.xd [("at", v1)]) := upd_same
    generalize upd (del H1 a) x (.xd [("at", v1)]) = H2 at *
    refine ⟨false, TC.e1, (fun z => nomatch z), fun _ => ⟨true, TC.e2, fun _ a0 _ => ?_, fun z => nomatch z⟩⟩
    refine ⟨_, rfl, .inl ⟨rfl, _, SqL.of (s1 _ _ el)⟩, ?_⟩
    refine ⟨_, rfl, rfl, rfl, x, _, v1, rfl, ex, rfl, ?_⟩
    refine ⟨l, _, _, rfl, rfl, s1 _ _ el, (by show 0 < sizeLine; decide), ?_⟩
    have el3 : upd H2 l (.lst ([] ++ [v1])) l = some (.lst [v1]) := upd_same
    have s3 : Same H (upd H2 l (.lst ([] ++ [v1]))) := fun b o e => by
      rw [upd_ne (ne_of_none e hl)]
      exact s1 _ _ (s0 _ _ e)
    have dn3 : DN H0 (upd H2 l (.lst ([] ++ [v1]))) v1 d := dn2.later fun b o n e => by
      rw [upd_ne (fun y => by
        rw [y, el] at n
        cases n)]
      exact e
    generalize upd H2 l (.lst ([] ++ [v1])) = H3 at *
    -- raise NotPending(value, 5)
    refine ⟨_, rfl, (by show 2 ≤ 1000; decide), fun a2 na2 => ⟨a2, v, .int 5, d, .int 5, rfl, upd_same, DV.mono (s3.trans (new_same na2)) _ _ hv, hf, .int 5, ⟨hf.choose, hf.choose_spec.1, fit_int _ _⟩, fun y2 v2 u2 H4 nx2 ea2 ed2 kp2 _ _ => ⟨rfl, y2, _, ea2, ed2, ?_, ?_⟩⟩⟩
    · by_cases xa : y2 = a2
      · rw [xa]
        exact na2
      · rw [upd_ne xa] at nx2
        exact nx2
    have xa2 : y2 ≠ a2 := fun z => by
      rw [z, upd_same] at nx2
      cases nx2
    have nx3 : H3 y2 = none := by
      rw [upd_ne xa2] at nx2
      exact nx2
    have s5 : Same H3 (upd (del H4 a2) y2 (.xd [("mark", u2), ("question", v2)])) := fun b o e => by
      rw [upd_ne (ne_of_none e nx3), del_ne (ne_of_none e na2)]
      exact kp2 b o (ne_of_none e na2) (new_same na2 _ _ e)
    have dn5 := dn3.later fun b o _ e => s5 b o e
    generalize upd (del H4 a2) y2 (.xd [("mark", u2), ("question", v2)]) = H5 at *
    refine ⟨false, TC.e3, (fun z => nomatch z), fun _ => ⟨true, TC.e4, fun _ a0 _ => ?_, fun z => nomatch z⟩⟩
    refine ⟨_, rfl, .inl ⟨rfl, _, SqL.of (s5 _ _ el3)⟩, ?_⟩
    refine ⟨l, _, _, rfl, rfl, s5 _ _ el3, (by show 1 < sizeLine; decide), ?_⟩
    refine ⟨_, rfl, q l v1 _ (fun b o e => ?_) upd_same (dn5 _ fun b o _ n e => ?_)⟩
    · rw [upd_ne (ne_of_none e hl)]
      exact s5 _ _ (s3 _ _ e)
    · rw [upd_ne (fun y => by
        rw [y, el] at n
        cases n)]
      exact e
end
end K1

set_option Elab.async false
set_option linter.all false
set_option maxRecDepth 100000
set_option maxHeartbeats 16000000
namespace K1
open PySem PySem.Spec PyProof.Rows L2
/-! ### what is kept does not change with what was handed in -/
abbrev s_copies_right : Stmt := topS 26
abbrev n_copies_right : List Str := ["_law_value_here", "_law_inner", "_law_whole", "_law_errors", "_law_others", "_law_due", "_law_one"]
theorem sc_copies_right : FnScope n_copies_right ["_law_value_here"] (defScope s_copies_right) := ⟨rfl, rfl, rfl, by decide +kernel, rfl, by decide +kernel, by decide +kernel⟩
theorem fit_zero {m : Nat} {d : PyData} (h : fit 0 d) : fit m d := by
  cases d <;> cases m <;> first | exact True.intro | exact h.elim
theorem fit_one {m : Nat} {d : PyData} (h : fit 1 d) : fit (m + 1) d := by
  cases d with
  | list ds => exact ⟨h.1, fun x hx => fit_zero (h.2 x hx)⟩
  | tuple ds => exact ⟨h.1, fun x hx => fit_zero (h.2 x hx)⟩
  | dict es => exact h.elim
  | none => exact True.intro
  | bool b => exact True.intro
  | int i => exact True.intro
  | str x => exact True.intro
theorem fit_wrap {m : Nat} {d : PyData} (h : fit m d) : fit (m + 1) (.list [d]) := ⟨(by show 1 ≤ 1000; decide), fun x hx => by
  obtain rfl := List.mem_singleton.mp hx
  exact h⟩
/-- the pair that is handed in -/
def pairOf (d : PyData) : PyData := .tuple [.list [d], .tuple [.str "open", .list [d]]]
theorem fit_pair {d : PyData} (h : fit 1 d) : fit 4 (pairOf d) := by
  refine ⟨(by show 2 ≤ 1000; decide), fun x hx => ?_⟩
  simp only [List.mem_cons, List.not_mem_nil, or_false] at hx
  rcases hx with rfl | rfl
  · exact fit_wrap (fit_one (m := 1) h)
  · refine ⟨(by show 2 ≤ 1000; decide), fun x hx => ?_⟩
    simp only [List.mem_cons, List.not_mem_nil, or_false] at hx
    rcases hx with rfl | rfl
    · exact True.intro
    · exact fit_wrap (fit_one (m := 0) h)
theorem Sh.more {k L k' L' : Nat} {d : PyData} (h : Sh k L d) (a : k ≤ k') (b : L ≤ L') : Sh k' L' d := ⟨h.s, h.n, Nat.le_trans h.k a, Nat.le_trans h.l b⟩
theorem sh_wrap {k L : Nat} {d : PyData} (h : Sh k L d) : Sh (k + 1) (1 * (L + 2) + 3) (.list [d]) := Sh.list (fun x hx => by
  obtain rfl := List.mem_singleton.mp hx
  exact h) (Nat.le_refl _)
theorem sh_pair {d : PyData} (h : Sh 1 70 d) : Sh 4 400 (pairOf d) := by
  have h1 : Sh 2 75 (.list [d]) := sh_wrap h
  have h0 : Sh 2 75 (.str "open") := ⟨by decide, by decide, by decide, by decide +kernel⟩
  have h2 : Sh 3 157 (.tuple [.str "open", .list [d]]) := Sh.tuple (k := 2) (L := 75) (n := 2) (fun x hx => by
    simp only [List.mem_cons, List.not_mem_nil, or_false] at hx
    rcases hx with rfl | rfl
    · exact h0
    · exact h1) (Nat.le_refl 2)
  exact (Sh.tuple (k := 3) (L := 157) (n := 2) (ds := [.list [d], .tuple [.str "open", .list [d]]]) (fun x hx => by
    simp only [List.mem_cons, List.not_mem_nil, or_false] at hx
    rcases hx with rfl | rfl
    · exact h1.more (by decide) (by decide)
    · exact h2) (Nat.le_refl 2)).more (by decide) (by decide)
theorem big400 : (400 : Nat) ≤ sizeLine := by rw [sizeLine_eq]; decide
theorem ErrV.read {A : Ads} {H0 H H' : Hp} {a : Addr} {j : Nat} {d : PyData} (h : ErrV A H0 H a j d) (s : ∀ b o, ((∀ xs, o ≠ .lst xs) ∨ H0 b = Option.none) → H b = some o → H' b = some o) : ErrR A H' a j d := by
  obtain ⟨dd, fs, e, hm, hd, hx⟩ := h
  refine ⟨dd, fs, s _ _ (.inl fun xs z => by cases z) e, hm, fun p hp => DN.to (hd p hp) fun b o n e => s b o (.inr n) e, ?_⟩
  rcases hx with hx | ⟨x, hx, ex⟩
  · exact .inl hx
  · exact .inr ⟨x, hx, s _ _ (.inl fun xs z => by cases z) ex⟩
theorem DVs.rep {H : Hp} {vs : List V} {n i : Nat} {d : PyData} {x : V} (h : DVs H vs (List.replicate n d)) (e : vs[i]? = some x) : DV H x d := by
  obtain ⟨y, hy, dv⟩ := h.get e
  rw [List.eq_of_mem_replicate (List.mem_of_getElem? hy)] at dv
  exact dv
theorem DV.isTup {H : Hp} {v : V} {ds : List PyData} (h : DV H v (.tuple ds)) : ∃ a, v = .ref a := by
  cases h
  exact ⟨_, rfl⟩
theorem DV.isLst {H : Hp} {v : V} {ds : List PyData} (h : DV H v (.list ds)) : ∃ a, v = .ref a := by
  cases h
  exact ⟨_, rfl⟩
structure NmC (mg : Str → Option Value) (K : PySem.W.Frag) (fm fk : Addr) : Prop where
  g__law_made : mg "_law_made" = some (.ref fm)
  k__law_made : PySem.W.keepIn K (.ref fm) = true
  g__law_kept_of : mg "_law_kept_of" = some (.ref fk)
  k__law_kept_of : PySem.W.keepIn K (.ref fk) = true
  n_repr : mg "repr" = none
def spCopies : Sp := fun vs H Q _ => ∃ (v : V) (d : PyData), vs = [v] ∧ DV H v d ∧ Gd d ∧ ∀ H' : Hp, Same H H' → Q (.bl true) H'
def ttC1 (K : PySem.W.Frag) : TT := tTest (tOp rNe (tCB (Rg.rRepr K) (tCons (tVar 6) tNil)) (tVar 5))
def ttC2 (K : PySem.W.Frag) : TT := tTest (tOp rNe (tCB (Rg.rRepr K) (tCons (tVar 6) tNil)) (tCB (Rg.rRepr K) (tCons (tLst (tCons (tVar 0) tNil)) tNil)))
section
variable {P : Program} {w : World} {K : PySem.W.Frag} {mg : Str → Option Value} {base : Heap}
theorem ok_copies {A : Ads} {f fm fk : Addr} {fd fdm fdk : FuncData} (F : Fun K "_law_copies_right" "_law_copies_right" s_copies_right f fd) (T : NmC mg K fm fk)
    (G__law_made : FnOk P w K mg base CX0 9 fm fdm ["_law_value_here"] (spMade A 5)) (b__law_made : Binds K fdm ["_law_value_here"] [])
    (G__law_kept_of : FnOk P w K mg base CX0 9 fk fdk ["_law_errors"] (spKept A)) (b__law_kept_of : Binds K fdk ["_law_errors"] []) :
    Rg.FnG P w K mg base CX0 10 f fd ["_law_value_here"] spCopies := by
  refine Rg.okG F sc_copies_right (fun vs H Q E h => ?_) (fun cdv Ar outer s H vs Q E hgu hr h => ?_)
  · obtain ⟨v, d, rfl, _⟩ := h
    rfl
  · obtain ⟨v, d, rfl, hv, hd, q⟩ := h
    have hu64 := hr.units
    refine ⟨_, (pss_cons (ps_par (i := 1) (j := 2) (by rfl) sc_copies_right.nd rfl rfl (by decide) rfl rfl (pa_cons (pe_lst (pa_cons (pv 0) pa_nil)) (pa_cons (pe_lst (pa_cons (pv 0) pa_nil)) pa_nil)) (by rfl))
  (pss_cons (ps_par (i := 3) (j := 4) (by rfl) sc_copies_right.nd rfl rfl (by decide) rfl rfl (pa_cons (pe_call G__law_made hr rfl T.g__law_made T.k__law_made b__law_made .nil pass0 (pa_cons (pe_tup (pa_cons (pv 1) (pa_cons (pe_tup (pa_cons pe_str (pa_cons (pv 1) pa_nil))) pa_nil))) pa_nil)) (pa_cons (pe_call G__law_made hr rfl T.g__law_made T.k__law_made b__law_made .nil pass0 (pa_cons (pv 2) pa_nil)) pa_nil)) (by rfl))
  (pss_cons (ps_expr (pe_bm PySem.F.plainAttrs_list PySem.F.slot_list_append PySem.F.type_list_append mt_append (pv 1) (pa_cons pe_str pa_nil)))
  (pss_cons (ps_expr (pe_bm PySem.F.plainAttrs_list PySem.F.slot_list_append PySem.F.type_list_append mt_append (pv 2) (pa_cons pe_str pa_nil)))
  (pss_cons (ps_set (i := 5) sc_copies_right.nd rfl (.inr rfl) (pe_callB (Rg.call_repr hgu hu64) (by rfl) T.n_repr (by decide +kernel) (pa_cons (pe_tup (pa_cons (pe_lst (pa_cons (pv 0) pa_nil)) (pa_cons (pe_tup (pa_cons pe_str (pa_cons (pe_lst (pa_cons (pv 0) pa_nil)) pa_nil))) pa_nil))) pa_nil)))
  (pss_cons (ps_if (pt_cmpR (op_neD hu64) (pe_lc (own := [("_law_one", 6)]) (g := gName 6) (tt := ttC1 K) rfl sc_copies_right.nd (pi_list (pe_call G__law_kept_of hr rfl T.g__law_kept_of T.k__law_kept_of b__law_kept_of .nil pass0 (pa_cons (pv 3) pa_nil))) (blkOk_by (own := [("_law_one", 6)]) (N := n_copies_right) (sc := defScope s_copies_right) (by decide +kernel)) (fun _ _ _ _ _ => (pg_name (i := 6) sc_copies_right.nd rfl (.inl rfl))) (fun _ _ _ _ _ => (pts_one (pt_cmpR op_ne (pe_callB (Rg.call_repr hgu hu64) (by rfl) T.n_repr (by decide +kernel) (pa_cons (pv 6) pa_nil)) (pv 5) (nomark _)))) (fun _ _ _ _ _ => (pv 6))) (pe_lst pa_nil) (nomark _)) (pss_one (ps_ret pe_bl)) pss_nil)
  (pss_one (ps_ret (pe_cmpR (op_eqD hu64) (pe_lc (own := [("_law_one", 6)]) (g := gName 6) (tt := ttC2 K) rfl sc_copies_right.nd (pi_list (pe_call G__law_kept_of hr rfl T.g__law_kept_of T.k__law_kept_of b__law_kept_of .nil pass0 (pa_cons (pv 4) pa_nil))) (blkOk_by (own := [("_law_one", 6)]) (N := n_copies_right) (sc := defScope s_copies_right) (by decide +kernel)) (fun _ _ _ _ _ => (pg_name (i := 6) sc_copies_right.nd rfl (.inl rfl))) (fun _ _ _ _ _ => (pts_one (pt_cmpR op_ne (pe_callB (Rg.call_repr hgu hu64) (by rfl) T.n_repr (by decide +kernel) (pa_cons (pv 6) pa_nil)) (pe_callB (Rg.call_repr hgu hu64) (by rfl) T.n_repr (by decide +kernel) (pa_cons (pe_lst (pa_cons (pv 0) pa_nil)) pa_nil)) (nomark _)))) (fun _ _ _ _ _ => (pv 6))) (pe_lst pa_nil) (nomark _)))))))))), ?_⟩
    -- inner, whole
    refine ⟨_, rfl, (by show 1 ≤ sizeLine; decide), fun l1 n1 => ?_⟩
    refine ⟨_, rfl, (by show 1 ≤ sizeLine; decide), fun l2 n2 => ⟨_, _, rfl, ?_⟩⟩
    have S2 := (new_same (o := .lst [v]) n1).trans (new_same (o := .lst [v]) n2)
    have e1 := new_same (o := .lst [v]) n2 l1 (.lst [v]) upd_same
    have e2 : upd (upd H l1 (.lst [v])) l2 (.lst [v]) l2 = some (.lst [v]) := upd_same
    have n12 : l1 ≠ l2 := fun z => by
      rw [← z, upd_same] at n2
      cases n2
    have h1 : H l1 = none := n1
    have h2 : H l2 = none := (new_same n1).free n2
    generalize upd (upd H l1 (.lst [v])) l2 (.lst [v]) = H2 at *
    -- the errors
    refine ⟨_, rfl, _, rfl, (by show 2 ≤ sizeLine; decide), fun t2 m2 => ?_⟩
    refine ⟨(by show 2 ≤ sizeLine; decide), fun t1 m1 => ?_⟩
    have S4 := (new_same (o := .tup [.str "open", .ref l1]) m2).trans (new_same (o := .tup [.ref l1, .ref t2]) m1)
    have eT2 := new_same (o := .tup [.ref l1, .ref t2]) m1 t2 (.tup [.str "open", .ref l1]) upd_same
    have eT1 : upd (upd H2 t2 (.tup [.str "open", .ref l1])) t1 (.tup [.ref l1, .ref t2]) t1 = some (.tup [.ref l1, .ref t2]) := upd_same
    generalize upd (upd H2 t2 (.tup [.str "open", .ref l1])) t1 (.tup [.ref l1, .ref t2]) = H4 at *
    have hv4 := DV.mono (S2.trans S4) _ _ hv
    have dvp : DV H4 (.ref t1) (pairOf d) := .tup eT1 (.cons (.lst (S4 _ _ e1) (.cons hv4 .nil)) (.cons (.tup eT2 (.cons (.str _) (.cons (.lst (S4 _ _ e1) (.cons hv4 .nil)) .nil))) .nil))
    refine ⟨.ref t1, pairOf d, rfl, dvp, ⟨4, rfl, fit_pair hd.f⟩, fun r1 as1 H5 s5 nr1 er1 len1 E1 => ?_⟩
    refine ⟨_, rfl, .ref l2, .list [d], rfl, .lst (s5 _ _ (S4 _ _ e2)) (.cons (DV.mono s5 _ _ hv4) .nil), ⟨4, rfl, fit_wrap (fit_one (m := 2) hd.f)⟩, fun r2 as2 H6 s6 nr2 er2 len2 E2 => ⟨_, _, rfl, ?_⟩⟩
    have e1' := s6 _ _ (s5 _ _ (S4 _ _ e1))
    have e2' := s6 _ _ (s5 _ _ (S4 _ _ e2))
    -- the appends
    refine ⟨_, rfl, .inl ⟨rfl, _, SqL.of e1'⟩, l1, _, _, rfl, rfl, e1', (by show 1 < sizeLine; decide), ?_⟩
    have e2'' : upd H6 l1 (.lst ([v] ++ [.str "later"])) l2 = some (.lst [v]) := by
      rw [upd_ne (Ne.symm n12)]
      exact e2'
    refine ⟨_, rfl, .inl ⟨rfl, _, SqL.of e2''⟩, l2, _, _, rfl, rfl, e2'', (by show 1 < sizeLine; decide), ?_⟩
    have up8 : ∀ b o, b ≠ l1 → b ≠ l2 → H6 b = some o → upd (upd H6 l1 (.lst ([v] ++ [.str "later"]))) l2 (.lst ([v] ++ [.str "later"])) b = some o := fun b o b1 b2 e => by
      rw [upd_ne b2, upd_ne b1]
      exact e
    have S8 : Same H (upd (upd H6 l1 (.lst ([v] ++ [.str "later"]))) l2 (.lst ([v] ++ [.str "later"]))) := fun b o e =>
      up8 b o (ne_of_none e h1) (ne_of_none e h2) (s6 _ _ (s5 _ _ (S4 _ _ (S2 _ _ e))))
    generalize upd (upd H6 l1 (.lst ([v] ++ [.str "later"]))) l2 (.lst ([v] ++ [.str "later"])) = H8 at *
    -- due
    refine ⟨_, rfl, (by show 1 ≤ sizeLine; decide), fun l3 n3 => ?_⟩
    refine ⟨_, rfl, (by show 1 ≤ sizeLine; decide), fun l4 n4 => ?_⟩
    refine ⟨(by show 2 ≤ sizeLine; decide), fun t4 n5 => ?_⟩
    refine ⟨(by show 2 ≤ sizeLine; decide), fun t3 n6 => ?_⟩
    have q3 := new_same (o := .lst [v]) n3
    have q4 := new_same (o := .lst [v]) n4
    have q5 := new_same (o := .tup [.str "open", .ref l4]) n5
    have q6 := new_same (o := .tup [.ref l3, .ref t4]) n6
    have S9 := q3.trans (q4.trans (q5.trans q6))
    have f3 := q6 _ _ (q5 _ _ (q4 _ _ (upd_same : upd H8 l3 (.lst [v]) l3 = some (.lst [v]))))
    have f4 := q6 _ _ (q5 _ _ (upd_same : upd (upd H8 l3 (.lst [v])) l4 (.lst [v]) l4 = some (.lst [v])))
    have f5 := q6 _ _ (upd_same : upd (upd (upd H8 l3 (.lst [v])) l4 (.lst [v])) t4 (.tup [.str "open", .ref l4]) t4 = some (.tup [.str "open", .ref l4]))
    have f6 : upd (upd (upd (upd H8 l3 (.lst [v])) l4 (.lst [v])) t4 (.tup [.str "open", .ref l4])) t3 (.tup [.ref l3, .ref t4]) t3 = some (.tup [.ref l3, .ref t4]) := upd_same
    generalize upd (upd (upd (upd H8 l3 (.lst [v])) l4 (.lst [v])) t4 (.tup [.str "open", .ref l4])) t3 (.tup [.ref l3, .ref t4]) = H9 at *
    have hv9 := DV.mono (S8.trans S9) _ _ hv
    have dvp9 : DV H9 (.ref t3) (pairOf d) := .tup f6 (.cons (.lst f3 (.cons hv9 .nil)) (.cons (.tup f5 (.cons (.str _) (.cons (.lst f4 (.cons hv9 .nil)) .nil))) .nil))
    have sp := sh_pair hd.s
    refine ⟨t3, pairOf d, rfl, DV.dp _ _ dvp9, sp.s, sp.n, Nat.le_trans sp.k (by decide), Nat.le_trans sp.l big400, ?_⟩
    have R1 : ∀ j a, as1[j]? = some a → ErrR A H9 a j (pairOf d) := fun j a e => (E1 j a e).read fun b o c z => by
      have b1 : b ≠ l1 := fun y => by
        rw [y] at z c
        rcases c with c | c
        · rw [s5 _ _ (S4 _ _ e1)] at z
          cases z
          exact c _ rfl
        · rw [S4 _ _ e1] at c
          cases c
      have b2 : b ≠ l2 := fun y => by
        rw [y] at z c
        rcases c with c | c
        · rw [s5 _ _ (S4 _ _ e2)] at z
          cases z
          exact c _ rfl
        · rw [S4 _ _ e2] at c
          cases c
      exact S9 _ _ (up8 b o b1 b2 (s6 _ _ z))
    have R2 : ∀ j a, as2[j]? = some a → ErrR A H9 a j (.list [d]) := fun j a e => (E2 j a e).read fun b o c z => by
      have b1 : b ≠ l1 := fun y => by
        rw [y] at z c
        rcases c with c | c
        · rw [e1'] at z
          cases z
          exact c _ rfl
        · rw [s5 _ _ (S4 _ _ e1)] at c
          cases c
      have b2 : b ≠ l2 := fun y => by
        rw [y] at z c
        rcases c with c | c
        · rw [e2'] at z
          cases z
          exact c _ rfl
        · rw [s5 _ _ (S4 _ _ e2)] at c
          cases c
      exact S9 _ _ (up8 b o b1 b2 z)
    have er1' : H9 r1 = some (.lst (as1.map V.ref)) := S9 _ _ (up8 _ _ (fun y => by
        rw [y, S4 _ _ e1] at nr1
        cases nr1) (fun y => by
        rw [y, S4 _ _ e2] at nr1
        cases nr1) (s6 _ _ er1))
    have er2' : H9 r2 = some (.lst (as2.map V.ref)) := S9 _ _ (up8 _ _ (fun y => by
        rw [y, s5 _ _ (S4 _ _ e1)] at nr2
        cases nr2) (fun y => by
        rw [y, s5 _ _ (S4 _ _ e2)] at nr2
        cases nr2) er2)
    have SH9 := S8.trans S9
    -- the first comparison
    refine ⟨_, rfl, r1, as1, pairOf d, rfl, er1', len1, R1, fun r' vs' H10 s10 e10 dv10 => ?_⟩
    refine ⟨r', rfl, ⟨_, SqL.of e10⟩, fun D nD => ?_⟩
    refine lc_list (K := K) (a := r') (xs := vs') (fun i Hi => Same (upd H10 D (.lst [])) Hi) (Same.refl _) (fun i Hi _ p => SqL.of (p _ _ (new_same nD _ _ e10))) (fun i x Hi hx p => ?_) (fun Hi p => ?_)
    · have dvx := DV.mono ((new_same nD).trans p) _ _ (dv10.rep hx)
      obtain ⟨ax, rfl⟩ := dvx.isTup
      refine ⟨rfl, ⟨_, rfl, ax, pairOf d, rfl, DV.dp _ _ dvx, sp.s, sp.n, Nat.le_trans sp.k (by decide), Nat.le_trans sp.l big400, _, rfl, rfl, _, rfl, ?_⟩⟩
      rw [decide_eq_true rfl]
      exact iteF p
    have S11 := (new_same nD).trans p
    have eD : Hi D = some (.lst []) := p _ _ upd_same
    refine ⟨(by show 0 ≤ sizeLine; decide), fun l5 n7 => ?_⟩
    refine ⟨.list [], .list [], .lst (SqL.of (new_same n7 _ _ eD)) .nil, .lst (SqL.of upd_same) .nil, rfl, rfl, _, rfl, iteF ?_⟩
    have S12 := s10.trans (S11.trans (new_same (o := .lst []) n7))
    generalize upd Hi l5 (.lst []) = H12 at *
    -- the second
    refine ⟨_, rfl, r2, as2, .list [d], rfl, S12 _ _ er2', len2, fun j a e => ?_, fun r3 vs3 H13 s13 e13 dv13 => ?_⟩
    · obtain ⟨dd, fs, ea, hm, hv', hx⟩ := R2 j a e
      refine ⟨dd, fs, S12 _ _ ea, hm, fun p hp => DV.mono S12 _ _ (hv' p hp), ?_⟩
      rcases hx with hx | ⟨x, hx, ex⟩
      · exact .inl hx
      · exact .inr ⟨x, hx, S12 _ _ ex⟩
    refine ⟨r3, rfl, ⟨_, SqL.of e13⟩, fun D2 nD2 => ?_⟩
    have sw := sh_wrap hd.s
    have SH13 := SH9.trans (S12.trans s13)
    refine lc_list (K := K) (a := r3) (xs := vs3) (fun i Hi => Same (upd H13 D2 (.lst [])) Hi) (Same.refl _) (fun i Hi _ p => SqL.of (p _ _ (new_same nD2 _ _ e13))) (fun i x Hi hx p => ?_) (fun Hi p => ?_)
    · have dvx := DV.mono ((new_same nD2).trans p) _ _ (dv13.rep hx)
      obtain ⟨ax, rfl⟩ := dvx.isLst
      refine ⟨rfl, ⟨_, rfl, ax, .list [d], rfl, DV.dp _ _ dvx, sw.s, sw.n, Nat.le_trans sw.k (by decide), Nat.le_trans sw.l (Nat.le_trans (by decide) big400), ?_⟩⟩
      refine ⟨_, rfl, (by show 1 ≤ sizeLine; decide), fun l6 n8 => ?_⟩
      have hv14 := DV.mono (SH13.trans ((new_same nD2).trans (p.trans (new_same (o := .lst [v]) n8)))) _ _ hv
      refine ⟨l6, .list [d], rfl, .lst (SqL.of upd_same) (.cons (DV.dp _ _ hv14) .nil), sw.s, sw.n, Nat.le_trans sw.k (by decide), Nat.le_trans sw.l (Nat.le_trans (by decide) big400), rfl, _, rfl, ?_⟩
      rw [decide_eq_true rfl]
      exact iteF (p.trans (new_same n8))
    have eD2 : Hi D2 = some (.lst []) := p _ _ upd_same
    refine ⟨(by show 0 ≤ sizeLine; decide), fun l7 n9 => ?_⟩
    refine ⟨.list [], .list [], .lst (SqL.of (new_same n9 _ _ eD2)) .nil, .lst (SqL.of upd_same) .nil, rfl, rfl, ?_⟩
    exact q _ (SH13.trans ((new_same nD2).trans (p.trans (new_same (o := .lst []) n9))))
end
end K1

set_option Elab.async false
set_option linter.all false
set_option maxRecDepth 100000
set_option maxHeartbeats 16000000
namespace K1
open PySem PySem.Spec PyProof.Rows L2
/-! ### the law itself -/
abbrev s_law : Stmt := topS 29
abbrev n_law : List Str := ["_law_script", "_law_k", "_law_box_here", "_law_value_here", "_law_other", "_law_made_here", "_law_at", "_law_error", "_law_is_kept", "_law_firsts", "_law_seconds", "_law_spot"]
theorem sc_law : FnScope n_law ["_law_script"] (defScope s_law) := ⟨rfl, rfl, rfl, by decide +kernel, rfl, by decide +kernel, by decide +kernel⟩
/-- the defs that it calls, and its names -/
structure NmL (mg : Str → Option Value) (K : PySem.W.Frag) (fb fv fm fs fc fr ff : Addr) : Prop where
  g__law_box : mg "_law_box" = some (.ref fb)
  k__law_box : PySem.W.keepIn K (.ref fb) = true
  g__law_value : mg "_law_value" = some (.ref fv)
  k__law_value : PySem.W.keepIn K (.ref fv) = true
  g__law_made : mg "_law_made" = some (.ref fm)
  k__law_made : PySem.W.keepIn K (.ref fm) = true
  g__law_sorts : mg "_law_sorts" = some (.ref fs)
  k__law_sorts : PySem.W.keepIn K (.ref fs) = true
  g__law_caught : mg "_law_caught" = some (.ref fc)
  k__law_caught : PySem.W.keepIn K (.ref fc) = true
  g__law_copies_right : mg "_law_copies_right" = some (.ref fr)
  k__law_copies_right : PySem.W.keepIn K (.ref fr) = true
  g__law_fields : mg "_law_fields" = some (.ref ff)
  k__law_fields : PySem.W.keepIn K (.ref ff) = true
  n_repr : mg "repr" = none
  n_range : mg "range" = none
  n_max : mg "max" = none
  n_min : mg "min" = none
  n_len : mg "len" = none
  n_enumerate : mg "enumerate" = none
  n_isinstance : mg "isinstance" = none
  n_ValueError : mg "ValueError" = none
  n_KeyError : mg "KeyError" = none
/-- which base is theirs -/
structure Bas (K : PySem.W.Frag) (A : Ads) : Prop where
  kept : ∀ j, j < 16 → PySem.W.kitOne K (.ref (A j)) (.ref (A 16)) = some (decide (j < 15))
  val : ∀ j, j < 16 → PySem.W.kitOne K (.ref (A j)) (.type "ValueError") = some (decide (j < 15))
  key : ∀ j, j < 16 → PySem.W.kitOne K (.ref (A j)) (.type "KeyError") = some (!decide (j < 15))
def bsOf (j : Nat) : List PyData := (List.range 16).map fun i => .bool (decide (i = j))
theorem bs_shaped : ∀ j, j < 16 → SeqAt.shaped (.list (bsOf j)) = true := by decide +kernel
theorem bs_eqv : ∀ j, j < 16 → PyData.eqv (.list (bsOf j)) (.list (bsOf j)) = true := by decide +kernel
theorem two_shaped (b : Bool) : SeqAt.shaped (.list [.bool b, .bool b]) = true := by cases b <;> decide +kernel
theorem two_eqv (b : Bool) : PyData.eqv (.list [.bool b, .bool b]) (.list [.bool b, .bool b]) = true := by cases b <;> decide +kernel
theorem dp_bools {K : PySem.W.Frag} {H : Hp} (f : Nat → Bool) : ∀ l : List Nat, DpAll K H (l.map fun i => .bl (f i)) (l.map fun i => .bool (f i))
  | [] => .nil
  | i :: l => .cons (.bl _) (dp_bools f l)
theorem bl_row (j m : Nat) : (V.bl (decide (V.int (0 + (m : Nat)) = V.int (j : Nat)))) = .bl (decide (m = j)) := by
  congr 1
  apply decide_eq_decide.mpr
  constructor
  · intro h
    have := V.int.inj h
    omega
  · intro h
    rw [h, Int.zero_add]
theorem sh_rep {d : PyData} (h : Sh 1 70 d) (n : Nat) (hn : n ≤ 14) : Sh 2 1011 (.list (List.replicate n d)) :=
  Sh.list (k := 1) (L := 70) (n := 14) (fun x hx => by
    rw [List.eq_of_mem_replicate hx]
    exact h) (by rw [List.length_replicate]; exact hn)
theorem sh_key {d : PyData} (h : Sh 1 70 d) : Sh 2 147 (.list [d, .str "key"]) :=
  Sh.list (k := 1) (L := 70) (n := 2) (fun x hx => by
    simp only [List.mem_cons, List.not_mem_nil, or_false] at hx
    rcases hx with rfl | rfl
    · exact h
    · exact ⟨by decide, by decide, by decide, by decide +kernel⟩) (Nat.le_refl 2)
theorem big2000 : (2000 : Nat) ≤ sizeLine := by rw [sizeLine_eq]; decide
theorem dp_rep {K : PySem.W.Frag} {H : Hp} {v : V} {d : PyData} (h : Dp K H v d) : ∀ n : Nat, DpAll K H (List.replicate n v) (List.replicate n d)
  | 0 => .nil
  | n + 1 => .cons h (dp_rep h n)
def spLaw (K : PySem.W.Frag) : Sp := fun vs H Q _ => ∃ (l : Addr) (ns : List Int), vs = [.ref l] ∧ SqL K H l (ns.map V.int) ∧ ns.length ≤ 100 ∧ ∀ H' : Hp, Q (.bl true) H'
section
variable {P : Program} {w : World} {K : PySem.W.Frag} {mg : Str → Option Value} {base : Heap}
theorem ok_law {A : Ads} {f fb fv fm fs fc fr ff : Addr} {fd fdb fdv fdm fds fdc fdr fdf : FuncData} (F : Fun K "law" "law" s_law f fd) (T : NmL mg K fb fv fm fs fc fr ff) (TE : Er mg K A) (TB : Bas K A)
    (G__law_box : FnOk P w K mg base CX0 10 fb fdb ["_law_script", "_law_k", "_law_own"] (spBox K)) (b__law_box : Binds K fdb ["_law_script", "_law_k", "_law_own"] [])
    (G__law_value : FnOk P w K mg base CX0 10 fv fdv ["_law_box_here"] spValue) (b__law_value : Binds K fdv ["_law_box_here"] [])
    (G__law_made : FnOk P w K mg base CX0 10 fm fdm ["_law_value_here"] (spMade A 5)) (b__law_made : Binds K fdm ["_law_value_here"] [])
    (G__law_sorts : FnOk P w K mg base CX0 10 fs fds ["_law_error"] (spSorts A)) (b__law_sorts : Binds K fds ["_law_error"] [])
    (G__law_caught : FnOk P w K mg base CX0 10 fc fdc ["_law_value_here"] (spCaught 5)) (b__law_caught : Binds K fdc ["_law_value_here"] [])
    (G__law_copies_right : Rg.FnG P w K mg base CX0 10 fr fdr ["_law_value_here"] spCopies) (b__law_copies_right : Binds K fdr ["_law_value_here"] [])
    (G__law_fields : FnOk P w K mg base CX0 10 ff fdf ["_law_value_here", "_law_other"] (spFields 5)) (b__law_fields : Binds K fdf ["_law_value_here", "_law_other"] []) :
    Rg.FnG P w K mg base CX0 11 f fd ["_law_script"] (spLaw K) := by
  refine Rg.okG F sc_law (fun vs H Q E h => ?_) (fun cdv Ar outer s H vs Q E hgu hr h => ?_)
  · obtain ⟨l, ns, rfl, _⟩ := h
    rfl
  · obtain ⟨l, ns, rfl, hl, hn, q⟩ := h
    have hu64 := hr.units
    refine ⟨_, (pss_cons (ps_for PassesOwn.leaving rfl (pi_range1 (by rfl) T.n_range (pa_cons (pe_callB (call_max2 rfl) (by rfl) T.n_max (by decide +kernel) (pa_cons pe_int (pa_cons (pe_callB (call_min2 rfl) (by rfl) T.n_min (by decide +kernel) (pa_cons pe_int (pa_cons (pe_callB call_len_seq (by rfl) T.n_len (by decide +kernel) (pa_cons (pv 0) pa_nil)) pa_nil))) pa_nil))) pa_nil)) (pg_name (i := 1) sc_law.nd rfl (.inl rfl))
  (pss_cons (ps_set (i := 2) sc_law.nd rfl (.inl rfl) (pe_call G__law_box hr rfl T.g__law_box T.k__law_box b__law_box .nil pass0 (pa_cons (pv 0) (pa_cons (pv 1) (pa_cons pe_int pa_nil)))))
  (pss_cons (ps_par (i := 3) (j := 4) (by rfl) sc_law.nd rfl rfl (by decide) rfl rfl (pa_cons (pe_call G__law_value hr rfl T.g__law_value T.k__law_value b__law_value .nil pass0 (pa_cons (pv 2) pa_nil)) (pa_cons (pe_call G__law_value hr rfl T.g__law_value T.k__law_value b__law_value .nil pass0 (pa_cons (pv 2) pa_nil)) pa_nil)) (by rfl))
  (pss_cons (ps_set (i := 5) sc_law.nd rfl (.inl rfl) (pe_call G__law_made hr rfl T.g__law_made T.k__law_made b__law_made .nil pass0 (pa_cons (pv 3) pa_nil)))
  (pss_cons (ps_for PassesOwn.leaving rfl (pi_enum (by rfl) T.n_enumerate (pa_cons (pv 5) pa_nil)) (pg_tup rfl (pgs_cons (pg_name (i := 6) sc_law.nd rfl (.inr rfl)) (pgs_cons (pg_name (i := 7) sc_law.nd rfl (.inl rfl)) pgs_nil)))
  (pss_cons (ps_if (pt_cmpR (op_neD hu64) (pe_call G__law_sorts hr rfl T.g__law_sorts T.k__law_sorts b__law_sorts .nil pass0 (pa_cons (pv 7) pa_nil)) (pe_lc (own := [("_law_spot", 11)]) (g := gName 11) (tt := tYes) rfl sc_law.nd (pi_range1 (by rfl) T.n_range (pa_cons (pe_callB call_len_seq (by rfl) T.n_len (by decide +kernel) (pa_cons (pv 5) pa_nil)) pa_nil)) (blkOk_by (own := [("_law_spot", 11)]) (N := n_law) (sc := defScope s_law) (by decide +kernel)) (fun _ _ _ _ _ => (pg_name (i := 11) sc_law.nd rfl (.inl rfl))) (fun _ _ _ _ _ => pts_nil) (fun _ _ _ _ _ => (pe_cmpR op_eq (pv 11) (pv 6) (nomark _)))) (nomark _)) (pss_one (ps_ret pe_bl)) pss_nil)
  (pss_cons (ps_set (i := 8) sc_law.nd rfl (.inl rfl) (pe_cmpR op_lt (pv 6) (pe_op op_sub (pe_callB call_len_seq (by rfl) T.n_len (by decide +kernel) (pa_cons (pv 5) pa_nil)) pe_int) (nomark _)))
  (pss_cons (ps_if (pt_cmpR (op_neD hu64) (pe_lst (pa_cons (pe_callB Exv.call_isX (by rfl) T.n_isinstance (by decide +kernel) (pa_cons (pv 7) (pa_cons (pe_glob (v := .ref _) rfl TE.g_KeptError rfl) pa_nil))) (pa_cons (pe_callB Exv.call_isX (by rfl) T.n_isinstance (by decide +kernel) (pa_cons (pv 7) (pa_cons (pe_bltn (v := .ty "ValueError") (by rfl) T.n_ValueError (by decide +kernel) rfl) pa_nil))) pa_nil))) (pe_lst (pa_cons (pv 8) (pa_cons (pv 8) pa_nil))) (nomark _)) (pss_one (ps_ret pe_bl)) pss_nil)
  (pss_one (ps_if (PW.pt (pw_or (pt_cmpR op_eq (pe_callB Exv.call_isX (by rfl) T.n_isinstance (by decide +kernel) (pa_cons (pv 7) (pa_cons (pe_bltn (v := .ty "KeyError") (by rfl) T.n_KeyError (by decide +kernel) rfl) pa_nil))) (pv 8) (nomark _)) (pw_or1 (pt_cmpR op_ne (pe_callB (Rg.call_repr hgu hu64) (by rfl) T.n_repr (by decide +kernel) (pa_cons (pe_call G__law_caught hr rfl T.g__law_caught T.k__law_caught b__law_caught .nil pass0 (pa_cons (pv 3) pa_nil)) pa_nil)) (pe_callB (Rg.call_repr hgu hu64) (by rfl) T.n_repr (by decide +kernel) (pa_cons (pe_lst (pa_cons (pv 3) (pa_cons pe_str pa_nil))) pa_nil)) (nomark _))))) (pss_one (ps_ret pe_bl)) pss_nil))))))
  (pss_cons (ps_if (pt_not (pt_val (Rg.pe_callG G__law_copies_right hgu hr rfl T.g__law_copies_right T.k__law_copies_right b__law_copies_right pass0 (pa_cons (pv 4) pa_nil)))) (pss_one (ps_ret pe_bl)) pss_nil)
  (pss_cons (ps_asg (pe_call G__law_fields hr rfl T.g__law_fields T.k__law_fields b__law_fields .nil pass0 (pa_cons (pv 3) (pa_cons (pv 4) pa_nil))) (pg_tup rfl (pgs_cons (pg_name (i := 9) sc_law.nd rfl (.inl rfl)) (pgs_cons (pg_name (i := 10) sc_law.nd rfl (.inl rfl)) pgs_nil))))
  (pss_one (ps_if (PW.pt (pw_or (pt_cmpR op_ne (pe_callB (Rg.call_repr hgu hu64) (by rfl) T.n_repr (by decide +kernel) (pa_cons (pv 9) pa_nil)) (pe_callB (Rg.call_repr hgu hu64) (by rfl) T.n_repr (by decide +kernel) (pa_cons (pe_op op_rep (pe_lst (pa_cons (pv 3) pa_nil)) pe_int) pa_nil)) (nomark _)) (pw_or1 (pt_cmpR op_ne (pe_callB (Rg.call_repr hgu hu64) (by rfl) T.n_repr (by decide +kernel) (pa_cons (pv 10) pa_nil)) (pe_callB (Rg.call_repr hgu hu64) (by rfl) T.n_repr (by decide +kernel) (pa_cons (pe_op op_rep (pe_lst (pa_cons (pv 4) pa_nil)) pe_int) pa_nil)) (nomark _))))) (pss_one (ps_ret pe_bl)) pss_nil)))))))))
  (pss_one (ps_ret pe_bl))), ?_⟩
    -- how many turns
    refine ⟨_, rfl, l, ns.map V.int, rfl, .inl hl, _, _, rfl, ?_⟩
    rw [List.length_map]
    refine ⟨_, _, rfl, _, rfl, by split <;> split <;> omega, by split <;> split <;> omega, ?_⟩
    have hturns : (if (if (ns.length : Int) < 4 then (ns.length : Int) else 4) > 2 then (if (ns.length : Int) < 4 then (ns.length : Int) else 4) else 2).toNat ≤ 4 := by split <;> split <;> omega
    generalize (if (if (ns.length : Int) < 4 then (ns.length : Int) else 4) > 2 then (if (ns.length : Int) < 4 then (ns.length : Int) else 4) else 2).toNat = turns at *
    refine for_range (lo := 0) (n := turns) (fun _ σ H' => SqL K H' l (ns.map V.int) ∧ ∃ a1 a2 a3 a4 a5 a6 a7 a8 a9 a10 a11 : Option V, σ = [some (.ref l), a1, a2, a3, a4, a5, a6, a7, a8, a9, a10, a11])
      ⟨hl, _, _, _, _, _, _, _, _, _, _, _, rfl⟩ (fun k σ H hk p => ?_) (fun σ H' _ => q H')
    obtain ⟨hl, a1, a2, a3, a4, a5, a6, a7, a8, a9, a10, a11, rfl⟩ := p
    refine ⟨_, rfl, _, rfl, l, ns, k, 1, by rw [Int.zero_add]; rfl, hl, by omega, by decide, fun p H1 np s1 bx => ?_⟩
    refine ⟨_, rfl, p, 0, rfl, bx, by decide, fun v d H2 dv gd bx2 k2 => ?_⟩
    refine ⟨_, rfl, p, 2, rfl, bx2, by decide, fun u e H3 du ge bx3 k3 => ⟨_, _, rfl, ?_⟩⟩
    have dv3 := dv H3 k3
    have du3 := du H3 fun _ _ _ z => z
    have S3 : Same H H3 := fun b o z => k3 _ _ (ne_of_none z np) (k2 _ _ (ne_of_none z np) (s1 _ _ z))
    refine ⟨_, rfl, v, d, rfl, dv3, ⟨4, rfl, fit_one (m := 3) gd.f⟩, fun r as H4 s4 nr er len E4 => ?_⟩
    have hlen : (as.map V.ref).length = 16 := by rw [List.length_map]; exact len
    have sk := sh_key gd.s
    refine ⟨_, rfl, r, as.map V.ref, rfl, SqL.of er, ?_⟩
    refine for_it walk_enum (fun _ σ H' => Same H4 H' ∧ ∃ b1 b2 b6 b7 b8 b9 b10 b11 : Option V, σ = [some (.ref l), b1, b2, some v, some u, some (.ref r), b6, b7, b8, b9, b10, b11])
      ⟨Same.refl _, _, _, _, _, _, _, _, _, rfl⟩ (fun i σ H' _ p => SqL.of (p.1 _ _ er)) (fun j x σ H5 H6 hj p y => ?_) (fun σ H5 p => ?_)
    · obtain ⟨s5, b1, b2, b6, b7, b8, b9, b10, b11, rfl⟩ := p
      obtain ⟨T0, x', y', rfl, nT, rfl, ex, ey⟩ := y
      cases ex
      obtain ⟨a, ha, rfl⟩ : ∃ a, as[j]? = some a ∧ y' = .ref a := by
        have ey : (as.map V.ref)[j]? = some y' := ey
        rw [List.getElem?_map] at ey
        obtain ⟨a, ha, hy⟩ := Option.map_eq_some_iff.mp ey
        exact ⟨a, ha, hy.symm⟩
      have hj16 : j < 16 := by omega
      have s6 := s5.trans (new_same (o := .tup [.int (j : Nat), .ref a]) nT)
      have eT : upd H5 T0 (.tup [.int (j : Nat), .ref a]) T0 = some (.tup [.int (j : Nat), .ref a]) := upd_same
      generalize upd H5 T0 (.tup [.int (j : Nat), .ref a]) = H6 at *
      refine ⟨T0, _, rfl, SqT.of eT, rfl, _, _, rfl, _, _, rfl, rfl, ?_⟩
      have at6 : ErrAt A H6 a j := ((E4 j a ha).at).mono s6
      -- of which sorts it is
      refine ⟨_, rfl, a, j, rfl, hj16, at6, fun rs H7 s7 nrs ers => ?_⟩
      have er7 := s7 _ _ (s6 _ _ er)
      refine ⟨_, rfl, r, _, rfl, .inl (SqL.of er7), _, rfl, by rw [hlen]; decide, by rw [hlen]; decide, fun D nD => ?_⟩
      rw [hlen]
      refine lc_range (lo := 0) (n := 16) (fun m Hi => (∀ b o, b ≠ D → H7 b = some o → Hi b = some o) ∧ Hi D = some (.lst ((List.range m).map fun i => .bl (decide (i = j)))))
        ⟨fun b o z e => by rw [upd_ne z]; exact e, upd_same⟩ (fun m Hi hm p => ?_) (fun Hi p => ?_)
      · refine ⟨rfl, keep1 ⟨_, rfl, _, rfl, rfl, ?_⟩⟩
        refine ⟨_, p.2, ?_, fun b o z e => ?_, ?_⟩
        · rw [List.length_map, List.length_range]
          exact Nat.lt_of_lt_of_le hm (by decide)
        · rw [upd_ne z]
          exact p.1 _ _ z e
        · rw [upd_same, List.range_succ, List.map_append, bl_row]
          rfl
      have s8 : Same H6 Hi := fun b o e => p.1 b o (fun z => by rw [z, s7.free nD] at e; cases e) (s7 _ _ e)
      have rsD : rs ≠ D := fun z => by rw [z, nD] at ers; cases ers
      refine ⟨.list (bsOf j), .list (bsOf j), .lst (SqL.of (p.1 _ _ rsD ers)) (dp_bools _ _), .lst (SqL.of p.2) (dp_bools _ _), bs_shaped j hj16, bs_shaped j hj16, _, rfl, ?_⟩
      rw [bs_eqv j hj16]
      refine iteF ?_
      have s9 := s6.trans s8
      have er8 := s9 _ _ er
      have at8 := at6.mono s8
      generalize Hi = H8 at *
      -- is it kept
      refine ⟨_, rfl, _, rfl, r, _, rfl, .inl (SqL.of er8), _, _, rfl, rfl, _, _, rfl, rfl, ?_⟩
      have ek : decide ((j : Int) < ((as.map V.ref).length : Int) - 1) = decide (j < 15) := by
        rw [hlen]
        apply decide_eq_decide.mpr
        omega
      show gName 8 (V.bl (decide ((j : Int) < ((as.map V.ref).length : Int) - 1))) _ _ _
      rw [ek]
      obtain ⟨dd, ea, hdd⟩ := at8
      refine ⟨_, rfl, a, A j, dd, .ref (A 16), .ref (A 16), _, rfl, ea, hdd, TE.exc j hj16, fun u z => z, TB.kept j hj16, ?_⟩
      refine ⟨_, rfl, a, A j, dd, .ty "ValueError", .type "ValueError", _, rfl, ea, hdd, TE.exc j hj16, fun u z => z, TB.val j hj16, ?_⟩
      refine ⟨(by show 2 ≤ sizeLine; decide), fun c1 hc1 => ?_⟩
      refine ⟨_, rfl, _, rfl, (by show 2 ≤ sizeLine; decide), fun c2 hc2 => ?_⟩
      refine ⟨.list [.bool (decide (j < 15)), .bool (decide (j < 15))], .list [.bool (decide (j < 15)), .bool (decide (j < 15))], .lst (SqL.of (new_same hc2 _ _ upd_same)) (.cons (.bl _) (.cons (.bl _) .nil)), .lst (SqL.of upd_same) (.cons (.bl _) (.cons (.bl _) .nil)), two_shaped _, two_shaped _, _, rfl, ?_⟩
      rw [two_eqv]
      refine iteF ?_
      have s10 := s9.trans ((new_same (o := .lst [.bl (decide (j < 15)), .bl (decide (j < 15))]) hc1).trans (new_same (o := .lst [.bl (decide (j < 15)), .bl (decide (j < 15))]) hc2))
      have ea10 := new_same (o := .lst [.bl (decide (j < 15)), .bl (decide (j < 15))]) hc2 _ _ (new_same (o := .lst [.bl (decide (j < 15)), .bl (decide (j < 15))]) hc1 _ _ ea)
      have hdd10 : dd = none ∨ ∃ d fs, dd = some d ∧ upd (upd H8 c1 (.lst [.bl (decide (j < 15)), .bl (decide (j < 15))])) c2 (.lst [.bl (decide (j < 15)), .bl (decide (j < 15))]) d = some (exd d fs) := by
        rcases hdd with z | ⟨d, fs, z, ed⟩
        · exact .inl z
        · exact .inr ⟨d, fs, z, new_same hc2 _ _ (new_same hc1 _ _ ed)⟩
      generalize upd (upd H8 c1 (.lst [.bl (decide (j < 15)), .bl (decide (j < 15))])) c2 (.lst [.bl (decide (j < 15)), .bl (decide (j < 15))]) = H10 at *
      -- a key error or not; caught
      refine ⟨_, rfl, a, A j, dd, .ty "KeyError", .type "KeyError", _, rfl, ea10, hdd10, TE.exc j hj16, fun u z => z, TB.key j hj16, ?_⟩
      refine ⟨_, rfl, rfl, _, rfl, ?_⟩
      have neg : decide (V.bl (!decide (j < 15)) = V.bl (decide (j < 15))) = false := by
        apply decide_eq_false
        intro z
        have := V.bl.inj z
        revert this
        cases decide (j < 15) <;> simp
      rw [neg]
      refine iteF ?_
      have dv10 := DV.mono (s4.trans s10) _ _ dv3
      refine ⟨_, rfl, v, d, rfl, dv10, ⟨4, rfl, fit_one (m := 3) gd.f⟩, fun rc vc Hc sc erc dvc => ?_⟩
      refine ⟨rc, .list [d, .str "key"], rfl, .lst (SqL.of erc) (.cons (DV.dp _ _ dvc) (.cons (.str _) .nil)), sk.s, sk.n, Nat.le_trans sk.k (by decide), Nat.le_trans sk.l (Nat.le_trans (by decide) big400), ?_⟩
      refine ⟨_, rfl, (by show 2 ≤ sizeLine; decide), fun c3 hc3 => ?_⟩
      have dv11 := DV.mono (sc.trans (new_same (o := .lst [v, .str "key"]) hc3)) _ _ dv10
      refine ⟨c3, .list [d, .str "key"], rfl, .lst (SqL.of upd_same) (.cons (DV.dp _ _ dv11) (.cons (.str _) .nil)), sk.s, sk.n, Nat.le_trans sk.k (by decide), Nat.le_trans sk.l (Nat.le_trans (by decide) big400), rfl, _, rfl, ?_⟩
      rw [decide_eq_true rfl]
      refine iteF ?_
      exact ⟨s10.trans (sc.trans (new_same hc3)), _, _, _, _, _, _, _, _, rfl⟩
    -- behind the errors
    obtain ⟨s5, b1, b2, b6, b7, b8, b9, b10, b11, rfl⟩ := p
    have dv5 := DV.mono (s4.trans s5) _ _ dv3
    have du5 := DV.mono (s4.trans s5) _ _ du3
    refine ⟨_, rfl, u, e, rfl, du5, ge, fun H6 s6 => ⟨_, rfl, iteF ?_⟩⟩
    have dv6 := DV.mono s6 _ _ dv5
    have du6 := DV.mono s6 _ _ du5
    refine ⟨_, rfl, _, rfl, v, u, d, e, rfl, dv6, ⟨4, rfl, fit_one (m := 3) gd.f⟩, du6, ⟨4, rfl, fit_one (m := 3) ge.f⟩, fun t r1 r2 vs1 vs2 H7 s7 et er1 er2 d1 d2 => ?_⟩
    refine ⟨t, _, rfl, SqT.of et, rfl, _, _, rfl, _, _, rfl, rfl, ?_⟩
    have sv := sh_rep gd.s 14 (Nat.le_refl _)
    have su := sh_rep ge.s 2 (by decide)
    refine ⟨_, rfl, r1, .list (List.replicate 14 d), rfl, .lst (SqL.of er1) (DVs.dp _ _ d1), sv.s, sv.n, Nat.le_trans sv.k (by decide), Nat.le_trans sv.l (Nat.le_trans (by decide) big2000), ?_⟩
    refine ⟨_, rfl, (by show 1 ≤ sizeLine; decide), fun c1 hc1 => ?_⟩
    refine ⟨c1, 14, [v], rfl, rfl, upd_same, by decide, by decide, (by show 14 ≤ sizeLine; decide), fun c2 hc2 => ?_⟩
    have q1 := (new_same (o := .lst [v]) hc1).trans (new_same (o := .lst (List.replicate (14 : Int).toNat [v]).flatten) hc2)
    have dv8 := DV.mono (s7.trans q1) _ _ dv6
    refine ⟨c2, .list (List.replicate 14 d), rfl, .lst (SqL.of (xs := List.replicate 14 v) upd_same) (dp_rep (DV.dp _ _ dv8) 14), sv.s, sv.n, Nat.le_trans sv.k (by decide), Nat.le_trans sv.l (Nat.le_trans (by decide) big2000), rfl, _, rfl, ?_⟩
    rw [decide_eq_true rfl]
    refine iteF ?_
    refine ⟨_, rfl, r2, .list (List.replicate 2 e), rfl, .lst (SqL.of (q1 _ _ er2)) (DVs.dp _ _ (DVs.mono q1 _ _ d2)), su.s, su.n, Nat.le_trans su.k (by decide), Nat.le_trans su.l (Nat.le_trans (by decide) big2000), ?_⟩
    refine ⟨_, rfl, (by show 1 ≤ sizeLine; decide), fun c3 hc3 => ?_⟩
    refine ⟨c3, 2, [u], rfl, rfl, upd_same, by decide, by decide, (by show 2 ≤ sizeLine; decide), fun c4 hc4 => ?_⟩
    have q2 := (new_same (o := .lst [u]) hc3).trans (new_same (o := .lst (List.replicate (2 : Int).toNat [u]).flatten) hc4)
    have du8 := DV.mono (s7.trans (q1.trans q2)) _ _ du6
    refine ⟨c4, .list (List.replicate 2 e), rfl, .lst (SqL.of (xs := List.replicate 2 u) upd_same) (dp_rep (DV.dp _ _ du8) 2), su.s, su.n, Nat.le_trans su.k (by decide), Nat.le_trans su.l (Nat.le_trans (by decide) big2000), rfl, _, rfl, ?_⟩
    rw [decide_eq_true rfl]
    refine iteF ?_
    exact ⟨(S3.trans (s4.trans (s5.trans (s6.trans (s7.trans (q1.trans q2)))))).seq hl, _, _, _, _, _, _, _, _, _, _, _, rfl⟩
end
end K1

set_option Elab.async false
set_option linter.all false
set_option maxRecDepth 100000
set_option maxHeartbeats 16000000
namespace K1
open PySem PySem.Spec PyProof.Rows L2
/-! ### what the top has written -/
abbrev Lw : PySem.W.OpenLaw := PySem.Challenge.rw_keptnomore_k01_errors_and_their_fields
def clsB (K : PySem.W.Frag) (C : Addr) (B i : String) : Bool :=
  decide (PySem.W.findIn K (.ref C) "__setattr__" = some (some (.builtin "object.__setattr__"))) && (decide (PySem.W.subIn K (.ref C) (.type "BaseException") = some true) && (decide (PySem.W.typeIn K (.ref C) = some (.type "type")) && (PySem.W.keepIn K (.ref C)
  && (decide (PySem.W.findIn K (.ref C) "__getattribute__" = some (some (.builtin "BaseException.__getattribute__"))) && (decide (PySem.W.findIn K (.ref C) "__getattr__" = some none) && (PySem.W.hasDictIn K C
  && (decide (PySem.W.findIn K (.ref C) "__class__" = some (some (.builtin "object.__class__"))) && (decide (PySem.W.mroIn K C (.type "object") = some true) && (decide (PySem.W.ks_superIn K C C "__init__" = some (some (.builtin i)))
  && (decide (PySem.W.subIn K (.ref C) (.type B) = some true) && decide (PySem.W.mroIn K C (.ref C) = some true)))))))))))
structure ClsF (K : PySem.W.Frag) (C : Addr) (B i : String) : Prop where
  sa : PySem.W.findIn K (.ref C) "__setattr__" = some (some (.builtin "object.__setattr__"))
  exC : PySem.W.subIn K (.ref C) (.type "BaseException") = some true
  tyC : PySem.W.typeIn K (.ref C) = some (.type "type")
  kC : PySem.W.keepIn K (.ref C) = true
  ga : PySem.W.findIn K (.ref C) "__getattribute__" = some (some (.builtin "BaseException.__getattribute__"))
  gg : PySem.W.findIn K (.ref C) "__getattr__" = some none
  hd : PySem.W.hasDictIn K C = true
  ha : PySem.W.findIn K (.ref C) "__class__" = some (some (.builtin "object.__class__"))
  ho : PySem.W.mroIn K C (.type "object") = some true
  al : PySem.W.ks_superIn K C C "__init__" = some (some (.builtin i))
  sB : PySem.W.subIn K (.ref C) (.type B) = some true
  mC : PySem.W.mroIn K C (.ref C) = some true
theorem clsB_ok {K : PySem.W.Frag} {C : Addr} {B i : String} (h : clsB K C B i = true) : ClsF K C B i := by
  unfold clsB at h
  simp only [Bool.and_eq_true, decide_eq_true_eq] at h
  obtain ⟨h1, h2, h3, h4, h5, h6, h7, h8, h9, h10, h11, h12⟩ := h
  exact ⟨h1, h2, h3, h4, h5, h6, h7, h8, h9, h10, h11, h12⟩
theorem ClsF.exc {K : PySem.W.Frag} {C : Addr} {B i : String} (h : ClsF K C B i) (hn : PySem.W.specialIn K (.builtin "object.__class__") "__get__" = some (some (.builtin "getset_descriptor.__get__")))
    (ht : PySem.W.takesIn K (.builtin "object.__class__") = some true) : ExcC K C := ⟨h.ga, h.gg, h.exC, h.hd, h.ha, hn, ht, h.ho⟩
theorem ClsF.xf {K : PySem.W.Frag} {C : Addr} {B i : String} (h : ClsF K C B i) : XfC K C := ⟨h.ga, h.gg, h.exC, h.hd⟩
/-- the table of sorts, the bases, the clauses -/
def tabB (K : PySem.W.Frag) (L : List Addr) : Bool :=
  (List.range 16).all (fun i => (List.range 16).all fun j => decide (PySem.W.kitOne K (.ref (L.getD j 0)) (.ref (L.getD i 0)) = some (decide (i = j))))
  && ((List.range 16).all (fun j => decide (PySem.W.kitOne K (.ref (L.getD j 0)) (.ref (L.getD 16 0)) = some (decide (j < 15))))
  && ((List.range 16).all (fun j => decide (PySem.W.kitOne K (.ref (L.getD j 0)) (.type "ValueError") = some (decide (j < 15))))
  && ((List.range 16).all (fun j => decide (PySem.W.kitOne K (.ref (L.getD j 0)) (.type "KeyError") = some (!decide (j < 15))))
  && (decide (PySem.W.exmOne K (.ref (L.getD 11 0)) (.ref (L.getD 10 0)) = some false) && (decide (PySem.W.exmOne K (.ref (L.getD 11 0)) (.ref (L.getD 16 0)) = some true)
  && (decide (PySem.W.exmOne K (.ref (L.getD 15 0)) (.ref (L.getD 16 0)) = some false) && decide (PySem.W.exmOne K (.ref (L.getD 15 0)) (.type "KeyError") = some true)))))))
structure TabF (K : PySem.W.Frag) (A : Ads) : Prop where
  kit : ∀ i j, i < 16 → j < 16 → PySem.W.kitOne K (.ref (A j)) (.ref (A i)) = some (decide (i = j))
  kept : ∀ j, j < 16 → PySem.W.kitOne K (.ref (A j)) (.ref (A 16)) = some (decide (j < 15))
  val : ∀ j, j < 16 → PySem.W.kitOne K (.ref (A j)) (.type "ValueError") = some (decide (j < 15))
  key : ∀ j, j < 16 → PySem.W.kitOne K (.ref (A j)) (.type "KeyError") = some (!decide (j < 15))
  e1 : PySem.W.exmOne K (.ref (A 11)) (.ref (A 10)) = some false
  e2 : PySem.W.exmOne K (.ref (A 11)) (.ref (A 16)) = some true
  e3 : PySem.W.exmOne K (.ref (A 15)) (.ref (A 16)) = some false
  e4 : PySem.W.exmOne K (.ref (A 15)) (.type "KeyError") = some true
theorem tabB_ok {K : PySem.W.Frag} {L : List Addr} (h : tabB K L = true) : TabF K fun j => L.getD j 0 := by
  unfold tabB at h
  rw [Bool.and_eq_true, Bool.and_eq_true, Bool.and_eq_true, Bool.and_eq_true, Bool.and_eq_true, Bool.and_eq_true, Bool.and_eq_true] at h
  obtain ⟨h1, h2, h3, h4, h5, h6, h7, h8⟩ := h
  refine ⟨fun i j hi hj => ?_, fun j hj => ?_, fun j hj => ?_, fun j hj => ?_, of_decide_eq_true h5, of_decide_eq_true h6, of_decide_eq_true h7, of_decide_eq_true h8⟩
  · exact of_decide_eq_true (List.all_eq_true.mp (List.all_eq_true.mp h1 i (List.mem_range.mpr hi)) j (List.mem_range.mpr hj))
  · exact of_decide_eq_true (List.all_eq_true.mp h2 j (List.mem_range.mpr hj))
  · exact of_decide_eq_true (List.all_eq_true.mp h3 j (List.mem_range.mpr hj))
  · exact of_decide_eq_true (List.all_eq_true.mp h4 j (List.mem_range.mpr hj))

theorem ecPass_key {C : Addr} : ∀ self : Value, refuseLoop self "__setattr__" (.ref C :: Ky.keTail) = pure () := fun self => (refuseLoop_ref self _ C _).trans (Ky.keyPass self)
theorem refs16 (a : Addr) : PySem.HandSPX.refsVE [.ref a, .type "ValueError", .type "Exception", .type "BaseException", .type "object"] = true := by
  show PySem.HandSPX.refsVE [.type "ValueError", .type "Exception", .type "BaseException", .type "object"] = true
  decide +kernel
theorem ecHas_key {C : Addr} : (Value.ref C :: Ky.keTail).contains (.type "object") = true := by
  rw [List.contains_cons, show Ky.keTail.contains (.type "object") = true by decide +kernel, Bool.or_true]

theorem all_mk {w : World} {K : PySem.W.Frag} {h : Heap} {mg : Str → Option Value} {fa : Addr} (X : K.In h) (G : h.Ns mainGlobals mg) (hfa : mg "law" = some (.ref fa))
    {a0 f0 cc0 cda0 N0 a1 f1 cc1 cda1 N1 a2 f2 cc2 cda2 N2 a3 f3 cc3 cda3 N3 a4 f4 cc4 cda4 N4 a5 f5 cc5 cda5 N5 a6 f6 cc6 cda6 N6 a7 f7 cc7 cda7 N7 a8 f8 cc8 cda8 N8 a9 f9 cc9 cda9 N9 a10 f10 cc10 cda10 N10 a11 f11 cc11 cda11 N11 a12 f12 cc12 cda12 N12 a13 f13 cc13 cda13 N13 a14 f14 cc14 cda14 N14 a15 f15 cc15 cda15 N15 a16 fF_box fF_take fF_sorts fF_made fF_fields fF_kept_of fF_copies_right fF_caught fF_value fF_own fF_law : Addr}
    {od0 an0 dd0 cld0 cdd0 od1 an1 dd1 cld1 cdd1 od2 an2 dd2 cld2 cdd2 od3 an3 dd3 cld3 cdd3 od4 an4 dd4 cld4 cdd4 od5 an5 dd5 cld5 cdd5 od6 an6 dd6 cld6 cdd6 od7 an7 dd7 cld7 cdd7 od8 an8 dd8 cld8 cdd8 od9 an9 dd9 cld9 cdd9 od10 an10 dd10 cld10 cdd10 od11 an11 dd11 cld11 cdd11 od12 an12 dd12 cld12 cdd12 od13 an13 dd13 cld13 cdd13 od14 an14 dd14 cld14 cdd14 od15 an15 dd15 cld15 cdd15 odF_box anF_box odF_take anF_take odF_sorts anF_sorts odF_made anF_made odF_fields anF_fields odF_kept_of anF_kept_of odF_copies_right anF_copies_right odF_caught anF_caught odF_value anF_value odF_own anF_own odF_law anF_law : Option Addr}
    {oc0 dc0 pm0 ct0 cl0 ccl0 oc1 dc1 pm1 ct1 cl1 ccl1 oc2 dc2 pm2 ct2 cl2 ccl2 oc3 dc3 pm3 ct3 cl3 ccl3 oc4 dc4 pm4 ct4 cl4 ccl4 oc5 dc5 pm5 ct5 cl5 ccl5 oc6 dc6 pm6 ct6 cl6 ccl6 oc7 dc7 pm7 ct7 cl7 ccl7 oc8 dc8 pm8 ct8 cl8 ccl8 oc9 dc9 pm9 ct9 cl9 ccl9 oc10 dc10 pm10 ct10 cl10 ccl10 oc11 dc11 pm11 ct11 cl11 ccl11 oc12 dc12 pm12 ct12 cl12 ccl12 oc13 dc13 pm13 ct13 cl13 ccl13 oc14 dc14 pm14 ct14 cl14 ccl14 oc15 dc15 pm15 ct15 cl15 ccl15 ocF_box kVF_box dcF_box pmF_box cdF_box ctF_box ocF_take kVF_take dcF_take pmF_take cdF_take ctF_take ocF_sorts kVF_sorts dcF_sorts pmF_sorts cdF_sorts ctF_sorts ocF_made kVF_made dcF_made pmF_made cdF_made ctF_made ocF_fields kVF_fields dcF_fields pmF_fields cdF_fields ctF_fields ocF_kept_of kVF_kept_of dcF_kept_of pmF_kept_of cdF_kept_of ctF_kept_of ocF_copies_right kVF_copies_right dcF_copies_right pmF_copies_right cdF_copies_right ctF_copies_right ocF_caught kVF_caught dcF_caught pmF_caught cdF_caught ctF_caught ocF_value kVF_value dcF_value pmF_value cdF_value ctF_value ocF_own kVF_own dcF_own pmF_own cdF_own ctF_own ocF_law kVF_law dcF_law pmF_law cdF_law ctF_law : Value}
    {osl0 csl0 osl1 csl1 osl2 csl2 osl3 csl3 osl4 csl4 osl5 csl5 osl6 csl6 osl7 csl7 osl8 csl8 osl9 csl9 osl10 csl10 osl11 csl11 osl12 csl12 osl13 csl13 osl14 csl14 osl15 csl15 slF_box slF_take slF_sorts slF_made slF_fields slF_kept_of slF_copies_right slF_caught slF_value slF_own slF_law : Array (Option Value)}
    {nm0 q0 file0 nm1 q1 file1 nm2 q2 file2 nm3 q3 file3 nm4 q4 file4 nm5 q5 file5 nm6 q6 file6 nm7 q7 file7 nm8 q8 file8 nm9 q9 file9 nm10 q10 file10 nm11 q11 file11 nm12 q12 file12 nm13 q13 file13 nm14 q14 file14 nm15 q15 file15 : Str} {bs0 sub0 bs1 sub1 bs2 sub2 bs3 sub3 bs4 sub4 bs5 sub5 bs6 sub6 bs7 sub7 bs8 sub8 bs9 sub9 bs10 sub10 bs11 sub11 bs12 sub12 bs13 sub13 bs14 sub14 bs15 sub15 : List Value} {sn0 sn1 sn2 sn3 sn4 sn5 sn6 sn7 sn8 sn9 sn10 sn11 sn12 sn13 sn14 sn15 : List Str} {ab0 ab1 ab2 ab3 ab4 ab5 ab6 ab7 ab8 ab9 ab10 ab11 ab12 ab13 ab14 ab15 : Bool} {col0 col1 col2 col3 col4 col5 col6 col7 col8 col9 col10 col11 col12 col13 col14 col15 : Option Bool}
    {k0_0 k1_0 k2_0 k3_0 k5_0 k0_1 k1_1 k2_1 k3_1 k5_1 k0_2 k1_2 k2_2 k3_2 k5_2 k0_3 k1_3 k2_3 k3_3 k5_3 k0_4 k1_4 k2_4 k3_4 k5_4 k0_5 k1_5 k2_5 k3_5 k5_5 k0_6 k1_6 k2_6 k3_6 k5_6 k0_7 k1_7 k2_7 k3_7 k5_7 k0_8 k1_8 k2_8 k3_8 k5_8 k0_9 k1_9 k2_9 k3_9 k5_9 k0_10 k1_10 k2_10 k3_10 k5_10 k0_11 k1_11 k2_11 k3_11 k5_11 k0_12 k1_12 k2_12 k3_12 k5_12 k0_13 k1_13 k2_13 k3_13 k5_13 k0_14 k1_14 k2_14 k3_14 k5_14 k0_15 k1_15 k2_15 k3_15 k5_15 : Option Value}
    {vs0 vs1 vs2 vs3 vs4 vs5 vs6 vs7 vs8 vs9 vs10 vs11 vs12 vs13 vs14 vs15 : Array Value} {ccs0 ccs1 ccs2 ccs3 ccs4 ccs5 ccs6 ccs7 ccs8 ccs9 ccs10 ccs11 ccs12 ccs13 ccs14 ccs15 : Array (Option Value)} {tf0 tf1 tf2 tf3 tf4 tf5 tf6 tf7 tf8 tf9 tf10 tf11 tf12 tf13 tf14 tf15 : Tok}
    (g0 : PySem.W.nsIn K mainGlobals "NoKinds" = some (some (.ref a0)))
    (g1 : PySem.W.nsIn K mainGlobals "NoRules" = some (some (.ref a1)))
    (g2 : PySem.W.nsIn K mainGlobals "NoQuestion" = some (some (.ref a2)))
    (g3 : PySem.W.nsIn K mainGlobals "NoTree" = some (some (.ref a3)))
    (g4 : PySem.W.nsIn K mainGlobals "NoBundle" = some (some (.ref a4)))
    (g5 : PySem.W.nsIn K mainGlobals "TooMany" = some (some (.ref a5)))
    (g6 : PySem.W.nsIn K mainGlobals "TooGreat" = some (some (.ref a6)))
    (g7 : PySem.W.nsIn K mainGlobals "UnknownKind" = some (some (.ref a7)))
    (g8 : PySem.W.nsIn K mainGlobals "NoDocument" = some (some (.ref a8)))
    (g9 : PySem.W.nsIn K mainGlobals "NoEvent" = some (some (.ref a9)))
    (g10 : PySem.W.nsIn K mainGlobals "Refused" = some (some (.ref a10)))
    (g11 : PySem.W.nsIn K mainGlobals "RefusedAt" = some (some (.ref a11)))
    (g12 : PySem.W.nsIn K mainGlobals "Resting" = some (some (.ref a12)))
    (g13 : PySem.W.nsIn K mainGlobals "OtherSpace" = some (some (.ref a13)))
    (g14 : PySem.W.nsIn K mainGlobals "NoCommand" = some (some (.ref a14)))
    (g15 : PySem.W.nsIn K mainGlobals "NotPending" = some (some (.ref a15)))
    (g16 : PySem.W.nsIn K mainGlobals "KeptError" = some (some (.ref a16)))
    (x0 : K.lookup a0 = some (excClassObj nm0 q0 a0 N0 bs0 [.ref a16, .type "ValueError", .type "Exception", .type "BaseException", .type "object"] true sn0 sub0 ab0 col0 dd0 k0_0 k1_0 k2_0 k3_0 k5_0 "ValueError.__new__"))
    (i0 : PySem.W.findIn K (.ref a0) "__init__" = some (some (.ref f0)))
    (t0 : PySem.W.typeIn K (.ref f0) = some (.type "function"))
    (l0 : K.lookup f0 = some ⟨oc0, od0, .func (PySem.W.fnX "__init__" "NoKinds.__init__" (defArgs s_NoKinds) (defBody s_NoKinds) (defScope s_NoKinds) [("__class__", cc0)] .none .none dc0 pm0 an0 (.ref cda0) ct0), osl0⟩)
    (c0 : PySem.W.codeIn K (.ref cda0) "NoKinds.__init__" = true)
    (u0 : K.lookup cc0 = some ⟨cl0, cld0, .cell (some (.ref a0)), csl0⟩)
    (w0 : K.lookup cda0 = some ⟨ccl0, cdd0, .fields vs0, ccs0⟩)
    (y0 : vs0[2]? = some (.str file0 tf0))
    (z0 : ((Lw.prog.main.file : Str) == file0) = true)
    (b0 : clsB K a0 "ValueError" "ValueError.__init__" = true)
    (x1 : K.lookup a1 = some (excClassObj nm1 q1 a1 N1 bs1 [.ref a16, .type "ValueError", .type "Exception", .type "BaseException", .type "object"] true sn1 sub1 ab1 col1 dd1 k0_1 k1_1 k2_1 k3_1 k5_1 "ValueError.__new__"))
    (i1 : PySem.W.findIn K (.ref a1) "__init__" = some (some (.ref f1)))
    (t1 : PySem.W.typeIn K (.ref f1) = some (.type "function"))
    (l1 : K.lookup f1 = some ⟨oc1, od1, .func (PySem.W.fnX "__init__" "NoRules.__init__" (defArgs s_NoRules) (defBody s_NoRules) (defScope s_NoRules) [("__class__", cc1)] .none .none dc1 pm1 an1 (.ref cda1) ct1), osl1⟩)
    (c1 : PySem.W.codeIn K (.ref cda1) "NoRules.__init__" = true)
    (u1 : K.lookup cc1 = some ⟨cl1, cld1, .cell (some (.ref a1)), csl1⟩)
    (w1 : K.lookup cda1 = some ⟨ccl1, cdd1, .fields vs1, ccs1⟩)
    (y1 : vs1[2]? = some (.str file1 tf1))
    (z1 : ((Lw.prog.main.file : Str) == file1) = true)
    (b1 : clsB K a1 "ValueError" "ValueError.__init__" = true)
    (x2 : K.lookup a2 = some (excClassObj nm2 q2 a2 N2 bs2 [.ref a16, .type "ValueError", .type "Exception", .type "BaseException", .type "object"] true sn2 sub2 ab2 col2 dd2 k0_2 k1_2 k2_2 k3_2 k5_2 "ValueError.__new__"))
    (i2 : PySem.W.findIn K (.ref a2) "__init__" = some (some (.ref f2)))
    (t2 : PySem.W.typeIn K (.ref f2) = some (.type "function"))
    (l2 : K.lookup f2 = some ⟨oc2, od2, .func (PySem.W.fnX "__init__" "NoQuestion.__init__" (defArgs s_NoQuestion) (defBody s_NoQuestion) (defScope s_NoQuestion) [("__class__", cc2)] .none .none dc2 pm2 an2 (.ref cda2) ct2), osl2⟩)
    (c2 : PySem.W.codeIn K (.ref cda2) "NoQuestion.__init__" = true)
    (u2 : K.lookup cc2 = some ⟨cl2, cld2, .cell (some (.ref a2)), csl2⟩)
    (w2 : K.lookup cda2 = some ⟨ccl2, cdd2, .fields vs2, ccs2⟩)
    (y2 : vs2[2]? = some (.str file2 tf2))
    (z2 : ((Lw.prog.main.file : Str) == file2) = true)
    (b2 : clsB K a2 "ValueError" "ValueError.__init__" = true)
    (x3 : K.lookup a3 = some (excClassObj nm3 q3 a3 N3 bs3 [.ref a16, .type "ValueError", .type "Exception", .type "BaseException", .type "object"] true sn3 sub3 ab3 col3 dd3 k0_3 k1_3 k2_3 k3_3 k5_3 "ValueError.__new__"))
    (i3 : PySem.W.findIn K (.ref a3) "__init__" = some (some (.ref f3)))
    (t3 : PySem.W.typeIn K (.ref f3) = some (.type "function"))
    (l3 : K.lookup f3 = some ⟨oc3, od3, .func (PySem.W.fnX "__init__" "NoTree.__init__" (defArgs s_NoTree) (defBody s_NoTree) (defScope s_NoTree) [("__class__", cc3)] .none .none dc3 pm3 an3 (.ref cda3) ct3), osl3⟩)
    (c3 : PySem.W.codeIn K (.ref cda3) "NoTree.__init__" = true)
    (u3 : K.lookup cc3 = some ⟨cl3, cld3, .cell (some (.ref a3)), csl3⟩)
    (w3 : K.lookup cda3 = some ⟨ccl3, cdd3, .fields vs3, ccs3⟩)
    (y3 : vs3[2]? = some (.str file3 tf3))
    (z3 : ((Lw.prog.main.file : Str) == file3) = true)
    (b3 : clsB K a3 "ValueError" "ValueError.__init__" = true)
    (x4 : K.lookup a4 = some (excClassObj nm4 q4 a4 N4 bs4 [.ref a16, .type "ValueError", .type "Exception", .type "BaseException", .type "object"] true sn4 sub4 ab4 col4 dd4 k0_4 k1_4 k2_4 k3_4 k5_4 "ValueError.__new__"))
    (i4 : PySem.W.findIn K (.ref a4) "__init__" = some (some (.ref f4)))
    (t4 : PySem.W.typeIn K (.ref f4) = some (.type "function"))
    (l4 : K.lookup f4 = some ⟨oc4, od4, .func (PySem.W.fnX "__init__" "NoBundle.__init__" (defArgs s_NoBundle) (defBody s_NoBundle) (defScope s_NoBundle) [("__class__", cc4)] .none .none dc4 pm4 an4 (.ref cda4) ct4), osl4⟩)
    (c4 : PySem.W.codeIn K (.ref cda4) "NoBundle.__init__" = true)
    (u4 : K.lookup cc4 = some ⟨cl4, cld4, .cell (some (.ref a4)), csl4⟩)
    (w4 : K.lookup cda4 = some ⟨ccl4, cdd4, .fields vs4, ccs4⟩)
    (y4 : vs4[2]? = some (.str file4 tf4))
    (z4 : ((Lw.prog.main.file : Str) == file4) = true)
    (b4 : clsB K a4 "ValueError" "ValueError.__init__" = true)
    (x5 : K.lookup a5 = some (excClassObj nm5 q5 a5 N5 bs5 [.ref a16, .type "ValueError", .type "Exception", .type "BaseException", .type "object"] true sn5 sub5 ab5 col5 dd5 k0_5 k1_5 k2_5 k3_5 k5_5 "ValueError.__new__"))
    (i5 : PySem.W.findIn K (.ref a5) "__init__" = some (some (.ref f5)))
    (t5 : PySem.W.typeIn K (.ref f5) = some (.type "function"))
    (l5 : K.lookup f5 = some ⟨oc5, od5, .func (PySem.W.fnX "__init__" "TooMany.__init__" (defArgs s_TooMany) (defBody s_TooMany) (defScope s_TooMany) [("__class__", cc5)] .none .none dc5 pm5 an5 (.ref cda5) ct5), osl5⟩)
    (c5 : PySem.W.codeIn K (.ref cda5) "TooMany.__init__" = true)
    (u5 : K.lookup cc5 = some ⟨cl5, cld5, .cell (some (.ref a5)), csl5⟩)
    (w5 : K.lookup cda5 = some ⟨ccl5, cdd5, .fields vs5, ccs5⟩)
    (y5 : vs5[2]? = some (.str file5 tf5))
    (z5 : ((Lw.prog.main.file : Str) == file5) = true)
    (b5 : clsB K a5 "ValueError" "ValueError.__init__" = true)
    (x6 : K.lookup a6 = some (excClassObj nm6 q6 a6 N6 bs6 [.ref a16, .type "ValueError", .type "Exception", .type "BaseException", .type "object"] true sn6 sub6 ab6 col6 dd6 k0_6 k1_6 k2_6 k3_6 k5_6 "ValueError.__new__"))
    (i6 : PySem.W.findIn K (.ref a6) "__init__" = some (some (.ref f6)))
    (t6 : PySem.W.typeIn K (.ref f6) = some (.type "function"))
    (l6 : K.lookup f6 = some ⟨oc6, od6, .func (PySem.W.fnX "__init__" "TooGreat.__init__" (defArgs s_TooGreat) (defBody s_TooGreat) (defScope s_TooGreat) [("__class__", cc6)] .none .none dc6 pm6 an6 (.ref cda6) ct6), osl6⟩)
    (c6 : PySem.W.codeIn K (.ref cda6) "TooGreat.__init__" = true)
    (u6 : K.lookup cc6 = some ⟨cl6, cld6, .cell (some (.ref a6)), csl6⟩)
    (w6 : K.lookup cda6 = some ⟨ccl6, cdd6, .fields vs6, ccs6⟩)
    (y6 : vs6[2]? = some (.str file6 tf6))
    (z6 : ((Lw.prog.main.file : Str) == file6) = true)
    (b6 : clsB K a6 "ValueError" "ValueError.__init__" = true)
    (x7 : K.lookup a7 = some (excClassObj nm7 q7 a7 N7 bs7 [.ref a16, .type "ValueError", .type "Exception", .type "BaseException", .type "object"] true sn7 sub7 ab7 col7 dd7 k0_7 k1_7 k2_7 k3_7 k5_7 "ValueError.__new__"))
    (i7 : PySem.W.findIn K (.ref a7) "__init__" = some (some (.ref f7)))
    (t7 : PySem.W.typeIn K (.ref f7) = some (.type "function"))
    (l7 : K.lookup f7 = some ⟨oc7, od7, .func (PySem.W.fnX "__init__" "UnknownKind.__init__" (defArgs s_UnknownKind) (defBody s_UnknownKind) (defScope s_UnknownKind) [("__class__", cc7)] .none .none dc7 pm7 an7 (.ref cda7) ct7), osl7⟩)
    (c7 : PySem.W.codeIn K (.ref cda7) "UnknownKind.__init__" = true)
    (u7 : K.lookup cc7 = some ⟨cl7, cld7, .cell (some (.ref a7)), csl7⟩)
    (w7 : K.lookup cda7 = some ⟨ccl7, cdd7, .fields vs7, ccs7⟩)
    (y7 : vs7[2]? = some (.str file7 tf7))
    (z7 : ((Lw.prog.main.file : Str) == file7) = true)
    (b7 : clsB K a7 "ValueError" "ValueError.__init__" = true)
    (x8 : K.lookup a8 = some (excClassObj nm8 q8 a8 N8 bs8 [.ref a16, .type "ValueError", .type "Exception", .type "BaseException", .type "object"] true sn8 sub8 ab8 col8 dd8 k0_8 k1_8 k2_8 k3_8 k5_8 "ValueError.__new__"))
    (i8 : PySem.W.findIn K (.ref a8) "__init__" = some (some (.ref f8)))
    (t8 : PySem.W.typeIn K (.ref f8) = some (.type "function"))
    (l8 : K.lookup f8 = some ⟨oc8, od8, .func (PySem.W.fnX "__init__" "NoDocument.__init__" (defArgs s_NoDocument) (defBody s_NoDocument) (defScope s_NoDocument) [("__class__", cc8)] .none .none dc8 pm8 an8 (.ref cda8) ct8), osl8⟩)
    (c8 : PySem.W.codeIn K (.ref cda8) "NoDocument.__init__" = true)
    (u8 : K.lookup cc8 = some ⟨cl8, cld8, .cell (some (.ref a8)), csl8⟩)
    (w8 : K.lookup cda8 = some ⟨ccl8, cdd8, .fields vs8, ccs8⟩)
    (y8 : vs8[2]? = some (.str file8 tf8))
    (z8 : ((Lw.prog.main.file : Str) == file8) = true)
    (b8 : clsB K a8 "ValueError" "ValueError.__init__" = true)
    (x9 : K.lookup a9 = some (excClassObj nm9 q9 a9 N9 bs9 [.ref a16, .type "ValueError", .type "Exception", .type "BaseException", .type "object"] true sn9 sub9 ab9 col9 dd9 k0_9 k1_9 k2_9 k3_9 k5_9 "ValueError.__new__"))
    (i9 : PySem.W.findIn K (.ref a9) "__init__" = some (some (.ref f9)))
    (t9 : PySem.W.typeIn K (.ref f9) = some (.type "function"))
    (l9 : K.lookup f9 = some ⟨oc9, od9, .func (PySem.W.fnX "__init__" "NoEvent.__init__" (defArgs s_NoEvent) (defBody s_NoEvent) (defScope s_NoEvent) [("__class__", cc9)] .none .none dc9 pm9 an9 (.ref cda9) ct9), osl9⟩)
    (c9 : PySem.W.codeIn K (.ref cda9) "NoEvent.__init__" = true)
    (u9 : K.lookup cc9 = some ⟨cl9, cld9, .cell (some (.ref a9)), csl9⟩)
    (w9 : K.lookup cda9 = some ⟨ccl9, cdd9, .fields vs9, ccs9⟩)
    (y9 : vs9[2]? = some (.str file9 tf9))
    (z9 : ((Lw.prog.main.file : Str) == file9) = true)
    (b9 : clsB K a9 "ValueError" "ValueError.__init__" = true)
    (x10 : K.lookup a10 = some (excClassObj nm10 q10 a10 N10 bs10 [.ref a16, .type "ValueError", .type "Exception", .type "BaseException", .type "object"] true sn10 sub10 ab10 col10 dd10 k0_10 k1_10 k2_10 k3_10 k5_10 "ValueError.__new__"))
    (i10 : PySem.W.findIn K (.ref a10) "__init__" = some (some (.ref f10)))
    (t10 : PySem.W.typeIn K (.ref f10) = some (.type "function"))
    (l10 : K.lookup f10 = some ⟨oc10, od10, .func (PySem.W.fnX "__init__" "Refused.__init__" (defArgs s_Refused) (defBody s_Refused) (defScope s_Refused) [("__class__", cc10)] .none .none dc10 pm10 an10 (.ref cda10) ct10), osl10⟩)
    (c10 : PySem.W.codeIn K (.ref cda10) "Refused.__init__" = true)
    (u10 : K.lookup cc10 = some ⟨cl10, cld10, .cell (some (.ref a10)), csl10⟩)
    (w10 : K.lookup cda10 = some ⟨ccl10, cdd10, .fields vs10, ccs10⟩)
    (y10 : vs10[2]? = some (.str file10 tf10))
    (z10 : ((Lw.prog.main.file : Str) == file10) = true)
    (b10 : clsB K a10 "ValueError" "ValueError.__init__" = true)
    (x11 : K.lookup a11 = some (excClassObj nm11 q11 a11 N11 bs11 [.ref a16, .type "ValueError", .type "Exception", .type "BaseException", .type "object"] true sn11 sub11 ab11 col11 dd11 k0_11 k1_11 k2_11 k3_11 k5_11 "ValueError.__new__"))
    (i11 : PySem.W.findIn K (.ref a11) "__init__" = some (some (.ref f11)))
    (t11 : PySem.W.typeIn K (.ref f11) = some (.type "function"))
    (l11 : K.lookup f11 = some ⟨oc11, od11, .func (PySem.W.fnX "__init__" "RefusedAt.__init__" (defArgs s_RefusedAt) (defBody s_RefusedAt) (defScope s_RefusedAt) [("__class__", cc11)] .none .none dc11 pm11 an11 (.ref cda11) ct11), osl11⟩)
    (c11 : PySem.W.codeIn K (.ref cda11) "RefusedAt.__init__" = true)
    (u11 : K.lookup cc11 = some ⟨cl11, cld11, .cell (some (.ref a11)), csl11⟩)
    (w11 : K.lookup cda11 = some ⟨ccl11, cdd11, .fields vs11, ccs11⟩)
    (y11 : vs11[2]? = some (.str file11 tf11))
    (z11 : ((Lw.prog.main.file : Str) == file11) = true)
    (b11 : clsB K a11 "ValueError" "ValueError.__init__" = true)
    (x12 : K.lookup a12 = some (excClassObj nm12 q12 a12 N12 bs12 [.ref a16, .type "ValueError", .type "Exception", .type "BaseException", .type "object"] true sn12 sub12 ab12 col12 dd12 k0_12 k1_12 k2_12 k3_12 k5_12 "ValueError.__new__"))
    (i12 : PySem.W.findIn K (.ref a12) "__init__" = some (some (.ref f12)))
    (t12 : PySem.W.typeIn K (.ref f12) = some (.type "function"))
    (l12 : K.lookup f12 = some ⟨oc12, od12, .func (PySem.W.fnX "__init__" "Resting.__init__" (defArgs s_Resting) (defBody s_Resting) (defScope s_Resting) [("__class__", cc12)] .none .none dc12 pm12 an12 (.ref cda12) ct12), osl12⟩)
    (c12 : PySem.W.codeIn K (.ref cda12) "Resting.__init__" = true)
    (u12 : K.lookup cc12 = some ⟨cl12, cld12, .cell (some (.ref a12)), csl12⟩)
    (w12 : K.lookup cda12 = some ⟨ccl12, cdd12, .fields vs12, ccs12⟩)
    (y12 : vs12[2]? = some (.str file12 tf12))
    (z12 : ((Lw.prog.main.file : Str) == file12) = true)
    (b12 : clsB K a12 "ValueError" "ValueError.__init__" = true)
    (x13 : K.lookup a13 = some (excClassObj nm13 q13 a13 N13 bs13 [.ref a16, .type "ValueError", .type "Exception", .type "BaseException", .type "object"] true sn13 sub13 ab13 col13 dd13 k0_13 k1_13 k2_13 k3_13 k5_13 "ValueError.__new__"))
    (i13 : PySem.W.findIn K (.ref a13) "__init__" = some (some (.ref f13)))
    (t13 : PySem.W.typeIn K (.ref f13) = some (.type "function"))
    (l13 : K.lookup f13 = some ⟨oc13, od13, .func (PySem.W.fnX "__init__" "OtherSpace.__init__" (defArgs s_OtherSpace) (defBody s_OtherSpace) (defScope s_OtherSpace) [("__class__", cc13)] .none .none dc13 pm13 an13 (.ref cda13) ct13), osl13⟩)
    (c13 : PySem.W.codeIn K (.ref cda13) "OtherSpace.__init__" = true)
    (u13 : K.lookup cc13 = some ⟨cl13, cld13, .cell (some (.ref a13)), csl13⟩)
    (w13 : K.lookup cda13 = some ⟨ccl13, cdd13, .fields vs13, ccs13⟩)
    (y13 : vs13[2]? = some (.str file13 tf13))
    (z13 : ((Lw.prog.main.file : Str) == file13) = true)
    (b13 : clsB K a13 "ValueError" "ValueError.__init__" = true)
    (x14 : K.lookup a14 = some (excClassObj nm14 q14 a14 N14 bs14 [.ref a16, .type "ValueError", .type "Exception", .type "BaseException", .type "object"] true sn14 sub14 ab14 col14 dd14 k0_14 k1_14 k2_14 k3_14 k5_14 "ValueError.__new__"))
    (i14 : PySem.W.findIn K (.ref a14) "__init__" = some (some (.ref f14)))
    (t14 : PySem.W.typeIn K (.ref f14) = some (.type "function"))
    (l14 : K.lookup f14 = some ⟨oc14, od14, .func (PySem.W.fnX "__init__" "NoCommand.__init__" (defArgs s_NoCommand) (defBody s_NoCommand) (defScope s_NoCommand) [("__class__", cc14)] .none .none dc14 pm14 an14 (.ref cda14) ct14), osl14⟩)
    (c14 : PySem.W.codeIn K (.ref cda14) "NoCommand.__init__" = true)
    (u14 : K.lookup cc14 = some ⟨cl14, cld14, .cell (some (.ref a14)), csl14⟩)
    (w14 : K.lookup cda14 = some ⟨ccl14, cdd14, .fields vs14, ccs14⟩)
    (y14 : vs14[2]? = some (.str file14 tf14))
    (z14 : ((Lw.prog.main.file : Str) == file14) = true)
    (b14 : clsB K a14 "ValueError" "ValueError.__init__" = true)
    (x15 : K.lookup a15 = some (excClassObj nm15 q15 a15 N15 bs15 [.type "KeyError", .type "LookupError", .type "Exception", .type "BaseException", .type "object"] true sn15 sub15 ab15 col15 dd15 k0_15 k1_15 k2_15 k3_15 k5_15 Ky.newK))
    (i15 : PySem.W.findIn K (.ref a15) "__init__" = some (some (.ref f15)))
    (t15 : PySem.W.typeIn K (.ref f15) = some (.type "function"))
    (l15 : K.lookup f15 = some ⟨oc15, od15, .func (PySem.W.fnX "__init__" "NotPending.__init__" (defArgs s_NotPending) (defBody s_NotPending) (defScope s_NotPending) [("__class__", cc15)] .none .none dc15 pm15 an15 (.ref cda15) ct15), osl15⟩)
    (c15 : PySem.W.codeIn K (.ref cda15) "NotPending.__init__" = true)
    (u15 : K.lookup cc15 = some ⟨cl15, cld15, .cell (some (.ref a15)), csl15⟩)
    (w15 : K.lookup cda15 = some ⟨ccl15, cdd15, .fields vs15, ccs15⟩)
    (y15 : vs15[2]? = some (.str file15 tf15))
    (z15 : ((Lw.prog.main.file : Str) == file15) = true)
    (b15 : clsB K a15 "KeyError" "KeyError.__init__" = true)
    (n0row : PySem.W.findIn K (.ref a0) "row" = some none)
    (n1row : PySem.W.findIn K (.ref a1) "row" = some none)
    (n2at : PySem.W.findIn K (.ref a2) "at" = some none)
    (n3at : PySem.W.findIn K (.ref a3) "at" = some none)
    (n4at : PySem.W.findIn K (.ref a4) "at" = some none)
    (n5word : PySem.W.findIn K (.ref a5) "word" = some none)
    (n6product : PySem.W.findIn K (.ref a6) "product" = some none)
    (n7kind : PySem.W.findIn K (.ref a7) "kind" = some none)
    (n9event : PySem.W.findIn K (.ref a9) "event" = some none)
    (n10event : PySem.W.findIn K (.ref a10) "event" = some none)
    (n11at : PySem.W.findIn K (.ref a11) "at" = some none)
    (n14row : PySem.W.findIn K (.ref a14) "row" = some none)
    (n15question : PySem.W.findIn K (.ref a15) "question" = some none)
    (n15mark : PySem.W.findIn K (.ref a15) "mark" = some none)
    (tab : tabB K [a0, a1, a2, a3, a4, a5, a6, a7, a8, a9, a10, a11, a12, a13, a14, a15, a16] = true)
    (hn : PySem.W.specialIn K (.builtin "object.__class__") "__get__" = some (some (.builtin "getset_descriptor.__get__")))
    (ht : PySem.W.takesIn K (.builtin "object.__class__") = some true)
    (th : PySem.W.nsIn K PySem.cStatics "thirdparty.any" = some none)
    (htop : (Lw.prog.main.scope.names.lookup ("super" : Str)).isSome = false)
    (aF_box : PySem.W.nsIn K mainGlobals "_law_box" = some (some (.ref fF_box)))
    (lF_box : K.lookup fF_box = some ⟨ocF_box, odF_box, .func (PySem.W.fnOf "_law_box" "_law_box" (defArgs s_box) (defBody s_box) (defScope s_box) .none kVF_box dcF_box pmF_box anF_box cdF_box ctF_box), slF_box⟩)
    (cF_box : PySem.W.codeIn K cdF_box "_law_box" = true)
    (kF_box : PySem.W.keepIn K (.ref fF_box) = true)
    (aF_take : PySem.W.nsIn K mainGlobals "_law_take" = some (some (.ref fF_take)))
    (lF_take : K.lookup fF_take = some ⟨ocF_take, odF_take, .func (PySem.W.fnOf "_law_take" "_law_take" (defArgs s_take) (defBody s_take) (defScope s_take) .none kVF_take dcF_take pmF_take anF_take cdF_take ctF_take), slF_take⟩)
    (cF_take : PySem.W.codeIn K cdF_take "_law_take" = true)
    (kF_take : PySem.W.keepIn K (.ref fF_take) = true)
    (aF_sorts : PySem.W.nsIn K mainGlobals "_law_sorts" = some (some (.ref fF_sorts)))
    (lF_sorts : K.lookup fF_sorts = some ⟨ocF_sorts, odF_sorts, .func (PySem.W.fnOf "_law_sorts" "_law_sorts" (defArgs s_sorts) (defBody s_sorts) (defScope s_sorts) .none kVF_sorts dcF_sorts pmF_sorts anF_sorts cdF_sorts ctF_sorts), slF_sorts⟩)
    (cF_sorts : PySem.W.codeIn K cdF_sorts "_law_sorts" = true)
    (kF_sorts : PySem.W.keepIn K (.ref fF_sorts) = true)
    (aF_made : PySem.W.nsIn K mainGlobals "_law_made" = some (some (.ref fF_made)))
    (lF_made : K.lookup fF_made = some ⟨ocF_made, odF_made, .func (PySem.W.fnOf "_law_made" "_law_made" (defArgs s_made) (defBody s_made) (defScope s_made) .none kVF_made dcF_made pmF_made anF_made cdF_made ctF_made), slF_made⟩)
    (cF_made : PySem.W.codeIn K cdF_made "_law_made" = true)
    (kF_made : PySem.W.keepIn K (.ref fF_made) = true)
    (aF_fields : PySem.W.nsIn K mainGlobals "_law_fields" = some (some (.ref fF_fields)))
    (lF_fields : K.lookup fF_fields = some ⟨ocF_fields, odF_fields, .func (PySem.W.fnOf "_law_fields" "_law_fields" (defArgs s_fields) (defBody s_fields) (defScope s_fields) .none kVF_fields dcF_fields pmF_fields anF_fields cdF_fields ctF_fields), slF_fields⟩)
    (cF_fields : PySem.W.codeIn K cdF_fields "_law_fields" = true)
    (kF_fields : PySem.W.keepIn K (.ref fF_fields) = true)
    (aF_kept_of : PySem.W.nsIn K mainGlobals "_law_kept_of" = some (some (.ref fF_kept_of)))
    (lF_kept_of : K.lookup fF_kept_of = some ⟨ocF_kept_of, odF_kept_of, .func (PySem.W.fnOf "_law_kept_of" "_law_kept_of" (defArgs s_kept_of) (defBody s_kept_of) (defScope s_kept_of) .none kVF_kept_of dcF_kept_of pmF_kept_of anF_kept_of cdF_kept_of ctF_kept_of), slF_kept_of⟩)
    (cF_kept_of : PySem.W.codeIn K cdF_kept_of "_law_kept_of" = true)
    (kF_kept_of : PySem.W.keepIn K (.ref fF_kept_of) = true)
    (aF_copies_right : PySem.W.nsIn K mainGlobals "_law_copies_right" = some (some (.ref fF_copies_right)))
    (lF_copies_right : K.lookup fF_copies_right = some ⟨ocF_copies_right, odF_copies_right, .func (PySem.W.fnOf "_law_copies_right" "_law_copies_right" (defArgs s_copies_right) (defBody s_copies_right) (defScope s_copies_right) .none kVF_copies_right dcF_copies_right pmF_copies_right anF_copies_right cdF_copies_right ctF_copies_right), slF_copies_right⟩)
    (cF_copies_right : PySem.W.codeIn K cdF_copies_right "_law_copies_right" = true)
    (kF_copies_right : PySem.W.keepIn K (.ref fF_copies_right) = true)
    (aF_caught : PySem.W.nsIn K mainGlobals "_law_caught" = some (some (.ref fF_caught)))
    (lF_caught : K.lookup fF_caught = some ⟨ocF_caught, odF_caught, .func (PySem.W.fnOf "_law_caught" "_law_caught" (defArgs s_caught) (defBody s_caught) (defScope s_caught) .none kVF_caught dcF_caught pmF_caught anF_caught cdF_caught ctF_caught), slF_caught⟩)
    (cF_caught : PySem.W.codeIn K cdF_caught "_law_caught" = true)
    (kF_caught : PySem.W.keepIn K (.ref fF_caught) = true)
    (aF_value : PySem.W.nsIn K mainGlobals "_law_value" = some (some (.ref fF_value)))
    (lF_value : K.lookup fF_value = some ⟨ocF_value, odF_value, .func (PySem.W.fnOf "_law_value" "_law_value" (defArgs s_value) (defBody s_value) (defScope s_value) .none kVF_value dcF_value pmF_value anF_value cdF_value ctF_value), slF_value⟩)
    (cF_value : PySem.W.codeIn K cdF_value "_law_value" = true)
    (kF_value : PySem.W.keepIn K (.ref fF_value) = true)
    (aF_own : PySem.W.nsIn K mainGlobals "own_copy" = some (some (.ref fF_own)))
    (lF_own : K.lookup fF_own = some ⟨ocF_own, odF_own, .func (PySem.W.fnOf "own_copy" "own_copy" (defArgs s_own) (defBody s_own) (defScope s_own) .none kVF_own dcF_own pmF_own anF_own cdF_own ctF_own), slF_own⟩)
    (cF_own : PySem.W.codeIn K cdF_own "own_copy" = true)
    (kF_own : PySem.W.keepIn K (.ref fF_own) = true)
    (aF_law : PySem.W.nsIn K mainGlobals "law" = some (some (.ref fF_law)))
    (lF_law : K.lookup fF_law = some ⟨ocF_law, odF_law, .func (PySem.W.fnOf "law" "law" (defArgs s_law) (defBody s_law) (defScope s_law) .none kVF_law dcF_law pmF_law anF_law cdF_law ctF_law), slF_law⟩)
    (cF_law : PySem.W.codeIn K cdF_law "law" = true)
    (kF_law : PySem.W.keepIn K (.ref fF_law) = true)
    (n_len : PySem.W.nsIn K mainGlobals "len" = some none)
    (n_abs : PySem.W.nsIn K mainGlobals "abs" = some none)
    (n_int : PySem.W.nsIn K mainGlobals "int" = some none)
    (n_isinstance : PySem.W.nsIn K mainGlobals "isinstance" = some none)
    (n_list : PySem.W.nsIn K mainGlobals "list" = some none)
    (n_tuple : PySem.W.nsIn K mainGlobals "tuple" = some none)
    (n_dict : PySem.W.nsIn K mainGlobals "dict" = some none)
    (n_repr : PySem.W.nsIn K mainGlobals "repr" = some none)
    (n_range : PySem.W.nsIn K mainGlobals "range" = some none)
    (n_max : PySem.W.nsIn K mainGlobals "max" = some none)
    (n_min : PySem.W.nsIn K mainGlobals "min" = some none)
    (n_enumerate : PySem.W.nsIn K mainGlobals "enumerate" = some none)
    (n_ValueError : PySem.W.nsIn K mainGlobals "ValueError" = some none)
    (n_KeyError : PySem.W.nsIn K mainGlobals "KeyError" = some none)
    (n_super : PySem.W.nsIn K mainGlobals "super" = some none) :
    ∃ fd : FuncData, (∀ (s : Shared) (v : Value), BindsTo s fd ⟨[v], []⟩ [("_law_script", v)]) ∧ ∀ base : Heap, K.In base → base.Ns mainGlobals mg → Rg.FnG Lw.prog w K mg base CX0 11 fa fd ["_law_script"] (spLaw K) := by
  have e := hfa.symm.trans (PySem.W.mg_of X G aF_law)
  cases e
  have m_len := PySem.W.mg_none_of X G n_len
  have m_abs := PySem.W.mg_none_of X G n_abs
  have m_int := PySem.W.mg_none_of X G n_int
  have m_isinstance := PySem.W.mg_none_of X G n_isinstance
  have m_list := PySem.W.mg_none_of X G n_list
  have m_tuple := PySem.W.mg_none_of X G n_tuple
  have m_dict := PySem.W.mg_none_of X G n_dict
  have m_repr := PySem.W.mg_none_of X G n_repr
  have m_range := PySem.W.mg_none_of X G n_range
  have m_max := PySem.W.mg_none_of X G n_max
  have m_min := PySem.W.mg_none_of X G n_min
  have m_enumerate := PySem.W.mg_none_of X G n_enumerate
  have m_ValueError := PySem.W.mg_none_of X G n_ValueError
  have m_KeyError := PySem.W.mg_none_of X G n_KeyError
  have m_super := PySem.W.mg_none_of X G n_super
  have TT := tabB_ok tab
  have B0 := clsB_ok b0
  have B1 := clsB_ok b1
  have B2 := clsB_ok b2
  have B3 := clsB_ok b3
  have B4 := clsB_ok b4
  have B5 := clsB_ok b5
  have B6 := clsB_ok b6
  have B7 := clsB_ok b7
  have B8 := clsB_ok b8
  have B9 := clsB_ok b9
  have B10 := clsB_ok b10
  have B11 := clsB_ok b11
  have B12 := clsB_ok b12
  have B13 := clsB_ok b13
  have B14 := clsB_ok b14
  have B15 := clsB_ok b15
  have F_box := fun_mk (st := s_box) lF_box cF_box kF_box
  have m_box := PySem.W.mg_of X G aF_box
  have B_box := F_box.binds (ps := ["_law_script", "_law_k", "_law_own"]) fun _ _ _ _ _ _ us hl => match us, hl with | [_, _, _], _ => rfl
  have F_take := fun_mk (st := s_take) lF_take cF_take kF_take
  have m_take := PySem.W.mg_of X G aF_take
  have B_take := F_take.binds (ps := ["_law_box_here", "_law_many"]) fun _ _ _ _ _ _ us hl => match us, hl with | [_, _], _ => rfl
  have F_sorts := fun_mk (st := s_sorts) lF_sorts cF_sorts kF_sorts
  have m_sorts := PySem.W.mg_of X G aF_sorts
  have B_sorts := F_sorts.binds (ps := ["_law_error"]) fun _ _ _ _ _ _ us hl => match us, hl with | [_], _ => rfl
  have F_made := fun_mk (st := s_made) lF_made cF_made kF_made
  have m_made := PySem.W.mg_of X G aF_made
  have B_made := F_made.binds (ps := ["_law_value_here"]) fun _ _ _ _ _ _ us hl => match us, hl with | [_], _ => rfl
  have F_fields := fun_mk (st := s_fields) lF_fields cF_fields kF_fields
  have m_fields := PySem.W.mg_of X G aF_fields
  have B_fields := F_fields.binds (ps := ["_law_value_here", "_law_other"]) fun _ _ _ _ _ _ us hl => match us, hl with | [_, _], _ => rfl
  have F_kept_of := fun_mk (st := s_kept_of) lF_kept_of cF_kept_of kF_kept_of
  have m_kept_of := PySem.W.mg_of X G aF_kept_of
  have B_kept_of := F_kept_of.binds (ps := ["_law_errors"]) fun _ _ _ _ _ _ us hl => match us, hl with | [_], _ => rfl
  have F_copies_right := fun_mk (st := s_copies_right) lF_copies_right cF_copies_right kF_copies_right
  have m_copies_right := PySem.W.mg_of X G aF_copies_right
  have B_copies_right := F_copies_right.binds (ps := ["_law_value_here"]) fun _ _ _ _ _ _ us hl => match us, hl with | [_], _ => rfl
  have F_caught := fun_mk (st := s_caught) lF_caught cF_caught kF_caught
  have m_caught := PySem.W.mg_of X G aF_caught
  have B_caught := F_caught.binds (ps := ["_law_value_here"]) fun _ _ _ _ _ _ us hl => match us, hl with | [_], _ => rfl
  have F_value := fun_mk (st := s_value) lF_value cF_value kF_value
  have m_value := PySem.W.mg_of X G aF_value
  have B_value := F_value.binds (ps := ["_law_box_here"]) fun _ _ _ _ _ _ us hl => match us, hl with | [_], _ => rfl
  have F_own := fun_mk (st := s_own) lF_own cF_own kF_own
  have m_own := PySem.W.mg_of X G aF_own
  have B_own := F_own.binds (ps := ["value"]) fun _ _ _ _ _ _ us hl => match us, hl with | [_], _ => rfl
  have F_law := fun_mk (st := s_law) lF_law cF_law kF_law
  have m_law := PySem.W.mg_of X G aF_law
  refine ⟨PySem.W.fnOf "law" "law" (defArgs s_law) (defBody s_law) (defScope s_law) .none kVF_law dcF_law pmF_law anF_law cdF_law ctF_law, fun s v => .of_eq rfl, fun base hKb hNb => ?_⟩
  have nO : NmO mg K fF_own := ⟨m_own, kF_own, m_isinstance, m_list, m_tuple, m_dict⟩
  have G_own := ok_own (P := Lw.prog) (w := w) (base := base) F_own nO B_own 5
  let A : Ads := fun j => ([a0, a1, a2, a3, a4, a5, a6, a7, a8, a9, a10, a11, a12, a13, a14, a15, a16] : List Addr).getD j 0
  have O0 : OexC K a0 := ⟨⟨_, _, _, _, _, _, _, _, _, _, _, _, _, _, _, x0, refs16 _⟩, B0.sa, B0.exC, B0.tyC, B0.kC⟩
  have mw0 := Sup.mwOk_ve O0
  have mk0 := Exv.mkOk_ve (prog := Lw.prog) (w := w) O0 i0 t0
  have ec0 := Exg.ecC_ve O0
  have D0 : Sup.SupF Lw.prog K "ValueError" "ValueError.__init__" a0 cc0 cda0 := ⟨PySem.W.kxs_ValueError, mw0, ⟨_, _, _, _, _, _, _, _, _, _, _, _, _, _, _, _, x0⟩, B0.al, B0.sB, B0.mC, ⟨_, _, _, u0⟩, ⟨_, _, _, _, _, _, w0, y0, z0⟩, th⟩
  have I0 := ok_NoKinds (n := 5) (w := w) (base := base) l0 c0 D0 ec0 n0row m_super htop nO G_own B_own
  have bi0 : Binds K (PySem.W.fnX "__init__" "NoKinds.__init__" (defArgs s_NoKinds) (defBody s_NoKinds) (defScope s_NoKinds) [("__class__", cc0)] .none .none dc0 pm0 an0 (.ref cda0) ct0) ["self", "row"] [] := .all fun us hl => match us, hl with | [_, _], _ => rfl
  have O1 : OexC K a1 := ⟨⟨_, _, _, _, _, _, _, _, _, _, _, _, _, _, _, x1, refs16 _⟩, B1.sa, B1.exC, B1.tyC, B1.kC⟩
  have mw1 := Sup.mwOk_ve O1
  have mk1 := Exv.mkOk_ve (prog := Lw.prog) (w := w) O1 i1 t1
  have ec1 := Exg.ecC_ve O1
  have D1 : Sup.SupF Lw.prog K "ValueError" "ValueError.__init__" a1 cc1 cda1 := ⟨PySem.W.kxs_ValueError, mw1, ⟨_, _, _, _, _, _, _, _, _, _, _, _, _, _, _, _, x1⟩, B1.al, B1.sB, B1.mC, ⟨_, _, _, u1⟩, ⟨_, _, _, _, _, _, w1, y1, z1⟩, th⟩
  have I1 := ok_NoRules (n := 5) (w := w) (base := base) l1 c1 D1 ec1 n1row m_super htop nO G_own B_own
  have bi1 : Binds K (PySem.W.fnX "__init__" "NoRules.__init__" (defArgs s_NoRules) (defBody s_NoRules) (defScope s_NoRules) [("__class__", cc1)] .none .none dc1 pm1 an1 (.ref cda1) ct1) ["self", "row"] [] := .all fun us hl => match us, hl with | [_, _], _ => rfl
  have O2 : OexC K a2 := ⟨⟨_, _, _, _, _, _, _, _, _, _, _, _, _, _, _, x2, refs16 _⟩, B2.sa, B2.exC, B2.tyC, B2.kC⟩
  have mw2 := Sup.mwOk_ve O2
  have mk2 := Exv.mkOk_ve (prog := Lw.prog) (w := w) O2 i2 t2
  have ec2 := Exg.ecC_ve O2
  have D2 : Sup.SupF Lw.prog K "ValueError" "ValueError.__init__" a2 cc2 cda2 := ⟨PySem.W.kxs_ValueError, mw2, ⟨_, _, _, _, _, _, _, _, _, _, _, _, _, _, _, _, x2⟩, B2.al, B2.sB, B2.mC, ⟨_, _, _, u2⟩, ⟨_, _, _, _, _, _, w2, y2, z2⟩, th⟩
  have I2 := ok_NoQuestion (n := 5) (w := w) (base := base) l2 c2 D2 ec2 n2at m_super htop nO G_own B_own
  have bi2 : Binds K (PySem.W.fnX "__init__" "NoQuestion.__init__" (defArgs s_NoQuestion) (defBody s_NoQuestion) (defScope s_NoQuestion) [("__class__", cc2)] .none .none dc2 pm2 an2 (.ref cda2) ct2) ["self", "at"] [] := .all fun us hl => match us, hl with | [_, _], _ => rfl
  have O3 : OexC K a3 := ⟨⟨_, _, _, _, _, _, _, _, _, _, _, _, _, _, _, x3, refs16 _⟩, B3.sa, B3.exC, B3.tyC, B3.kC⟩
  have mw3 := Sup.mwOk_ve O3
  have mk3 := Exv.mkOk_ve (prog := Lw.prog) (w := w) O3 i3 t3
  have ec3 := Exg.ecC_ve O3
  have D3 : Sup.SupF Lw.prog K "ValueError" "ValueError.__init__" a3 cc3 cda3 := ⟨PySem.W.kxs_ValueError, mw3, ⟨_, _, _, _, _, _, _, _, _, _, _, _, _, _, _, _, x3⟩, B3.al, B3.sB, B3.mC, ⟨_, _, _, u3⟩, ⟨_, _, _, _, _, _, w3, y3, z3⟩, th⟩
  have I3 := ok_NoTree (n := 5) (w := w) (base := base) l3 c3 D3 ec3 n3at m_super htop nO G_own B_own
  have bi3 : Binds K (PySem.W.fnX "__init__" "NoTree.__init__" (defArgs s_NoTree) (defBody s_NoTree) (defScope s_NoTree) [("__class__", cc3)] .none .none dc3 pm3 an3 (.ref cda3) ct3) ["self", "at"] [] := .all fun us hl => match us, hl with | [_, _], _ => rfl
  have O4 : OexC K a4 := ⟨⟨_, _, _, _, _, _, _, _, _, _, _, _, _, _, _, x4, refs16 _⟩, B4.sa, B4.exC, B4.tyC, B4.kC⟩
  have mw4 := Sup.mwOk_ve O4
  have mk4 := Exv.mkOk_ve (prog := Lw.prog) (w := w) O4 i4 t4
  have ec4 := Exg.ecC_ve O4
  have D4 : Sup.SupF Lw.prog K "ValueError" "ValueError.__init__" a4 cc4 cda4 := ⟨PySem.W.kxs_ValueError, mw4, ⟨_, _, _, _, _, _, _, _, _, _, _, _, _, _, _, _, x4⟩, B4.al, B4.sB, B4.mC, ⟨_, _, _, u4⟩, ⟨_, _, _, _, _, _, w4, y4, z4⟩, th⟩
  have I4 := ok_NoBundle (n := 5) (w := w) (base := base) l4 c4 D4 ec4 n4at m_super htop nO G_own B_own
  have bi4 : Binds K (PySem.W.fnX "__init__" "NoBundle.__init__" (defArgs s_NoBundle) (defBody s_NoBundle) (defScope s_NoBundle) [("__class__", cc4)] .none .none dc4 pm4 an4 (.ref cda4) ct4) ["self", "at"] [] := .all fun us hl => match us, hl with | [_, _], _ => rfl
  have O5 : OexC K a5 := ⟨⟨_, _, _, _, _, _, _, _, _, _, _, _, _, _, _, x5, refs16 _⟩, B5.sa, B5.exC, B5.tyC, B5.kC⟩
  have mw5 := Sup.mwOk_ve O5
  have mk5 := Exv.mkOk_ve (prog := Lw.prog) (w := w) O5 i5 t5
  have ec5 := Exg.ecC_ve O5
  have D5 : Sup.SupF Lw.prog K "ValueError" "ValueError.__init__" a5 cc5 cda5 := ⟨PySem.W.kxs_ValueError, mw5, ⟨_, _, _, _, _, _, _, _, _, _, _, _, _, _, _, _, x5⟩, B5.al, B5.sB, B5.mC, ⟨_, _, _, u5⟩, ⟨_, _, _, _, _, _, w5, y5, z5⟩, th⟩
  have I5 := ok_TooMany (n := 5) (w := w) (base := base) l5 c5 D5 ec5 n5word m_super htop nO G_own B_own
  have bi5 : Binds K (PySem.W.fnX "__init__" "TooMany.__init__" (defArgs s_TooMany) (defBody s_TooMany) (defScope s_TooMany) [("__class__", cc5)] .none .none dc5 pm5 an5 (.ref cda5) ct5) ["self", "word"] [] := .all fun us hl => match us, hl with | [_, _], _ => rfl
  have O6 : OexC K a6 := ⟨⟨_, _, _, _, _, _, _, _, _, _, _, _, _, _, _, x6, refs16 _⟩, B6.sa, B6.exC, B6.tyC, B6.kC⟩
  have mw6 := Sup.mwOk_ve O6
  have mk6 := Exv.mkOk_ve (prog := Lw.prog) (w := w) O6 i6 t6
  have ec6 := Exg.ecC_ve O6
  have D6 : Sup.SupF Lw.prog K "ValueError" "ValueError.__init__" a6 cc6 cda6 := ⟨PySem.W.kxs_ValueError, mw6, ⟨_, _, _, _, _, _, _, _, _, _, _, _, _, _, _, _, x6⟩, B6.al, B6.sB, B6.mC, ⟨_, _, _, u6⟩, ⟨_, _, _, _, _, _, w6, y6, z6⟩, th⟩
  have I6 := ok_TooGreat (n := 5) (w := w) (base := base) l6 c6 D6 ec6 n6product m_super htop nO G_own B_own
  have bi6 : Binds K (PySem.W.fnX "__init__" "TooGreat.__init__" (defArgs s_TooGreat) (defBody s_TooGreat) (defScope s_TooGreat) [("__class__", cc6)] .none .none dc6 pm6 an6 (.ref cda6) ct6) ["self", "product"] [] := .all fun us hl => match us, hl with | [_, _], _ => rfl
  have O7 : OexC K a7 := ⟨⟨_, _, _, _, _, _, _, _, _, _, _, _, _, _, _, x7, refs16 _⟩, B7.sa, B7.exC, B7.tyC, B7.kC⟩
  have mw7 := Sup.mwOk_ve O7
  have mk7 := Exv.mkOk_ve (prog := Lw.prog) (w := w) O7 i7 t7
  have ec7 := Exg.ecC_ve O7
  have D7 : Sup.SupF Lw.prog K "ValueError" "ValueError.__init__" a7 cc7 cda7 := ⟨PySem.W.kxs_ValueError, mw7, ⟨_, _, _, _, _, _, _, _, _, _, _, _, _, _, _, _, x7⟩, B7.al, B7.sB, B7.mC, ⟨_, _, _, u7⟩, ⟨_, _, _, _, _, _, w7, y7, z7⟩, th⟩
  have I7 := ok_UnknownKind (n := 5) (w := w) (base := base) l7 c7 D7 ec7 n7kind m_super htop nO G_own B_own
  have bi7 : Binds K (PySem.W.fnX "__init__" "UnknownKind.__init__" (defArgs s_UnknownKind) (defBody s_UnknownKind) (defScope s_UnknownKind) [("__class__", cc7)] .none .none dc7 pm7 an7 (.ref cda7) ct7) ["self", "kind"] [] := .all fun us hl => match us, hl with | [_, _], _ => rfl
  have O8 : OexC K a8 := ⟨⟨_, _, _, _, _, _, _, _, _, _, _, _, _, _, _, x8, refs16 _⟩, B8.sa, B8.exC, B8.tyC, B8.kC⟩
  have mw8 := Sup.mwOk_ve O8
  have mk8 := Exv.mkOk_ve (prog := Lw.prog) (w := w) O8 i8 t8
  have ec8 := Exg.ecC_ve O8
  have D8 : Sup.SupF Lw.prog K "ValueError" "ValueError.__init__" a8 cc8 cda8 := ⟨PySem.W.kxs_ValueError, mw8, ⟨_, _, _, _, _, _, _, _, _, _, _, _, _, _, _, _, x8⟩, B8.al, B8.sB, B8.mC, ⟨_, _, _, u8⟩, ⟨_, _, _, _, _, _, w8, y8, z8⟩, th⟩
  have I8 := (ok_NoDocument (w := w) (mg := mg) (base := base) l8 c8 D8 m_super htop).mono (k := 7) (by decide)
  have bi8 : Binds K (PySem.W.fnX "__init__" "NoDocument.__init__" (defArgs s_NoDocument) (defBody s_NoDocument) (defScope s_NoDocument) [("__class__", cc8)] .none .none dc8 pm8 an8 (.ref cda8) ct8) ["self"] [] := .all fun us hl => match us, hl with | [_], _ => rfl
  have O9 : OexC K a9 := ⟨⟨_, _, _, _, _, _, _, _, _, _, _, _, _, _, _, x9, refs16 _⟩, B9.sa, B9.exC, B9.tyC, B9.kC⟩
  have mw9 := Sup.mwOk_ve O9
  have mk9 := Exv.mkOk_ve (prog := Lw.prog) (w := w) O9 i9 t9
  have ec9 := Exg.ecC_ve O9
  have D9 : Sup.SupF Lw.prog K "ValueError" "ValueError.__init__" a9 cc9 cda9 := ⟨PySem.W.kxs_ValueError, mw9, ⟨_, _, _, _, _, _, _, _, _, _, _, _, _, _, _, _, x9⟩, B9.al, B9.sB, B9.mC, ⟨_, _, _, u9⟩, ⟨_, _, _, _, _, _, w9, y9, z9⟩, th⟩
  have I9 := ok_NoEvent (n := 5) (w := w) (base := base) l9 c9 D9 ec9 n9event m_super htop nO G_own B_own
  have bi9 : Binds K (PySem.W.fnX "__init__" "NoEvent.__init__" (defArgs s_NoEvent) (defBody s_NoEvent) (defScope s_NoEvent) [("__class__", cc9)] .none .none dc9 pm9 an9 (.ref cda9) ct9) ["self", "event"] [] := .all fun us hl => match us, hl with | [_, _], _ => rfl
  have O10 : OexC K a10 := ⟨⟨_, _, _, _, _, _, _, _, _, _, _, _, _, _, _, x10, refs16 _⟩, B10.sa, B10.exC, B10.tyC, B10.kC⟩
  have mw10 := Sup.mwOk_ve O10
  have mk10 := Exv.mkOk_ve (prog := Lw.prog) (w := w) O10 i10 t10
  have ec10 := Exg.ecC_ve O10
  have D10 : Sup.SupF Lw.prog K "ValueError" "ValueError.__init__" a10 cc10 cda10 := ⟨PySem.W.kxs_ValueError, mw10, ⟨_, _, _, _, _, _, _, _, _, _, _, _, _, _, _, _, x10⟩, B10.al, B10.sB, B10.mC, ⟨_, _, _, u10⟩, ⟨_, _, _, _, _, _, w10, y10, z10⟩, th⟩
  have I10 := ok_Refused (n := 5) (w := w) (base := base) l10 c10 D10 ec10 n10event m_super htop nO G_own B_own
  have bi10 : Binds K (PySem.W.fnX "__init__" "Refused.__init__" (defArgs s_Refused) (defBody s_Refused) (defScope s_Refused) [("__class__", cc10)] .none .none dc10 pm10 an10 (.ref cda10) ct10) ["self", "event"] [] := .all fun us hl => match us, hl with | [_, _], _ => rfl
  have O11 : OexC K a11 := ⟨⟨_, _, _, _, _, _, _, _, _, _, _, _, _, _, _, x11, refs16 _⟩, B11.sa, B11.exC, B11.tyC, B11.kC⟩
  have mw11 := Sup.mwOk_ve O11
  have mk11 := Exv.mkOk_ve (prog := Lw.prog) (w := w) O11 i11 t11
  have ec11 := Exg.ecC_ve O11
  have D11 : Sup.SupF Lw.prog K "ValueError" "ValueError.__init__" a11 cc11 cda11 := ⟨PySem.W.kxs_ValueError, mw11, ⟨_, _, _, _, _, _, _, _, _, _, _, _, _, _, _, _, x11⟩, B11.al, B11.sB, B11.mC, ⟨_, _, _, u11⟩, ⟨_, _, _, _, _, _, w11, y11, z11⟩, th⟩
  have I11 := ok_RefusedAt (n := 5) (w := w) (base := base) l11 c11 D11 ec11 n11at m_super htop nO G_own B_own
  have bi11 : Binds K (PySem.W.fnX "__init__" "RefusedAt.__init__" (defArgs s_RefusedAt) (defBody s_RefusedAt) (defScope s_RefusedAt) [("__class__", cc11)] .none .none dc11 pm11 an11 (.ref cda11) ct11) ["self", "at"] [] := .all fun us hl => match us, hl with | [_, _], _ => rfl
  have O12 : OexC K a12 := ⟨⟨_, _, _, _, _, _, _, _, _, _, _, _, _, _, _, x12, refs16 _⟩, B12.sa, B12.exC, B12.tyC, B12.kC⟩
  have mw12 := Sup.mwOk_ve O12
  have mk12 := Exv.mkOk_ve (prog := Lw.prog) (w := w) O12 i12 t12
  have ec12 := Exg.ecC_ve O12
  have D12 : Sup.SupF Lw.prog K "ValueError" "ValueError.__init__" a12 cc12 cda12 := ⟨PySem.W.kxs_ValueError, mw12, ⟨_, _, _, _, _, _, _, _, _, _, _, _, _, _, _, _, x12⟩, B12.al, B12.sB, B12.mC, ⟨_, _, _, u12⟩, ⟨_, _, _, _, _, _, w12, y12, z12⟩, th⟩
  have I12 := (ok_Resting (w := w) (mg := mg) (base := base) l12 c12 D12 m_super htop).mono (k := 7) (by decide)
  have bi12 : Binds K (PySem.W.fnX "__init__" "Resting.__init__" (defArgs s_Resting) (defBody s_Resting) (defScope s_Resting) [("__class__", cc12)] .none .none dc12 pm12 an12 (.ref cda12) ct12) ["self"] [] := .all fun us hl => match us, hl with | [_], _ => rfl
  have O13 : OexC K a13 := ⟨⟨_, _, _, _, _, _, _, _, _, _, _, _, _, _, _, x13, refs16 _⟩, B13.sa, B13.exC, B13.tyC, B13.kC⟩
  have mw13 := Sup.mwOk_ve O13
  have mk13 := Exv.mkOk_ve (prog := Lw.prog) (w := w) O13 i13 t13
  have ec13 := Exg.ecC_ve O13
  have D13 : Sup.SupF Lw.prog K "ValueError" "ValueError.__init__" a13 cc13 cda13 := ⟨PySem.W.kxs_ValueError, mw13, ⟨_, _, _, _, _, _, _, _, _, _, _, _, _, _, _, _, x13⟩, B13.al, B13.sB, B13.mC, ⟨_, _, _, u13⟩, ⟨_, _, _, _, _, _, w13, y13, z13⟩, th⟩
  have I13 := (ok_OtherSpace (w := w) (mg := mg) (base := base) l13 c13 D13 m_super htop).mono (k := 7) (by decide)
  have bi13 : Binds K (PySem.W.fnX "__init__" "OtherSpace.__init__" (defArgs s_OtherSpace) (defBody s_OtherSpace) (defScope s_OtherSpace) [("__class__", cc13)] .none .none dc13 pm13 an13 (.ref cda13) ct13) ["self"] [] := .all fun us hl => match us, hl with | [_], _ => rfl
  have O14 : OexC K a14 := ⟨⟨_, _, _, _, _, _, _, _, _, _, _, _, _, _, _, x14, refs16 _⟩, B14.sa, B14.exC, B14.tyC, B14.kC⟩
  have mw14 := Sup.mwOk_ve O14
  have mk14 := Exv.mkOk_ve (prog := Lw.prog) (w := w) O14 i14 t14
  have ec14 := Exg.ecC_ve O14
  have D14 : Sup.SupF Lw.prog K "ValueError" "ValueError.__init__" a14 cc14 cda14 := ⟨PySem.W.kxs_ValueError, mw14, ⟨_, _, _, _, _, _, _, _, _, _, _, _, _, _, _, _, x14⟩, B14.al, B14.sB, B14.mC, ⟨_, _, _, u14⟩, ⟨_, _, _, _, _, _, w14, y14, z14⟩, th⟩
  have I14 := ok_NoCommand (n := 5) (w := w) (base := base) l14 c14 D14 ec14 n14row m_super htop nO G_own B_own
  have bi14 : Binds K (PySem.W.fnX "__init__" "NoCommand.__init__" (defArgs s_NoCommand) (defBody s_NoCommand) (defScope s_NoCommand) [("__class__", cc14)] .none .none dc14 pm14 an14 (.ref cda14) ct14) ["self", "row"] [] := .all fun us hl => match us, hl with | [_, _], _ => rfl
  have X15 : ∃ nm q N bs sn sub ab col dd k0 k1 k2 k3 k5, K.lookup a15 = some (excClassObj nm q a15 N bs Ky.keTail true sn sub ab col dd k0 k1 k2 k3 k5 Ky.newK) := ⟨_, _, _, _, _, _, _, _, _, _, _, _, _, _, x15⟩
  have mw15 := Sup.mwOk_key X15
  have mk15 := Ky.mkOk_key (prog := Lw.prog) (w := w) X15 i15 t15
  have ec15 : Exg.EcC K a15 := ⟨⟨_, _, _, _, _, _, _, _, _, _, _, _, _, _, _, _, x15, ecPass_key, ecHas_key⟩, B15.sa⟩
  have D15 : Sup.SupF Lw.prog K "KeyError" "KeyError.__init__" a15 cc15 cda15 := ⟨Ky.keySup, mw15, ⟨_, _, _, _, _, _, _, _, _, _, _, _, _, _, _, _, x15⟩, B15.al, B15.sB, B15.mC, ⟨_, _, _, u15⟩, ⟨_, _, _, _, _, _, w15, y15, z15⟩, th⟩
  have I15 := ok_NotPending (n := 5) (w := w) (base := base) l15 c15 D15 ec15 n15question n15mark m_super htop nO G_own B_own
  have bi15 : Binds K (PySem.W.fnX "__init__" "NotPending.__init__" (defArgs s_NotPending) (defBody s_NotPending) (defScope s_NotPending) [("__class__", cc15)] .none .none dc15 pm15 an15 (.ref cda15) ct15) ["self", "question", "mark"] [] := .all fun us hl => match us, hl with | [_, _, _], _ => rfl
  have TM : Ms Lw.prog w K mg base A 5 := ⟨⟨_, _, mk0, I0, bi0⟩, B0.kC, ⟨_, _, mk1, I1, bi1⟩, B1.kC, ⟨_, _, mk2, I2, bi2⟩, B2.kC, ⟨_, _, mk3, I3, bi3⟩, B3.kC, ⟨_, _, mk4, I4, bi4⟩, B4.kC, ⟨_, _, mk5, I5, bi5⟩, B5.kC, ⟨_, _, mk6, I6, bi6⟩, B6.kC, ⟨_, _, mk7, I7, bi7⟩, B7.kC, ⟨_, _, mk8, I8, bi8⟩, B8.kC, ⟨_, _, mk9, I9, bi9⟩, B9.kC, ⟨_, _, mk10, I10, bi10⟩, B10.kC, ⟨_, _, mk11, I11, bi11⟩, B11.kC, ⟨_, _, mk12, I12, bi12⟩, B12.kC, ⟨_, _, mk13, I13, bi13⟩, B13.kC, ⟨_, _, mk14, I14, bi14⟩, B14.kC, ⟨_, _, mk15, I15, bi15⟩, B15.kC⟩
  have hexc : ∀ j, j < 16 → ExcC K (A j) := fun j hj => by
    match j, hj with
    | 0, _ => exact B0.exc hn ht
    | 1, _ => exact B1.exc hn ht
    | 2, _ => exact B2.exc hn ht
    | 3, _ => exact B3.exc hn ht
    | 4, _ => exact B4.exc hn ht
    | 5, _ => exact B5.exc hn ht
    | 6, _ => exact B6.exc hn ht
    | 7, _ => exact B7.exc hn ht
    | 8, _ => exact B8.exc hn ht
    | 9, _ => exact B9.exc hn ht
    | 10, _ => exact B10.exc hn ht
    | 11, _ => exact B11.exc hn ht
    | 12, _ => exact B12.exc hn ht
    | 13, _ => exact B13.exc hn ht
    | 14, _ => exact B14.exc hn ht
    | 15, _ => exact B15.exc hn ht
    | n + 16, hj => exact absurd hj (by omega)
  have hxf : ∀ j, j < 16 → XfC K (A j) := fun j hj => by
    match j, hj with
    | 0, _ => exact B0.xf
    | 1, _ => exact B1.xf
    | 2, _ => exact B2.xf
    | 3, _ => exact B3.xf
    | 4, _ => exact B4.xf
    | 5, _ => exact B5.xf
    | 6, _ => exact B6.xf
    | 7, _ => exact B7.xf
    | 8, _ => exact B8.xf
    | 9, _ => exact B9.xf
    | 10, _ => exact B10.xf
    | 11, _ => exact B11.xf
    | 12, _ => exact B12.xf
    | 13, _ => exact B13.xf
    | 14, _ => exact B14.xf
    | 15, _ => exact B15.xf
    | n + 16, hj => exact absurd hj (by omega)
  have TE : Er mg K A := ⟨PySem.W.mg_of X G g0, PySem.W.mg_of X G g1, PySem.W.mg_of X G g2, PySem.W.mg_of X G g3, PySem.W.mg_of X G g4, PySem.W.mg_of X G g5, PySem.W.mg_of X G g6, PySem.W.mg_of X G g7, PySem.W.mg_of X G g8, PySem.W.mg_of X G g9, PySem.W.mg_of X G g10, PySem.W.mg_of X G g11, PySem.W.mg_of X G g12, PySem.W.mg_of X G g13, PySem.W.mg_of X G g14, PySem.W.mg_of X G g15, PySem.W.mg_of X G g16, m_isinstance, hexc, TT.kit⟩
  have TX : No K A := ⟨hxf, n0row, n1row, n2at, n3at, n4at, n5word, n6product, n7kind, n9event, n10event, n11at, n14row, n15question, n15mark⟩
  have TC : Cat K mg A := ⟨TT.e1, TT.e2, TT.e3, TT.e4, m_KeyError, B11.exC, B11.tyC, B15.exC, B15.tyC⟩
  have TB : Bas K A := ⟨TT.kept, TT.val, TT.key⟩
  have G_box := ok_box (P := Lw.prog) (w := w) (mg := mg) (base := base) F_box ⟨m_len, m_abs, m_int⟩
  have G_take := ok_take (P := Lw.prog) (w := w) (mg := mg) (base := base) F_take
  have G_value := ok_value (P := Lw.prog) (w := w) (mg := mg) (base := base) F_value ⟨m_take, kF_take, m_len⟩ G_take B_take
  have G_sorts := ok_sorts (P := Lw.prog) (w := w) (mg := mg) (base := base) F_sorts TE
  have G_made := ok_made F_made TE TM
  have G_fields := ok_fields F_fields TE TX TM
  have G_kept := ok_kept (P := Lw.prog) (w := w) (mg := mg) (base := base) F_kept_of TX
  have G_caught := ok_caught F_caught TE TX TM TC
  have G_copies := ok_copies F_copies_right ⟨m_made, kF_made, m_kept_of, kF_kept_of, m_repr⟩ G_made B_made (G_kept.mono (by decide)) B_kept_of
  exact ok_law F_law ⟨m_box, kF_box, m_value, kF_value, m_made, kF_made, m_sorts, kF_sorts, m_caught, kF_caught, m_copies_right, kF_copies_right, m_fields, kF_fields, m_repr, m_range, m_max, m_min, m_len, m_enumerate, m_isinstance, m_ValueError, m_KeyError⟩ TE TB (G_box.mono (by decide)) B_box (G_value.mono (by decide)) B_value (G_made.mono (by decide)) B_made (G_sorts.mono (by decide)) B_sorts (G_caught.mono (by decide)) B_caught G_copies B_copies_right (G_fields.mono (by decide)) B_fields
end K1

set_option Elab.async false
set_option linter.all false
open PySem PySem.W PyProof.Rows
set_option maxRecDepth 100000 in
set_option maxHeartbeats 0 in
theorem PySem.Challenge.cw_keptnomore_k01_errors_and_their_fields_holds : PySem.Challenge.rw_keptnomore_k01_errors_and_their_fields.Holds := by
  w_on; o_law; k_head; (case hw => w_witness2)
  k_fill
  refine Rg.walkG (l := PySem.Challenge.rw_keptnomore_k01_errors_and_their_fields) (n := 63) (k := 11) (x := "_law_script") (CX := fun _ => L2.CX0) (sp := fun w => K1.spLaw _) rfl (by decide) rfl ⟨rfl, by decide, by decide⟩ (fun w h Y => PySem.W.kIn_of Y) ?F
    (fun _ _ a ns hl _ _ hS => ⟨a, ns, rfl, hS, Nat.le_trans hl (by decide), fun _ => rfl⟩) (fun _ _ _ _ _ z => z)
  case F =>
    intro w mg fa h KX G hmg
    refine' K1.all_mk KX G hmg ?kk_g0 ?kk_g1 ?kk_g2 ?kk_g3 ?kk_g4 ?kk_g5 ?kk_g6 ?kk_g7 ?kk_g8 ?kk_g9 ?kk_g10 ?kk_g11 ?kk_g12 ?kk_g13 ?kk_g14 ?kk_g15 ?kk_g16 ?kk_x0 ?kk_i0 ?kk_t0 ?kk_l0 ?kk_c0 ?kk_u0 ?kk_w0 ?kk_y0 ?kk_z0 ?kk_b0 ?kk_x1 ?kk_i1 ?kk_t1 ?kk_l1 ?kk_c1 ?kk_u1 ?kk_w1 ?kk_y1 ?kk_z1 ?kk_b1 ?kk_x2 ?kk_i2 ?kk_t2 ?kk_l2 ?kk_c2 ?kk_u2 ?kk_w2 ?kk_y2 ?kk_z2 ?kk_b2 ?kk_x3 ?kk_i3 ?kk_t3 ?kk_l3 ?kk_c3 ?kk_u3 ?kk_w3 ?kk_y3 ?kk_z3 ?kk_b3 ?kk_x4 ?kk_i4 ?kk_t4 ?kk_l4 ?kk_c4 ?kk_u4 ?kk_w4 ?kk_y4 ?kk_z4 ?kk_b4 ?kk_x5 ?kk_i5 ?kk_t5 ?kk_l5 ?kk_c5 ?kk_u5 ?kk_w5 ?kk_y5 ?kk_z5 ?kk_b5 ?kk_x6 ?kk_i6 ?kk_t6 ?kk_l6 ?kk_c6 ?kk_u6 ?kk_w6 ?kk_y6 ?kk_z6 ?kk_b6 ?kk_x7 ?kk_i7 ?kk_t7 ?kk_l7 ?kk_c7 ?kk_u7 ?kk_w7 ?kk_y7 ?kk_z7 ?kk_b7 ?kk_x8 ?kk_i8 ?kk_t8 ?kk_l8 ?kk_c8 ?kk_u8 ?kk_w8 ?kk_y8 ?kk_z8 ?kk_b8 ?kk_x9 ?kk_i9 ?kk_t9 ?kk_l9 ?kk_c9 ?kk_u9 ?kk_w9 ?kk_y9 ?kk_z9 ?kk_b9 ?kk_x10 ?kk_i10 ?kk_t10 ?kk_l10 ?kk_c10 ?kk_u10 ?kk_w10 ?kk_y10 ?kk_z10 ?kk_b10 ?kk_x11 ?kk_i11 ?kk_t11 ?kk_l11 ?kk_c11 ?kk_u11 ?kk_w11 ?kk_y11 ?kk_z11 ?kk_b11 ?kk_x12 ?kk_i12 ?kk_t12 ?kk_l12 ?kk_c12 ?kk_u12 ?kk_w12 ?kk_y12 ?kk_z12 ?kk_b12 ?kk_x13 ?kk_i13 ?kk_t13 ?kk_l13 ?kk_c13 ?kk_u13 ?kk_w13 ?kk_y13 ?kk_z13 ?kk_b13 ?kk_x14 ?kk_i14 ?kk_t14 ?kk_l14 ?kk_c14 ?kk_u14 ?kk_w14 ?kk_y14 ?kk_z14 ?kk_b14 ?kk_x15 ?kk_i15 ?kk_t15 ?kk_l15 ?kk_c15 ?kk_u15 ?kk_w15 ?kk_y15 ?kk_z15 ?kk_b15 ?kk_n0row ?kk_n1row ?kk_n2at ?kk_n3at ?kk_n4at ?kk_n5word ?kk_n6product ?kk_n7kind ?kk_n9event ?kk_n10event ?kk_n11at ?kk_n14row ?kk_n15question ?kk_n15mark ?kk_tab ?kk_hn ?kk_ht ?kk_th ?kk_htop ?kk_aF_box ?kk_lF_box ?kk_cF_box ?kk_kF_box ?kk_aF_take ?kk_lF_take ?kk_cF_take ?kk_kF_take ?kk_aF_sorts ?kk_lF_sorts ?kk_cF_sorts ?kk_kF_sorts ?kk_aF_made ?kk_lF_made ?kk_cF_made ?kk_kF_made ?kk_aF_fields ?kk_lF_fields ?kk_cF_fields ?kk_kF_fields ?kk_aF_kept_of ?kk_lF_kept_of ?kk_cF_kept_of ?kk_kF_kept_of ?kk_aF_copies_right ?kk_lF_copies_right ?kk_cF_copies_right ?kk_kF_copies_right ?kk_aF_caught ?kk_lF_caught ?kk_cF_caught ?kk_kF_caught ?kk_aF_value ?kk_lF_value ?kk_cF_value ?kk_kF_value ?kk_aF_own ?kk_lF_own ?kk_cF_own ?kk_kF_own ?kk_aF_law ?kk_lF_law ?kk_cF_law ?kk_kF_law ?kk_n_len ?kk_n_abs ?kk_n_int ?kk_n_isinstance ?kk_n_list ?kk_n_tuple ?kk_n_dict ?kk_n_repr ?kk_n_range ?kk_n_max ?kk_n_min ?kk_n_enumerate ?kk_n_ValueError ?kk_n_KeyError ?kk_n_super
    (case kk_g0 => k_is)
    (case kk_g1 => k_is)
    (case kk_g2 => k_is)
    (case kk_g3 => k_is)
    (case kk_g4 => k_is)
    (case kk_g5 => k_is)
    (case kk_g6 => k_is)
    (case kk_g7 => k_is)
    (case kk_g8 => k_is)
    (case kk_g9 => k_is)
    (case kk_g10 => k_is)
    (case kk_g11 => k_is)
    (case kk_g12 => k_is)
    (case kk_g13 => k_is)
    (case kk_g14 => k_is)
    (case kk_g15 => k_is)
    (case kk_g16 => k_is)
    (case kk_x0 => k_is)
    (case kk_i0 => k_is)
    (case kk_t0 => k_is)
    (case kk_l0 => k_is)
    (case kk_c0 => k_is)
    (case kk_u0 => k_is)
    (case kk_w0 => k_is)
    (case kk_y0 => exact rfl)
    (case kk_z0 => decide +kernel)
    (case kk_b0 => kernel_rfl)
    (case kk_x1 => k_is)
    (case kk_i1 => k_is)
    (case kk_t1 => k_is)
    (case kk_l1 => k_is)
    (case kk_c1 => k_is)
    (case kk_u1 => k_is)
    (case kk_w1 => k_is)
    (case kk_y1 => exact rfl)
    (case kk_z1 => decide +kernel)
    (case kk_b1 => kernel_rfl)
    (case kk_x2 => k_is)
    (case kk_i2 => k_is)
    (case kk_t2 => k_is)
    (case kk_l2 => k_is)
    (case kk_c2 => k_is)
    (case kk_u2 => k_is)
    (case kk_w2 => k_is)
    (case kk_y2 => exact rfl)
    (case kk_z2 => decide +kernel)
    (case kk_b2 => kernel_rfl)
    (case kk_x3 => k_is)
    (case kk_i3 => k_is)
    (case kk_t3 => k_is)
    (case kk_l3 => k_is)
    (case kk_c3 => k_is)
    (case kk_u3 => k_is)
    (case kk_w3 => k_is)
    (case kk_y3 => exact rfl)
    (case kk_z3 => decide +kernel)
    (case kk_b3 => kernel_rfl)
    (case kk_x4 => k_is)
    (case kk_i4 => k_is)
    (case kk_t4 => k_is)
    (case kk_l4 => k_is)
    (case kk_c4 => k_is)
    (case kk_u4 => k_is)
    (case kk_w4 => k_is)
    (case kk_y4 => exact rfl)
    (case kk_z4 => decide +kernel)
    (case kk_b4 => kernel_rfl)
    (case kk_x5 => k_is)
    (case kk_i5 => k_is)
    (case kk_t5 => k_is)
    (case kk_l5 => k_is)
    (case kk_c5 => k_is)
    (case kk_u5 => k_is)
    (case kk_w5 => k_is)
    (case kk_y5 => exact rfl)
    (case kk_z5 => decide +kernel)
    (case kk_b5 => kernel_rfl)
    (case kk_x6 => k_is)
    (case kk_i6 => k_is)
    (case kk_t6 => k_is)
    (case kk_l6 => k_is)
    (case kk_c6 => k_is)
    (case kk_u6 => k_is)
    (case kk_w6 => k_is)
    (case kk_y6 => exact rfl)
    (case kk_z6 => decide +kernel)
    (case kk_b6 => kernel_rfl)
    (case kk_x7 => k_is)
    (case kk_i7 => k_is)
    (case kk_t7 => k_is)
    (case kk_l7 => k_is)
    (case kk_c7 => k_is)
    (case kk_u7 => k_is)
    (case kk_w7 => k_is)
    (case kk_y7 => exact rfl)
    (case kk_z7 => decide +kernel)
    (case kk_b7 => kernel_rfl)
    (case kk_x8 => k_is)
    (case kk_i8 => k_is)
    (case kk_t8 => k_is)
    (case kk_l8 => k_is)
    (case kk_c8 => k_is)
    (case kk_u8 => k_is)
    (case kk_w8 => k_is)
    (case kk_y8 => exact rfl)
    (case kk_z8 => decide +kernel)
    (case kk_b8 => kernel_rfl)
    (case kk_x9 => k_is)
    (case kk_i9 => k_is)
    (case kk_t9 => k_is)
    (case kk_l9 => k_is)
    (case kk_c9 => k_is)
    (case kk_u9 => k_is)
    (case kk_w9 => k_is)
    (case kk_y9 => exact rfl)
    (case kk_z9 => decide +kernel)
    (case kk_b9 => kernel_rfl)
    (case kk_x10 => k_is)
    (case kk_i10 => k_is)
    (case kk_t10 => k_is)
    (case kk_l10 => k_is)
    (case kk_c10 => k_is)
    (case kk_u10 => k_is)
    (case kk_w10 => k_is)
    (case kk_y10 => exact rfl)
    (case kk_z10 => decide +kernel)
    (case kk_b10 => kernel_rfl)
    (case kk_x11 => k_is)
    (case kk_i11 => k_is)
    (case kk_t11 => k_is)
    (case kk_l11 => k_is)
    (case kk_c11 => k_is)
    (case kk_u11 => k_is)
    (case kk_w11 => k_is)
    (case kk_y11 => exact rfl)
    (case kk_z11 => decide +kernel)
    (case kk_b11 => kernel_rfl)
    (case kk_x12 => k_is)
    (case kk_i12 => k_is)
    (case kk_t12 => k_is)
    (case kk_l12 => k_is)
    (case kk_c12 => k_is)
    (case kk_u12 => k_is)
    (case kk_w12 => k_is)
    (case kk_y12 => exact rfl)
    (case kk_z12 => decide +kernel)
    (case kk_b12 => kernel_rfl)
    (case kk_x13 => k_is)
    (case kk_i13 => k_is)
    (case kk_t13 => k_is)
    (case kk_l13 => k_is)
    (case kk_c13 => k_is)
    (case kk_u13 => k_is)
    (case kk_w13 => k_is)
    (case kk_y13 => exact rfl)
    (case kk_z13 => decide +kernel)
    (case kk_b13 => kernel_rfl)
    (case kk_x14 => k_is)
    (case kk_i14 => k_is)
    (case kk_t14 => k_is)
    (case kk_l14 => k_is)
    (case kk_c14 => k_is)
    (case kk_u14 => k_is)
    (case kk_w14 => k_is)
    (case kk_y14 => exact rfl)
    (case kk_z14 => decide +kernel)
    (case kk_b14 => kernel_rfl)
    (case kk_x15 => k_is)
    (case kk_i15 => k_is)
    (case kk_t15 => k_is)
    (case kk_l15 => k_is)
    (case kk_c15 => k_is)
    (case kk_u15 => k_is)
    (case kk_w15 => k_is)
    (case kk_y15 => exact rfl)
    (case kk_z15 => decide +kernel)
    (case kk_b15 => kernel_rfl)
    (case kk_n0row => k_is)
    (case kk_n1row => k_is)
    (case kk_n2at => k_is)
    (case kk_n3at => k_is)
    (case kk_n4at => k_is)
    (case kk_n5word => k_is)
    (case kk_n6product => k_is)
    (case kk_n7kind => k_is)
    (case kk_n9event => k_is)
    (case kk_n10event => k_is)
    (case kk_n11at => k_is)
    (case kk_n14row => k_is)
    (case kk_n15question => k_is)
    (case kk_n15mark => k_is)
    (case kk_tab => kernel_rfl)
    (case kk_hn => k_is)
    (case kk_ht => k_is)
    (case kk_th => k_is)
    (case kk_htop => decide +kernel)
    (case kk_aF_box => k_is)
    (case kk_lF_box => k_is)
    (case kk_cF_box => k_is)
    (case kk_kF_box => k_is)
    (case kk_aF_take => k_is)
    (case kk_lF_take => k_is)
    (case kk_cF_take => k_is)
    (case kk_kF_take => k_is)
    (case kk_aF_sorts => k_is)
    (case kk_lF_sorts => k_is)
    (case kk_cF_sorts => k_is)
    (case kk_kF_sorts => k_is)
    (case kk_aF_made => k_is)
    (case kk_lF_made => k_is)
    (case kk_cF_made => k_is)
    (case kk_kF_made => k_is)
    (case kk_aF_fields => k_is)
    (case kk_lF_fields => k_is)
    (case kk_cF_fields => k_is)
    (case kk_kF_fields => k_is)
    (case kk_aF_kept_of => k_is)
    (case kk_lF_kept_of => k_is)
    (case kk_cF_kept_of => k_is)
    (case kk_kF_kept_of => k_is)
    (case kk_aF_copies_right => k_is)
    (case kk_lF_copies_right => k_is)
    (case kk_cF_copies_right => k_is)
    (case kk_kF_copies_right => k_is)
    (case kk_aF_caught => k_is)
    (case kk_lF_caught => k_is)
    (case kk_cF_caught => k_is)
    (case kk_kF_caught => k_is)
    (case kk_aF_value => k_is)
    (case kk_lF_value => k_is)
    (case kk_cF_value => k_is)
    (case kk_kF_value => k_is)
    (case kk_aF_own => k_is)
    (case kk_lF_own => k_is)
    (case kk_cF_own => k_is)
    (case kk_kF_own => k_is)
    (case kk_aF_law => k_is)
    (case kk_lF_law => k_is)
    (case kk_cF_law => k_is)
    (case kk_kF_law => k_is)
    (case kk_n_len => k_is)
    (case kk_n_abs => k_is)
    (case kk_n_int => k_is)
    (case kk_n_isinstance => k_is)
    (case kk_n_list => k_is)
    (case kk_n_tuple => k_is)
    (case kk_n_dict => k_is)
    (case kk_n_repr => k_is)
    (case kk_n_range => k_is)
    (case kk_n_max => k_is)
    (case kk_n_min => k_is)
    (case kk_n_enumerate => k_is)
    (case kk_n_ValueError => k_is)
    (case kk_n_KeyError => k_is)
    (case kk_n_super => k_is)

import PyProof.Rows.All
import Wide.All
import OpenK.AllK
import Wide.FinOn
import HandS.ForMost
import HandS.ExcInit
import HandS.ExcField
import HandS.ExcIs
import HandS.Nested
import KE.KExcSuper
import KE.KExcIs
import HandS.ExcSuper
import PyProof.ReprRoads
import HandS.EndBits
import HandS.Exc
import HandS.TryMany
import HandS.Codes
import PyProof.StrOps2
import HandS.Style
import HandS.Walk
import HandS.Deep
import HandS.FStr
import HandS.ExcOwn
import HandS.IsInst
import HandS.WordsExc
import HandS.ClsMeth
import HandS.SlotsOwn
import KE.KCallOwn
import PyProof.InstNe
import PySem.Challenge.RW_keptnomore_k16_rules_read_and_shown
set_option Elab.async false
set_option linter.all false
set_option maxRecDepth 100000
set_option maxHeartbeats 4000000
/-! exceptions of own classes with an own __init__, held as values -/
namespace Exv
open PySem PySem.Spec PyProof.Rows L2
/-- the class at C, called, makes an exception and hands it to its __init__ at fI -/
def MkOk (prog : Program) (w : World) (K : PySem.W.Frag) (C fI : Addr) : Prop :=
  ∀ (A : Around) (R : Result → Shared → Prop) (h : Heap) (g : Array GenState) (d : Drawn) (t : Nat) (os : OsState) (rest : List Value), K.In h → rest.length ≤ sizeLine →
    codeAny (model prog w) (A.under (.builtin "type.__call__" ⟨.ref C :: rest, []⟩)) (.call (.ref fI) ⟨.ref (h.objs.size + 1) :: rest, []⟩) (PySem.W.InitBack (h.objs.size + 1) R)
      ⟨(h.push (PySem.W.kdv_tup rest)).push (PySem.HandSPX.excO C h.objs.size), g, d, t, os⟩ →
    codeAny (model prog w) A (.call (.ref C) ⟨rest, []⟩) R ⟨h, g, d, t, os⟩
theorem mkOk_ve {prog : Program} {w : World} {K : PySem.W.Frag} {C fI : Addr} (T : OexC K C) (iC : PySem.W.findIn K (.ref C) "__init__" = some (some (.ref fI)))
    (tI : PySem.W.typeIn K (.ref fI) = some (.type "function")) : MkOk prog w K C fI := fun A R h g d t os rest KX hr q => by
  obtain ⟨nm, qq, N, bs, bm, sn, sub, ab, col, dd, k0, k1, k2, k3, k5, hC, hbm⟩ := T.cls
  exact PySem.HandSPX.call_own PySem.F.excBase_ValueError (fun Y => PySem.HandSPX.refsVE_contains Y bm hbm) (KX _ _ hC) (PySem.W.looks_findIn KX iC) (fun self => PySem.W.bind_fn KX self tI) hr q
/-- C(e, ..), C's own __init__ keeping sp: the exception as a value -/
def tMkV (C : Addr) (sp : Sp) (ta : TA) : TE := fun σ H Q => ta σ H fun vs H1 => vs.length ≤ 1000 ∧ ∀ a, H1 a = none →
  sp (.ref a :: vs) (upd H1 a (exo a C none)) (fun v H2 => v = .non ∧ Q (.ref a) H2) (fun _ _ _ => False)
section
variable {X : Cx}
theorem mkv_run {CX : CXT} {C fI : Addr} {k : Nat} {fd : FuncData} {ps : List Str} {sp : Sp} (MK : MkOk X.prog X.w X.K C fI)
    (F1 : FnOk X.prog X.w X.K X.mg X.base CX k fI fd ps sp) (hr : Room (k + 1) X.A) (hb : Binds X.K fd ps []) (hx : Passes CX X (fun _ _ _ => False))
    {pins : List (Addr × Obj)} {σ : L2.St} {H1 : Hp} {s1 : Shared} {vs : List V} {us : List Value} {Q : VK} (I1 : Inv X pins σ H1 s1) (r1 : Vals vs us) (hz : vs.length ≤ 1000)
    (q1 : ∀ a, H1 a = none → sp (.ref a :: vs) (upd H1 a (exo a C none)) (fun v H2 => v = .non ∧ Q (.ref a) H2) (fun _ _ _ => False)) :
    wpAny (model X.prog X.w) X.A (call (.ref C) us) (EP X pins σ Q) X.xe s1 := by
  obtain ⟨hp, g, dr, tk, os⟩ := s1
  have up1 : hp.objs.size ≤ hp.objs.size + 1 := Nat.le_succ _
  have hq := q1 (hp.objs.size + 1) (I1.hok.fresh up1)
  have kk : ∀ b o, hp.get? b = some o → ((hp.push (PySem.W.kdv_tup us)).push (PySem.HandSPX.excO C hp.objs.size)).get? b = some o := fun b o z =>
    Heap.get?_push_of_some _ (Heap.get?_push_of_some _ z)
  have hat : ((hp.push (PySem.W.kdv_tup us)).push (PySem.HandSPX.excO C hp.objs.size)).get? (hp.objs.size + 1) = some (PySem.HandSPX.excO C hp.objs.size) := by heap_get
  have I2 : Inv X pins σ (upd H1 (hp.objs.size + 1) (exo (hp.objs.size + 1) C none)) ⟨(hp.push (PySem.W.kdv_tup us)).push (PySem.HandSPX.excO C hp.objs.size), g, dr, tk, os⟩ :=
    I1.laid (t' := tk) (a := hp.objs.size + 1) (o := exo (hp.objs.size + 1) C none) (h' := (hp.push (PySem.W.kdv_tup us)).push (PySem.HandSPX.excO C hp.objs.size)) kk up1 (exo_ok hat)
  have r2 : Vals (V.ref (hp.objs.size + 1) :: vs) (Value.ref (hp.objs.size + 1) :: us) := .cons rfl r1
  have hl : (Value.ref (hp.objs.size + 1) :: us).length = ps.length := by
    rw [← r2.length]
    exact F1.len _ _ _ _ hq
  have hus : us.length ≤ sizeLine := by
    rw [← Paired.length r1, sizeLine_eq]
    omega
  refine wpAny_call (MK _ _ hp g dr tk os us I1.kIn hus (codeAny_mono (F1.run _ X.stack _ _ ⟨Value.ref (hp.objs.size + 1) :: us, []⟩ (Value.ref (hp.objs.size + 1) :: us) _ _ (fun _ _ _ => False)
    (hr.make C us []) (I2.env0.make C us []) (by have z := hb _ (Value.ref (hp.objs.size + 1) :: us) I2.kIn (by rw [List.append_nil]; exact hl); rw [List.append_nil] at z; exact z) r2 hq) fun r s' hq' => ?_))
  cases r with
  | error er => exact hx pins σ _ _ er s' I2 hq'
  | ok fl =>
    cases fl with
    | ret u =>
      obtain ⟨v, H2, J, rv, ev, q2⟩ := I2.after hq'
      subst ev
      exact ⟨rv, .ref (hp.objs.size + 1), H2, J, rfl, q2⟩
    | next => exact False.elim hq'
    | brk => exact False.elim hq'
    | cont => exact False.elim hq'
theorem pe_mkv {CX : CXT} {x : Str} {C fI : Addr} {k : Nat} {fd : FuncData} {ps : List Str} {sp : Sp} {e : Expr} {es : List Expr} {ta : TA} {p pos : Pos} (MK : MkOk X.prog X.w X.K C fI) (kC : PySem.W.keepIn X.K (.ref C) = true)
    (F1 : FnOk X.prog X.w X.K X.mg X.base CX k fI fd ps sp) (hr : Room (k + 1) X.A) (hb : Binds X.K fd ps []) (hx : Passes CX X (fun _ _ _ => False)) (hg : Gl X x) (hm : X.mg x = some (.ref C)) (ha : PA X (e :: es) ta)
    (hdb : (x == ("__debug__" : Str)) = false := by decide) (he : starEach (e :: es) X.env = (false, eval e X.env) :: starEach es X.env := by rfl) (hpl : (backTo pos (starEach es X.env)).any (·.1) = false := by rfl) :
    PE X (.Call (.Name x p) (e :: es) [] pos) (tMkV C sp ta) := by
  refine ⟨fun pins s σ H Q I h => wpAny_Call_Name_kw (ld_glob I hg hm ?_ hdb)⟩
  refine PySem.W.callWith_K (h₀ := X.base) I.ok.mod.kin kC (thn (ha.run pos pins s σ H _ I h) fun us s1 hh => ?_) he hpl
  obtain ⟨vs, H1, I1, r1, hz, q1⟩ := hh
  exact ⟨I1.kIn, mkv_run MK F1 hr hb hx I1 r1 hz q1⟩
theorem pe_mkv0 {CX : CXT} {x : Str} {C fI : Addr} {k : Nat} {fd : FuncData} {ps : List Str} {sp : Sp} {p pos : Pos} (MK : MkOk X.prog X.w X.K C fI) (kC : PySem.W.keepIn X.K (.ref C) = true)
    (F1 : FnOk X.prog X.w X.K X.mg X.base CX k fI fd ps sp) (hr : Room (k + 1) X.A) (hb : Binds X.K fd ps []) (hx : Passes CX X (fun _ _ _ => False)) (hg : Gl X x) (hm : X.mg x = some (.ref C))
    (hdb : (x == ("__debug__" : Str)) = false := by decide) :
    PE X (.Call (.Name x p) [] [] pos) (tMkV C sp tNil) := by
  refine ⟨fun pins s σ H Q I h => wpAny_Call_Name_kw (ld_glob I hg hm ?_ hdb)⟩
  exact PySem.W.callWith_K0 I.kIn kC (mkv_run (us := []) MK F1 hr hb hx I .nil h.1 h.2)
/-- e.f, e such an exception -/
def tAtt (C : Addr) (f : Str) (te : TE) : TE := fun σ H Q => te σ H fun x H1 => ∃ (a d : Addr) (fs : List (Str × V)) (v : V), x = .ref a ∧ H1 a = some (exo a C (some d)) ∧ H1 d = some (exd d fs) ∧ fs.lookup f = some v ∧ Q v H1
theorem pe_att {C : Addr} {f : Str} {e : Expr} {te : TE} {pos : Pos} (T : XfC X.K C) (hno : PySem.W.findIn X.K (.ref C) f = some none) (he : PE X e te)
    (hb : attributeBase e f X.env (eval e X.env) = eval e X.env := by rfl) : PE X (.Attribute e f pos) (tAtt C f te) := by
  refine ⟨fun pins s σ H Q I h => attr_of hb (thn (he.run pins s σ H _ I h) fun u s1 hh => ?_)⟩
  obtain ⟨x, H1, I1, rx, a, d, fs, v, ex, ea, ed, l, q⟩ := hh
  subst ex
  obtain rfl : u = Value.ref a := rx
  obtain ⟨t1, ha⟩ := exo_at I1.hok ea
  obtain ⟨mA, hns, hr⟩ := exd_at I1.hok ed
  obtain ⟨od, ho, hl⟩ := lookIn_ns hns
  obtain ⟨u, hu, ru⟩ := RelO.some_of (v := v) (o := mA f) (by rw [← l]; exact hr f)
  have J : PySem.W.InstAt s1.heap a _ C (some od) := ⟨ha, rfl, rfl, ho⟩
  exact PySem.HandSPX.exc_get I1.kIn J T.ga T.gg T.exC (PySem.W.findObj_own T.hdC hno rfl (by rw [hl, hu])) (handed_of ru) ⟨v, H1, I1.tok _, ru, q⟩
/-- isinstance(e, c), e such an exception -/
def rIsX (K : PySem.W.Frag) : List V → Hp → VK → Prop := fun xs H Q => ∃ (a C : Addr) (dd : Option Addr) (c : V) (cv : Value) (b : Bool), xs = [.ref a, c] ∧ H a = some (exo a C dd) ∧
  (dd = none ∨ ∃ d fs, dd = some d ∧ H d = some (exd d fs)) ∧ ExcC K C ∧ (∀ u, RelV c u → u = cv) ∧ PySem.W.kitOne K (.ref C) cv = some b ∧ Q (.bl b) H
theorem call_isX : CallR X (.builtin "isinstance") (rIsX X.K) := by
  intro pins s σ H xs us Q I r h
  obtain ⟨a, C, dd, c, cv, b, rfl, ea, hd, T, hcv, e, q⟩ := h
  cases r with
  | cons rx rr =>
    cases rr with
    | cons rt rr =>
      cases rr
      cases rx
      obtain rfl := hcv _ rt
      obtain ⟨t1, ha⟩ := exo_at I.hok ea
      have hcl : (PySem.W.clsIn X.K C).isSome = true := by
        obtain ⟨cd, hc, _⟩ := PySem.W.any_some T.hd
        rw [hc] <;> rfl
      rcases hd with rfl | ⟨d, fs, rfl, ed⟩
      · have J : PySem.W.InstAt s.heap a _ C none := ⟨ha, rfl, rfl, trivial⟩
        exact PySem.W.kia_one (PySem.W.kitx_exc hcl T.hg T.hk T.hs T.ha T.hn T.ht T.hm) I.kIn J e (fun z => nomatch z) fun tk => ⟨.bl b, H, I.kept (t' := tk) fun _ _ z => z, rfl, q⟩
      · obtain ⟨mA, ⟨o, es, ep, ho, hr⟩, _⟩ := exd_at I.hok ed
        have J : PySem.W.InstAt s.heap a _ C (some o) := ⟨ha, rfl, rfl, ho⟩
        exact PySem.W.kia_one (PySem.W.kitx_exc hcl T.hg T.hk T.hs T.ha T.hn T.ht T.hm) I.kIn J e (fun z => nomatch z) fun tk => ⟨.bl b, H, I.kept (t' := tk) fun _ _ z => z, rfl, q⟩
end
end Exv

set_option linter.all false
set_option maxRecDepth 100000
set_option maxHeartbeats 4000000
/-! stores on exceptions of own classes, whatever built-in class they are over -/
namespace Exg
open PySem PySem.Spec PyProof.Rows L2
open Builtin Builtin.ObjectAttr
/-- what is asked of the class at C for a store on its instances -/
structure EcC (K : PySem.W.Frag) (C : Addr) : Prop where
  cls : ∃ nm q N bs bm sn sub ab col dd k0 k1 k2 k3 k5 newId, K.lookup C = some (excClassObj nm q C N bs bm true sn sub ab col dd k0 k1 k2 k3 k5 newId) ∧
    (∀ self : Value, refuseLoop self "__setattr__" (.ref C :: bm) = pure ()) ∧ (Value.ref C :: bm).contains (.type "object") = true
  sa : PySem.W.findIn K (.ref C) "__setattr__" = some (some (.builtin "object.__setattr__"))
theorem ecC_ve {K : PySem.W.Frag} {C : Addr} (T : OexC K C) : EcC K C := by
  obtain ⟨nm, q, N, bs, bm, sn, sub, ab, col, dd, k0, k1, k2, k3, k5, hC, hbm⟩ := T.cls
  exact ⟨⟨nm, q, N, bs, bm, sn, sub, ab, col, dd, k0, k1, k2, k3, k5, _, hC, fun self => PySem.HandSPX.refsVE_pass self _ (show PySem.HandSPX.refsVE (.ref C :: bm) = true from hbm),
    (PySem.HandSPX.refsVE_contains "object" _ (show PySem.HandSPX.refsVE (.ref C :: bm) = true from hbm)).trans (by decide +kernel)⟩, T.sa⟩
section
variable {prog : Program} {w : World} {A : Around} {E : Value → Shared → Prop} {R : Result → Shared → Prop} {hp : Heap} {g : Array GenState} {d : Drawn} {t : Nat} {os : OsState}
/-- object.__setattr__ on it, down to the own dict -/
theorem to_dict {K : PySem.W.Frag} {name : Str} {tk : Tok} {v : Value} {x C : Addr} {ox : Obj} {od : Option Obj} {cd : ClassData} (KI : K.In hp) (I : PySem.W.InstAt hp x ox C od) (hcd : PySem.W.clsIn K C = some cd)
    (pass : ∀ self : Value, refuseLoop self "__setattr__" cd.mro = pure ()) (hob : cd.mro.contains (.type "object") = true) (ha : PySem.W.findIn K (.ref C) name = some none)
    (fin : wpAny (model prog w) A.in1 (storeInOwnDict (.ref x) (.ref C) (.str name tk) name v false)
      (fun f s' => match f with | .done r => R (.ok r) s' | .again c => c.quiet = true ∧ codeAny (model prog w) A c R s') (fun e s' => R (.error e) s') ⟨hp, g, d, t, os⟩) :
    codeAny (model prog w) A (.call (.builtin "object.__setattr__") ⟨[.ref x, .str name tk, v], []⟩) R ⟨hp, g, d, t, os⟩ := by
  have ne : cd.mro.isEmpty = false := by
    cases e : cd.mro with
    | nil =>
      rw [e] at hob
      cases hob
    | cons _ _ => rfl
  have isO : PySem.W.Looks (model prog w) hp (isInstance (.ref x) (.type "object")) true :=
    I.type.andThen (PySem.W.looks_mroIn KI (by unfold PySem.W.mroIn; rw [hcd, Option.bind_some, if_neg (by rw [ne]; decide), hob]))
  have lm : PySem.W.Looks (model prog w) hp (mroOf (.ref C)) cd.mro := (PySem.W.looks_clsIn KI hcd).andThen .now
  have ls : PySem.W.Looks (model prog w) hp (storeTaker? none) none := .now
  refine codeAny_call_builtin PySem.F.store_object.slot.plain PySem.F.store_object.entry
    (@PySem.W.check_slot (model prog w) _ _ ⟨hp, g, d, t, os⟩ "object.__setattr__" "object" "__setattr__" (.ref x) [.str name tk, v] [] _ PySem.F.store_object.kind PySem.F.store_object.split isO
      (PySem.F.store_object.args (.ref x) (.str name tk) v) ?_)
  rw [PySem.W.osa_eq, refuse_eq]
  refine wpAny_bind (wpAny_bind (I.type.at (wpAny_bind (lm.at ?_))))
  rw [pass]
  exact wpAny_pure (wpAny_bind (I.type.at (wpAny_bind ((PySem.W.looks_findIn KI ha).at (wpAny_bind (ls.at fin))))))
theorem set_first {K : PySem.W.Frag} {name : Str} {tk : Tok} {v : Value} {x C : Addr} {fv : Array Value} {cd : ClassData} (KI : K.In hp) (hx : hp.get? x = some { cls := .ref C, data := .fields fv }) (hcd : PySem.W.clsIn K C = some cd)
    (pass : ∀ self : Value, refuseLoop self "__setattr__" cd.mro = pure ()) (hob : cd.mro.contains (.type "object") = true) (hh : cd.hasDict = true) (ha : PySem.W.findIn K (.ref C) name = some none)
    (fin : ∀ h' tk' dx, (∀ b o, b ≠ x → hp.get? b = some o → h'.get? b = some o) → hp.objs.size ≤ dx → dx ≠ x → h'.get? x = some { cls := .ref C, dict := some dx, data := .fields fv } →
      h'.Ns1 dx (fun y => if y = name then some v else none) → R (.ok (.ret .none)) ⟨h', g, d, tk', os⟩) :
    codeAny (model prog w) A (.call (.builtin "object.__setattr__") ⟨[.ref x, .str name tk, v], []⟩) R ⟨hp, g, d, t, os⟩ := by
  have far : x ≠ hp.objs.size := Nat.ne_of_lt (Heap.lt_size hx)
  have lc : PySem.W.Looks (model prog w) hp (classData C) cd := PySem.W.looks_clsIn KI hcd
  refine to_dict KI (ox := { cls := .ref C, data := .fields fv }) (od := none) ⟨hx, rfl, rfl, trivial⟩ hcd pass hob ha ?_
  obtain ⟨c1, c2, c3, c4, c5, c6, c7, c8, c9, c10, c11⟩ := cd
  dsimp only at hh
  subst hh
  unfold storeInOwnDict ownDictForStores
  repeat (first | with_reducible refine PySem.HandSPX.store_in_new ?_ ?_ | with_reducible refine wpAny_loadPart_at hx ?_ | with_reducible refine lc.at ?_ | wp_step)
  · exact ⟨_, #[], _, (Heap.get?_update_ne _ _ _ _ far.symm).trans (Heap.get?_push_at rfl rfl), rfl, fun e he => absurd he (by simp), fun _ => rfl⟩
  · intro h' tk' hn' hs
    have hx1 : (hp.push { cls := .type "dict", data := .dict #[] }).get? x = some { cls := .ref C, data := .fields fv } := Heap.get?_push_of_some _ hx
    exact fin h' tk' hp.objs.size (fun b o hb ho => (hs.2 b (Nat.ne_of_lt (Heap.lt_size ho))).trans ((Heap.get?_update_ne _ _ _ _ hb).trans (Heap.get?_push_of_some _ ho))) (Nat.le_refl _) far.symm
      ((hs.2 x far).trans (Heap.get?_update_self _ hx1 rfl)) hn'
theorem set_next {K : PySem.W.Frag} {name : Str} {tk : Tok} {v : Value} {x C dx : Addr} {fv : Array Value} {cd : ClassData} {m0 : Str → Option Value} {nl : List Str} (KI : K.In hp)
    (hx : hp.get? x = some { cls := .ref C, dict := some dx, data := .fields fv }) (hns : hp.Ns1 dx m0) (hw : Within m0 nl) (hz : nl.length ≤ 1000) (hcd : PySem.W.clsIn K C = some cd)
    (pass : ∀ self : Value, refuseLoop self "__setattr__" cd.mro = pure ()) (hob : cd.mro.contains (.type "object") = true) (hh : cd.hasDict = true) (ha : PySem.W.findIn K (.ref C) name = some none)
    (fin : ∀ h' tk', (∀ b o, b ≠ dx → hp.get? b = some o → h'.get? b = some o) → h'.Ns1 dx (fun y => if y = name then some v else m0 y) → R (.ok (.ret .none)) ⟨h', g, d, tk', os⟩) :
    codeAny (model prog w) A (.call (.builtin "object.__setattr__") ⟨[.ref x, .str name tk, v], []⟩) R ⟨hp, g, d, t, os⟩ := by
  obtain ⟨oD, _, _, hoD, _, _⟩ := hns.count hw
  have lc : PySem.W.Looks (model prog w) hp (classData C) cd := PySem.W.looks_clsIn KI hcd
  refine to_dict KI (ox := { cls := .ref C, dict := some dx, data := .fields fv }) (od := some oD) ⟨hx, rfl, rfl, hoD⟩ hcd pass hob ha ?_
  obtain ⟨c1, c2, c3, c4, c5, c6, c7, c8, c9, c10, c11⟩ := cd
  dsimp only at hh
  subst hh
  unfold storeInOwnDict ownDictForStores
  repeat (first | with_reducible refine PySem.OEX.store_in_old hns hw hz ?_ | with_reducible refine wpAny_loadPart_at hx ?_ | with_reducible refine lc.at ?_ | wp_step)
  intro h' tk' hn' hs
  exact fin h' tk' (fun b o hb ho => (hs.2 b hb).trans ho) hn'
end
section
variable {X : Cx} {pins : List (Addr × Obj)} {σ : L2.St} {H : Hp} {s : Shared} {a C dx : Addr} {f : Str} {y : V} {u : Value} {fs : List (Str × V)} {Q : Unit → Shared → Prop} {E : Value → Shared → Prop} {A : Around}
/-- self.f = y, the first one -/
theorem st_first (T : EcC X.K C) (I : Inv X pins σ H s) (e : H a = some (exo a C none)) (hno : PySem.W.findIn X.K (.ref C) f = some none) (ry : RelV y u)
    (h : ∀ dx s', H dx = none → dx ≠ a → Inv X pins σ (upd (upd H dx (exd dx [(f, y)])) a (exo a C (some dx))) s' → Q () s') : wpAny (model X.prog X.w) A (setAttr (.ref a) f u) Q E s := by
  obtain ⟨nm, q, N, bs, bm, sn, sub, ab, col, dd, k0, k1, k2, k3, k5, newId, hC, pass, hob⟩ := T.cls
  have hcl : PySem.W.clsIn X.K C = some { name := nm, bases := bs, mro := .ref C :: bm, ns := N, qualname := q, hasDict := true, slotNames := sn, subclasses := sub, abstract := ab, collection := col, hasDel := false } := by
    unfold PySem.W.clsIn; rw [hC] <;> rfl
  obtain ⟨t1, ho⟩ := exo_at I.hok e
  obtain ⟨hp, g, d, t, os⟩ := s
  refine PySem.W.set_plain I.kIn (ox := { cls := .ref C, dict := none, data := .fields #[.ref t1, .none, .none, .none, .bool false, .none] }) (od := none) ⟨ho, rfl, rfl, trivial⟩ T.sa ?_
  refine set_first I.kIn ho hcl pass hob rfl hno (fun h' tk' dx k dn dne hx hn => ?_)
  have fresh : H dx = none := I.hok.fresh dn
  have nd : ∀ {b : Addr} {o : Obj}, hp.get? b = some o → b ≠ dx := fun {b o} z => Nat.ne_of_lt (Nat.lt_of_lt_of_le (Heap.lt_size z) dn)
  have na : ∀ {b : Addr}, H b = none → b ≠ a := fun {b} n z => by
    subst z
    rw [e] at n
    cases n
  have U : Un X.fs [] H (upd (upd H dx (exd dx [(f, y)])) a (exo a C (some dx))) hp h' := {
    keep := fun b o z n _ _ => k b o (na n) z
    slot := fun b o z n _ _ => ⟨o.slots, k b o (na n) z⟩
    free := fun b o z n _ => by
      rw [upd_ne (na n), upd_ne (nd z)]
      exact n
    there := fun b o z _ => by
      by_cases hb : b = a
      · subst hb
        exact ⟨_, hx⟩
      · exact ⟨o, k b o hb z⟩
    tups := fun b xs z => by
      rw [upd_ne (at_ne e z exo_tup), upd_ne (ne_of_none z fresh)]
      exact z
    frzs := fun b o v z => by
      rw [upd_ne (at_ne e z exo_frz), upd_ne (ne_of_none z fresh)]
      exact z
    tbls := fun b ps z => ⟨#[], by rw [upd_ne (at_ne e z exo_tbl), upd_ne (ne_of_none z fresh), z]; simp⟩ }
  refine h dx _ fresh dne (I.un (t' := tk') U fun b o z => ?_)
  by_cases hb : b = a
  · subst hb
    rw [upd_same] at z
    cases z
    exact exo_ok hx
  · rw [upd_ne hb] at z
    by_cases hd : b = dx
    · subst hd
      rw [upd_same] at z
      cases z
      exact exd_ok hn (relO_put (fs := []) ry fun g => True.intro)
    · rw [upd_ne hd] at z
      refine (I.hok b o z).stay (fun c v hc r => k c v ?_ r) (fun c hc => ?_) (fun c xs hc => ?_)
      · rcases hc with hc | hc
        · rw [hc]
          exact hb
        · exact at_ne e hc exo_own
      · rw [upd_ne (at_ne e hc exo_own), upd_ne (ne_of_none hc fresh)]
        exact hc
      · rw [upd_ne (at_ne e hc exo_tup), upd_ne (ne_of_none hc fresh)]
        exact hc
/-- self.f = y, a further one -/
theorem st_next (T : EcC X.K C) (I : Inv X pins σ H s) (e : H a = some (exo a C (some dx))) (ed : H dx = some (exd dx fs)) (hl : fs.length ≤ 900) (hno : PySem.W.findIn X.K (.ref C) f = some none) (ry : RelV y u)
    (h : ∀ s', Inv X pins σ (upd H dx (exd dx ((f, y) :: fs))) s' → Q () s') : wpAny (model X.prog X.w) A (setAttr (.ref a) f u) Q E s := by
  obtain ⟨nm, q, N, bs, bm, sn, sub, ab, col, dd, k0, k1, k2, k3, k5, newId, hC, pass, hob⟩ := T.cls
  have hcl : PySem.W.clsIn X.K C = some { name := nm, bases := bs, mro := .ref C :: bm, ns := N, qualname := q, hasDict := true, slotNames := sn, subclasses := sub, abstract := ab, collection := col, hasDel := false } := by
    unfold PySem.W.clsIn; rw [hC] <;> rfl
  obtain ⟨t1, ho⟩ := exo_at I.hok e
  obtain ⟨mA, hns, rel⟩ := exd_at I.hok ed
  have hw := within_of rel
  obtain ⟨hp, g, d, t, os⟩ := s
  obtain ⟨oD, _, _, hoD, _, _⟩ := hns.count hw
  refine PySem.W.set_plain I.kIn (ox := { cls := .ref C, dict := some dx, data := .fields #[.ref t1, .none, .none, .none, .bool false, .none] }) (od := some oD) ⟨ho, rfl, rfl, hoD⟩ T.sa ?_
  refine set_next I.kIn ho hns hw (by rw [List.length_map]; omega) hcl pass hob rfl hno (fun h' tk' k hn => ?_)
  obtain ⟨oN, esN, epN, eN, rN⟩ := id hn
  exact h _ (I.write (t' := tk') (x := dx) (e := dx) (o := exd dx ((f, y) :: fs)) (by rw [ed]; exact True.intro) (.inl rfl) k ⟨oN, eN⟩ (exd_ok hn (relO_put ry rel)))
/-- self.f = e -/
def tSt (K : PySem.W.Frag) (f : Str) (to te : TE) : TS := fun D σ H => te σ H fun y H1 => to σ H1 fun x H2 => ∃ a C : Addr, x = .ref a ∧ EcC K C ∧ PySem.W.findIn K (.ref C) f = some none ∧
  ((H2 a = some (exo a C none) ∧ ∀ dx, H2 dx = none → dx ≠ a → D.nx σ (upd (upd H2 dx (exd dx [(f, y)])) a (exo a C (some dx)))) ∨
    ∃ (dx : Addr) (fs : List (Str × V)), H2 a = some (exo a C (some dx)) ∧ H2 dx = some (exd dx fs) ∧ fs.length ≤ 900 ∧ D.nx σ (upd H2 dx (exd dx ((f, y) :: fs))))
theorem ps_st {o e : Expr} {to te : TE} {p' pos : Pos} (ho : PE X o to) (he : PE X e te) (hs : swapsWith e (some (.Attribute o f p')) pos.line X.env = pure false := by rfl) :
    PS X (.Assign [.Attribute o f p'] e pos) (tSt X.K f to te) := by
  refine ⟨fun pins s σ H D I h => plainObj_wpAny_Assign_Attribute (thn (he.run pins s σ H _ I h) fun v s1 hh => ?_) hs⟩
  obtain ⟨y, H1, I1, r1, q1⟩ := hh
  refine thn (ho.run pins s1 σ H1 _ I1 q1) fun u s2 hh => ?_
  obtain ⟨x, H2, I2, r2, a, C, ex, T, hno, q⟩ := hh
  subst ex
  obtain rfl : u = Value.ref a := r2
  rcases q with ⟨ea, q⟩ | ⟨dx, fs, ea, ed, hl, q⟩
  · exact st_first T I2 ea hno r1 fun dx s' n ne J => ⟨σ, _, J, q dx n ne⟩
  · exact st_next T I2 ea ed hl hno r1 fun s' J => ⟨σ, _, J, q⟩
end
end Exg

set_option linter.all false
set_option maxRecDepth 100000
set_option maxHeartbeats 4000000
/-! an own exception class over KeyError: made, its built-in __init__ called -/
namespace Ky
open PySem PySem.Calls PySem.Spec PyProof.Rows L2 Exv Exg
open PySem.W (KxsFacts)
abbrev keTail : List Value := [.type "KeyError", .type "LookupError", .type "Exception", .type "BaseException", .type "object"]
theorem initRow : Manifest.signature? "KeyError.__init__" = some ⟨.positional, "*", "KeyError", .self, [⟨"args", .varPos, false⟩]⟩ := by kernel_rfl
theorem initKind : builtinKind "KeyError.__init__" = some .slot := by kernel_rfl
theorem initSlot : Slot "KeyError" "__init__" "KeyError.__init__" := .of (owner := "KeyError") (n := "__init__")
    (by rw [typeLookup_type, builtinLookup_eq_fast]; kernel_rfl) (by decide +kernel) (by decide +kernel) (by decide +kernel)
    (by first | exact .inr (by decide +kernel) | exact .inl (by decide +kernel)) (by rw [isSubtype_type]; kernel_rfl)
theorem initEntry : entryFor table "KeyError.__init__" = some Builtin.«BaseException.__init__» :=
  entryFor_alias (id' := "BaseException.__init__") (by rw [fastTable_eq_tree]; kernel_rfl) (by first | rfl | decide +kernel) (by decide +kernel) (by rw [fastTable_eq_tree]; kernel_rfl)
theorem keyPass (self : Value) : refuseLoop self "__setattr__" keTail = pure () := by kernel_rfl
theorem keySup : KxsFacts "KeyError" "KeyError.__init__" :=
  ⟨by show builtinType _ = _; rw [builtinType_eq_fast]; kernel_rfl, by first | kernel_rfl | rfl⟩
section
variable {M : Model} {prog : Program} {w : World} {A : Around} {E : Value → Shared → Prop} {R : Result → Shared → Prop} {h : Heap} {g : Array GenState} {d : Drawn} {t : Nat} {os : OsState}
variable {nm q : Str} {C N : Addr} {bs : List Value} {hdct : Bool} {sn : List Str} {sub : List Value} {ab : Bool} {col : Option Bool} {dd : Option Addr} {k0 k1 k2 k3 k5 : Option Value}
theorem chk_bound {e : Addr} {oe : Obj} {rest bm : List Value} {newId : String} {Q : Unit → Shared → Prop}
    (hC : h.get? C = some (excClassObj nm q C N bs bm hdct sn sub ab col dd k0 k1 k2 k3 k5 newId)) (he : h.get? e = some oe) (hcls : oe.cls = .ref C) (hq : Q () ⟨h, g, d, t, os⟩) :
    wpAny M A (checkBoundCall "KeyError.__init__" ⟨.ref e :: rest, []⟩) Q E ⟨h, g, d, t, os⟩ := by
  have noStar : (("KeyError" : String) != "*") = true := by decide
  simp only [checkBoundCall, initKind, initRow]
  repeat (first | (with_reducible refine wpAny_loadPart_at he ?_; rw [hcls]) | with_reducible refine wpAny_loadPart_at hC ?_ | wp_step)
  refine wpAny_onRaise ?_
  rw [show ∀ (a b : String) (n : Nat), Bind.check ⟨.positional, "*", "KeyError", .self, [⟨"args", .varPos, false⟩]⟩ a b n (List.map (fun x => x.fst) ({ pos := Value.ref e :: rest } : Args).kw) = pure () from
    fun a b n => check_star_args _ _ _ _ _ _]
  exact wpAny_pure hq
abbrev newK : String := "LookupError.__new__"
theorem chk_new {rest : List Value} {Q : Unit → Shared → Prop} (hC : h.get? C = some (excClassObj nm q C N bs keTail hdct sn sub ab col dd k0 k1 k2 k3 k5 newK)) (hq : Q () ⟨h, g, d, t, os⟩) :
    wpAny M A (checkBuiltinCall newK ⟨.ref C :: rest, []⟩) Q E ⟨h, g, d, t, os⟩ := by
  have hB : (Value.ref C :: keTail).contains (.type "LookupError") = true := by rw [List.contains_cons, show keTail.contains (.type "LookupError") = true by decide +kernel, Bool.or_true]
  have noStar := PySem.F.excBase_LookupError.noStar
  simp only [checkBuiltinCall, PySem.F.excBase_LookupError.newKind, PySem.F.excBase_LookupError.newSplit, PySem.F.excBase_LookupError.newRow]
  repeat (first | refine wpAny_loadPart_at hC ?_ | (refine wpAny_isSubtype_exc hC ?_; rw [hB]) | refine wpAny_staticBase_exc hC ?_ | refine wpAny_madeBy_exc hC ?_ | simp only [bne_self_eq_false, Bool.false_eq_true, if_false] | wp_step)
  exact hq
theorem new_key {rest : List Value} (hC : h.get? C = some (excClassObj nm q C N bs keTail hdct sn sub ab col dd k0 k1 k2 k3 k5 newK)) (hrest : rest.length ≤ sizeLine)
    (hq : R (.ok (.ret (.ref (h.objs.size + 1)))) ⟨(h.push (PySem.W.kdv_tup rest)).push (PySem.HandSPX.excO C h.objs.size), g, d, t, os⟩) :
    codeAny (model prog w) A (.builtin newK ⟨.ref C :: rest, []⟩) R ⟨h, g, d, t, os⟩ := by
  have ends := PySem.F.excBase_LookupError.ends
  have hB : (Value.ref C :: keTail).contains (.type "LookupError") = true := by rw [List.contains_cons, show keTail.contains (.type "LookupError") = true by decide +kernel, Bool.or_true]
  have hA : (Value.ref C :: keTail).contains (.type "AttributeError") = false := by rw [List.contains_cons, show keTail.contains (.type "AttributeError") = false by decide +kernel]; rfl
  have hN : (Value.ref C :: keTail).contains (.type "NameError") = false := by rw [List.contains_cons, show keTail.contains (.type "NameError") = false by decide +kernel]; rfl
  refine codeAny_builtinAt PySem.F.excBase_LookupError.entry ?_
  unfold Builtin.«BaseException.__new__»
  refine PySem.wpAt_bind ?_
  show _root_.PySem.wpAt _ _ _ (stack >>= _) _ _ _
  refine PySem.wpAt_bind (PySem.wpAt_stack fun p below => PySem.wpAt_of_wpAny ?_)
  wp_walk
  refine PySem.wpAt_of_wpAny ?_
  rw [PySem.F.excBase_LookupError.owner]
  repeat (first | with_reducible refine wpAny_madeHere_exc PySem.F.excBase_LookupError.canon hC ?_ | with_reducible refine wpAny_loadPart_at hC ?_ |
    (with_reducible refine wpAny_isSubtype_exc hC ?_; first | rw [hB] | rw [hA] | rw [hN]) | wp_step)
  show R _ _
  rw [Heap.size_push]
  exact hq
theorem type_call_key {rest : List Value} {fI : Addr} {Q : Fin → Shared → Prop} (hC : h.get? C = some (excClassObj nm q C N bs keTail hdct sn sub ab col dd k0 k1 k2 k3 k5 newK))
    (hi : PySem.W.Looks (model prog w) h (typeLookup (.ref C) "__init__") (some (.ref fI))) (hb : ∀ self, PySem.W.Looks (model prog w) h (bindSpecial (.ref fI) self) (.ref fI, [self])) (hrest : rest.length ≤ sizeLine)
    (hq : codeAny (model prog w) A (.call (.ref fI) ⟨.ref (h.objs.size + 1) :: rest, []⟩)
      (fun r s' => match r with | .ok (.ret v) => v = .none ∧ Q (.done (.ret (.ref (h.objs.size + 1)))) s' | .ok _ => False | .error e => E e s')
      ⟨(h.push (PySem.W.kdv_tup rest)).push (PySem.HandSPX.excO C h.objs.size), g, d, t, os⟩) :
    wpAny (model prog w) A (Builtin.«type.__call__» ⟨.ref C :: rest, []⟩) Q E ⟨h, g, d, t, os⟩ := by
  repeat (first | with_reducible refine wpAny_loadPart_at hC ?_ | with_reducible refine wpAny_madeBy_exc hC ?_ | wp_step)
  refine codeAny_call_builtin_code (Code.quiet_builtin _ PySem.F.excBase_LookupError.quiet) (chk_new hC (new_key hC hrest ?_))
  show wpAny _ _ _ _ _ _
  have k : ∀ b o, h.get? b = some o → ((h.push (PySem.W.kdv_tup rest)).push (PySem.HandSPX.excO C h.objs.size)).get? b = some o := fun b o e =>
    Heap.get?_push_of_some _ (Heap.get?_push_of_some _ e)
  have hC1 := k _ _ hC
  have hat : ((h.push (PySem.W.kdv_tup rest)).push (PySem.HandSPX.excO C h.objs.size)).get? (h.objs.size + 1) = some (PySem.HandSPX.excO C h.objs.size) := by heap_get
  have hself : (Value.ref C :: keTail).contains (.ref C) = true := by simp
  have i1 := hi.keeps k
  have b1 := (hb (.ref (h.objs.size + 1))).keeps k
  unfold isInstance
  repeat (first | with_reducible refine wpAny_loadPart_at hat ?_ | (with_reducible refine wpAny_isSubtype_exc hC1 ?_; rw [hself]) | wp_step)
  show wpAny _ _ (typeLookup (.ref C) _) _ _ _
  refine i1.at (wpAny_holding (wpAny_bind (b1.at ?_)))
  refine wpAny_bind (wpAny_call (codeAny_mono hq fun r s' z => ?_))
  rcases r with e | (v | _ | _ | _) <;> first | exact z | exact z.elim | skip
  obtain ⟨rfl, z⟩ := z
  first
    | exact wpAny_pure (wpAny_pure z)
    | (wp_walk; exact z)
end
theorem mkOk_key {prog : Program} {w : World} {K : PySem.W.Frag} {C fI : Addr}
    (cls : ∃ nm q N bs sn sub ab col dd k0 k1 k2 k3 k5, K.lookup C = some (excClassObj nm q C N bs keTail true sn sub ab col dd k0 k1 k2 k3 k5 newK))
    (iC : PySem.W.findIn K (.ref C) "__init__" = some (some (.ref fI))) (tI : PySem.W.typeIn K (.ref fI) = some (.type "function")) : MkOk prog w K C fI := fun A R h g d t os rest KX hr q => by
  obtain ⟨nm, qq, N, bs, sn, sub, ab, col, dd, k0, k1, k2, k3, k5, hC0⟩ := cls
  have hC := KX _ _ hC0
  have f1 := PySem.tc_lookup
  have f2 := PySem.tc_bind (.ref C)
  have hTy : (⟨h, g, d, t, os⟩ : Shared).TypeIs (.ref C) "type" := ⟨_, hC, rfl⟩
  refine codeAny_of_tree ?_
  show wpAny _ _ (callAny (.ref C) _) _ _ _
  repeat (any_goals (first | assumption | with_reducible refine wpAny_loadPart_at hC ?_ | wp_step))
  refine ⟨rfl, ?_⟩
  refine codeAny_call_builtin_at (Code.quiet_builtin _ (by decide +kernel)) entry_typeCall (wpAny_check_type_call_sub hC (type_call_key hC (PySem.W.looks_findIn KX iC) (fun self => PySem.W.bind_fn KX self tI) hr ?_))
  refine codeAny_mono q fun r s' z => ?_
  rcases r with e | (v | _ | _ | _) <;> exact z
end Ky

set_option linter.all false
set_option maxRecDepth 100000
set_option maxHeartbeats 4000000
/-! an own exception class over ValueError whose __init__ begins with super().__init__('..') -/
namespace Sup
open PySem PySem.Spec PyProof.Rows L2 NdefX
open PySem.W (kxs_mw)
section
variable {X : Cx} {pins : List (Addr × Obj)} {σ : L2.St} {H : Hp} {s : Shared} {a C u : Addr} {A : Around} {E : Value → Shared → Prop}
theorem upd_id {o : HO} (e : H a = some o) : upd H a o = H := by
  funext b
  by_cases hb : b = a
  · subst hb
    rw [upd_same]
    exact e.symm
  · exact upd_ne hb
/-- the built-in __init__ i, bound to an exception of the class at C, is called -/
def MwOk (K : PySem.W.Frag) (C : Addr) (i : String) : Prop := ∀ (prog : Program) (w : World) (A : Around) (E : Value → Shared → Prop) (h : Heap) (g : Array GenState) (d : Drawn) (t : Nat) (os : OsState) (u e t0 : Addr) (us : List Value) (Q : Value → Shared → Prop),
  K.In h → h.get? e = some (PySem.HandSPX.excO C t0) → h.get? u = some (kxs_mw i e) → us.length ≤ sizeLine →
  (∀ h' t1, (∀ b o, b ≠ e → h.get? b = some o → h'.get? b = some o) → h'.get? e = some (PySem.HandSPX.excO C t1) → Q .none ⟨h', g, d, t, os⟩) →
  wpAny (model prog w) A (call (.ref u) us) Q E ⟨h, g, d, t, os⟩
theorem mwOk_ve {K : PySem.W.Frag} (T : OexC K C) : MwOk K C "ValueError.__init__" := fun prog w A E h g d t os u e t0 us Q KX he hu hl hq => by
  obtain ⟨nm, qq, N, bs, bm, sn, sub, ab, col, dd, k0, k1, k2, k3, k5, hC, hbm⟩ := T.cls
  refine wpAny_call (codeAny_of_tree ?_)
  show wpAny _ A.in1 (callAny (.ref u) ⟨us, []⟩) _ _ _
  simp only [callAny]
  refine wpAny_bind (wpAny_load hu ?_)
  simp only [kxs_mw, show (Value.type "method-wrapper" == Value.type "method" || Value.type "method-wrapper" == Value.type "builtin_function_or_method"
    || Value.type "method-wrapper" == Value.type "method-wrapper") = true by decide, if_true]
  refine PySem.W.KFB.if_so (by decide) (wpAny_bind (ESX.check_bound PySem.F.excBase_ValueError (KX _ _ hC) he rfl (wpAny_bind (wpAny_pure (wpAny_pure ?_)))))
  refine ⟨plainId_quiet PySem.F.excBase_ValueError.init.plain _, codeAny_builtin PySem.F.excBase_ValueError.initEntry ?_⟩
  exact PySem.W.exc_init_tree (cls := .ref C) (t0 := t0) (dv := none) (c2 := .none) (c3 := .none) (b4 := .bool false) he hl (fun h' k hx _ => hq h' _ k hx)
theorem mwOk_key {K : PySem.W.Frag} (cls : ∃ nm q N bs sn sub ab col dd k0 k1 k2 k3 k5, K.lookup C = some (excClassObj nm q C N bs Ky.keTail true sn sub ab col dd k0 k1 k2 k3 k5 Ky.newK)) : MwOk K C "KeyError.__init__" :=
  fun prog w A E h g d t os u e t0 us Q KX he hu hl hq => by
  obtain ⟨nm, qq, N, bs, sn, sub, ab, col, dd, k0, k1, k2, k3, k5, hC⟩ := cls
  refine wpAny_call (codeAny_of_tree ?_)
  show wpAny _ A.in1 (callAny (.ref u) ⟨us, []⟩) _ _ _
  simp only [callAny]
  refine wpAny_bind (wpAny_load hu ?_)
  simp only [kxs_mw, show (Value.type "method-wrapper" == Value.type "method" || Value.type "method-wrapper" == Value.type "builtin_function_or_method"
    || Value.type "method-wrapper" == Value.type "method-wrapper") = true by decide, if_true]
  refine PySem.W.KFB.if_so (by decide) (wpAny_bind (Ky.chk_bound (KX _ _ hC) he rfl (wpAny_bind (wpAny_pure (wpAny_pure ?_)))))
  refine ⟨plainId_quiet Ky.initSlot.plain _, codeAny_builtin Ky.initEntry ?_⟩
  exact PySem.W.exc_init_tree (cls := .ref C) (t0 := t0) (dv := none) (c2 := .none) (c3 := .none) (b4 := .bool false) he hl (fun h' k hx _ => hq h' _ k hx)
/-- .. over the abstract heap: nothing of it is told -/
theorem call_mw {i : String} {us : List Value} {Q : Value → Shared → Prop} (M : MwOk X.K C i) (I : Inv X pins σ H s) (e : H a = some (exo a C none))
    (hu : s.heap.get? u = some (kxs_mw i a)) (hl : us.length ≤ sizeLine) (h : ∀ s', Inv X pins σ H s' → Q .none s') :
    wpAny (model X.prog X.w) A (call (.ref u) us) Q E s := by
  obtain ⟨t1, ho⟩ := exo_at I.hok e
  have KX := I.kIn
  obtain ⟨hp, g, d, t, os⟩ := s
  refine M _ _ A E hp g d t os u a t1 us Q KX ho hu hl (fun h' t2 k hx => ?_)
  have J := I.write (t' := t) (x := a) (e := a) (o := exo a C none) (by rw [e]; exact True.intro) (.inl rfl) k ⟨_, hx⟩ (exo_ok hx)
  rw [upd_id e] at J
  exact h _ J
end

/-- what the written part says of such a class at C: its cell __class__ at cc, its __init__'s code at cda -/
structure SupF (P : Program) (K : PySem.W.Frag) (B i : String) (C cc cda : Addr) : Prop where
  KF : PySem.W.KxsFacts B i
  mw : MwOk K C i
  cls : ∃ nm q N bs bm sn sub ab col dd k0 k1 k2 k3 k5 newId, K.lookup C = some (excClassObj nm q C N bs bm true sn sub ab col dd k0 k1 k2 k3 k5 newId)
  along : PySem.W.ks_superIn K C C "__init__" = some (some (.builtin i))
  subV : PySem.W.subIn K (.ref C) (.type B) = some true
  subC : PySem.W.mroIn K C (.ref C) = some true
  cell : ∃ cl cld csl, K.lookup cc = some ⟨cl, cld, .cell (some (.ref C)), csl⟩
  code : ∃ ccl cdd vs ccs file tf, K.lookup cda = some ⟨ccl, cdd, .fields vs, ccs⟩ ∧ vs[2]? = some (.str file tf) ∧ ((P.main.file : Str) == file) = true
  third : PySem.W.nsIn K PySem.cStatics "thirdparty.any" = some none
/-- super().__init__('..') -/
abbrev stSup (p0 p1 p2 p3 p4 p5 : Pos) (j : Nat) (msg : Str) : Stmt :=
  .Expr (.Call (.Attribute (.Call (.Name "super" p0) [] [] p1) "__init__" p2) [.Constant (.str msg) j p3] [] p4) p5
section
variable {CX : CXT} {P : Program} {w : World} {K : PySem.W.Frag} {mg : Str → Option Value} {base : Heap} {N ps : List Str} {F : NF} {f C cc : Addr} {A : Around} {outer : List Env} {s0 s : Shared} {H0 H : Hp} {E : XK} {σ : L2.St} {a : Addr}
theorem sup_stmt {p0 p1 p2 p3 p4 p5 : Pos} {j : Nat} {msg : Str} {body : List Stmt} {ar : Arg} {oc : Value} {od : Option Addr} {osl : Array (Option Value)} {dV kV doc pm ct : Value} {an : Option Addr}
    {B i : String} (D : SupF P K B i C cc F.c) (hcl : F.cl = [(("__class__" : Str), cc)])
    (lk : K.lookup f = some ⟨oc, od, .func (PySem.W.fnX F.name F.qual F.params F.body F.scope F.cl dV kV doc pm an (.ref F.c) ct), osl⟩)
    (hk : F.scope.kind = .function)
    (hks : F.scope.names.lookup ("super" : Str) = some .globalImplicit) (hkc : F.scope.names.lookup ("__class__" : Str) = some .free)
    (hp : (F.params.posonlyargs ++ F.params.args).head? = some ar) (h0 : N[0]? = some ar.arg) (hka : F.scope.names.lookup ar.arg = some .local)
    {pl : Sem Bool} (hev : eval (.Call (.Attribute (.Call (.Name "super" p0) [] [] p1) "__init__" p2) [.Constant (.str msg) j p3] [] p4) (envF F f s0.heap.objs.size) = (do
      let ov ← attributeBase (.Call (.Name "super" p0) [] [] p1) "__init__" (envF F f s0.heap.objs.size) (eval (.Call (.Name "super" p0) [] [] p1) (envF F f s0.heap.objs.size))
      standAt p2.atName
      let (g, first) ← holding [ov] (getMethod ov "__init__" pl)
      callWith p4 g first (backTo p4 (starEach [.Constant (.str msg) j p3] (envF F f s0.heap.objs.size))) []))
    (hsup : mg "super" = none) (htop : (P.main.scope.names.lookup ("super" : Str)).isSome = false)
    (I : Inv (ncx CX P w K mg base N F f A outer s0 H0 E) [] σ H s) (hσ : σ[0]? = some (some (.ref a))) (hH : H a = some (exo a C none)) :
    _root_.PySem.wpAt (model P w) (A.deeper (envF F f s0.heap.objs.size)) (.func body (envF F f s0.heap.objs.size)) (exec (stSup p0 p1 p2 p3 p4 p5 j msg) (envF F f s0.heap.objs.size))
      (fun fl s' => fl = .next ∧ Inv (ncx CX P w K mg base N F f A outer s0 H0 E) [] σ H s') (ncx CX P w K mg base N F f A outer s0 H0 E).xe s := by
  obtain ⟨sh, sg, sd, st, so⟩ := s
  have KX : K.In sh := I.kIn
  obtain ⟨nm, q, Nn, bs, bm, sn, sub, ab, col, dd, k0, k1, k2, k3, k5, newId, hC⟩ := D.cls
  obtain ⟨cl, cld, csl, hcell⟩ := D.cell
  obtain ⟨ccl, cdd, vs, ccs, file, tf, hcode, hvs, hfile⟩ := D.code
  obtain ⟨mb, hb1, hb2⟩ := I.mod.blt
  obtain ⟨t1, ho⟩ := exo_at I.hok hH
  obtain ⟨m, hns, hloc⟩ := I.loc
  obtain ⟨u, ru, hu⟩ := hloc 0 ar.arg (.ref a) h0 hσ (.inl hka)
  obtain rfl : u = Value.ref a := ru
  have hm : m ar.arg = some (.ref a) := by
    rcases hu with ⟨_, z⟩ | ⟨z, _⟩
    · exact z
    · have z' : F.scope.names.lookup ar.arg = some .cell ∨ F.scope.names.lookup ar.arg = some .free := z
      rw [hka] at z'
      rcases z' with z' | z' <;> cases z'
  have hclsI : PySem.W.clsIn K C = some { name := nm, bases := bs, mro := .ref C :: bm, ns := Nn, qualname := q, hasDict := true, slotNames := sn, subclasses := sub, abstract := ab, collection := col, hasDel := false } := by
    unfold PySem.W.clsIn; rw [hC] <;> rfl
  have hi : interactive (envF F f s0.heap.objs.size) = false := by
    unfold interactive
    show (F.scope.kind == _ && _) = false
    rw [hk]
    rfl
  refine PySem.ks_wpAt_Expr_any (hi := hi) (PySem.ks_wpAt_MethodCall (pl := pl) ?_ hev)
  refine PySem.ks_wpAt_super_base (env := envF F f s0.heap.objs.size) hks hkc (by decide) rfl (KX _ _ lk) rfl hp rfl (KX _ _ hcode) rfl hvs hfile htop ?_
  refine PySem.W.ks_loadName_global hk hks (PySem.Calls.loadGlobal_builtin (env := envF F f s0.heap.objs.size) (I.mod.glob.keeps I.bk) hsup (hb1.keeps I.bk)
    ((hb2 "super" (by decide)).trans (by decide +kernel : bootBuiltins "super" = some (.type "super"))) ⟨rfl, ?_⟩)
  refine wpAny_loadName_free hk hkc (show F.cl.lookup ("__class__" : Str) = some cc by rw [hcl]; rfl) ⟨_, KX _ _ hcell, rfl⟩ ?_
  refine wpAny_loadName_local hk hka hns hm ?_
  refine PySem.ks_wpAny_isType_cls (KX _ _ hC) rfl ⟨rfl, ?_⟩
  refine PySem.ks_wpAny_call_super (KX _ _ hC) rfl ho rfl (fun c e => by cases e) (PySem.W.looks_mroIn KX D.subC) (fun h' e k => ?_)
  have X' : K.In h' := KX.keeps k
  have I1 : Inv (ncx CX P w K mg base N F f A outer s0 H0 E) [] σ H ⟨h', sg, sd, st, so⟩ := I.kept k
  have hcl2 : PySem.W.clsIn K C = some { name := nm, bases := bs, mro := .ref C :: bm, ns := Nn, qualname := q, hasDict := true, slotNames := sn, subclasses := sub, abstract := ab, collection := col, hasDel := false } := hclsI
  have al := D.along
  unfold PySem.W.ks_superIn at al
  rw [hcl2] at al
  have ho' := k _ _ ho
  have It : PySem.W.InstAt h' a { cls := .ref C, dict := none, data := .fields #[.ref t1, .none, .none, .none, .bool false, .none] } C none := ⟨ho', rfl, rfl, trivial⟩
  refine PySem.W.kxs_getMethod D.KF e (PySem.W.looks_opaque X' D.third) (l₀ := .ref C :: bm)
    (fun A Q E s k q => wpAny_bind ((PySem.W.looks_clsIn X' hcl2) A _ E s k (wpAny_pure q))) rfl X' al (It.type.andThen (PySem.W.looks_subIn X' D.subV)) (PySem.W.ks_ne X' It hcl2) (by decide) ?_
  have I2 : Inv (ncx CX P w K mg base N F f A outer s0 H0 E) [] σ H ⟨h'.push (kxs_mw i a), sg, sd, st + 1, so⟩ := I1.kept (t' := st + 1) fun b o z => Heap.get?_push_of_some _ z
  have hmw : (h'.push (kxs_mw i a)).get? h'.objs.size = some (kxs_mw i a) := Heap.get?_push_at rfl rfl
  have hargs : PA (ncx CX P w K mg base N F f A outer s0 H0 E) [.Constant (.str msg) j p3] (tCons (tC (.str msg)) tNil) := pa_cons pe_str pa_nil
  have I3 : Inv (ncx CX P w K mg base N F f A outer s0 H0 E) [(h'.objs.size, kxs_mw i a)] σ H ⟨h'.push (kxs_mw i a), sg, sd, st + 1, so⟩ :=
    I2.pins_of fun p hp => by
      obtain rfl := List.mem_singleton.mp hp
      exact ⟨hmw, I1.hok.fresh (Nat.le_refl _), Nat.ne_of_gt I1.lt, I1.nofs (Nat.le_refl _), fun v z => by cases z⟩
  have hrun := hargs.run p4 [(h'.objs.size, kxs_mw i a)] ⟨h'.push (kxs_mw i a), sg, sd, st + 1, so⟩ σ H (fun vs H1 => vs = [.str msg] ∧ H1 = H) I3 ⟨rfl, rfl⟩
  show wpAny _ _ (callWith p4 (.ref h'.objs.size) [] (backTo p4 ((false, _) :: [])) []) _ _ _
  refine PySem.W.kxs_callWith (i := i) (x := a) rfl (PySem.Calls.evalArgs_plain (wpAny_mono hrun (fun us s1 hh => ?_) fun _ _ z => z))
  obtain ⟨vs, H1, J, r, rfl, rfl⟩ := hh
  have pin := (J.pin (h'.objs.size, kxs_mw i a) (by simp)).1
  refine ⟨pin, ?_⟩
  refine call_mw (X := ncx CX P w K mg base N F f A outer s0 H0 E) (u := h'.objs.size) D.mw J hH pin ?_ fun s' J' => ⟨rfl, J'.pins_of fun p hp => absurd hp (by simp)⟩
  show us.length ≤ sizeLine
  rw [← r.length, sizeLine_eq]
  show 1 ≤ 16777216
  decide
/-- THE RULE: such an __init__, by what stands behind its first row -/
theorem ok_sup {sp : Sp} {k : Nat} {p0 p1 p2 p3 p4 p5 : Pos} {j : Nat} {msg : Str} {rest : List Stmt} {ar : Arg} {oc : Value} {od : Option Addr} {osl : Array (Option Value)} {dV kV doc pm ct : Value} {an : Option Addr}
    {B i : String} (D : SupF P K B i C cc F.c) (hcl : F.cl = [(("__class__" : Str), cc)]) (hbd : F.body = stSup p0 p1 p2 p3 p4 p5 j msg :: rest)
    (lk : K.lookup f = some ⟨oc, od, .func (PySem.W.fnX F.name F.qual F.params F.body F.scope F.cl dV kV doc pm an (.ref F.c) ct), osl⟩)
    (hcd : PySem.W.codeIn K (.ref F.c) F.qual = true) (S : NdefX.NScope N ps ["__class__"] F.scope)
    (hks : F.scope.names.lookup ("super" : Str) = some .globalImplicit)
    (hp : (F.params.posonlyargs ++ F.params.args).head? = some ar) (h0 : N[0]? = some ar.arg) (hka : F.scope.names.lookup ar.arg = some .local)
    (hev : ∀ L : Addr, ∃ pl : Sem Bool, eval (.Call (.Attribute (.Call (.Name "super" p0) [] [] p1) "__init__" p2) [.Constant (.str msg) j p3] [] p4) (envF F f L) = (do
      let ov ← attributeBase (.Call (.Name "super" p0) [] [] p1) "__init__" (envF F f L) (eval (.Call (.Name "super" p0) [] [] p1) (envF F f L))
      standAt p2.atName
      let (g, first) ← holding [ov] (getMethod ov "__init__" pl)
      callWith p4 g first (backTo p4 (starEach [.Constant (.str msg) j p3] (envF F f L))) []))
    (hsup : mg "super" = none) (htop : (P.main.scope.names.lookup ("super" : Str)).isSome = false)
    (len : ∀ vs H Q E, sp vs H Q E → vs.length = ps.length)
    (self : ∀ vs H Q E, sp vs H Q E → ∃ a r, vs = .ref a :: r ∧ H a = some (exo a C none))
    (hbody : ∀ (A : Around) (outer : List Env) (s : Shared) (H : Hp) (vs : List V) (Q : VK) (E : XK), Room k (A.deeper (envF F f s.heap.objs.size)) → sp vs H Q E →
      ∃ t, PSs (ncx CX P w K mg base N F f A outer s H E) rest t ∧ t { nx := fun _ H' => Q .non H', rt := Q } (startF N vs [none]) H) :
    FnOk P w K mg base CX (k + 1) f (PySem.W.fnX F.name F.qual F.params F.body F.scope F.cl dV kV doc pm an (.ref F.c) ct) ps sp := by
  refine ⟨len, fun A outer s H args us vs Q E hr e0 hb r hsp => ?_⟩
  have hl := len _ _ _ _ hsp
  have KX : K.In s.heap := e0.mod.kin.keeps fun b o e => (e0.bs b o e).1
  have lim : s.heap.NoLimit := e0.mod.nolimit.keeps fun b o e => (e0.bs b o e).1
  obtain ⟨cl, cld, csl, hcell⟩ := D.cell
  have hcn : H cc = none := (e0.bs _ _ (e0.mod.kin _ _ hcell)).2
  have CA : NdefX.CellsAt F.cl ["__class__"] [none] s.heap H := by
    rw [hcl]
    have one : ∀ y c, List.lookup y [(("__class__" : Str), cc)] = some c → y = ("__class__" : Str) ∧ c = cc := fun y c h => by
      have z := PySem.mem_of_lookup h
      have z' := List.mem_singleton.mp z
      exact ⟨congrArg Prod.fst z', congrArg Prod.snd z'⟩
    refine ⟨rfl, fun y c h => ?_, fun x y c h1 h2 => (one _ _ h1).1.trans (one _ _ h2).1.symm, fun i y h => ?_⟩
    · obtain ⟨_, rfl⟩ := one _ _ h
      exact ⟨hcn, some (.ref C), _, KX _ _ hcell, rfl⟩
    · match i, h with
      | 0, h =>
        obtain rfl : ("__class__" : Str) = y := Option.some.inj h
        exact ⟨cc, rfl, fun v z => by cases z⟩
  obtain ⟨t, ht, hq⟩ := hbody A outer s H vs Q E (hr.deeper _) hsp
  obtain ⟨a, rr, hva, hHa⟩ := self _ _ _ _ hsp
  obtain ⟨pl, hpl⟩ := hev s.heap.objs.size
  refine PySem.ks_codeAny_call_defAt (fd := PySem.W.fnX F.name F.qual F.params F.body F.scope F.cl dV kV doc pm an (.ref F.c) ct) (body := F.body) (binds := ps.zip us)
    hr.depth (KX _ _ lk) rfl lim (PySem.W.codeRec_of KX hcd) rfl hb S.nocell (fun ⟨n, _⟩ hy => S.par n (List.of_mem_zip hy).1) (fun h₁ hns kp => ?_) S.co S.gen S.kind
  have I : Inv (ncx CX P w K mg base N F f A outer s H E) [] (startF N vs [none]) H { s with heap := h₁, toks := s.toks + (ps.zip us).length } := inv_startN S hr.hd e0 hl r CA hns kp
  rw [hbd]
  have first := sup_stmt (p5 := p5) (body := stSup p0 p1 p2 p3 p4 p5 j msg :: rest) (CX := CX) (outer := outer) (E := E) D hcl lk S.kind hks (S.frk _ (by simp)) hp h0 hka hpl hsup htop I (a := a) (by rw [hva]; rfl) hHa
  refine PySem.ks_wpAt_execs_cons (PySem.ks_wpAt_mono first (fun fl s' hh => ?_) fun _ _ z => z)
  obtain ⟨rfl, J⟩ := hh
  refine wpAt_of_wpAny ?_
  refine wpAny_mono (ht.run [] s' (startF N vs [none]) H _ J hq) (fun fl s' hs => ?_) fun e s' hs => hs
  have fin : ∀ {σ' : L2.St} {H' : Hp} {v : V} {u : Value}, Inv (ncx CX P w K mg base N F f A outer s H E) [] σ' H' s' → L2.RelV v u → Q v H' → CE outer P w H s Q u s' :=
    fun {σ' H' v u} J rv q => ⟨v, H', J.os, J.bare, J.base, J.hok, rv, q⟩
  cases fl with
  | ret u =>
    obtain ⟨v, σ', H', J, rv, q⟩ := hs
    exact fin J rv q
  | next =>
    obtain ⟨σ', H', J, q⟩ := hs
    exact fin (v := V.non) (u := Value.none) J rfl q
  | brk =>
    obtain ⟨_, _, _, q⟩ := hs
    exact False.elim q
  | cont =>
    obtain ⟨_, _, _, q⟩ := hs
    exact False.elim q
end
end Sup

set_option linter.all false
set_option maxRecDepth 100000
set_option maxHeartbeats 4000000
/-! repr of data; promises of defs that say repr: they stand where no repr is under way -/
namespace Rg
open PySem PySem.Spec PyProof.Rows L2
/-- a promise that is kept where no repr is under way -/
structure FnG (P : Program) (w : World) (K : PySem.W.Frag) (mg : Str → Option Value) (base : Heap) (CX : CXT) (k : Nat) (f : Addr) (fd : FuncData) (ps : List Str) (sp : Sp) : Prop where
  len : ∀ vs H Q E, sp vs H Q E → vs.length = ps.length
  run : ∀ (A : Around) (outer : List Env) (s : Shared) (H : Hp) (args : Args) (us : List Value) (vs : List V) (Q : VK) (E : XK), A.guards = some [] → Room k A → Env0 P w K mg base A outer s H → BindsTo s fd args (ps.zip us) → Vals vs us → sp vs H Q E →
    codeAny (model P w) A (.call (.ref f) args) (CR CX outer P w H s Q E) s
theorem FnG.of {P : Program} {w : World} {K : PySem.W.Frag} {mg : Str → Option Value} {base : Heap} {CX : CXT} {k : Nat} {f : Addr} {fd : FuncData} {ps : List Str} {sp : Sp} (F : FnOk P w K mg base CX k f fd ps sp) : FnG P w K mg base CX k f fd ps sp :=
  ⟨F.len, fun A outer s H args us vs Q E _ => F.run A outer s H args us vs Q E⟩
theorem FnG.mono {P : Program} {w : World} {K : PySem.W.Frag} {mg : Str → Option Value} {base : Heap} {CX : CXT} {j k : Nat} {f : Addr} {fd : FuncData} {ps : List Str} {sp : Sp} (F : FnG P w K mg base CX j f fd ps sp) (h : j ≤ k) : FnG P w K mg base CX k f fd ps sp :=
  ⟨F.len, fun A outer s H args us vs Q E g hr => F.run A outer s H args us vs Q E g (hr.mono h)⟩
/-- THE RULE for such a def -/
theorem okG {P : Program} {w : World} {K : PySem.W.Frag} {mg : Str → Option Value} {base : Heap} {CX : CXT} {x qual : Str} {st : Stmt} {f : Addr} {fd : FuncData} {N ps : List Str} {k : Nat} {sp : Sp} (F : Fun K x qual st f fd) (S : FnScope N ps (defScope st))
    (len : ∀ vs H Q E, sp vs H Q E → vs.length = ps.length)
    (hbody : ∀ (cdv : Value) (A : Around) (outer : List Env) (s : Shared) (H : Hp) (vs : List V) (Q : VK) (E : XK), A.guards = some [] → Room k (A.deeper (envOfC qual (defScope st) s.heap.objs.size f cdv)) → sp vs H Q E →
      ∃ t, PSs (cxOf CX P w K mg base N qual (defScope st) f cdv A outer s H E) (defBody st) t ∧ t { nx := fun _ H' => Q .non H', rt := Q } (start N vs) H) : FnG P w K mg base CX (k + 1) f fd ps sp := by
  obtain ⟨oc, od, kV, doc, pm, an, cdv, ct, osl, rfl, lk, hcd⟩ := F.ex
  refine ⟨len, fun A outer s H args us vs Q E g hr e0 hb r hsp => ?_⟩
  have hl : vs.length = ps.length := len _ _ _ _ hsp
  have KS : K.In s.heap := e0.mod.kin.keeps fun b o e => (e0.bs b o e).1
  have NL : s.heap.NoLimit := e0.mod.nolimit.keeps fun b o e => (e0.bs b o e).1
  have kinds : ∀ y ∈ ps.zip us, (defScope st).names.lookup y.1 = some .local ∨ ((defScope st).names.lookup y.1 = some .cell ∧ ((cellsFrom (s.heap.objs.size + 1) (defScope st).names []).lookup y.1).isSome = true) := fun ⟨n, v⟩ hy => by
    rcases S.par n (List.of_mem_zip hy).1 with z | z
    · exact .inl z
    · exact .inr ⟨z, PySem.W.cellsFrom_some _ _ _ (.inl z)⟩
  refine codeAny_call_function hr.depth (KS _ _ lk) rfl S.co S.gen rfl (PySem.W.codeRec_of KS hcd) (hb _ _ _ _ (wpAny_newFunctionEnv_cells S.kind kinds fun env he s1 x => ?_))
  subst he
  refine ⟨NL.keeps x.toInCall.keep, codeAny_func ?_⟩
  obtain ⟨t, ht, hq⟩ := hbody cdv A outer s H vs Q E g (hr.deeper _) hsp
  have I : Inv (cxOf CX P w K mg base N qual (defScope st) f cdv A outer s H E) [] (start N vs) H s1 := inv_start S hr.hd e0 hl r x
  refine wpAny_mono (ht.run [] s1 (start N vs) H _ I hq) (fun fl s' hs => ?_) fun _ _ z => z
  match fl, hs with
  | .ret u, ⟨v, σ', H', J, rv, q⟩ => exact ⟨v, H', J.os, J.bare, J.base, J.hok, rv, q⟩
  | .next, ⟨σ', H', J, q⟩ => exact ⟨.non, H', J.os, J.bare, J.base, J.hok, rfl, q⟩
  | .brk, ⟨_, _, _, q⟩ => exact False.elim q
  | .cont, ⟨_, _, _, q⟩ => exact False.elim q
section
variable {X : Cx} {CX : CXT} {k : Nat} {f : Addr} {fd : FuncData} {ps : List Str} {sp : Sp} {E : XK} {x : Str} {p pos : Pos} {e : Expr} {es : List Expr} {t : TA}
theorem run_fnG {pins : List (Addr × Obj)} {σ : L2.St} {H : Hp} {s : Shared} {Q : VK} {us : List Value} {vs : List V} (F : FnG X.prog X.w X.K X.mg X.base CX k f fd ps sp) (hg : X.A.guards = some []) (hr : Room k X.A) (hb : Binds X.K fd ps []) (hx : Passes CX X E)
    (I : Inv X pins σ H s) (r : Vals vs us) (h : sp vs H Q E) : wpAny (model X.prog X.w) X.A (call (.ref f) us) (EP X pins σ Q) X.xe s := by
  have hl : us.length = ps.length := by
    rw [← r.length]
    exact F.len _ _ _ _ h
  have hbb := hb s us I.kIn (by rw [List.append_nil]; exact hl)
  rw [List.append_nil] at hbb
  refine wpAny_call (codeAny_mono (F.run X.A X.stack s H ⟨us, []⟩ us vs Q E hg hr I.env0 hbb r h) fun r s' hq => ?_)
  match r, hq with
  | .error e, hq => exact hx pins σ H s e s' I hq
  | .ok (.ret u), hq => exact I.after hq
  | .ok .next, hq => exact False.elim hq
  | .ok .brk, hq => exact False.elim hq
  | .ok .cont, hq => exact False.elim hq
/-- f(e, ..) -/
theorem pe_callG (F : FnG X.prog X.w X.K X.mg X.base CX k f fd ps sp) (hgu : X.A.guards = some []) (hr : Room k X.A) (hg : Gl X x) (hm : X.mg x = some (.ref f)) (hk : PySem.W.keepIn X.K (.ref f) = true) (hb : Binds X.K fd ps []) (hx : Passes CX X E)
    (ha : PA X (e :: es) t) (hdb : (x == ("__debug__" : Str)) = false := by decide) (he : starEach (e :: es) X.env = (false, eval e X.env) :: starEach es X.env := by rfl) (hpl : (backTo pos (starEach es X.env)).any (·.1) = false := by rfl) :
    PE X (.Call (.Name x p) (e :: es) [] pos) (tCall sp [] E t) := by
  refine ⟨fun pins s σ H Q I h => wpAny_Call_Name_kw (ld_glob I hg hm ?_ hdb)⟩
  refine PySem.W.callWith_K (h₀ := X.base) I.ok.mod.kin hk (thn (ha.run pos pins s σ H _ I h) fun us s1 hh => ?_) he hpl
  obtain ⟨vs, H1, I1, r, q⟩ := hh
  have q' : sp (vs ++ []) H1 Q E := q
  rw [List.append_nil] at q'
  exact ⟨I1.kIn, run_fnG F hgu hr hb hx I1 r q'⟩
/-- repr(e), e a list or a tuple of data -/
def rRepr (K : PySem.W.Frag) : List V → Hp → VK → Prop := fun xs H Q => ∃ (a : Addr) (d : PyData), xs = [.ref a] ∧ Dp K H (.ref a) d ∧ d.showable = true ∧ d.hasDict = false ∧ d.depth ≤ 60 ∧ d.shown.length ≤ sizeLine ∧ Q (.str d.shown) H
theorem call_repr (hg : X.A.guards = some []) (hu : X.A.units + 64 < cLine) : CallR X (.builtin "repr") (rRepr X.K) := by
  intro pins s σ H xs us Q I r h
  obtain ⟨a, d, rfl, hd, hs, hn, hdp, hz, q⟩ := h
  cases r with
  | cons rx rr =>
    cases rr
    cases rx
    obtain ⟨as, hread⟩ := Dp.reads I d _ _ hd rfl
    refine repr_of_reads' hread hs (fun z => absurd (hn.symm.trans z) (by decide)) hg (by omega) (fun _ _ z => z) (fun h' u tk k => ?_) hz
    exact ⟨.str d.shown, H, I.kept (t' := tk) k, ⟨u, rfl⟩, q⟩
end
end Rg

set_option linter.all false
set_option maxRecDepth 100000
set_option maxHeartbeats 4000000
/-! the end of a law whose own def says repr -/
namespace Rg
open PySem PySem.Spec PyProof.Rows L2
theorem lawG {P : Program} {w : World} {K : PySem.W.Frag} {mg mb : Str → Option Value} {CX : CXT} {k : Nat} {fa a : Addr} {fd : FuncData} {x : Str} {sp : Sp} {s1 : Shared} {vs : List Value} {ns : List Int}
    (KI : K.In s1.heap) (hns : s1.heap.Ns mainGlobals mg) (hb : s1.heap.Ns builtinsNs mb) (hbb : ∀ x : Str, x ≠ "__name__" → mb x = bootBuiltins x) (hlim : s1.heap.NoLimit) (hg : s1.gens = #[])
    (ha : s1.heap.get? a = some { cls := .type "list", data := .seq vs.toArray }) (hi : IntsAre vs ns) (hl : ns.length ≤ sizeLine) (hr : Room k callerA)
    (F : ∀ base : Heap, K.In base → base.Ns mainGlobals mg → FnG P w K mg base CX k fa fd [x] sp) (hbind : ∀ (s : Shared) (u : Value), BindsTo s fd ⟨[u], []⟩ [(x, u)])
    (hsp : ∀ H : Hp, Only H → SqL K H a (ns.map V.int) → sp [.ref a] H (fun v _ => v = .bl true) fun _ _ _ => False)
    (hCX : ∀ H e s', CX [] H s1 (fun _ _ _ => False) e s' → False) :
    codeAny (model P w) callerA (.call (.ref fa) ⟨[.ref a], []⟩) (fun r s' => r = .ok (.ret (.bool true)) ∧ OldK s1.heap s'.heap ∧ s'.os = s1.os ∧ AllBare s'.gens) s1 := by
  have rv := vals_ints hi
  have lenV := hi.length
  have core : ∀ H : Hp, Only H → SqL K H a (ns.map V.int) → HOk P w H s1.heap → (∀ b, H b ≠ none → b = a) → (H a ≠ none → K.lookup a = none) →
      codeAny (model P w) callerA (.call (.ref fa) ⟨[.ref a], []⟩) (fun r s' => r = .ok (.ret (.bool true)) ∧ OldK s1.heap s'.heap ∧ s'.os = s1.os ∧ AllBare s'.gens) s1 := by
    intro H hO hS hok hA hK
    have under : ∀ {b : Addr} {o : Obj}, s1.heap.get? b = some o → H b = none → (hidT s1.heap H).get? b = some o := fun e n => hidT_get e n
    have only : ∀ {b : Addr}, H b ≠ none → b = a := fun {b} z => hA b z
    have dictFree : ∀ {b : Addr} {o : Obj} {es : Array DictEntry} {ep : Nat}, s1.heap.get? b = some o → o.data = .dict es ep → H b = none := fun {b o es ep} e d => by
      cases z : H b with
      | none => rfl
      | some u =>
        obtain rfl : b = a := only (by rw [z]; simp)
        rw [ha] at e
        cases e
        have d' : Data.seq vs.toArray _ = Data.dict es ep := d
        cases d'
    have nsUnder : ∀ {b : Addr} {m : Str → Option Value}, s1.heap.Ns b m → (hidT s1.heap H).Ns b m := fun {b m} ⟨o, es, ep, e, d, r⟩ => ⟨o, es, ep, under e (dictFree e d), d, r⟩
    have kUnder : K.In (hidT s1.heap H) := fun b o e => under (KI b o e) (by
      cases z : H b with
      | none => rfl
      | some u =>
        obtain rfl : b = a := only (by rw [z]; simp)
        have n := hK (by rw [z]; simp)
        rw [n] at e
        cases e)
    have md : Mod K mg (hidT s1.heap H) := ⟨kUnder, nsUnder hns, ⟨mb, nsUnder hb, hbb⟩, let ⟨mc, h1, h2⟩ := hlim; ⟨mc, nsUnder h1, h2⟩⟩
    have e0 : Env0 P w K mg (hidT s1.heap H) callerA [] s1 H := ⟨rfl, md, fun b o e => of_hidT e, Nat.le_of_eq (hidT_size _ _), trivial, fun b hb => absurd (show b ∈ ([] : List Addr) from hb) (by simp), hok, .of_eq hg⟩
    refine codeAny_mono ((F _ kUnder (nsUnder hns)).run callerA [] s1 H ⟨[.ref a], []⟩ [.ref a] [.ref a] _ _ rfl hr e0 (hbind s1 (.ref a)) (.cons rfl .nil) (hsp H hO hS)) fun r s' h => ?_
    match r, h with
    | .error e, h => exact (hCX H e s' h).elim
    | .ok .next, h => exact False.elim h
    | .ok .brk, h => exact False.elim h
    | .ok .cont, h => exact False.elim h
    | .ok (.ret u), ⟨v, H', os, bare, un, hok', r', q⟩ =>
      obtain rfl : v = .bl true := q
      obtain rfl : u = Value.bool true := r'
      refine ⟨rfl, OldK.of_keep fun b o e => ?_, os, bare⟩
      cases z : H b with
      | none => exact un.keep b o e z (by intro y; exact absurd (show b ∈ ([] : List Addr) from y) (by simp)) (by simp)
      | some u =>
        rcases hO b with y | ⟨ob, xs, y⟩
        · rw [z] at y
          cases y
        · obtain ⟨e1, _⟩ := hok b _ y
          obtain ⟨e2, _⟩ := hok' b _ (un.frzs b ob _ y)
          rw [e] at e1
          cases e1
          exact e2
  cases hk : K.lookup a with
  | some o =>
    have e := KI a o hk
    rw [ha] at e
    cases e
    exact core (fun _ => none) (fun _ => .inl rfl) (.inr ⟨_, vs.toArray, _, hk, rfl, rfl, rfl, by rw [List.size_toArray, lenV]; exact hl, by simpa using rv⟩)
      (fun b u z => by have z' : (none : Option HO) = some u := z; cases z') (fun b z => absurd rfl z) fun z => absurd rfl z
  | none =>
    refine core (fun b => if b = a then some (.frz { cls := .type "list", data := .seq vs.toArray } (.lst (ns.map V.int))) else none) (fun b => ?_)
      (.inl (.inr ⟨{ cls := .type "list", data := .seq vs.toArray }, if_pos rfl⟩)) (fun b u z => ?_) (fun b z => ?_) fun _ => hk
    · by_cases hb : b = a
      · exact .inr ⟨_, _, if_pos hb⟩
      · exact .inl (if_neg hb)
    · by_cases hb : b = a
      · have y := (if_pos hb).symm.trans z
        cases y
        subst hb
        exact ⟨ha, by rw [List.length_map]; exact hl, vs, _, rv, ha⟩
      · have y := (if_neg hb).symm.trans z
        cases y
    · by_cases hb : b = a
      · exact hb
      · exact absurd (if_neg hb) z
theorem walkG {l : PySem.W.OpenLaw} {n k : Nat} {q : Program} {loose : List Str} {XP : (Str → Option Value) → Heap → Prop} {YP : World → Heap → Prop} {d : DefRec} {K : Params → PySem.W.Frag} {CX : World → CXT} {sp : World → Sp} {x : Str}
    (hn : l.most = some n) (hn2 : n ≤ sizeLine) (hdf : d.params.defaults = []) (hr : Room k callerA) (hY : ∀ (w : World) (h : Heap), YP w h → (K w.params).In h)
    (F : ∀ (w : World) (mg : Str → Option Value) (fa : Addr) (h : Heap), (K w.params).In h → h.Ns mainGlobals mg → mg d.name = some (.ref fa) →
      ∃ fd : FuncData, (∀ (s : Shared) (u : Value), BindsTo s fd ⟨[u], []⟩ [(x, u)]) ∧
        ∀ base : Heap, (K w.params).In base → base.Ns mainGlobals mg → FnG l.prog w (K w.params) mg base (CX w) k fa fd [x] (sp w))
    (hsp : ∀ (w : World) (H : Hp) (a : Addr) (ns : List Int), ns.length ≤ n → (∀ z ∈ ns, Builtin.Int.intBits z ≤ 1048576) → Only H → SqL (K w.params) H a (ns.map V.int) → sp w [.ref a] H (fun v _ => v = .bl true) fun _ _ _ => False)
    (hCX : ∀ (w : World) (H : Hp) (s : Shared) (e : Value) (s' : Shared), CX w [] H s (fun _ _ _ => False) e s' → False) :
    PySem.W.WalkO q loose XP YP l.row.toRowW d [] (fun f vs => PySem.call f vs) := by
  refine Att.attach_callB hn hdf fun w s0 s1 mg mb fa o pm cd doc a vs ns G Y ho hd hcd hmg hobj hints hlen hbits hg => ?_
  have KI := hY w _ Y
  obtain ⟨fd, hb, hF⟩ := F w mg fa _ KI G.T.g hmg
  exact lawG KI G.T.g G.T.b G.T.builtins G.T.nolimit hg hobj hints (Nat.le_trans hlen hn2) hr hF hb (fun H hO hS => hsp w H a ns hlen hbits hO hS) fun H e s' => hCX w H s1 e s'
end Rg

set_option linter.all false
set_option maxRecDepth 100000
set_option maxHeartbeats 4000000
/-! several except clauses, with names and without -/
namespace Tr
open PySem PySem.Spec PyProof.Rows L2
abbrev Cl := Value × Option Nat × (Addr → Value → Option Addr → TS)
/-- the ends behind a suite whose name stood in slot i -/
def ends (D : Ends) : Option Nat → Ends
  | none => D
  | some i => { nx := fun σ' H' => D.nx (σ'.set i none) H', rt := D.rt, bk := fun σ' H' => D.bk (σ'.set i none) H', ct := fun σ' H' => D.ct (σ'.set i none) H' }
def named (σ : L2.St) (a : Addr) : Option Nat → L2.St
  | none => σ
  | some i => σ.set i (some (.ref a))
def wMix (K : PySem.W.Frag) (Wout : WX) (D : Ends) : List Cl → WX
  | [] => Wout
  | (c, n, ts) :: r => fun cls d σ H => ∃ b, PySem.W.exmOne K cls c = some b ∧ (b = true → ∀ a, H a = none → ts a cls d (ends D n) (named σ a n) H) ∧ (b = false → wMix K Wout D r cls d σ H)
inductive HdX (X : Cx) : List ExceptHandler → List Cl → Prop
  | nil : HdX X [] []
  | plain {x : Str} {c : Value} {ts : Addr → Value → Option Addr → TS} {b0 : Stmt} {suite : List Stmt} {np pos' : Pos} {hds : List ExceptHandler} {l : List Cl} (hc : Names X x c)
      (hsu : ∀ (a : Addr) (oe : Obj) (cls : Value) (d : Option Addr) (pn : List (Addr × Obj)), Zc cls d oe → (∃ vs, oe.data = .fields vs) → PSs (X.suite a ((a, oe) :: pn)) (b0 :: suite) (ts a cls d)) (r : HdX X hds l) :
      HdX X (.ExceptHandler (some (.Name x np)) none (b0 :: suite) pos' :: hds) ((c, none, ts) :: l)
  | as {x n : Str} {i : Nat} {c : Value} {ts : Addr → Value → Option Addr → TS} {b0 : Stmt} {suite : List Stmt} {np pos' : Pos} {hds : List ExceptHandler} {l : List Cl} (hN : X.N.Nodup) (hi : X.N[i]? = some n) (hln : X.env.kindOf n = some .local) (hc : Names X x c)
      (hsu : ∀ (a : Addr) (oe : Obj) (cls : Value) (d : Option Addr) (pn : List (Addr × Obj)), Zc cls d oe → (∃ vs, oe.data = .fields vs) → PSs (X.suite a ((a, oe) :: pn)) (b0 :: suite) (ts a cls d)) (r : HdX X hds l) :
      HdX X (.ExceptHandler (some (.Name x np)) (some n) (b0 :: suite) pos' :: hds) ((c, some i, ts) :: l)
section
variable {X : Cx} {body : List Stmt} {h0 : ExceptHandler} {hds : List ExceptHandler} {l : List Cl} {pos : Pos} {tb : WX → TS} {Wout : WX}
theorem ps_try_mix (hs : X.stack = X.env :: X.outer) (hf : X.env.frame = some X.env.locals) (tk : Takes X Wout)
    (hb : ∀ (W : WX) (pn : List (Addr × Obj)) (xe : Value → Shared → Prop), Takes (X.tr pn xe) W → PassesOwn (model X.prog X.w) X.A X.env xe → PSs (X.tr pn xe) body (tb W))
    (hh : HdX X (h0 :: hds) l) : PS X (.Try body (h0 :: hds) [] [] pos) (fun D σ H => tb (wMix X.K Wout D l) D σ H) := by
  refine ⟨fun pins s σ H D I h => wpAny_Try_except ?_⟩
  have ok := I.ok
  have hfr : X.A.frames = some (X.env :: X.outer) := by rw [ok.frames, hs]
  refine wpAny_mono ((hb (wMix X.K Wout D l) (X.pn ++ pins) (fun e t1 => wpAny (model X.prog X.w) X.A (noteFrame e X.env) (fun _ t2 => wpAny (model X.prog X.w) X.A (setFlight e none) (fun _ t3 =>
    wpAny (model X.prog X.w) X.A (handleBy e X.env (h0 :: hds)) (SP X pins D) X.xe t3) X.xe t2) X.xe t1) (fun u s' xx => ?_) PassesOwn.looking).run [] s σ H D (I.toTry _) h) (fun f s1 hsp => ?_) (fun _ _ he => he)
  · obtain ⟨a, B, sI, pins', σ', H', cls, d, rfl, J', nb, up, sky, na, os, ag, w⟩ := xx
    have J : Inv X pins σ' H' sI := J'.ofTry ok
    have sky2 : Sky B (X.env :: X.outer) a (Zc cls d) X.env.locals s'.heap := by
      rw [← hs]
      exact sky
    show wpAny (model X.prog X.w) X.A (noteFrame (.ref a) X.env) _ _ _
    refine Sky.land Zc.steady hfr hf sky2 fun h3 fl3 up3 => ?_
    have J3 : Inv X pins σ' H' { s' with heap := h3 } := J.landed nb fl3.1 (up.trans up3) os ag
    obtain ⟨oe3, vs3, he3, hz3, hd3⟩ := fl3.there
    have off : a ∉ frs (X.env :: X.outer) := fun hm => by
      obtain ⟨_, o', e', hnf⟩ := fl3.2.2.1.mem hm
      rw [he3] at e'
      cases e'
      exact hnf _ hd3
    have nL : a ≠ X.env.locals := fun z => off (List.mem_filterMap.mpr ⟨X.env, List.mem_cons_self, by rw [hf, z]⟩)
    have nF : a ∉ X.fs := fun hm => by
      obtain ⟨e, he, q⟩ := List.mem_filterMap.mp hm
      exact off (List.mem_filterMap.mpr ⟨e, List.mem_cons_of_mem _ he, q⟩)
    have S3 := J3.suite he3 hd3 na nL nF
    have LT : PySem.W.Looks (model X.prog X.w) h3 (typeOf (.ref a)) cls := fun A Q E s k q => wpAny_typeOf_ref (k _ _ he3) (by rw [hz3.1]; exact q)
    have look : ∀ {x : Str} {c : Value} {np : Pos}, Names X x c → ∀ {Q : Value → Shared → Prop} {E : Value → Shared → Prop}, Q c { s' with heap := h3 } →
        wpAny (model X.prog X.w) (X.A.mark (some (.ref a))) (eval (.Name x np) X.env) Q E { s' with heap := h3 } := fun {x c np} hc {Q E} q => by
      obtain ⟨hg, hdbg, hm | ⟨hm, hv, hnn⟩⟩ := hc
      · exact ld_glob (X := X.suite a ((a, oe3) :: (X.pn ++ pins))) S3 hg hm q hdbg
      · exact ld_blt (X := X.suite a ((a, oe3) :: (X.pn ++ pins))) S3 hg hm hv q hnn hdbg
    have go : ∀ {hds' : List ExceptHandler} {l' : List Cl}, HdX X hds' l' → wMix X.K Wout D l' cls d σ' H' →
        wpAny (model X.prog X.w) X.A (handleBy (.ref a) X.env hds') (SP X pins D) X.xe { s' with heap := h3 } := by
      intro hds' l' hk
      induction hk with
      | nil =>
        intro w
        refine wpAny_handleBy_nil ?_
        obtain ⟨k1, k2, k3, oe, vs, T, oT, ts', he, hz, hd, h1, hr⟩ := id fl3
        unfold PySem.passOn
        refine wpAny_bind (wpAny_field he hd h1 ?_)
        rw [if_neg (show ¬ ((Value.ref T == Value.none) = true) from by simp)]
        have fin : wpAny (model X.prog X.w) X.A (setFlight (.ref a) X.env.frame) (fun _ s4 => wpAny (model X.prog X.w) X.A (throw (.ref a) : Sem Flow) (SP X pins D) X.xe s4) X.xe { s' with heap := h3 } := by
          rw [hf]
          refine HandSPX.setFlight_upZ fl3 fun h4 hh4 up4 => wpAny_throw (tk _ _ ?_)
          exact ⟨a, B, sI, pins, σ', H', cls, d, rfl, J, nb, (up.trans up3).trans up4, .inr (.inr (by rw [hs]; exact hh4)), na, os, ag, w⟩
        first
          | exact wpAny_bind (wpAny_pure (wpAny_bind fin))
          | exact wpAny_bind fin
      | @plain x c ts b0 suite np pos' hds2 l2 hc hsu r ih =>
        intro w
        obtain ⟨b, hb1, hyes, hno⟩ := w
        refine wpAny_handleBy_cons (codeAny_handlers_test (look hc ((PySem.W.exm_one (M := model X.prog X.w) J3.kIn LT hb1).here ?_))) (by intro q; cases q)
        cases b with
        | true =>
          refine codeAny_handlers_suite (HandSPX.lands_againZ fl3 fun h4 fl4 up4 => ?_)
          have J4 : Inv X pins σ' H' { s' with heap := h4 } := J.landed nb fl4.1 ((up.trans up3).trans up4) os ag
          obtain ⟨oe4, vs4, he4, hz4, hd4⟩ := fl4.there
          refine wpAny_mono ((hsu a oe4 cls d (X.pn ++ pins) hz4 ⟨_, hd4⟩).run [] _ _ H' _ (J4.suite he4 hd4 na nL nF) (hyes rfl a na)) (fun f s6 hsp => ?_) (fun _ _ z => False.elim z)
          match f, hsp with
          | .next, ⟨σ6, H6, S6, q6⟩ => exact ⟨_, _, S6.unsuite ok, q6⟩
          | .brk, ⟨σ6, H6, S6, q6⟩ => exact ⟨_, _, S6.unsuite ok, q6⟩
          | .cont, ⟨σ6, H6, S6, q6⟩ => exact ⟨_, _, S6.unsuite ok, q6⟩
          | .ret u, ⟨v6, σ6, H6, S6, r6, q6⟩ => exact ⟨_, _, _, S6.unsuite ok, r6, q6⟩
        | false =>
          show wpAny _ X.A (handleBy (.ref a) X.env hds2) _ _ _
          exact ih (hno rfl)
      | @as x n i c ts b0 suite np pos' hds2 l2 hN hi hln hc hsu r ih =>
        intro w
        obtain ⟨b, hb1, hyes, hno⟩ := w
        refine wpAny_handleBy_cons (codeAny_handlers_test (look hc ((PySem.W.exm_one (M := model X.prog X.w) J3.kIn LT hb1).here ?_))) (by intro q; cases q)
        cases b with
        | true =>
          refine codeAny_handlers_suite_as (HandSPX.lands_againZ fl3 fun h4 fl4 up4 => ?_)
          have J4 : Inv X pins σ' H' { s' with heap := h4 } := J.landed nb fl4.1 ((up.trans up3).trans up4) os ag
          obtain ⟨oe4, vs4, he4, hz4, hd4⟩ := fl4.there
          refine store_ok (X := X.suite a ((a, oe4) :: (X.pn ++ pins))) (v := .ref a) (J4.suite he4 hd4 na nL nF) hN hi (.inl hln) rfl (fun s5 S5 => ?_) (.inr hln)
          refine wpAny_mono ((hsu a oe4 cls d (X.pn ++ pins) hz4 ⟨_, hd4⟩).run [] s5 _ H' _ S5 (hyes rfl a na)) (fun f s6 hsp => ?_) (fun _ _ z => False.elim z)
          have over : ∀ {σ6 : L2.St} {H6 : Hp} {Q : Shared → Prop}, Inv (X.suite a ((a, oe4) :: (X.pn ++ pins))) [] σ6 H6 s6 → (∀ s7, Inv X pins (σ6.set i none) H6 s7 → Q s7) →
              wpAny (model X.prog X.w) X.A (do bindName X.env n .none; unbindBehindTheSuite X.env n pos') (fun _ s7 => Q s7) X.xe s6 := fun {σ6 H6 Q} S6 hq => gone_ok (S6.unsuite ok) hN hi hln hq
          match f, hsp with
          | .next, ⟨σ6, H6, S6, q6⟩ => exact over S6 fun s7 J7 => ⟨_, _, J7, q6⟩
          | .brk, ⟨σ6, H6, S6, q6⟩ => exact over S6 fun s7 J7 => ⟨_, _, J7, q6⟩
          | .cont, ⟨σ6, H6, S6, q6⟩ => exact over S6 fun s7 J7 => ⟨_, _, J7, q6⟩
          | .ret u, ⟨v6, σ6, H6, S6, r6, q6⟩ => exact over S6 fun s7 J7 => ⟨_, _, _, J7, r6, q6⟩
        | false =>
          show wpAny _ X.A (handleBy (.ref a) X.env hds2) _ _ _
          exact ih (hno rfl)
    exact go hh w
  · match f, hsp with
    | .next, ⟨σ', H', J', q⟩ => exact wpAny_execs_nil ⟨σ', H', J'.ofTry ok, q⟩
    | .brk, ⟨σ', H', J', q⟩ => exact ⟨σ', H', J'.ofTry ok, q⟩
    | .cont, ⟨σ', H', J', q⟩ => exact ⟨σ', H', J'.ofTry ok, q⟩
    | .ret u, ⟨v, σ', H', J', r, q⟩ => exact ⟨v, σ', H', J'.ofTry ok, r, q⟩
end
section
variable {X : Cx}
theorem pmk_of {CX : CXT} {x : Str} {C fI : Addr} {k : Nat} {fd : FuncData} {ps : List Str} {sp : Sp} {e : Expr} {es : List Expr} {ta : TA} {p pos : Pos} (MK : Exv.MkOk X.prog X.w X.K C fI) (kC : PySem.W.keepIn X.K (.ref C) = true) (R : Raises X (.ref C))
    (F1 : FnOk X.prog X.w X.K X.mg X.base CX k fI fd ps sp) (hr : Room (k + 1) X.A) (hb : Binds X.K fd ps []) (hx : Passes CX X (fun _ _ _ => False)) (hg : Gl X x) (hm : X.mg x = some (.ref C)) (ha : PA X (e :: es) ta)
    (hdb : (x == ("__debug__" : Str)) = false := by decide) (he : starEach (e :: es) X.env = (false, eval e X.env) :: starEach es X.env := by rfl) (hpl : (backTo pos (starEach es X.env)).any (·.1) = false := by rfl) :
    PMk X (.Call (.Name x p) (e :: es) [] pos) (tMkO C sp [] ta) := by
  intro pins s σ H Q I h
  refine wpAny_Call_Name_kw (ld_glob I hg hm ?_ hdb)
  refine PySem.W.callWith_K (h₀ := X.base) I.ok.mod.kin kC (thn (ha.run pos pins s σ H _ I h) fun us s1 hh => ?_) he hpl
  obtain ⟨vs, H1, I1, r1, hz, q1⟩ := hh
  refine ⟨I1.kIn, ?_⟩
  show wpAny _ _ (call (.ref C) us) _ _ _
  obtain ⟨hp, g, dr, tk, os⟩ := s1
  have up1 : hp.objs.size ≤ hp.objs.size + 1 := Nat.le_succ _
  have hq0 := q1 (hp.objs.size + 1) (I1.hok.fresh up1)
  rw [List.append_nil] at hq0
  have kk : ∀ b o, hp.get? b = some o → ((hp.push (PySem.W.kdv_tup us)).push (PySem.HandSPX.excO C hp.objs.size)).get? b = some o := fun b o z =>
    Heap.get?_push_of_some _ (Heap.get?_push_of_some _ z)
  have hat : ((hp.push (PySem.W.kdv_tup us)).push (PySem.HandSPX.excO C hp.objs.size)).get? (hp.objs.size + 1) = some (PySem.HandSPX.excO C hp.objs.size) := by heap_get
  have I2 : Inv X pins σ (upd H1 (hp.objs.size + 1) (exo (hp.objs.size + 1) C none)) ⟨(hp.push (PySem.W.kdv_tup us)).push (PySem.HandSPX.excO C hp.objs.size), g, dr, tk, os⟩ := I1.laid (t' := tk) (a := hp.objs.size + 1) (o := exo (hp.objs.size + 1) C none)
    (h' := (hp.push (PySem.W.kdv_tup us)).push (PySem.HandSPX.excO C hp.objs.size)) kk up1 (exo_ok hat)
  have r2 : Vals (V.ref (hp.objs.size + 1) :: vs) (Value.ref (hp.objs.size + 1) :: us) :=
    .cons rfl r1
  have hl : (Value.ref (hp.objs.size + 1) :: us).length = ps.length := by
    rw [← r2.length]
    exact F1.len _ _ _ _ hq0
  have hus : us.length ≤ sizeLine := Nat.le_trans (Nat.le_of_eq (Paired.length r1).symm) (Nat.le_trans hz (by rw [sizeLine_eq]; decide))
  refine wpAny_call (MK _ _ hp g dr tk os us I1.kIn hus (codeAny_mono (F1.run _ X.stack _ _ ⟨Value.ref (hp.objs.size + 1) :: us, []⟩ (Value.ref (hp.objs.size + 1) :: us) _ _ (fun _ _ _ => False)
    (hr.make C us []) (I2.env0.make C us []) (by have z := hb _ (Value.ref (hp.objs.size + 1) :: us) I2.kIn (by rw [List.append_nil]; exact hl); rw [List.append_nil] at z; exact z) r2 hq0) fun r s' hq' => ?_))
  match r, hq' with
  | .error er, hq' => exact hx pins σ _ _ er s' I2 hq'
  | .ok (.ret u), ⟨v, H2, os2, bare2, un2, hok2, rv, ev, d, fs, ea, ed, hd1, q2⟩ =>
    subst ev
    obtain ⟨h2, g2, d2, t2, os'⟩ := s'
    exact ⟨rv, mk_end R I1 up1 kk un2 hok2 os2 bare2 ea ed hd1 q2⟩
  | .ok .next, hq' => exact False.elim hq'
  | .ok .brk, hq' => exact False.elim hq'
  | .ok .cont, hq' => exact False.elim hq'
end
end Tr

set_option linter.all false
set_option maxRecDepth 100000
set_option maxHeartbeats 8000000
namespace Gx
open PySem PySem.Spec PyProof.Rows L2
/-! what hangs on no program's top: texts, words, events, boxes, promises -/
structure Nm (mg : Str → Option Value) : Prop where
  n_len : mg "len" = none
  n_abs : mg "abs" = none
  n_int : mg "int" = none
def BoxAt (H : Hp) (p : Addr) (m : Nat) : Prop := ∃ c sd n : Int, H p = some (.lst [.int c, .int sd, .int n]) ∧ 0 ≤ c ∧ 0 < sd ∧ sd ≤ 2147483629 ∧ 0 ≤ n ∧ n ≤ m
def spTake : Sp := fun vs H Q _ => ∃ (p : Addr) (many : Int) (m : Nat), vs = [.ref p, .int many] ∧ BoxAt H p m ∧ m ≤ 1000000 ∧ 0 < many ∧ many < 1073741824 ∧
  ∀ (d : Int) (H' : Hp), 0 ≤ d → d < many → BoxAt H' p (m + 1) → (∀ b, b ≠ p → H' b = H b) → Q (.int d) H'
def spBox (K : PySem.W.Frag) : Sp := fun vs H Q _ => ∃ (l : Addr) (ns : List Int) (k own : Nat), vs = [.ref l, .int (k : Int), .int (own : Int)] ∧ SqL K H l (ns.map V.int) ∧ k ≤ 1000 ∧ own ≤ 1000 ∧
  ∀ (p : Addr) (H' : Hp), H p = none → Same H H' → BoxAt H' p 0 → Q (.ref p) H'
theorem atInt {ns : List Int} {j : Nat} (h : j < ns.length) : atI (ns.map V.int) (j : Int) = some (.int ns[j]) := by
  apply atI_nat
  rw [List.getElem?_map, List.getElem?_eq_getElem h]
  rfl
theorem abs_nn (i : Int) : 0 ≤ (if i < 0 then -i else i) := by split <;> omega
theorem new_same {H : Hp} {p : Addr} {o : HO} (h : H p = none) : Same H (upd H p o) := fun b x e => by
  rw [upd_ne (ne_of_none e h)]
  exact e
theorem sIx {i : Int} {n : Nat} (h0 : 0 ≤ i) (h1 : i < (n : Nat)) : seqIndex? i n = some i.toNat := by
  unfold seqIndex?
  have h : ¬ i < 0 := by omega
  simp only [h, if_false]
  rw [if_pos (by rw [Bool.and_eq_true]; exact ⟨decide_eq_true h0, decide_eq_true h1⟩)]
structure NmM (mg : Str → Option Value) (K : PySem.W.Frag) (ft : Addr) : Prop where
  g__law_take : mg "_law_take" = some (.ref ft)
  k__law_take : PySem.W.keepIn K (.ref ft) = true
  n_list : mg "list" = none
  n_range : mg "range" = none
  n_len : mg "len" = none
def spMixed (K : PySem.W.Frag) : Sp := fun vs H Q _ => ∃ (p l : Addr) (xs : List V) (m : Nat), vs = [.ref p, .ref l] ∧ BoxAt H p m ∧ SqL K H l xs ∧ xs.length ≤ 100 ∧ m ≤ 10000 ∧
  ∀ (r : Addr) (ys : List V) (H' : Hp), H r = none → H' r = some (.lst ys) → ys.length = xs.length → (∀ y ∈ ys, y ∈ xs) → BoxAt H' p (m + xs.length) → (∀ b o, b ≠ p → H b = some o → H' b = some o) → Q (.ref r) H'
def repS (c n : Nat) : Str := ⟨(List.replicate n c).toArray⟩
theorem fold_rep (c : Nat) : ∀ (n : Nat) (a : Array Nat), (List.replicate n #[c]).foldl (· ++ ·) a = a ++ (List.replicate n c).toArray
  | 0, a => by simp
  | n + 1, a => by
    rw [List.replicate_succ, List.foldl_cons, fold_rep c n, List.replicate_succ]
    apply Array.ext'
    simp
def rRepS : R2 := fun x y H Q => ∃ (c n : Nat), x = .str ⟨#[c]⟩ ∧ y = .int (n : Nat) ∧ 1 ≤ n ∧ n ≤ 1000 ∧ Q (.str (repS c n)) H
theorem op_repS {X : Cx} : OpR X (binaryOp .Mult) rRepS := by
  intro pins s σ H x y v u Q I rx ry h
  obtain ⟨c, n, rfl, rfl, h1, h2, q⟩ := h
  obtain ⟨t, rfl⟩ := rx
  obtain ⟨t', rfl⟩ := ry
  have hl : (⟨#[c]⟩ : Str).length = 1 := rfl
  refine PySem.P.mul_str ?_ ?_ ?_ ?_
  · rw [decide_eq_false (by omega), decide_eq_false (by omega)]
    rfl
  · intro _ _
    rw [hl]
    have : (0 : Int) < (n : Nat) := by omega
    intro hh
    have h3 : ((2 : Int) ^ 63 - 1) / (n : Nat) < 1 := by exact hh
    have h4 : ((2 : Int) ^ 63 - 1) < 1 * (n : Nat) := (Int.ediv_lt_iff_lt_mul this).mp h3
    omega
  · intro _ _
    rw [hl, Int.toNat_natCast, Nat.one_mul]
    unfold PySem.Builtin.Str.tooLong
    exact decide_eq_false (by rw [sizeLine_eq]; omega)
  · rw [if_neg (by omega)]
    split
    · rename_i hc
      have e1 : n = 1 := by
        simp [hl] at hc
        omega
      subst e1
      exact ⟨.str (repS c 1), H, I.tok _, ⟨_, rfl⟩, q⟩
    · rw [Int.toNat_natCast, show (List.replicate n (⟨#[c]⟩ : Str).cps).foldl (· ++ ·) #[] = (List.replicate n c).toArray from by rw [fold_rep]; simp]
      exact ⟨by show (List.replicate n c).toArray.size ≤ sizeLine; rw [List.size_toArray, List.length_replicate, sizeLine_eq]; omega, .str (repS c n), H, I.tok _, ⟨_, rfl⟩, q⟩
def nameB (z : Str) : Bool := decide (0 < z.cps.size) && (decide (z.cps.size < 9) && (z.cps.toList.all (fun c => decide (97 ≤ c) && decide (c ≤ 122)) && (!decide (z = "any") && (!decide (z = "other") && !decide (z = "where")))))
theorem repS_size (c n : Nat) : (repS c n).cps.size = n := by
  show (List.replicate n c).toArray.size = n
  rw [List.size_toArray, List.length_replicate]
theorem repS_ne {c n : Nat} {z : Str} {i j a b : Nat} (hi : z.cps[i]? = some a) (hj : z.cps[j]? = some b) (hab : a ≠ b) : repS c n ≠ z := fun e => by
  subst e
  have h1 : (List.replicate n c)[i]? = some a := by rw [← List.getElem?_toArray]; exact hi
  have h2 : (List.replicate n c)[j]? = some b := by rw [← List.getElem?_toArray]; exact hj
  have e1 := List.eq_of_mem_replicate (List.mem_of_getElem? h1)
  have e2 := List.eq_of_mem_replicate (List.mem_of_getElem? h2)
  exact hab (e1.trans e2.symm)
theorem nameB_rep {c n : Nat} (h0 : 97 ≤ c) (h1 : c ≤ 122) (h2 : 1 ≤ n) (h3 : n ≤ 8) : nameB (repS c n) = true := by
  unfold nameB
  rw [repS_size]
  simp only [Bool.and_eq_true, decide_eq_true_eq, Bool.not_eq_true', decide_eq_false_iff_not]
  refine ⟨by omega, by omega, ?_, ?_, ?_, ?_⟩
  · rw [List.all_eq_true]
    intro x hx
    have e : x = c := List.eq_of_mem_replicate (show x ∈ List.replicate n c from hx)
    rw [e, Bool.and_eq_true]
    exact ⟨decide_eq_true h0, decide_eq_true h1⟩
  · exact repS_ne (i := 0) (j := 1) (a := 97) (b := 110) (by decide +kernel) (by decide +kernel) (by decide)
  · exact repS_ne (i := 0) (j := 1) (a := 111) (b := 116) (by decide +kernel) (by decide +kernel) (by decide)
  · exact repS_ne (i := 0) (j := 1) (a := 119) (b := 104) (by decide +kernel) (by decide +kernel) (by decide)
theorem BoxAt.le {H : Hp} {p : Addr} {m m' : Nat} (h : BoxAt H p m) (k : m ≤ m') : BoxAt H p m' := by
  obtain ⟨c, sd, n, e, a, b, d, f, g⟩ := h
  exact ⟨c, sd, n, e, a, b, d, f, by omega⟩
theorem BoxAt.mono {H H' : Hp} {p : Addr} {m : Nat} (h : BoxAt H p m) (s : Same H H') : BoxAt H' p m := by
  obtain ⟨c, sd, n, e, a⟩ := h
  exact ⟨c, sd, n, s _ _ e, a⟩
theorem BoxAt.ne {H : Hp} {p q : Addr} {m : Nat} (h : BoxAt H p m) (n : H q = none) : p ≠ q := fun z => by
  obtain ⟨_, _, _, e, _⟩ := h
  rw [z, n] at e
  cases e
theorem letters_at : ∀ i, i < 26 → ("abcdefghijklmnopqrstuvwxyz" : Str).cps.toList[i]? = some (97 + i) := by decide +kernel
theorem keep1' {σ : L2.St} {H : Hp} {A B : Hp → Prop} (h : A H) : tYes σ H (fun b H3 => if b = true then A H3 else B H3) := by
  show (if true = true then A H else B H)
  rw [if_pos rfl]
  exact h
structure NmN (mg : Str → Option Value) (K : PySem.W.Frag) (ft fx : Addr) : Prop where
  g__law_take : mg "_law_take" = some (.ref ft)
  k__law_take : PySem.W.keepIn K (.ref ft) = true
  g__law_mixed : mg "_law_mixed" = some (.ref fx)
  k__law_mixed : PySem.W.keepIn K (.ref fx) = true
  n_int : mg "int" = none
  n_range : mg "range" = none
def spNames : Sp := fun vs H Q _ => ∃ (p : Addr) (many m : Nat), vs = [.ref p, .int (many : Nat)] ∧ BoxAt H p m ∧ m ≤ 1000 ∧ 1 ≤ many ∧ many ≤ 8 ∧
  ∀ (r : Addr) (zs : List Str) (H' : Hp), H r = none → H' r = some (.lst (zs.map V.str)) → zs.length = many → (∀ z ∈ zs, nameB z = true) → BoxAt H' p (m + 20) → (∀ b o, b ≠ p → H b = some o → H' b = some o) → Q (.ref r) H'
abbrev Ev := Option (Str × Nat)
def evV : Ev → List V
  | none => [.str "close"]
  | some (z, m) => [.str "open", .str z, .int (m : Nat)]
def evD : Ev → PyData
  | none => .tuple [.str "close"]
  | some (z, m) => .tuple [.str "open", .str z, .int (m : Nat)]
def EvOk : Ev → Prop
  | none => True
  | some (z, m) => nameB z = true ∧ m < 10 ^ 9
def EvAt (H : Hp) (v : V) (e : Ev) : Prop := ∃ a, v = .ref a ∧ H a = some (.tup (evV e))
inductive EvsAt (H : Hp) : List V → List Ev → Prop
  | nil : EvsAt H [] []
  | cons {v : V} {vs : List V} {e : Ev} {es : List Ev} : EvAt H v e → EvsAt H vs es → EvsAt H (v :: vs) (e :: es)
theorem EvAt.mono {H H' : Hp} {v : V} {e : Ev} (h : EvAt H v e) (s : ∀ a xs, H a = some (.tup xs) → H' a = some (.tup xs)) : EvAt H' v e := by
  obtain ⟨a, rfl, ha⟩ := h
  exact ⟨a, rfl, s _ _ ha⟩
theorem EvsAt.mono {H H' : Hp} {vs : List V} {es : List Ev} (h : EvsAt H vs es) (s : ∀ a xs, H a = some (.tup xs) → H' a = some (.tup xs)) : EvsAt H' vs es := by
  induction h with
  | nil => exact .nil
  | cons a _ ih => exact .cons (a.mono s) ih
theorem EvsAt.snoc {H : Hp} {vs : List V} {es : List Ev} {v : V} {e : Ev} (h : EvsAt H vs es) (k : EvAt H v e) : EvsAt H (vs ++ [v]) (es ++ [e]) := by
  induction h with
  | nil => exact .cons k .nil
  | cons a _ ih => exact .cons a ih
theorem EvsAt.length {H : Hp} {vs : List V} {es : List Ev} (h : EvsAt H vs es) : vs.length = es.length := by
  induction h with
  | nil => rfl
  | cons _ _ ih => rw [List.length_cons, List.length_cons, ih]
theorem EvsAt.get {H : Hp} {vs : List V} {es : List Ev} (h : EvsAt H vs es) : ∀ {i : Nat} {v : V}, vs[i]? = some v → ∃ e, es[i]? = some e ∧ EvAt H v e := by
  induction h with
  | nil => intro i v hv; simp at hv
  | cons a _ ih =>
    intro i v hv
    cases i with
    | zero =>
      have z := Option.some.inj hv
      exact ⟨_, rfl, by rw [← z]; exact a⟩
    | succ i => exact ih hv
theorem keepT {H H' : Hp} {p : Addr} {m : Nat} (hb : BoxAt H p m) (k : ∀ b o, b ≠ p → H b = some o → H' b = some o) : ∀ a xs, H a = some (.tup xs) → H' a = some (.tup xs) := fun a xs e => k a _ (fun z => by
  obtain ⟨_, _, _, e2, _⟩ := hb
  rw [z, e2] at e
  cases e) e
structure NmR (mg : Str → Option Value) (K : PySem.W.Frag) (ft : Addr) : Prop where
  g__law_take : mg "_law_take" = some (.ref ft)
  k__law_take : PySem.W.keepIn K (.ref ft) = true
  n_range : mg "range" = none
  n_len : mg "len" = none
def spRow : Sp := fun vs H Q _ => ∃ (p l : Addr) (zs : List Str) (m : Nat), vs = [.ref p, .ref l] ∧ BoxAt H p m ∧ H l = some (.lst (zs.map V.str)) ∧ 1 ≤ zs.length ∧ zs.length ≤ 100 ∧ (∀ z ∈ zs, nameB z = true) ∧ m ≤ 10000 ∧
  ∀ (r : Addr) (vs' : List V) (es : List Ev) (H' : Hp), H r = none → H' r = some (.lst vs') → EvsAt H' vs' es → es.length ≤ 20 → (∀ e ∈ es, EvOk e) → BoxAt H' p (m + 100) → (∀ b o, b ≠ p → H b = some o → H' b = some o) → Q (.ref r) H'
def wordS : Ev → Str
  | none => "/"
  | some (z, m) => z ++ ":" ++ (toString ((m : Nat) : Int) : String)
def textS (es : List Ev) : Str := Txt.join " " (es.map wordS)
theorem num_len {m : Nat} (h : m < 10 ^ 9) : ((toString ((m : Nat) : Int) : String) : Str).length ≤ 9 := by
  have e := TL.numL_len (n := m) (k := 9) (by decide) h
  rw [← TL.tl_num] at e
  exact e
theorem name_len {z : Str} (h : nameB z = true) : z.length ≤ 8 := by
  unfold nameB at h
  simp only [Bool.and_eq_true, decide_eq_true_eq] at h
  have := h.2.1
  show z.cps.size ≤ 8
  omega
theorem len_app (x y : Str) : (x ++ y).length = x.length + y.length := by
  show (x.cps ++ y.cps).size = _
  rw [Array.size_append]
  rfl
theorem word_len {e : Ev} (h : EvOk e) : (wordS e).length ≤ 18 := by
  match e, h with
  | none, _ => exact (by decide +kernel : ("/" : Str).length ≤ 18)
  | some (z, m), h =>
    have h1 := name_len h.1
    have h2 := num_len h.2
    have h3 : (":" : Str).length = 1 := by decide +kernel
    show (z ++ ":" ++ _).length ≤ 18
    rw [len_app, len_app]
    omega
theorem words_len : ∀ {es : List Ev}, (∀ e ∈ es, EvOk e) → ((es.map wordS).map (·.length)).sum ≤ 18 * es.length
  | [], _ => Nat.zero_le _
  | e :: es, h => by
    have h1 := word_len (h e (List.mem_cons_self ..))
    have h2 := words_len (es := es) fun x hx => h x (List.mem_cons_of_mem _ hx)
    rw [List.map_cons, List.map_cons, List.sum_cons, List.length_cons]
    omega
theorem take_snoc {α : Type} {l : List α} {i : Nat} {x : α} (h : l[i]? = some x) : l.take (i + 1) = l.take i ++ [x] := by
  rw [List.take_add_one, h]
  rfl
structure NmT (mg : Str → Option Value) : Prop where
  n_len : mg "len" = none
  n_str : mg "str" = none
def rLenK (K : PySem.W.Frag) : List V → Hp → VK → Prop := fun xs H Q => ∃ p ys, xs = [.ref p] ∧ (SqL K H p ys ∨ SqT K H p ys) ∧ Q (.int ys.length) H
def rAddStr : R2 := fun x y H Q => ∃ i j, x = .str i ∧ y = .str j ∧ i.length + j.length ≤ sizeLine ∧ Q (.str (i ++ j)) H
def rStrI : List V → Hp → VK → Prop := fun xs H Q => ∃ i, xs = [.int i] ∧ i.natAbs.log2 < 1920 ∧ Q (.str (toString i)) H
def teText (K : PySem.W.Frag) : TE := tIf (tTest (tOp (rI0 fun i j => .bl (decide (j < i))) (tCB (rLenK K) (tCons (tVar 1) tNil)) (tC (.int 1)))) (tOp rAddStr (tOp rAddStr (tOp (rIxT K) (tVar 1) (tC (.int 1))) (tC (.str ":"))) (tCB rStrI (tCons (tOp (rIxT K) (tVar 1) (tC (.int 2))) tNil))) (tC (.str "/"))
def spText : Sp := fun vs H Q _ => ∃ (r : Addr) (vs' : List V) (es : List Ev), vs = [.ref r] ∧ H r = some (.lst vs') ∧ EvsAt H vs' es ∧ es.length ≤ 1000 ∧ (∀ e ∈ es, EvOk e) ∧ ∀ H' : Hp, Same H H' → Q (.str (textS es)) H'
def Asc (z : Str) : Prop := ∀ c ∈ z.cps.toList, c < 256
theorem in3 (z a b c : Str) : inV (.str z) [.str a, .str b, .str c] = (decide (a = z) || (decide (b = z) || decide (c = z))) := by
  show ((a == z) || ((b == z) || ((c == z) || false))) = _
  rw [Bool.or_false]
  rfl
theorem depth_strs : ∀ ss : List Str, PyData.depthAll (ss.map PyData.str) = 0
  | [] => rfl
  | x :: ss => by
    rw [List.map_cons]
    unfold PyData.depthAll
    rw [depth_strs ss]
    rfl
theorem shaped_strs {ss : List Str} (h : ∀ z ∈ ss, Asc z) : SeqAt.shaped (.list (ss.map PyData.str)) = true := by
  unfold SeqAt.shaped
  rw [Bool.and_eq_true]
  refine ⟨?_, decide_eq_true ?_⟩
  · show PyData.canLayAll0 _ = true
    rw [canLayAll_strs', List.all_eq_true]
    intro z hz
    show z.cps.all _ = true
    rw [← Array.all_toList, List.all_eq_true]
    intro c hc
    have := h z hz c hc
    exact decide_eq_true (by omega)
  · unfold PyData.depth
    rw [depth_strs]
    decide
theorem dp_strs {K : PySem.W.Frag} {H : Hp} : ∀ ss : List Str, DpAll K H (ss.map V.str) (ss.map PyData.str)
  | [] => .nil
  | x :: ss => .cons (.str x) (dp_strs ss)
theorem eqv_nil (ss : List Str) : PyData.eqv (.list (ss.map PyData.str)) (.list []) = ss.isEmpty := by
  cases ss with
  | nil => rfl
  | cons x ss => rfl
def signs (L : List Nat) : List Str := L.map fun c => ⟨#[c]⟩
theorem nameB_eq (z : Str) : nameB z = (!(decide ("any" = z) || (decide ("other" = z) || decide ("where" = z))) && (decide (0 < z.length) && (decide (z.length < 9) && z.cps.toList.all fun c => decide (97 ≤ c) && decide (c ≤ 122)))) := by
  unfold nameB
  have e1 : decide (z = "any") = decide ("any" = z) := decide_eq_decide.mpr eq_comm
  have e2 : decide (z = "other") = decide ("other" = z) := decide_eq_decide.mpr eq_comm
  have e3 : decide (z = "where") = decide ("where" = z) := decide_eq_decide.mpr eq_comm
  rw [e1, e2, e3]
  show (decide (0 < z.length) && (decide (z.length < 9) && _)) = _
  generalize decide (0 < z.length) = a
  generalize decide (z.length < 9) = b
  generalize (z.cps.toList.all fun c => decide (97 ≤ c) && decide (c ≤ 122)) = c
  generalize decide ("any" = z) = x
  generalize decide ("other" = z) = y
  generalize decide ("where" = z) = u
  cases a <;> cases b <;> cases c <;> cases x <;> cases y <;> cases u <;> rfl
theorem letters_mem (c : Nat) : (c ∈ ("abcdefghijklmnopqrstuvwxyz" : Str).cps.toList) ↔ 97 ≤ c ∧ c ≤ 122 := by
  constructor
  · intro h
    exact (by decide +kernel : ∀ x ∈ ("abcdefghijklmnopqrstuvwxyz" : Str).cps.toList, 97 ≤ x ∧ x ≤ 122) c h
  · intro ⟨h1, h2⟩
    have h := letters_at (c - 97) (by omega)
    rw [show 97 + (c - 97) = c from by omega] at h
    exact List.mem_of_getElem? h
theorem filter_nil {L : List Nat} {p q : Nat → Bool} (h : ∀ c ∈ L, p c = !q c) : (signs (L.filter p)).isEmpty = L.all q := by
  induction L with
  | nil => rfl
  | cons c L ih =>
    rw [List.filter_cons, List.all_cons]
    have hc := h c (List.mem_cons_self ..)
    have := ih fun x hx => h x (List.mem_cons_of_mem _ hx)
    cases hq : q c with
    | true =>
      rw [hq] at hc
      rw [hc]
      exact this
    | false =>
      rw [hq] at hc
      rw [hc]
      rfl
def spIs (B : Str → Bool) : Sp := fun vs H Q _ => ∃ z : Str, vs = [.str z] ∧ z.length ≤ 1000 ∧ Asc z ∧ ∀ H' : Hp, Same H H' → Q (.bl (B z)) H'
def ttNot (j : Nat) : TT := tTest (tOp (fun x y H Q => ∃ (c : Nat) (z : Str), x = .str ⟨#[c]⟩ ∧ y = .str z ∧ Q (.bl (!decide (c ∈ z.cps.toList))) H) (tVar 2) (tVar 1))
def figB (z : Str) : Bool := decide (0 < z.length) && (decide (z.length < 13) && ((z.cps.toList.all fun c => decide (48 ≤ c) && decide (c ≤ 57)) && (decide (z = "0") || !decide (z.cps.toList[0]? = some 48))))
theorem digits_mem (c : Nat) : (c ∈ ("0123456789" : Str).cps.toList) ↔ 48 ≤ c ∧ c ≤ 57 := by
  constructor
  · intro h
    exact (by decide +kernel : ∀ x ∈ ("0123456789" : Str).cps.toList, 48 ≤ x ∧ x ≤ 57) c h
  · intro ⟨h1, h2⟩
    have h := (by decide +kernel : ∀ i, i < 10 → ("0123456789" : Str).cps.toList[i]? = some (48 + i)) (c - 48) (by omega)
    rw [show 48 + (c - 48) = c from by omega] at h
    exact List.mem_of_getElem? h
def ttDig : TT := tTest (tOp (fun x y H Q => ∃ (c : Nat) (z : Str), x = .str ⟨#[c]⟩ ∧ y = .str z ∧ Q (.bl (!decide (c ∈ z.cps.toList))) H) (tVar 1) (tC (.str "0123456789")))
def mkS (L : List Nat) : Str := ⟨L.toArray⟩
def cut : List Nat → Option (List Nat × List Nat)
  | [] => none
  | c :: r => if c = 58 then some ([], r) else (cut r).map fun p => (c :: p.1, p.2)
theorem cut_some : ∀ {L a b : List Nat}, cut L = some (a, b) → L = a ++ 58 :: b ∧ 58 ∉ a
  | [], _, _, h => by cases h
  | c :: r, a, b, h => by
    unfold cut at h
    by_cases hc : c = 58
    · rw [if_pos hc] at h
      cases h
      exact ⟨by rw [hc]; rfl, by simp⟩
    · rw [if_neg hc] at h
      obtain ⟨p, hp, e⟩ := Option.map_eq_some_iff.mp h
      cases e
      obtain ⟨h1, h2⟩ := cut_some (L := r) (a := p.1) (b := p.2) hp
      refine ⟨by rw [h1]; rfl, fun hm => ?_⟩
      rcases List.mem_cons.mp hm with hm | hm
      · exact hc hm.symm
      · exact h2 hm
theorem cut_none : ∀ {L : List Nat}, cut L = none → 58 ∉ L
  | [], _ => by simp
  | c :: r, h => by
    unfold cut at h
    by_cases hc : c = 58
    · rw [if_pos hc] at h
      cases h
    · rw [if_neg hc] at h
      have h1 := cut_none (L := r) (Option.map_eq_none_iff.mp h)
      intro hm
      rcases List.mem_cons.mp hm with hm | hm
      · exact hc hm.symm
      · exact h1 hm
theorem colon : (":" : Str) = ⟨#[58]⟩ := by decide +kernel
theorem find_cut (z : Str) : (cut z.cps.toList = none ∧ Txt.find z ":" = -1) ∨ ∃ a b, cut z.cps.toList = some (a, b) ∧ Txt.find z ":" = (a.length : Nat) := by
  rw [colon]
  unfold Txt.find
  have at_iff : ∀ i, PySem.StrLaws.At z ⟨#[58]⟩ z.length i ↔ z.cps.toList[i]? = some 58 := fun i => PySem.StrLaws.subAt_one z 58 i
  rcases PySem.StrLaws.occ_head z ⟨#[58]⟩ 1 (by decide) with ⟨h0, hn⟩ | ⟨i, r, h0, hi, hk⟩
  · rw [h0]
    refine .inl ⟨?_, rfl⟩
    cases hc : cut z.cps.toList with
    | none => rfl
    | some p =>
      obtain ⟨h1, _⟩ := cut_some (a := p.1) (b := p.2) hc
      exact absurd ((at_iff p.1.length).mpr (by rw [h1]; simp)) (hn _)
  · rw [h0]
    have hi' := (at_iff i).mp hi
    cases hc : cut z.cps.toList with
    | none => exact absurd (List.mem_of_getElem? hi') (cut_none hc)
    | some p =>
      obtain ⟨h1, h2⟩ := cut_some (a := p.1) (b := p.2) hc
      refine .inr ⟨p.1, p.2, rfl, ?_⟩
      show ((i : Nat) : Int) = _
      have e : i = p.1.length := by
        rcases Nat.lt_trichotomy i p.1.length with h | h | h
        · rw [h1, List.getElem?_append_left h] at hi'
          exact absurd (List.mem_of_getElem? hi') h2
        · exact h
        · exact absurd ((at_iff p.1.length).mpr (by rw [h1]; simp)) (hk _ h)
      rw [e]
def evOf (z : Str) : Option Ev := if z = "/" then some none else match cut z.cps.toList with
  | none => none
  | some (a, b) => if (nameB (mkS a) && figB (mkS b)) = true then some (some (mkS a, NumText.digitsVal b)) else none
def OptAt (H : Hp) (v : V) : Option Ev → Prop
  | none => v = .non
  | some e => EvAt H v e
def spEvent : Sp := fun vs H Q _ => ∃ z : Str, vs = [.str z] ∧ z.length ≤ 1000 ∧ Asc z ∧ ∀ (v : V) (H' : Hp), Same H H' → OptAt H' v (evOf z) → Q v H'
theorem mkS_len (L : List Nat) : (mkS L).length = L.length := rfl
theorem cut_lo {z : Str} {a b : List Nat} (h : z.cps.toList = a ++ 58 :: b) : cutS z none (some ((a.length : Nat) : Int)) = mkS a := by
  unfold cutS mkS
  rw [HT.sIx_none, HT.sIx_nat, List.drop_zero, Nat.sub_zero]
  have hl : z.length = a.length + (b.length + 1) := by
    show z.cps.toList.length = _
    rw [h, List.length_append, List.length_cons]
  rw [hl, Nat.min_eq_left (by omega), h, List.take_left' rfl]
theorem cut_hi {z : Str} {a b : List Nat} (h : z.cps.toList = a ++ 58 :: b) : cutS z (some (((a.length : Nat) : Int) + 1)) none = mkS b := by
  unfold cutS mkS
  have hl : z.length = a.length + (b.length + 1) := by
    show z.cps.toList.length = _
    rw [h, List.length_append, List.length_cons]
  rw [show ((a.length : Nat) : Int) + 1 = ((a.length + 1 : Nat) : Int) from by omega, HT.sIx_none, HT.sIx_nat, hl, Nat.min_eq_left (by omega), h]
  have e1 : (a ++ 58 :: b).drop (a.length + 1) = b := by
    rw [show a ++ 58 :: b = (a ++ [58]) ++ b from by simp]
    exact List.drop_left' (by simp)
  rw [e1, List.take_of_length_le (by omega)]
theorem fig_int {b : List Nat} (h : figB (mkS b) = true) : PySem.intText? (mkS b) = some ((NumText.digitsVal b : Nat) : Int) ∧ b.length ≤ 640 := by
  unfold figB at h
  simp only [Bool.and_eq_true, decide_eq_true_eq] at h
  obtain ⟨h1, h2, h3, _⟩ := h
  rw [mkS_len] at h1 h2
  exact ⟨SX.int_S (a := b) h3 (fun e => by rw [e] at h1; exact absurd h1 (by decide)) (by omega), by omega⟩
theorem evOf_none {z : Str} (h0 : ¬ z = "/") (hc : cut z.cps.toList = none) : evOf z = none := by
  unfold evOf
  rw [if_neg h0, hc]
theorem evOf_some {z : Str} {a b : List Nat} (h0 : ¬ z = "/") (hc : cut z.cps.toList = some (a, b)) : evOf z = if (nameB (mkS a) && figB (mkS b)) = true then some (some (mkS a, NumText.digitsVal b)) else none := by
  unfold evOf
  rw [if_neg h0, hc]
structure NmE (mg : Str → Option Value) (K : PySem.W.Frag) (fn ff : Addr) : Prop where
  g__law_is_name : mg "_law_is_name" = some (.ref fn)
  k__law_is_name : PySem.W.keepIn K (.ref fn) = true
  g__law_is_figure : mg "_law_is_figure" = some (.ref ff)
  k__law_is_figure : PySem.W.keepIn K (.ref ff) = true
  n_int : mg "int" = none
theorem mem_join {y : Str} : ∀ {ps : List Str} {p : Str}, p ∈ ps → ∀ c ∈ p.cps.toList, c ∈ (PySem.Str.join y ps).cps.toList
  | [], _, h => absurd h (by simp)
  | [a], p, h => by
    rw [List.mem_singleton.mp h]
    exact fun c hc => hc
  | a :: b :: r, p, h => by
    intro c hc
    show c ∈ TL.tl (a ++ y ++ PySem.Str.join y (b :: r))
    rw [TL.tl_append, TL.tl_append]
    rcases List.mem_cons.mp h with h | h
    · rw [h] at hc
      exact List.mem_append_left _ (List.mem_append_left _ hc)
    · exact List.mem_append_right _ (mem_join h c hc)
theorem split_asc {z w : Str} (hA : Asc z) (h : w ∈ Txt.split z " ") : Asc w := fun c hc => hA c (by
  have h1 := mem_join (y := " ") h c hc
  rw [PySem.StrLaws.join_split] at h1
  exact h1)
theorem le_sum : ∀ {l : List Nat} {n : Nat}, n ∈ l → n ≤ l.sum
  | [], _, h => absurd h (by simp)
  | a :: l, n, h => by
    rw [List.sum_cons]
    rcases List.mem_cons.mp h with h | h
    · omega
    · have := le_sum h
      omega
theorem split_lens {z w : Str} (h : w ∈ Txt.split z " ") : w.length ≤ z.length := by
  have h1 := split_weight z " " (by decide +kernel)
  have h2 : w.length ≤ ((Txt.split z " ").map (·.length)).sum := le_sum (List.mem_map_of_mem h)
  have h3 := split_pos z " "
  omega
def wordsL (z : Str) : List Str := if z = "" then [] else Txt.split z " "
theorem wordsL_of {z : Str} (h : ¬ z = "") : wordsL z = Txt.split z " " := if_neg h
theorem first_none : ∀ os : List (Option Ev), (∃ es : List Ev, os = es.map some) ∨ ∃ j : Nat, os[j]? = some none ∧ ∀ m : Nat, m < j → ∃ e, os[m]? = some (some e)
  | [] => .inl ⟨[], rfl⟩
  | none :: os => .inr ⟨0, rfl, fun m hm => absurd hm (Nat.not_lt_zero _)⟩
  | some e :: os => by
    rcases first_none os with ⟨es, h⟩ | ⟨j, hj, hm⟩
    · exact .inl ⟨e :: es, by rw [h]; rfl⟩
    · refine .inr ⟨j + 1, hj, fun m h => ?_⟩
      cases m with
      | zero => exact ⟨e, rfl⟩
      | succ m => exact hm m (by omega)
inductive OptsAt (H : Hp) : List V → List (Option Ev) → Prop
  | nil : OptsAt H [] []
  | cons {v : V} {vs : List V} {o : Option Ev} {os : List (Option Ev)} : OptAt H v o → OptsAt H vs os → OptsAt H (v :: vs) (o :: os)
theorem OptAt.mono {H H' : Hp} {v : V} {o : Option Ev} (h : OptAt H v o) (s : ∀ a xs, H a = some (.tup xs) → H' a = some (.tup xs)) : OptAt H' v o := by
  cases o with
  | none => exact h
  | some e => exact EvAt.mono h s
theorem OptsAt.mono {H H' : Hp} {vs : List V} {os : List (Option Ev)} (h : OptsAt H vs os) (s : ∀ a xs, H a = some (.tup xs) → H' a = some (.tup xs)) : OptsAt H' vs os := by
  induction h with
  | nil => exact .nil
  | cons a _ ih => exact .cons (a.mono s) ih
theorem OptsAt.snoc {H : Hp} {vs : List V} {os : List (Option Ev)} {v : V} {o : Option Ev} (h : OptsAt H vs os) (k : OptAt H v o) : OptsAt H (vs ++ [v]) (os ++ [o]) := by
  induction h with
  | nil => exact .cons k .nil
  | cons a _ ih => exact .cons a ih
theorem OptsAt.len {H : Hp} {vs : List V} {os : List (Option Ev)} (h : OptsAt H vs os) : vs.length = os.length := by
  induction h with
  | nil => rfl
  | cons _ _ ih => rw [List.length_cons, List.length_cons, ih]
theorem OptsAt.all {H : Hp} : ∀ {vs : List V} {es : List Ev}, OptsAt H vs (es.map some) → EvsAt H vs es
  | _, [], .nil => .nil
  | _, _ :: _, .cons a b => .cons a (OptsAt.all b)
def odD : Option Ev → PyData
  | none => .none
  | some e => evD e
theorem ev_dp {K : PySem.W.Frag} {H : Hp} {v : V} {e : Ev} (h : EvAt H v e) : Dp K H v (evD e) := by
  obtain ⟨a, rfl, ha⟩ := h
  match e, ha with
  | none, ha => exact .tup (SqT.of ha) (.cons (.str _) .nil)
  | some (z, m), ha => exact .tup (SqT.of ha) (.cons (.str _) (.cons (.str _) (.cons (.int _) .nil)))
theorem opt_dp {K : PySem.W.Frag} {H : Hp} {v : V} {o : Option Ev} (h : OptAt H v o) : Dp K H v (odD o) := by
  cases o with
  | none =>
    rw [show v = .non from h]
    exact .non
  | some e => exact ev_dp h
theorem opts_dp {K : PySem.W.Frag} {H : Hp} {vs : List V} {os : List (Option Ev)} (h : OptsAt H vs os) : DpAll K H vs (os.map odD) := by
  induction h with
  | nil => exact .nil
  | cons a _ ih => exact .cons (opt_dp a) ih
theorem nameB_str {z : Str} (h : nameB z = true) : PyData.canLay0 (.str z) = true := by
  rw [nameB_eq] at h
  simp only [Bool.and_eq_true] at h
  obtain ⟨_, _, _, h⟩ := h
  show z.cps.all _ = true
  rw [← Array.all_toList, List.all_eq_true]
  intro c hc
  have := List.all_eq_true.mp h c hc
  simp only [Bool.and_eq_true, decide_eq_true_eq] at this
  exact decide_eq_true (by omega)
theorem evOf_name {z y : Str} {n : Nat} (h : evOf z = some (some (y, n))) : nameB y = true := by
  unfold evOf at h
  by_cases h0 : z = "/"
  · rw [if_pos h0] at h
    cases h
  · rw [if_neg h0] at h
    cases hc : cut z.cps.toList with
    | none =>
      rw [hc] at h
      cases h
    | some p =>
      rw [hc] at h
      by_cases hb : (nameB (mkS p.1) && figB (mkS p.2)) = true
      · have h' : (if (nameB (mkS p.1) && figB (mkS p.2)) = true then some (some (mkS p.1, NumText.digitsVal p.2)) else none) = some (some (y, n)) := h
        rw [if_pos hb] at h'
        cases h'
        exact (Bool.and_eq_true_iff.mp hb).1
      · have h' : (if (nameB (mkS p.1) && figB (mkS p.2)) = true then some (some (mkS p.1, NumText.digitsVal p.2)) else none) = some (some (y, n)) := h
        rw [if_neg hb] at h'
        cases h'
def OdOk : Option Ev → Prop
  | some (some (z, _)) => nameB z = true
  | _ => True
theorem evOf_ok (z : Str) : OdOk (evOf z) := by
  cases h : evOf z with
  | none => trivial
  | some e => cases e with
    | none => trivial
    | some p => exact evOf_name (y := p.1) (n := p.2) h
theorem od_lay {o : Option Ev} (h : OdOk o) : PyData.canLay0 (odD o) = true ∧ (odD o).depth ≤ 1 := by
  match o, h with
  | none, _ => exact ⟨rfl, by decide⟩
  | some none, _ => exact ⟨by decide +kernel, by decide +kernel⟩
  | some (some (z, m)), h =>
    refine ⟨?_, ?_⟩
    · show PyData.canLayAll0 [.str "open", .str z, .int _] = true
      have e1 : PyData.canLay0 (.str "open") = true := by decide +kernel
      rw [PyData.canLayAll0, PyData.canLayAll0, PyData.canLayAll0, PyData.canLayAll0, e1, nameB_str h]
      rfl
    · simp only [odD, evD, PyData.depth, PyData.depthAll]
      omega
theorem ods_lay : ∀ {os : List (Option Ev)}, (∀ o ∈ os, OdOk o) → PyData.canLayAll0 (os.map odD) = true ∧ PyData.depthAll (os.map odD) ≤ 1
  | [], _ => ⟨rfl, by decide⟩
  | o :: os, h => by
    obtain ⟨h1, h2⟩ := od_lay (h o (List.mem_cons_self ..))
    obtain ⟨h3, h4⟩ := ods_lay fun o ho => h o (List.mem_cons_of_mem _ ho)
    rw [List.map_cons]
    refine ⟨?_, ?_⟩
    · simp only [PyData.canLayAll0, h1, h3, Bool.and_self]
    · simp only [PyData.depthAll]
      omega
theorem ods_shaped {os : List (Option Ev)} (h : ∀ o ∈ os, OdOk o) : SeqAt.shaped (.list (os.map odD)) = true := by
  obtain ⟨h1, h2⟩ := ods_lay h
  unfold SeqAt.shaped
  rw [Bool.and_eq_true]
  refine ⟨h1, decide_eq_true ?_⟩
  simp only [PyData.depth]
  omega
theorem eqv_ev (e : Ev) : PyData.eqv (evD e) .none = false := by
  match e with
  | none => rfl
  | some (z, m) => rfl
theorem any_none (es : List Ev) : ((es.map some).map odD).any (fun z => PyData.eqv z .none) = false := by
  induction es with
  | nil => rfl
  | cons e es ih =>
    rw [List.map_cons, List.map_cons, List.any_cons, ih, Bool.or_false]
    exact eqv_ev e
theorem any_some {os : List (Option Ev)} {j : Nat} (h : os[j]? = some none) : (os.map odD).any (fun z => PyData.eqv z .none) = true := by
  rw [List.any_eq_true]
  exact ⟨.none, List.mem_map.mpr ⟨none, List.mem_of_getElem? h, rfl⟩, rfl⟩
def DueAt (H : Hp) (ws : List Str) (t : Addr) : Prop :=
  (∃ j : Nat, (ws.map evOf)[j]? = some none ∧ (∀ m, m < j → ∃ e, (ws.map evOf)[m]? = some (some e)) ∧ H t = some (.tup [.str "at", .int (j : Nat)])) ∨
  (∃ (l : Addr) (vs : List V) (es : List Ev), ws.map evOf = es.map some ∧ H t = some (.tup [.str "events", .ref l]) ∧ H l = some (.lst vs) ∧ EvsAt H vs es)
def spDue : Sp := fun vs H Q _ => ∃ z : Str, vs = [.str z] ∧ z.length ≤ 1000 ∧ Asc z ∧ ∀ (t : Addr) (H' : Hp), Same H H' → DueAt H' (wordsL z) t → Q (.ref t) H'
structure NmD (mg : Str → Option Value) (K : PySem.W.Frag) (fe : Addr) : Prop where
  g__law_event : mg "_law_event" = some (.ref fe)
  k__law_event : PySem.W.keepIn K (.ref fe) = true
theorem cut_asc {z : Str} {lo hi : Option Int} (h : Asc z) : Asc (cutS z lo hi) := fun c hc => h c (List.mem_of_mem_drop (List.mem_of_mem_take hc))
structure NmG (mg : Str → Option Value) (K : PySem.W.Frag) (ff : Addr) : Prop where
  g__law_is_figure : mg "_law_is_figure" = some (.ref ff)
  k__law_is_figure : PySem.W.keepIn K (.ref ff) = true
  n_len : mg "len" = none
theorem lt_one (a b : Nat) : decide (([a] : List Nat) < [b]) = decide (a < b) := decide_eq_decide.mpr (by
  rw [List.cons_lt_cons_iff]
  constructor
  · rintro (h | ⟨_, h⟩)
    · exact h
    · exact absurd h (by simp)
  · exact .inl)
def consB (l h most : Nat) (z : Str) : Bool := decide (0 < z.length) && (decide (z.length ≤ most) && z.cps.toList.all fun c => decide (l ≤ c) && decide (c ≤ h))
def spWords : Sp := fun vs H Q _ => ∃ z : Str, vs = [.str z] ∧ z.length ≤ 1000 ∧ ∀ (a : Addr) (H' : Hp), Same H H' → H a = none → H' a = some (.lst ((wordsL z).map V.str)) → Q (.ref a) H'
structure NmC (mg : Str → Option Value) : Prop where
  n_len : mg "len" = none
  n_all : mg "all" = none
def spCons : Sp := fun vs H Q _ => ∃ (z lo hi : Str) (l h most : Nat), vs = [.str z, .str lo, .str hi, .int (most : Nat)] ∧ z.length ≤ 1000 ∧ lo.cps.toList = [l] ∧ hi.cps.toList = [h] ∧ ∀ H' : Hp, Same H H' → Q (.bl (consB l h most z)) H'
theorem cons_name (z : Str) : (consB 97 122 8 z && !inV (V.str z) [.str "any", .str "other", .str "where"]) = nameB z := by
  rw [nameB_eq, ← in3]
  unfold consB
  rw [show decide (z.length < 9) = decide (z.length ≤ 8) from decide_eq_decide.mpr (by omega), Bool.and_comm]
theorem cons_fig (z : Str) : (consB 48 57 12 z && (decide (V.str z = V.str "0") || !Txt.startswith z "0")) = figB z := by
  unfold consB figB
  rw [show decide (z.length < 13) = decide (z.length ≤ 12) from decide_eq_decide.mpr (by omega), Bool.and_assoc, Bool.and_assoc]
  have e1 : decide (V.str z = V.str "0") = decide (z = "0") := decide_eq_decide.mpr ⟨V.str.inj, congrArg V.str⟩
  rw [e1]
  by_cases h : 0 < z.length
  · obtain ⟨c, hc⟩ : ∃ c, z.cps.toList[0]? = some c := ⟨_, List.getElem?_eq_getElem (show 0 < z.cps.toList.length from h)⟩
    have e2 : Txt.startswith z "0" = decide (z.cps.toList[0]? = some 48) := by
      have e0 : ("0" : Str) = ⟨#[48]⟩ := by decide +kernel
      have e3 := PySem.StrLaws.subAt_one z 48 0
      rw [e0]
      unfold Txt.startswith
      rw [Bool.eq_iff_iff, Bool.and_eq_true, decide_eq_true_iff, decide_eq_true_iff]
      exact e3
    rw [e2]
  · rw [decide_eq_false h]
    rfl
def iLT (K : PySem.W.Frag) (te : TE) : TI := fun σ H R => te σ H fun x G => ∃ p, x = .ref p ∧ (((∃ ys, SqL K G p ys) ∧ R (Itl K p) G) ∨ ((∃ ys, SqT K G p ys) ∧ R (Itt K p) G))
theorem pi_lt {X : Cx} {g e : Expr} {te : TE} (he : PE X e te) : PI X g e (iLT X.K te) := by
  constructor
  intro pins s σ H R I h
  apply thn (he.run pins s σ H _ I h)
  rintro v s1 ⟨x, G, J, r, p, rfl, q⟩
  cases r
  have fp : ∀ (o : Obj) (b : Addr), b ∈ [s1.heap.objs.size] → FpOk X pins G b := fun o b hb => by
    rw [List.mem_singleton.mp hb]
    exact J.fpOk (Nat.le_refl _) (J.hok.fresh (Nat.le_refl _))
  have kp : ∀ o : Obj, Inv X pins σ G { s1 with heap := s1.heap.push o } := fun o => J.kept (t' := s1.toks) fun _ _ z => Heap.get?_push_of_some _ z
  rcases q with ⟨⟨ys, hy⟩, q⟩ | ⟨⟨ys, hy⟩, q⟩
  · obtain ⟨us, _, pl, _⟩ := J.list hy
    apply wpAny_pyIter_list pl.isList
    exact ⟨_, [s1.heap.objs.size], _, _, G, rfl, kp _, turn_list p _, ⟨_, Heap.get?_push_size _ rfl, rfl, rfl⟩, fp ⟨.none, none, .fields #[], #[]⟩, q⟩
  · obtain ⟨us, _, pl, _⟩ := J.tuple hy
    apply wpAny_pyIter_tuple (show s1.heap.IsTuple p us.toArray from pl)
    exact ⟨_, [s1.heap.objs.size], _, _, G, rfl, kp _, turn_tuple p _, ⟨_, Heap.get?_push_size _ rfl, rfl, rfl⟩, fp ⟨.none, none, .fields #[], #[]⟩, q⟩
structure NmP (mg : Str → Option Value) (K : PySem.W.Frag) (fc fn ff fw an : Addr) : Prop where
  g_consists_of : mg "consists_of" = some (.ref fc)
  k_consists_of : PySem.W.keepIn K (.ref fc) = true
  g_is_name : mg "is_name" = some (.ref fn)
  k_is_name : PySem.W.keepIn K (.ref fn) = true
  g_is_figure : mg "is_figure" = some (.ref ff)
  k_is_figure : PySem.W.keepIn K (.ref ff) = true
  g_word_of : mg "word_of" = some (.ref fw)
  k_word_of : PySem.W.keepIn K (.ref fw) = true
  g_NO_NAMES : mg "NO_NAMES" = some (.ref an)
  t_NO_NAMES : ∀ H : Hp, SqT K H an [.str "any", .str "other", .str "where"]
  n_len : mg "len" = none
  n_int : mg "int" = none
def spWordOf : Sp := fun vs H Q _ => ∃ (v : V) (e : Ev), vs = [v] ∧ EvAt H v e ∧ EvOk e ∧ Q (.str (wordS e)) H
def spWordsOf (K : PySem.W.Frag) : Sp := fun vs H Q _ => ∃ (r : Addr) (vs' : List V) (es : List Ev), vs = [.ref r] ∧ (H r = some (.lst vs') ∨ H r = some (.tup vs')) ∧ EvsAt H vs' es ∧ es.length ≤ 1000 ∧ (∀ e ∈ es, EvOk e) ∧ ∀ H' : Hp, Same H H' → Q (.str (textS es)) H'
theorem empty_app (z : Str) : Str.empty ++ z = z := by
  show (⟨#[] ++ z.cps⟩ : Str) = z
  rw [Array.empty_append]
theorem num_log {m : Nat} (h : m < 10 ^ 9) : ((m : Nat) : Int).natAbs.log2 < 1920 := by
  rw [Int.natAbs_natCast]
  by_cases hm : m = 0
  · rw [hm]
    decide
  · exact Nat.lt_of_lt_of_le ((Nat.log2_lt hm).mpr (Nat.lt_of_lt_of_le h (by decide : 10 ^ 9 ≤ 2 ^ 30))) (by decide)
def rIsD (K : PySem.W.Frag) (a : Addr) (cls : Value) (d : Option Addr) : List V → Hp → VK → Prop := fun xs H Q => ∃ (D dd : Addr) (fs : List (Str × V)) (c : V) (cv : Value) (b : Bool), xs = [.ref a, c] ∧ cls = .ref D ∧ d = some dd ∧ H dd = some (.xd fs) ∧ ExcC K D ∧ (∀ u, RelV c u → u = cv) ∧ PySem.W.kitOne K (.ref D) cv = some b ∧ Q (.bl b) H
theorem call_isD {X : Cx} {a : Addr} {cls : Value} {d : Option Addr} {oe : Obj} {pn : List (Addr × Obj)} (hz : Zc cls d oe) (hf : ∃ vs, oe.data = .fields vs) : CallR (X.suite a ((a, oe) :: pn)) (.builtin "isinstance") (rIsD X.K a cls d) := by
  intro pins s σ H xs us Q I r h
  obtain ⟨D, dd, fs, c, cv, b, rfl, rfl, rfl, ed, T, hcv, e, q⟩ := h
  cases r with
  | cons rx rr =>
    cases rr with
    | cons rt rr =>
      cases rr
      cases rx
      obtain rfl := hcv _ rt
      have hcl : (PySem.W.clsIn X.K D).isSome = true := by
        obtain ⟨cd, hc, _⟩ := PySem.W.any_some T.hd
        rw [hc] <;> rfl
      obtain ⟨hget, _⟩ := I.pin (a, oe) (List.mem_append.mpr (.inl List.mem_cons_self))
      obtain ⟨vs, hv⟩ := hf
      have hx : ObjOk X.prog X.w H s.heap dd (.xd fs) := I.hok dd _ ed
      obtain ⟨mA, ⟨o, es, ep, ho, hr⟩, _⟩ := hx
      have J : PySem.W.InstAt s.heap a oe D (some o) := ⟨hget, hz.1, by unfold PySem.W.notCls; rw [hv] <;> rfl, by rw [hz.2]; exact ho⟩
      exact PySem.W.kia_one (PySem.W.kitx_exc hcl T.hg T.hk T.hs T.ha T.hn T.ht T.hm) I.kIn J e (fun z => nomatch z) fun tk => ⟨.bl b, H, I.kept (t' := tk) fun _ _ z => z, rfl, q⟩
def OwnF (v : V) : Prop := (∃ i, v = .int i) ∨ ∃ z, v = .str z
def spOwnF : Sp := fun vs H Q _ => ∃ v : V, vs = [v] ∧ OwnF v ∧ Q v H
structure NmO (mg : Str → Option Value) (K : PySem.W.Frag) (f : Addr) : Prop where
  g : mg "own_copy" = some (.ref f)
  k : PySem.W.keepIn K (.ref f) = true
  n_isinstance : mg "isinstance" = none
  n_list : mg "list" = none
  n_tuple : mg "tuple" = none
  n_dict : mg "dict" = none
def spI1 (C : Addr) (f : Str) : Sp := fun vs H Q _ => ∃ (a : Addr) (v : V), vs = [.ref a, v] ∧ H a = some (exo a C none) ∧ OwnF v ∧
  ∀ (dd : Addr) (H' : Hp), H dd = none → H' a = some (exo a C (some dd)) → H' dd = some (exd dd [(f, v)]) → (∀ b o, b ≠ a → H b = some o → H' b = some o) → Q .non H'
structure NmX (P : Program) (w : World) (K : PySem.W.Frag) (mg : Str → Option Value) (C fI Ck : Addr) : Prop where
  g_NoTree : mg "NoTree" = some (.ref C)
  k_NoTree : PySem.W.keepIn K (.ref C) = true
  b_NoTree : PySem.W.subIn K (.ref C) (.type "BaseException") = some true
  t_NoTree : PySem.W.typeIn K (.ref C) = some (.type "type")
  m_NoTree : Exv.MkOk P w K C fI
  g_KeptError : mg "KeptError" = some (.ref Ck)
  e_NoTree : PySem.W.exmOne K (.ref C) (.ref C) = some true
  x_NoTree : ExcC K C
  i_NoTree : PySem.W.kitOne K (.ref C) (.ref Ck) = some true
  f_NoTree : XfC K C
  no_NoTree : PySem.W.findIn K (.ref C) "at" = some none
structure NmQ (mg : Str → Option Value) (K : PySem.W.Frag) (fwi fev fes : Addr) : Prop where
  g_words_in : mg "words_in" = some (.ref fwi)
  k_words_in : PySem.W.keepIn K (.ref fwi) = true
  g_event_of : mg "event_of" = some (.ref fev)
  k_event_of : PySem.W.keepIn K (.ref fev) = true
  g_events_of : mg "events_of" = some (.ref fes)
  k_events_of : PySem.W.keepIn K (.ref fes) = true
  n_enumerate : mg "enumerate" = none
  n_isinstance : mg "isinstance" = none
theorem OptsAt.get {H : Hp} {vs : List V} {os : List (Option Ev)} (h : OptsAt H vs os) : ∀ {i : Nat} {v : V}, vs[i]? = some v → ∃ o, os[i]? = some o ∧ OptAt H v o := by
  induction h with
  | nil => intro i v hv; simp at hv
  | cons a _ ih =>
    intro i v hv
    cases i with
    | zero =>
      have z := Option.some.inj hv
      exact ⟨_, rfl, by rw [← z]; exact a⟩
    | succ i => exact ih hv
def FirstNone (ws : List Str) (j : Nat) : Prop := (ws.map evOf)[j]? = some none ∧ ∀ m, m < j → ∃ e, (ws.map evOf)[m]? = some (some e)
def spEvents (C : Addr) : Sp := fun vs H Q E => ∃ z : Str, vs = [.str z] ∧ z.length ≤ 1000 ∧ Asc z ∧
  (∀ (l : Addr) (vs' : List V) (es : List Ev) (H' : Hp), Same H H' → H l = none → (wordsL z).map evOf = es.map some → H' l = some (.lst vs') → EvsAt H' vs' es → Q (.ref l) H') ∧
  (∀ (j : Nat) (d : Addr) (H' : Hp), Same H H' → FirstNone (wordsL z) j → H' d = some (.xd [("at", .int (j : Nat))]) → E (.ref C) (some d) H')
theorem wordsL_len {z w : Str} (h : w ∈ wordsL z) : w.length ≤ z.length := by
  unfold wordsL at h
  by_cases e : z = ""
  · rw [if_pos e] at h
    cases h
  · rw [if_neg e] at h
    exact split_lens h
theorem wordsL_asc {z w : Str} (hA : Asc z) (h : w ∈ wordsL z) : Asc w := by
  unfold wordsL at h
  by_cases e : z = ""
  · rw [if_pos e] at h
    cases h
  · rw [if_neg e] at h
    exact split_asc hA h
theorem wordsL_count (z : Str) : (wordsL z).length ≤ z.length + 1 := by
  unfold wordsL
  by_cases e : z = ""
  · rw [if_pos e]
    exact Nat.zero_le _
  · rw [if_neg e]
    have := split_weight z " " (by decide +kernel)
    omega
def wt (ys : List Str) : Nat := (ys.map (·.length)).sum + ys.length
theorem wt_app (a b : List Str) : wt (a ++ b) = wt a + wt b := by
  unfold wt
  rw [List.map_append, List.sum_append, List.length_append]
  omega
theorem wt_one (y : Str) : wt [y] = y.length + 1 := by
  unfold wt
  simp
theorem wt_part (ys : List Str) (i : Nat) : wt (ys.take i) + wt (ys.drop i) = wt ys := by
  rw [← wt_app, List.take_append_drop]
theorem join_le : ∀ ys : List Str, (PySem.Str.join " " ys).length ≤ wt ys - 1
  | [] => by
    show 0 ≤ _
    omega
  | [a] => by
    rw [wt_one]
    show a.length ≤ _
    omega
  | a :: b :: r => by
    have h := join_le (b :: r)
    show (a ++ " " ++ PySem.Str.join " " (b :: r)).length ≤ _
    rw [len_app, len_app, show (" " : Str).length = 1 from by decide +kernel, show a :: b :: r = [a] ++ (b :: r) from rfl, wt_app, wt_one]
    have h2 : 1 ≤ wt (b :: r) := by
      unfold wt
      rw [List.length_cons]
      omega
    omega
theorem join_asc : ∀ {ys : List Str}, (∀ y ∈ ys, Asc y) → Asc (PySem.Str.join " " ys)
  | [], _ => fun c hc => absurd hc (List.not_mem_nil)
  | [a], h => h a (List.mem_singleton.mpr rfl)
  | a :: b :: r, h => fun c hc => by
    have hc' : c ∈ TL.tl (a ++ " " ++ PySem.Str.join " " (b :: r)) := hc
    rw [TL.tl_append, TL.tl_append] at hc'
    rcases List.mem_append.mp hc' with h1 | h1
    · rcases List.mem_append.mp h1 with h1 | h1
      · exact h a (List.mem_cons_self ..) c h1
      · have : TL.tl " " = [32] := by decide +kernel
        rw [this, List.mem_singleton] at h1
        omega
    · exact join_asc (fun y hy => h y (List.mem_cons_of_mem _ hy)) c h1
theorem join_fits {ys : List Str} (h : wt ys ≤ 2000) : (ys.map (·.length)).sum + ys.length * (" " : Str).length ≤ 16777216 := by
  rw [show (" " : Str).length = 1 from by decide +kernel, Nat.mul_one]
  unfold wt at h
  omega
theorem cutV_lo (ws : List Str) (i : Nat) : cutV (ws.map V.str) none (some (i : Int)) = (ws.take i).map V.str := by
  unfold cutV
  rw [HT.sIx_none, HT.sIx_nat, List.drop_zero, Nat.sub_zero, List.length_map, List.map_take]
  by_cases h : i ≤ ws.length
  · rw [Nat.min_eq_left h]
  · rw [Nat.min_eq_right (by omega), List.take_of_length_le (by rw [List.length_map]; omega), List.take_of_length_le (by rw [List.length_map]; omega)]
theorem cutV_hi (ws : List Str) (i : Nat) : cutV (ws.map V.str) (some (i : Int)) none = (ws.drop i).map V.str := by
  unfold cutV
  rw [HT.sIx_none, HT.sIx_nat, List.length_map, List.map_drop]
  by_cases h : i ≤ ws.length
  · rw [Nat.min_eq_left h, List.take_of_length_le (by rw [List.length_drop, List.length_map]; omega)]
  · rw [Nat.min_eq_right (by omega), Nat.sub_self, List.take_zero, List.drop_of_length_le (by rw [List.length_map]; omega)]
theorem cutS_lo_len (z : Str) (i : Nat) : (cutS z none (some (i : Int))).length ≤ i := by
  unfold cutS
  rw [HT.sIx_none, HT.sIx_nat]
  show (List.toArray _).size ≤ _
  rw [List.size_toArray, List.length_take]
  omega
theorem cutS_hi_len (z : Str) (i : Nat) : (cutS z (some (i : Int)) none).length ≤ z.length - i := by
  unfold cutS
  rw [HT.sIx_none, HT.sIx_nat]
  show (List.toArray _).size ≤ _
  rw [List.size_toArray, List.length_take]
  omega
theorem app_asc {x y : Str} (hx : Asc x) (hy : Asc y) : Asc (x ++ y) := fun c hc => by
  have hc' : c ∈ TL.tl (x ++ y) := hc
  rw [TL.tl_append] at hc'
  exact (List.mem_append.mp hc').elim (hx c) (hy c)
theorem tjoin (ys : List Str) : Txt.join " " ys = PySem.Str.join " " ys := TL.join_eq _ _
theorem tjoin_asc {ys : List Str} (h : ∀ y ∈ ys, Asc y) : Asc (Txt.join " " ys) := by
  rw [tjoin]
  exact join_asc h
def Kp (p : Addr) (H H' : Hp) : Prop := ∀ b o, b ≠ p → H b = some o → H' b = some o
theorem Kp.trans {p : Addr} {H H' H'' : Hp} (h : Kp p H H') (k : Kp p H' H'') : Kp p H H'' := fun b o n e => k b o n (h b o n e)
theorem Kp.of {p : Addr} {H H' : Hp} (h : Same H H') : Kp p H H' := fun b o _ e => h b o e
theorem Kp.eq {p : Addr} {H H' : Hp} (h : ∀ b, b ≠ p → H' b = H b) : Kp p H H' := fun b o n e => (h b n).trans e
instance (z : Str) : Decidable (Asc z) := inferInstanceAs (Decidable (∀ c ∈ z.cps.toList, c < 256))
theorem from_le : ∀ (ts : List Str) (k : Nat) (acc : Str), (textFrom k acc ts).length ≤ acc.length + piled ts
  | [], k, acc => Nat.le_add_right _ _
  | t :: r, k, acc => by
    have h := from_le r (k + 1) (acc ++ (if k > 0 then ", " else "" : String) ++ t)
    have e : (acc ++ (if k > 0 then ", " else "" : String) ++ t).length ≤ acc.length + 2 + t.length := by
      rw [strLen_append, strLen_append]
      by_cases hk : k > 0
      · rw [if_pos hk]
        have : (Str.ofString ", ").length = 2 := rfl
        omega
      · rw [if_neg hk]
        have : (Str.ofString "").length = 0 := rfl
        omega
    have p : piled (t :: r) = t.length + 2 + piled r := by simp [piled]
    show (textFrom (k + 1) _ r).length ≤ _
    omega
theorem list_le (ts : List Str) : (listText ts).length ≤ piled ts + 2 := by
  have h := from_le ts 0 "["
  have e1 : (Str.ofString "[").length = 1 := rfl
  have e2 : (Str.ofString "]").length = 1 := rfl
  show (textFrom 0 "[" ts ++ "]").length ≤ _
  rw [strLen_append]
  omega
theorem tuple_le (ts : List Str) : (tupleText ts).length ≤ piled ts + 3 := by
  unfold tupleText
  rw [strLen_append, strLen_append]
  have e1 : (Str.ofString "(").length = 1 := rfl
  have e2 : ((if ts.length == 1 then ",)" else ")" : String) : Str).length ≤ 2 := by
    split
    · exact Nat.le_refl 2
    · exact (by decide : 1 ≤ 2)
  have e3 : (Str.join ", " ts).length ≤ piled ts := by
    cases ts with
    | nil => exact Nat.zero_le _
    | cons x r =>
      have := join_length_add (x :: r) (by simp)
      omega
  omega
theorem piled_le {L : Nat} : ∀ {ds : List PyData}, (∀ d ∈ ds, d.shown.length ≤ L) → piled (PyData.shownAll ds) ≤ ds.length * (L + 2)
  | [], _ => Nat.zero_le _
  | d :: r, h => by
    have ih := piled_le (ds := r) fun x hx => h x (List.mem_cons_of_mem _ hx)
    have h1 := h d (List.mem_cons_self ..)
    have p : piled (PyData.shownAll (d :: r)) = d.shown.length + 2 + piled (PyData.shownAll r) := by
      show piled (d.shown :: PyData.shownAll r) = _
      exact piled_cons _ _
    rw [p, List.length_cons, Nat.succ_mul]
    omega
structure Sh (k L : Nat) (d : PyData) : Prop where
  s : d.showable = true
  n : d.hasDict = false
  k : d.depth ≤ k
  l : d.shown.length ≤ L
theorem all_show : ∀ {ds : List PyData}, (∀ d ∈ ds, d.showable = true) → PyData.showableAll ds = true
  | [], _ => rfl
  | d :: r, h => by
    unfold PyData.showableAll
    rw [h d (List.mem_cons_self ..), all_show fun x hx => h x (List.mem_cons_of_mem _ hx)]
    rfl
theorem all_noDict : ∀ {ds : List PyData}, (∀ d ∈ ds, d.hasDict = false) → PyData.hasDictAll ds = false
  | [], _ => rfl
  | d :: r, h => by
    unfold PyData.hasDictAll
    rw [h d (List.mem_cons_self ..), all_noDict fun x hx => h x (List.mem_cons_of_mem _ hx)]
    rfl
theorem all_depth {k : Nat} : ∀ {ds : List PyData}, (∀ d ∈ ds, d.depth ≤ k) → PyData.depthAll ds ≤ k
  | [], _ => Nat.zero_le _
  | d :: r, h => by
    unfold PyData.depthAll
    have h1 := h d (List.mem_cons_self ..)
    have h2 := all_depth (ds := r) fun x hx => h x (List.mem_cons_of_mem _ hx)
    omega
theorem Sh.list {k L n : Nat} {ds : List PyData} (h : ∀ d ∈ ds, Sh k L d) (hn : ds.length ≤ n) : Sh (k + 1) (n * (L + 2) + 3) (.list ds) := by
  refine ⟨?_, ?_, ?_, ?_⟩
  · unfold PyData.showable
    exact all_show fun d hd => (h d hd).s
  · unfold PyData.hasDict
    exact all_noDict fun d hd => (h d hd).n
  · unfold PyData.depth
    have := all_depth fun d hd => (h d hd).k
    omega
  · unfold PyData.shown
    have h1 := list_le (PyData.shownAll ds)
    have h2 := piled_le fun d hd => (h d hd).l
    have h3 := Nat.mul_le_mul_right (L + 2) hn
    omega
theorem Sh.tuple {k L n : Nat} {ds : List PyData} (h : ∀ d ∈ ds, Sh k L d) (hn : ds.length ≤ n) : Sh (k + 1) (n * (L + 2) + 3) (.tuple ds) := by
  refine ⟨?_, ?_, ?_, ?_⟩
  · unfold PyData.showable
    exact all_show fun d hd => (h d hd).s
  · unfold PyData.hasDict
    exact all_noDict fun d hd => (h d hd).n
  · unfold PyData.depth
    have := all_depth fun d hd => (h d hd).k
    omega
  · unfold PyData.shown
    have h1 := tuple_le (PyData.shownAll ds)
    have h2 := piled_le fun d hd => (h d hd).l
    have h3 := Nat.mul_le_mul_right (L + 2) hn
    omega
theorem Sh.int {i : Int} (h0 : 0 ≤ i) (h : i < 10 ^ 12) : Sh 0 20 (.int i) := by
  have hn : i.natAbs < 10 ^ 12 := by
    have e : (10 : Int) ^ 12 = 1000000000000 := by decide
    have e2 : (10 : Nat) ^ 12 = 1000000000000 := by decide
    omega
  refine ⟨decide_eq_true ?_, rfl, Nat.zero_le _, ?_⟩
  · by_cases z : i.natAbs = 0
    · rw [z]
      decide
    · exact Nat.lt_of_lt_of_le ((Nat.log2_lt z).mpr (Nat.lt_of_lt_of_le hn (by decide : 10 ^ 12 ≤ 2 ^ 40))) (by decide)
  · show (Str.ofString (toString i)).length ≤ 20
    exact Nat.le_trans (toString_length_le h0 (k := 12) (by decide) h) (by decide)
theorem Sh.up {k k' L L' : Nat} {d : PyData} (h : Sh k L d) (hk : k ≤ k') (hl : L ≤ L') : Sh k' L' d := ⟨h.s, h.n, Nat.le_trans h.k hk, Nat.le_trans h.l hl⟩
theorem Sh.str {z : Str} {n : Nat} (h : Asc z) (hn : z.length ≤ n) : Sh 0 (10 * n + 2) (.str z) := by
  refine ⟨rfl, rfl, Nat.zero_le _, ?_⟩
  have := PySem.StrLaws.reprText_len z fun c hc => Nat.lt_of_lt_of_le (h c hc) (by decide)
  show (reprText z).length ≤ _
  omega
theorem name_chars {z : Str} (h : nameB z = true) : ∀ c ∈ z.cps.toList, 97 ≤ c ∧ c ≤ 122 := fun c hc => by
  rw [nameB_eq] at h
  simp only [Bool.and_eq_true] at h
  have := List.all_eq_true.mp h.2.2.2 c hc
  rw [Bool.and_eq_true, decide_eq_true_eq, decide_eq_true_eq] at this
  exact this
theorem name_asc {z : Str} (h : nameB z = true) : Asc z := fun c hc => by
  have := name_chars h c hc
  omega
theorem tl_word (z : Str) (m : Nat) : TL.tl (wordS (some (z, m))) = z.cps.toList ++ 58 :: TL.numL m := by
  show TL.tl (z ++ ":" ++ (toString ((m : Nat) : Int) : String)) = _
  rw [TL.tl_append, TL.tl_append, TL.tl_num, show TL.tl ":" = [58] from by decide +kernel, List.append_assoc]
  rfl
theorem word_chars {e : Ev} (h : EvOk e) : ∀ c ∈ TL.tl (wordS e), c ≠ 32 ∧ c < 256 := by
  match e, h with
  | none, _ => exact (by decide +kernel : ∀ c ∈ TL.tl ("/" : Str), c ≠ 32 ∧ c < 256)
  | some (z, m), h =>
    intro c hc
    rw [tl_word] at hc
    rcases List.mem_append.mp hc with h1 | h1
    · have := name_chars h.1 c h1
      omega
    · rcases List.mem_cons.mp h1 with h1 | h1
      · omega
      · have := TL.numL_digits m c h1
        omega
theorem word_asc {e : Ev} (h : EvOk e) : Asc (wordS e) := fun c hc => (word_chars h c hc).2
theorem cut_mk : ∀ {a b : List Nat}, 58 ∉ a → cut (a ++ 58 :: b) = some (a, b)
  | [], b, _ => by
    show cut (58 :: b) = _
    unfold cut
    rw [if_pos rfl]
  | c :: a, b, h => by
    show cut (c :: (a ++ 58 :: b)) = _
    unfold cut
    rw [if_neg (fun e => h (by rw [e]; exact List.mem_cons_self ..)), cut_mk (a := a) (b := b) fun hm => h (List.mem_cons_of_mem _ hm)]
    rfl
theorem lead {m : Nat} (h : (TL.numL m)[0]? = some 48) : m = 0 := by
  induction m using Nat.strongRecOn with
  | _ m ih =>
    by_cases h10 : m < 10
    · rw [TL.numL_lt h10] at h
      have := Option.some.inj h
      omega
    · rw [TL.numL_step (by omega)] at h
      have hne := TL.numL_ne (m / 10)
      rw [List.getElem?_append_left (List.length_pos_iff.mpr hne)] at h
      have := ih (m / 10) (by omega) h
      omega
theorem mkS_tl (z : Str) : mkS z.cps.toList = z := by
  cases z
  rfl
theorem fig_num {m : Nat} (h : m < 10 ^ 9) : figB (mkS (TL.numL m)) = true := by
  have h1 := TL.numL_len (n := m) (k := 9) (by decide) h
  have h2 := List.length_pos_iff.mpr (TL.numL_ne m)
  unfold figB
  simp only [Bool.and_eq_true, Bool.or_eq_true, decide_eq_true_eq, Bool.not_eq_true', decide_eq_false_iff_not]
  refine ⟨by rw [mkS_len]; exact h2, by rw [mkS_len]; omega, ?_, ?_⟩
  · rw [List.all_eq_true]
    intro c hc
    have := TL.numL_digits m c hc
    rw [Bool.and_eq_true]
    exact ⟨decide_eq_true this.1, decide_eq_true this.2⟩
  · by_cases h0 : m = 0
    · left
      rw [h0]
      decide +kernel
    · exact .inr fun e => h0 (lead e)
theorem evOf_word {e : Ev} (h : EvOk e) : evOf (wordS e) = some e := by
  match e, h with
  | none, _ => exact if_pos rfl
  | some (z, m), h =>
    have ht : (wordS (some (z, m))).cps.toList = z.cps.toList ++ 58 :: TL.numL m := tl_word z m
    have h58 : 58 ∉ z.cps.toList := fun hm => by
      have := name_chars h.1 58 hm
      omega
    have hne : ¬ wordS (some (z, m)) = "/" := fun e => by
      have h1 : (58 : Nat) ∈ (wordS (some (z, m))).cps.toList := by
        rw [ht]
        exact List.mem_append_right _ (List.mem_cons_self ..)
      rw [e] at h1
      exact absurd h1 (by decide +kernel)
    have hc := cut_mk (b := TL.numL m) h58
    rw [← ht] at hc
    rw [evOf_some hne hc, mkS_tl, h.1, fig_num h.2, TL.numL_val]
    rfl
theorem word_pos {e : Ev} : 1 ≤ (wordS e).length := by
  match e with
  | none => exact (by decide +kernel : 1 ≤ ("/" : Str).length)
  | some (z, m) =>
    show 1 ≤ (z ++ ":" ++ _).length
    rw [len_app, len_app, show (":" : Str).length = 1 from by decide +kernel]
    omega
theorem join_ge : ∀ {ys : List Str} {y : Str}, y ∈ ys → y.length ≤ (PySem.Str.join " " ys).length
  | [], _, h => absurd h List.not_mem_nil
  | [a], y, h => by
    rw [List.mem_singleton.mp h]
    exact Nat.le_refl _
  | a :: b :: r, y, h => by
    show _ ≤ (a ++ " " ++ PySem.Str.join " " (b :: r)).length
    rw [len_app, len_app]
    rcases List.mem_cons.mp h with h | h
    · rw [h]
      omega
    · have := join_ge (ys := b :: r) h
      omega
theorem words_text {es : List Ev} (h : ∀ e ∈ es, EvOk e) : wordsL (textS es) = es.map wordS := by
  cases es with
  | nil => exact if_pos rfl
  | cons e es =>
    have hne : ¬ textS (e :: es) = "" := fun z => by
      have h1 := join_ge (ys := (e :: es).map wordS) (y := wordS e) (List.mem_map_of_mem (List.mem_cons_self ..))
      have h2 : textS (e :: es) = PySem.Str.join " " ((e :: es).map wordS) := tjoin _
      rw [← h2, z, show ("" : Str).length = 0 from by decide +kernel] at h1
      have := word_pos (e := e)
      omega
    rw [wordsL_of hne]
    refine TL.split_join (s := 32) (S := []) (by decide +kernel) (by decide +kernel) (by simp) fun p hp hm => ?_
    obtain ⟨x, hx, rfl⟩ := List.mem_map.mp hp
    exact (word_chars (h x hx) 32 hm).1 rfl
theorem text_asc {es : List Ev} (h : ∀ e ∈ es, EvOk e) : Asc (textS es) := tjoin_asc fun y hy => by
  obtain ⟨x, hx, rfl⟩ := List.mem_map.mp hy
  exact word_asc (h x hx)
theorem text_len {es : List Ev} (h : ∀ e ∈ es, EvOk e) (hn : es.length ≤ 20) : (textS es).length ≤ 400 := by
  have h1 := join_le (es.map wordS)
  have h2 := words_len h
  rw [show textS es = PySem.Str.join " " (es.map wordS) from tjoin _]
  unfold wt at h1
  rw [List.length_map] at h1
  omega
theorem map_evOf {es : List Ev} (h : ∀ e ∈ es, EvOk e) : (es.map wordS).map evOf = es.map some := by
  rw [List.map_map]
  exact List.map_congr_left fun e he => evOf_word (h e he)
theorem some_inj : ∀ {a b : List Ev}, a.map some = b.map some → a = b
  | [], [], _ => rfl
  | [], _ :: _, h => by cases h
  | _ :: _, [], h => by cases h
  | x :: a, y :: b, h => by
    rw [List.map_cons, List.map_cons] at h
    obtain ⟨h1, h2⟩ := List.cons.inj h
    rw [Option.some.inj h1, some_inj h2]
def DueD (ws : List Str) (d : PyData) : Prop :=
  (∃ j, FirstNone ws j ∧ d = .tuple [.str "at", .int (j : Nat)]) ∨ ∃ es : List Ev, ws.map evOf = es.map some ∧ d = .tuple [.str "events", .list (es.map evD)]
theorem dueD_one {ws : List Str} {d d' : PyData} (h : DueD ws d) (h' : DueD ws d') : d = d' := by
  have mix : ∀ {j : Nat} {es : List Ev}, FirstNone ws j → ws.map evOf = es.map some → False := fun {j es} h1 h2 => by
    have h3 := h1.1
    rw [h2, List.getElem?_map] at h3
    cases h4 : es[j]? with
    | none =>
      rw [h4] at h3
      cases h3
    | some e =>
      rw [h4] at h3
      cases h3
  have half : ∀ {i j : Nat}, FirstNone ws i → FirstNone ws j → ¬ i < j := fun {i j} h1 h2 hl => by
    obtain ⟨e, he⟩ := h2.2 i hl
    rw [h1.1] at he
    cases he
  rcases h with ⟨j, h, rfl⟩ | ⟨es, h, rfl⟩
  · rcases h' with ⟨i, h', rfl⟩ | ⟨es, h', rfl⟩
    · have h1 := half h h'
      have h2 := half h' h
      rw [show i = j from by omega]
    · exact (mix h h').elim
  · rcases h' with ⟨i, h', rfl⟩ | ⟨es', h', rfl⟩
    · exact (mix h' h).elim
    · rw [some_inj (h.symm.trans h')]
theorem evs_dp {K : PySem.W.Frag} {H : Hp} {vs : List V} {es : List Ev} (h : EvsAt H vs es) : DpAll K H vs (es.map evD) := by
  induction h with
  | nil => exact .nil
  | cons a _ ih => exact .cons (ev_dp a) ih
theorem due_dp {K : PySem.W.Frag} {H : Hp} {ws : List Str} {t : Addr} (h : DueAt H ws t) : ∃ d, DueD ws d ∧ Dp K H (.ref t) d := by
  rcases h with ⟨j, h1, h2, h3⟩ | ⟨l, vs, es, h1, h2, h3, h4⟩
  · exact ⟨_, .inl ⟨j, ⟨h1, h2⟩, rfl⟩, .tup (SqT.of h3) (.cons (.str _) (.cons (.int _) .nil))⟩
  · exact ⟨_, .inr ⟨es, h1, rfl⟩, .tup (SqT.of h2) (.cons (.str _) (.cons (.lst (SqL.of h3) (evs_dp h4)) .nil))⟩
def EvLay : Ev → Prop
  | none => True
  | some (z, m) => nameB z = true ∧ m < 10 ^ 12
theorem ev_sh {e : Ev} (h : EvLay e) : Sh 1 255 (evD e) := by
  match e, h with
  | none, _ => exact (Sh.tuple (k := 0) (L := 82) (n := 1) (ds := [.str "close"]) (fun d hd => by
      rw [List.mem_singleton.mp hd]
      exact (Sh.str (n := 8) (by decide +kernel) (by decide +kernel)).up (Nat.le_refl _) (by decide)) (by decide)).up (Nat.le_refl _) (by decide)
  | some (z, m), h =>
    refine Sh.tuple (k := 0) (L := 82) (n := 3) (ds := [.str "open", .str z, .int (m : Nat)]) (fun d hd => ?_) (by show 3 ≤ 3; decide)
    rcases List.mem_cons.mp hd with rfl | hd
    · exact (Sh.str (n := 8) (by decide +kernel) (by decide +kernel)).up (Nat.le_refl _) (by decide)
    · rcases List.mem_cons.mp hd with rfl | hd
      · exact (Sh.str (n := 8) (name_asc h.1) (name_len h.1)).up (Nat.le_refl _) (by decide)
      · rw [List.mem_singleton.mp hd]
        exact (Sh.int (by omega) (by have : m < 10 ^ 12 := h.2; omega)).up (Nat.le_refl _) (by decide)
theorem digits_lt : ∀ (k : Nat) (b : List Nat), (b.all fun c => decide (48 ≤ c) && decide (c ≤ 57)) = true → b.length ≤ k → NumText.digitsVal b < 10 ^ k
  | 0, b, _, h => by
    rw [List.length_eq_zero_iff.mp (Nat.le_zero.mp h)]
    decide
  | k + 1, b, hb, h => by
    have e10 : (10 : Nat) ^ (k + 1) = 10 ^ k * 10 := Nat.pow_succ ..
    rcases List.eq_nil_or_concat b with rfl | ⟨b', c, rfl⟩
    · show 0 < _
      have : 0 < 10 ^ k := Nat.pow_pos (by decide)
      omega
    · rw [List.concat_eq_append] at hb h ⊢
      rw [NumText.digitsVal_snoc]
      rw [List.all_append, Bool.and_eq_true] at hb
      rw [List.length_append, List.length_singleton] at h
      have h1 := digits_lt k b' hb.1 (by omega)
      have h2 := List.all_eq_true.mp hb.2 c (List.mem_singleton.mpr rfl)
      rw [Bool.and_eq_true, decide_eq_true_eq, decide_eq_true_eq] at h2
      omega
theorem evOf_lay {z : Str} {e : Ev} (h : evOf z = some e) : EvLay e := by
  unfold evOf at h
  by_cases h0 : z = "/"
  · rw [if_pos h0] at h
    cases h
    exact True.intro
  · rw [if_neg h0] at h
    cases hc : cut z.cps.toList with
    | none =>
      rw [hc] at h
      cases h
    | some p =>
      obtain ⟨a, b⟩ := p
      rw [hc] at h
      have h' : (if (nameB (mkS a) && figB (mkS b)) = true then some (some (mkS a, NumText.digitsVal b)) else none) = some e := h
      by_cases hb : (nameB (mkS a) && figB (mkS b)) = true
      · rw [if_pos hb] at h'
        cases h'
        obtain ⟨h1, h2⟩ := Bool.and_eq_true_iff.mp hb
        refine ⟨h1, ?_⟩
        unfold figB at h2
        simp only [Bool.and_eq_true, decide_eq_true_eq] at h2
        obtain ⟨_, h3, h4, _⟩ := h2
        rw [mkS_len] at h3
        exact digits_lt 12 b h4 (by omega)
      · rw [if_neg hb] at h'
        cases h'
theorem evs_sh {es : List Ev} {n : Nat} (h : ∀ e ∈ es, EvLay e) (hn : es.length ≤ n) : Sh 2 (n * 257 + 3) (.list (es.map evD)) :=
  Sh.list (k := 1) (L := 255) (fun d hd => by
    obtain ⟨e, he, rfl⟩ := List.mem_map.mp hd
    exact ev_sh (h e he)) (by rw [List.length_map]; exact hn)
theorem due_sh {ws : List Str} {d : PyData} (h : DueD ws d) (hn : ws.length ≤ 1000) : Sh 3 520000 d := by
  rcases h with ⟨j, h, rfl⟩ | ⟨es, h, rfl⟩
  · have hj : j < ws.length := by
      have := (List.getElem?_eq_some_iff.mp h.1).1
      rw [List.length_map] at this
      exact this
    refine (Sh.tuple (k := 0) (L := 82) (n := 2) (ds := [.str "at", .int (j : Nat)]) (fun d hd => ?_) (by show 2 ≤ 2; decide)).up (by decide) (by decide)
    rcases List.mem_cons.mp hd with rfl | hd
    · exact (Sh.str (n := 8) (by decide +kernel) (by decide +kernel)).up (Nat.le_refl _) (by decide)
    · rw [List.mem_singleton.mp hd]
      exact (Sh.int (by omega) (by omega)).up (Nat.le_refl _) (by decide)
  · have hes : ∀ e ∈ es, EvLay e := fun e he => by
      have h1 : some e ∈ ws.map evOf := by
        rw [h]
        exact List.mem_map_of_mem he
      obtain ⟨w, _, hw⟩ := List.mem_map.mp h1
      exact evOf_lay hw
    have hl : es.length ≤ 1000 := by
      have := congrArg List.length h
      rw [List.length_map, List.length_map] at this
      omega
    refine (Sh.tuple (k := 2) (L := 257003) (n := 2) (ds := [.str "events", .list (es.map evD)]) (fun d hd => ?_) (by show 2 ≤ 2; decide)).up (by decide) (by decide)
    rcases List.mem_cons.mp hd with rfl | hd
    · exact (Sh.str (n := 8) (by decide +kernel) (by decide +kernel)).up (by decide) (by decide)
    · rw [List.mem_singleton.mp hd]
      exact (evs_sh hes hl).up (Nat.le_refl _) (by decide)
theorem passN {P : Program} {w : World} {X : Cx} : Passes (L2.CX P w) X (fun _ _ _ => False) := fun _ _ _ _ _ _ _ ⟨_, _, _, _, _, _, _, _, _, _, _, _, h⟩ => h.elim
theorem same_kp {p : Addr} {H H1 H2 : Hp} (s : Same H H1) (n : H p = none) (k : Kp p H1 H2) : Same H H2 := fun b o e => k b o (ne_of_none e n) (s b o e)
end Gx

set_option linter.all false
set_option maxRecDepth 100000
set_option maxHeartbeats 4000000
/-! own classes: static methods, str, ==, != by the text's own defs -/
namespace Wc
open PySem PySem.Spec PyProof.Rows L2
/-- C.m is a static method: its record at p, its def at g -/
structure CSta (K : PySem.W.Frag) (C : Addr) (mc : Value) (m : Str) (p g : Addr) : Prop where
  at_ : PySem.W.findCls K (.ref C) mc m = some (.get (.builtin "staticmethod.__get__") (.ref p) .none (.ref C))
  rc : ∃ rest, PySem.W.recIn K p "staticmethod" = some (.ref g :: rest)
  kp : PySem.W.keepIn K (.ref g) = true
def tStat (C : Addr) (sp : Sp) (E : XK) (ta : TE) (t : TA) : TE := fun σ H Q => ta σ H fun x H1 => x = .ref C ∧ t σ H1 fun vs H2 => sp vs H2 Q E
section
variable {X : Cx} {CX : CXT} {k : Nat} {C p g : Addr} {mc : Value} {fd : FuncData} {ps : List Str} {sp : Sp} {E : XK} {o e : Expr} {es : List Expr} {m : Str} {pos apos : Pos} {ta : TE} {t : TA} {pl : Sem Bool}
theorem pe_stat (he : PE X o ta) (r : ClX.CRead X.K C mc) (c : CSta X.K C mc m p g) (F : FnOk X.prog X.w X.K X.mg X.base CX k g fd ps sp) (hr : Room k X.A) (hb : Binds X.K fd ps []) (hx : Passes CX X E) (ha : PA X (e :: es) t)
    (hst : starEach (e :: es) X.env = (false, eval e X.env) :: starEach es X.env := by rfl) (hpl : (backTo pos (starEach es X.env)).any (·.1) = false := by rfl)
    (ht : eval (.Call (.Attribute o m apos) (e :: es) [] pos) X.env = (do
      let ov ← eval o X.env
      standAt apos.atName
      let (f, first) ← holding [ov] (getMethod ov m pl)
      callWith pos f first (backTo pos (starEach (e :: es) X.env)) (backToKw pos (keywordEach [] X.env))) := by rfl) :
    PE X (.Call (.Attribute o m apos) (e :: es) [] pos) (tStat C sp E ta t) := by
  constructor
  intro pins s σ H Q I h
  apply PySem.W.methodCall_KW (pl := pl) _ ht
  apply thn (he.run pins s σ H _ I h)
  rintro u s1 ⟨x, H1, J, rx, rfl, q⟩
  obtain rfl : u = Value.ref C := rx
  obtain ⟨rest, hp⟩ := c.rc
  apply PySem.W.method_cls J.kIn r.ga
  apply PySem.W.cls_bind J.kIn r.rd c.at_
  have J1 : Inv X pins σ H1 { s1 with toks := s1.toks + 1 } := J.tok _
  apply wpAny_call
  apply PySem.W.sm_get J1.kIn hp
  apply PySem.W.handed_on rfl
  refine PySem.W.callWith_K (h₀ := X.base) J1.ok.mod.kin c.kp (thn (ha.run pos pins _ σ H1 _ J1 q) fun us s2 hh => ?_) hst hpl
  obtain ⟨vs, H2, J2, rv, q2⟩ := hh
  have q2' : sp (vs ++ []) H2 Q E := by
    rw [List.append_nil]
    exact q2
  exact ⟨J2.kIn, run_fn F hr hb .nil hx J2 rv q2'⟩
/-- the callee below the running body -/
theorem run_below {pins : List (Addr × Obj)} {σ : L2.St} {H : Hp} {s : Shared} {A : Around} {Q : VK} {us : List Value} {ws : List V} (F : FnOk X.prog X.w X.K X.mg X.base CX k g fd ps sp) (hr : Room k A) (e0 : Env0 X.prog X.w X.K X.mg X.base A X.stack s H)
    (hb : Binds X.K fd ps []) (hx : Passes CX X E) (I : Inv X pins σ H s) (r : Vals ws us) (h : sp ws H Q E) : wpAny (model X.prog X.w) A (call (.ref g) us) (EP X pins σ Q) X.xe s := by
  have hl : us.length = ps.length := by
    rw [← r.length]
    exact F.len _ _ _ _ h
  have z := hb s us I.kIn (by rw [List.append_nil]; exact hl)
  rw [List.append_nil] at z
  apply wpAny_call
  refine codeAny_mono (F.run A X.stack s H ⟨us, []⟩ us ws Q E hr e0 z r h) fun r s' hq => ?_
  match r, hq with
  | .error e, hq => exact hx pins σ H s e s' I hq
  | .ok (.ret u), hq => exact I.after hq
  | .ok .next, hq => exact hq.elim
  | .ok .brk, hq => exact hq.elim
  | .ok .cont, hq => exact hq.elim
end
section
variable {X : Cx} {CX : CXT} {n : Nat} {C g : Addr} {fd : FuncData} {ps : List Str} {sp : Sp} {E : XK}
/-- str(o), o an instance of the class at C -/
def rStrO (C : Addr) (sp : Sp) (E : XK) : List V → Hp → VK → Prop := fun xs H Q => ∃ a dx fs, xs = [V.ref a] ∧ H a = some (.ins C dx fs) ∧ sp [.ref a] H (fun z G => ∃ y, z = .str y ∧ Q z G) E
theorem call_strO (hs : PySem.W.findIn X.K (.ref C) "__str__" = some (some (.ref g))) (hf : PySem.W.isFn X.K (.ref g) = true) (F : FnOk X.prog X.w X.K X.mg X.base CX n g fd ps sp) (hr : Room (n + 2) X.A) (hb : Binds X.K fd ps []) (hx : Passes CX X E) : CallR X (.type "str") (rStrO C sp E) := by
  intro pins s σ H xs us Q I r h
  obtain ⟨a, dx, fs, rfl, ha, q⟩ := h
  obtain ⟨u, rfl, ru⟩ := r.one
  cases (show u = Value.ref a from ru)
  obtain ⟨mA, O, _⟩ := ins_get I.hok ha
  obtain ⟨od, J, _⟩ := O.look
  have hr2 : Room n X.A.in1.in1 := (show Room (n + 1) X.A.in1 from Room.in1 hr).in1
  apply PySem.W.kso_call hr2.units0 I.kIn J hs hf
  apply wpAny_mono (run_below (us := [.ref a]) (ws := [.ref a]) F hr2 I.env0.in1.in1 hb hx I (.cons rfl .nil) q) _ fun _ _ z => z
  rintro w s' ⟨z, G, J', rz, y, rfl, qz⟩
  obtain ⟨t, rfl⟩ := (show ∃ t, w = Value.str y t from rz)
  exact ⟨.str y, G, J', ⟨t, rfl⟩, qz⟩
/-- a comparison whose def is the class's own -/
def rCmpO (K : PySem.W.Frag) (C : Addr) (sp : Sp) (E : XK) : R2 := fun x y H Q => ∃ a dx fs t, x = .ref a ∧ H a = some (.ins C dx fs) ∧ TyX K H y t ∧ PySem.W.notFirst K C t = true ∧ sp [x, y] H (fun z G => ∃ b, z = .bl b ∧ Q z G) E
theorem op_eqO (hs : PySem.W.findIn X.K (.ref C) "__eq__" = some (some (.ref g))) (hf : PySem.W.isFn X.K (.ref g) = true) (F : FnOk X.prog X.w X.K X.mg X.base CX n g fd ps sp) (hr : Room n X.A) (hb : Binds X.K fd ps []) (hx : Passes CX X E) : OpR X (compareOp .Eq) (rCmpO X.K C sp E) := by
  intro pins s σ H x y v u Q I rx ry h
  obtain ⟨a, dx, fs, t, rfl, ha, ty, hn, q⟩ := h
  cases (show v = Value.ref a from rx)
  obtain ⟨mA, O, _⟩ := ins_get I.hok ha
  obtain ⟨od, J, _⟩ := O.look
  obtain ⟨P, Z, p, _⟩ := kit_of I ry ty
  obtain ⟨m, hF⟩ := I.fr
  show wpAny _ _ (richCompare .Eq _ _) _ _ _
  refine PySem.W.cmp_K (op := .Eq) (tb := t) hr.units0 hF I.ok.mod.kin J (Z.ty _ _ I.kIn p) hn hs hf ?_
  apply wpAny_mono (run_below (us := [.ref a, u]) (ws := [.ref a, y]) F hr I.env0 hb hx I (.cons rfl (.cons ry .nil)) q) _ fun _ _ z => z
  rintro w s' ⟨z, G, J', rz, b, rfl, qz⟩
  cases (show w = Value.bool b from rz)
  exact ⟨.bl b, G, J', rfl, qz⟩
end
section
open PySem.W
variable {prog : Program} {w : World} {A : Around} {E : Value → Shared → Prop} {s : Shared} {K : PySem.W.Frag} {x C f : Addr} {ox : Obj} {od : Option Obj} {b tb : Value}
/-- a special method that is a built-in's slot, if bound -/
theorem bound_slot {M : Model} {id : String} {name : Str} {args : List Value} {Q : Option Value → Shared → Prop} (KX : K.In s.heap) (I : InstAt s.heap x ox C od) (hs : findIn K (.ref C) name = some (some (.builtin id)))
    (hb : ∀ self, bindSpecial (.builtin id) self = pure (.builtin id, [self])) (h : wpAny M A (call (.builtin id) (.ref x :: args)) (fun v => Q (some v)) E s) : wpAny M A (callSpecialIfBound? (.ref x) name args) Q E s := by
  simp only [callSpecialIfBound?, bindSpecialIfBound?]
  apply wpAny_holding
  apply wpAny_bind
  apply wpAny_bind
  apply wpAny_bind
  refine I.type.here ((looks_findIn KX hs).here ?_)
  apply wpAny_bind
  refine wpAny_askSetting (wpAny_ite ?_)
  have go : wpAny M A (call (.builtin id) ([.ref x] ++ args) >>= fun v => pure (some v)) Q E s := wpAny_bind (wpAny_mono h (fun _ _ z => wpAny_pure z) fun _ _ z => z)
  split
  · exact wpAny_bind ((Looks.of_pure (hb _)).here (wpAny_pure (by exact go)))
  · exact wpAny_tryCatch (wpAny_bind ((Looks.of_pure (hb _)).here (wpAny_pure (by exact go))))
theorem ne_K {Q : Value → Shared → Prop} (hu : A.units < cLine) (hu1 : A.in1.units < cLine) (KX : K.In s.heap) (I : InstAt s.heap x ox C od) (hb : Looks (model prog w) s.heap (typeOf b) tb) (hn : notFirst K C tb = true)
    (hne : findIn K (.ref C) "__ne__" = some (some (.builtin "object.__ne__"))) (hm : mroIn K C (.type "object") = some true) (hs : findIn K (.ref C) "__eq__" = some (some (.ref f))) (hf : isFn K (.ref f) = true)
    (h : wpAny (model prog w) A.in1 (call (.ref f) [.ref x, b]) (fun v s' => ∃ k, v = .bool k ∧ Q (.bool (!k)) s') E s) : wpAny (model prog w) A (richCompare .NotEq (.ref x) b) Q E s := by
  have inner : wpAny (model prog w) A (call (.builtin "object.__ne__") [.ref x, b]) (fun v s' => ∃ k, v = .bool (!k) ∧ Q (.bool (!k)) s') E s := by
    refine wpAny_call (codeAny_call_builtin PySem.F.cmp_object.ne.plain PySem.F.cmpEntry_ne (check_slot (i := "object.__ne__") (owner := "object") (n := "__ne__") (by decide +kernel) (by decide +kernel) (I.type.andThen (looks_mroIn KX hm)) (PySem.F.cmpArgs_ne _ _) ?_))
    delta Builtin.«object.__ne__»
    repeat (first
      | with_reducible refine wpAny_cRoomFor hu1 ?_
      | (refine wpAny_bind (m := callSpecialIfBound? (.ref x) (Str.ofString "__eq__") [b]) (ifBound_K KX I hs hf (wpAny_mono h (fun r s' hr => by
          obtain ⟨k, rfl, hq⟩ := hr
          repeat (first | exact ⟨k, rfl, hq⟩ | exact wpAny_pure ⟨k, rfl, hq⟩ | exact wpAny_truthy_bool ⟨k, rfl, hq⟩ | (refine wpAny_bind (m := truthy (.bool _)) (wpAny_truthy_bool ?_)) | wp_step)) fun _ _ z => z)))
      | wp_step)
  have one : wpAny (model prog w) A (tryCompare (.ref x) "__ne__" b) (fun r s' => ∃ v, r = some v ∧ Q v s') E s := by
    delta tryCompare
    apply wpAny_bind
    apply bound_slot KX I hne PySem.F.cmp_object.ne.bind
    apply wpAny_mono inner _ fun _ _ z => z
    rintro v s' ⟨k, rfl, hq⟩
    exact wpAny_pure ⟨_, rfl, hq⟩
  delta richCompare
  simp only [oneThing_ref]
  apply wpAny_holding
  apply wpAny_bind
  apply wpAny_cRoomFor hu
  rw [PySem.cmpInfo_NotEq]
  refine wpAny_bind (I.type.here (wpAny_bind (hb.here ?_)))
  split
  · rename_i q
    have e : subIn K tb (.ref C) = some false := by
      rcases Bool.or_eq_true_iff.mp hn with e | e
      · rw [beq_iff_eq.mp e] at q
        simp at q
      · exact beq_iff_eq.mp e
    refine wpAny_bind ((looks_subIn KX e).here ?_)
    simp only [Bool.false_eq_true, if_false]
    apply wpAny_bind
    apply wpAny_mono one _ fun _ _ z => z
    rintro r s' ⟨v, rfl, hq⟩
    exact wpAny_pure hq
  · apply wpAny_bind
    apply wpAny_pure
    simp only [Bool.false_eq_true, if_false]
    apply wpAny_bind
    apply wpAny_mono one _ fun _ _ z => z
    rintro r s' ⟨v, rfl, hq⟩
    exact wpAny_pure hq
end
section
variable {X : Cx} {CX : CXT} {n : Nat} {C g : Addr} {fd : FuncData} {ps : List Str} {sp : Sp} {E : XK}
/-- x != y where the class has an own == alone -/
def rNeO (K : PySem.W.Frag) (C : Addr) (sp : Sp) (E : XK) : R2 := fun x y H Q => ∃ a dx fs t, x = .ref a ∧ H a = some (.ins C dx fs) ∧ TyX K H y t ∧ PySem.W.notFirst K C t = true ∧ sp [x, y] H (fun z G => ∃ b, z = .bl b ∧ Q (.bl (!b)) G) E
theorem op_neO (hne : PySem.W.findIn X.K (.ref C) "__ne__" = some (some (.builtin "object.__ne__"))) (hm : PySem.W.mroIn X.K C (.type "object") = some true) (hs : PySem.W.findIn X.K (.ref C) "__eq__" = some (some (.ref g))) (hf : PySem.W.isFn X.K (.ref g) = true)
    (F : FnOk X.prog X.w X.K X.mg X.base CX n g fd ps sp) (hr : Room (n + 1) X.A) (hb : Binds X.K fd ps []) (hx : Passes CX X E) : OpR X (compareOp .NotEq) (rNeO X.K C sp E) := by
  intro pins s σ H x y v u Q I rx ry h
  obtain ⟨a, dx, fs, t, rfl, ha, ty, hn, q⟩ := h
  cases (show v = Value.ref a from rx)
  obtain ⟨mA, O, _⟩ := ins_get I.hok ha
  obtain ⟨od, J, _⟩ := O.look
  obtain ⟨P, Z, p, _⟩ := kit_of I ry ty
  have hr1 : Room n X.A.in1 := Room.in1 hr
  show wpAny _ _ (richCompare .NotEq _ _) _ _ _
  refine ne_K (tb := t) hr.units0 hr1.units0 I.kIn J (Z.ty _ _ I.kIn p) hn hne hm hs hf ?_
  apply wpAny_mono (run_below (us := [.ref a, u]) (ws := [.ref a, y]) F hr1 I.env0.in1 hb hx I (.cons rfl (.cons ry .nil)) q) _ fun _ _ z => z
  rintro w s' ⟨z, G, J', rz, b, rfl, qz⟩
  cases (show w = Value.bool b from rz)
  exact ⟨b, rfl, .bl (!b), G, J', rfl, qz⟩
end
end Wc

set_option linter.all false
set_option maxRecDepth 100000
set_option maxHeartbeats 4000000
/-! static methods that may raise, within a try; isinstance of a caught error against some classes -/
namespace Wc
open PySem PySem.Spec PyProof.Rows L2
def tStatS (C : Addr) (sp : Sp) (E : L2.St → XK) (ta : TE) (t : TA) : TE := fun σ H Q => ta σ H fun x H1 => x = .ref C ∧ t σ H1 fun vs H2 => sp vs H2 Q (E σ)
section
variable {X : Cx} {CX : CXT} {k : Nat} {C p g : Addr} {mc : Value} {fd : FuncData} {ps : List Str} {sp : Sp} {E : L2.St → XK} {o e : Expr} {es : List Expr} {m : Str} {pos apos : Pos} {ta : TE} {t : TA} {pl : Sem Bool}
theorem pe_statS (he : PE X o ta) (r : ClX.CRead X.K C mc) (c : CSta X.K C mc m p g) (F : FnOk X.prog X.w X.K X.mg X.base CX k g fd ps sp) (hr : Room k X.A) (hb : Binds X.K fd ps []) (hx : ∀ σ, PassesAt CX X σ (E σ)) (ha : PA X (e :: es) t)
    (hst : starEach (e :: es) X.env = (false, eval e X.env) :: starEach es X.env := by rfl) (hpl : (backTo pos (starEach es X.env)).any (·.1) = false := by rfl)
    (ht : eval (.Call (.Attribute o m apos) (e :: es) [] pos) X.env = (do
      let ov ← eval o X.env
      standAt apos.atName
      let (f, first) ← holding [ov] (getMethod ov m pl)
      callWith pos f first (backTo pos (starEach (e :: es) X.env)) (backToKw pos (keywordEach [] X.env))) := by rfl) :
    PE X (.Call (.Attribute o m apos) (e :: es) [] pos) (tStatS C sp E ta t) := by
  constructor
  intro pins s σ H Q I h
  apply PySem.W.methodCall_KW (pl := pl) _ ht
  apply thn (he.run pins s σ H _ I h)
  rintro u s1 ⟨x, H1, J, rx, rfl, q⟩
  obtain rfl : u = Value.ref C := rx
  obtain ⟨rest, hp⟩ := c.rc
  apply PySem.W.method_cls J.kIn r.ga
  apply PySem.W.cls_bind J.kIn r.rd c.at_
  have J1 : Inv X pins σ H1 { s1 with toks := s1.toks + 1 } := J.tok _
  apply wpAny_call
  apply PySem.W.sm_get J1.kIn hp
  apply PySem.W.handed_on rfl
  refine PySem.W.callWith_K (h₀ := X.base) J1.ok.mod.kin c.kp (thn (ha.run pos pins _ σ H1 _ J1 q) fun us s2 hh => ?_) hst hpl
  obtain ⟨vs, H2, J2, rv, q2⟩ := hh
  exact ⟨J2.kIn, run_fnS F hr hb (hx σ) J2 rv q2⟩
end
def rIsDT (K : PySem.W.Frag) (a : Addr) (cls : Value) (d : Option Addr) : List V → Hp → VK → Prop := fun xs H Q => ∃ (D dd tp : Addr) (fs : List (Str × V)) (cs : List V) (us : List Value) (b : Bool), xs = [.ref a, .ref tp] ∧ cls = .ref D ∧ d = some dd ∧ H dd = some (.xd fs) ∧ ExcC K D ∧ H tp = some (.tup cs) ∧ Paired ClsV cs us ∧ PySem.W.kitAny K (.ref D) us = some b ∧ Q (.bl b) H
theorem call_isDT {X : Cx} {a : Addr} {cls : Value} {d : Option Addr} {oe : Obj} {pn : List (Addr × Obj)} (hz : Zc cls d oe) (hf : ∃ vs, oe.data = .fields vs) : CallR (X.suite a ((a, oe) :: pn)) (.builtin "isinstance") (rIsDT X.K a cls d) := by
  intro pins s σ H xs us Q I r h
  obtain ⟨D, dd, tp, fs, cs, ws, b, rfl, rfl, rfl, ed, T, hT, k, e, q⟩ := h
  cases r with
  | cons rx rr =>
    cases rr with
    | cons rt rr =>
      cases rr
      cases rx
      cases rt
      have hcl : (PySem.W.clsIn X.K D).isSome = true := by
        obtain ⟨cd, hc, _⟩ := PySem.W.any_some T.hd
        rw [hc] <;> rfl
      obtain ⟨hget, _⟩ := I.pin (a, oe) (List.mem_append.mpr (.inl List.mem_cons_self))
      obtain ⟨vs, hv⟩ := hf
      have hx : ObjOk X.prog X.w H s.heap dd (.xd fs) := I.hok dd _ ed
      obtain ⟨mA, ⟨o, es, ep, ho, hr⟩, _⟩ := hx
      have J : PySem.W.InstAt s.heap a oe D (some o) := ⟨hget, hz.1, by unfold PySem.W.notCls; rw [hv] <;> rfl, by rw [hz.2]; exact ho⟩
      obtain ⟨_, its, rv, ob, h1, h2, n, h3⟩ := (show ObjOk X.prog X.w H s.heap tp (.tup cs) from I.hok tp _ hT)
      have e3 := ClsV.all k rv
      subst e3
      obtain ⟨oc, od, dt, sl⟩ := ob
      simp only at h2 h3
      subst h2 h3
      exact PySem.W.kia_tup (PySem.W.kitx_exc hcl T.hg T.hk T.hs T.ha T.hn T.ht T.hm) I.kIn J h1 e (fun z => nomatch z) fun tk => ⟨.bl b, H, I.kept (t' := tk) fun _ _ z => z, rfl, q⟩
end Wc

set_option linter.all false
set_option maxRecDepth 100000
set_option maxHeartbeats 8000000
namespace R4
open PySem PySem.Spec PyProof.Rows L2 Gx
def topS (i : Nat) : Stmt := PySem.Challenge.pw_keptnomore_k16_rules_read_and_shown.main.body.getD i (.Pass ⟨0, 0, 0, 0⟩)
abbrev s_words_in : Stmt := topS 9
abbrev n_words_in : List Str := ["row"]
theorem sc_words_in : FnScope n_words_in ["row"] (defScope s_words_in) := ⟨rfl, rfl, rfl, by decide +kernel, rfl, by decide +kernel, by decide +kernel⟩
abbrev s_consists : Stmt := topS 10
abbrev n_consists : List Str := ["word", "low", "high", "most", "sign"]
theorem sc_consists : FnScope n_consists ["word", "low", "high", "most"] (defScope s_consists) := ⟨rfl, rfl, rfl, by decide +kernel, rfl, by decide +kernel, by decide +kernel⟩
abbrev s_box : Stmt := topS 15
abbrev n_box : List Str := ["_law_script", "_law_k", "_law_own", "_law_cell", "_law_seed"]
theorem sc_box : FnScope n_box ["_law_script", "_law_k", "_law_own"] (defScope s_box) := ⟨rfl, rfl, rfl, by decide +kernel, rfl, by decide +kernel, by decide +kernel⟩
abbrev s_own : Stmt := topS 2
abbrev n_own : List Str := ["value", "item", "key"]
theorem sc_own : FnScope n_own ["value"] (defScope s_own) := ⟨rfl, rfl, rfl, by decide +kernel, rfl, by decide +kernel, by decide +kernel⟩
section
variable {P : Program} {w : World} {K : PySem.W.Frag} {mg : Str → Option Value} {base : Heap}
theorem ok_words_in {f : Addr} {fd : FuncData} (F : Fun K "words_in" "words_in" s_words_in f fd) : FnOk P w K mg base CX0 1 f fd ["row"] spWords := by
  refine F.ok sc_words_in (fun vs H Q E h => ?_) (fun cdv A outer s H vs Q E hr h => ?_)
  · obtain ⟨z, rfl, _⟩ := h
    rfl
  · obtain ⟨z, rfl, hz, q⟩ := h
    refine ⟨_, (pss_cons (ps_if (pt_cmpR op_eq (pv 0) pe_str (nomark _)) (pss_one (ps_ret (pe_lst pa_nil))) pss_nil)
  (pss_one (ps_ret (pe_split (pv 0) pe_str)))), ?_⟩
    refine ⟨_, rfl, rfl, _, rfl, ite2 (fun h0 => ?_) (fun h0 => ?_)⟩
    · have e0 : z = "" := V.str.inj (of_decide_eq_true h0)
      refine ⟨Nat.zero_le _, fun a na => q a _ (new_same na) na ?_⟩
      rw [wordsL, if_pos e0]
      exact upd_same
    · have e0 : ¬ z = "" := fun h => h0 (decide_eq_true (congrArg V.str h))
      refine ⟨_, rfl, ⟨_, rfl⟩, _, _, rfl, rfl, by decide +kernel, (by rw [sizeLine_eq]; omega), fun L nL => ?_⟩
      refine q L _ (new_same nL) nL ?_
      rw [wordsL_of e0]
      exact upd_same
theorem ok_consists {f : Addr} {fd : FuncData} (F : Fun K "consists_of" "consists_of" s_consists f fd) (T : NmC mg) : FnOk P w K mg base CX0 1 f fd ["word", "low", "high", "most"] spCons := by
  refine F.ok sc_consists (fun vs H Q E h => ?_) (fun cdv A outer s H vs Q E hr h => ?_)
  · obtain ⟨z, lo, hi, l, h, most, rfl, _⟩ := h
    rfl
  · obtain ⟨z, lo, hi, l, h, most, rfl, hz, el, eh, q⟩ := h
    have hz' : z.length ≤ sizeLine := Nat.le_of_lt (small1000 hz)
    refine ⟨_, pss_one (ps_ret (pe_and (pe_chain op_le op_le pe_int (pe_callB call_len_str (by rfl) T.n_len (by decide +kernel) (pa_cons (pv 0) pa_nil)) (pv 3))
      (pe_one (pe_callB (cr_all rfl) (by rfl) T.n_all (by decide +kernel) (pa_cons (pe_lc (own := [("sign", 4)]) (g := gName 4) (tt := tYes) rfl sc_consists.nd (pi_str (pv 0)) (blkOk_by (own := [("sign", 4)]) (N := n_consists) (sc := defScope s_consists) (by decide +kernel)) (fun _ _ _ _ _ => (pg_name (i := 4) sc_consists.nd rfl (.inl rfl))) (fun _ _ _ _ _ => pts_nil) (fun _ _ _ _ _ => (pe_chain op_le_str op_le_str (pv 1) (pv 4) (pv 2)))) pa_nil))))), ?_⟩
    refine ⟨_, rfl, z, rfl, hz', _, _, rfl, rfl, _, rfl, ite2 (fun h0 => ?_) (fun h0 => ?_)⟩
    · have h0' : 0 < z.length := by
        have := of_decide_eq_true h0
        omega
      refine ⟨_, rfl, _, _, rfl, rfl, _, rfl, ite2 (fun h1 => ?_) (fun h1 => ?_)⟩
      · have h1' : z.length ≤ most := by
          have := of_decide_eq_true h1
          omega
        refine ⟨_, rfl, z, rfl, fun D nD => ?_⟩
        refine lc_it walk_str (fun i Hi => (∀ b o, b ≠ D → H b = some o → Hi b = some o) ∧ Hi D = some (.lst (((z.cps.toList.take i).map fun c => decide (l ≤ c) && decide (c ≤ h)).map V.bl)))
          ⟨fun b o x e => by rw [upd_ne x]; exact e, upd_same⟩ (fun _ _ _ _ => True.intro) (fun i x Hi Hj hil p y => ?_) (fun Hi p => ?_)
        · obtain ⟨rfl, c, hc, rfl⟩ := y
          have hcl : z.cps.toList[i]? = some c := by rw [Array.getElem?_toList]; exact hc
          have fin : ∀ k : Bool, k = (decide (l ≤ c) && decide (c ≤ h)) → ∃ acc, Hj D = some (.lst acc) ∧ acc.length < sizeLine ∧ (∀ b o, b ≠ D → H b = some o → upd Hj D (.lst (acc ++ [.bl k])) b = some o) ∧ upd Hj D (.lst (acc ++ [.bl k])) D = some (.lst (((z.cps.toList.take (i + 1)).map fun c => decide (l ≤ c) && decide (c ≤ h)).map V.bl)) := fun k hk => by
            refine ⟨_, p.2, ?_, fun b o x e => by rw [upd_ne x]; exact p.1 b o x e, ?_⟩
            · rw [List.length_map, List.length_map, List.length_take]
              exact small1000 (Nat.le_trans (Nat.min_le_right _ _) hz)
            · rw [upd_same, take_snoc hcl, List.map_append, List.map_append, hk]
              rfl
          refine ⟨rfl, keep1' ?_⟩
          refine ⟨_, rfl, _, rfl, _, _, rfl, rfl, _, rfl, ?_⟩
          have a1 : (!decide ((⟨#[c]⟩ : Str).cps.toList < lo.cps.toList)) = decide (l ≤ c) := by
            rw [el, show (⟨#[c]⟩ : Str).cps.toList = [c] from rfl, lt_one, ← decide_not]
            exact decide_eq_decide.mpr Nat.not_lt
          have a2 : (!decide (hi.cps.toList < (⟨#[c]⟩ : Str).cps.toList)) = decide (c ≤ h) := by
            rw [eh, show (⟨#[c]⟩ : Str).cps.toList = [c] from rfl, lt_one, ← decide_not]
            exact decide_eq_decide.mpr Nat.not_lt
          rw [a1]
          refine ite2 (fun b0 => ?_) (fun b0 => ?_)
          · refine ⟨_, rfl, _, _, rfl, rfl, ?_⟩
            rw [a2]
            exact fin _ (by rw [b0, Bool.true_and])
          · exact fin false (by rw [Bool.eq_false_iff.mpr b0, Bool.false_and])
        · have eD := p.2
          rw [show z.cps.size = z.cps.toList.length from rfl, List.take_length] at eD
          refine ⟨D, _, rfl, SqL.of eD, ?_⟩
          have e : (z.cps.toList.map fun c => decide (l ≤ c) && decide (c ≤ h)).all id = consB l h most z := by
            rw [List.all_map]
            unfold consB
            rw [decide_eq_true h0', decide_eq_true h1']
            rfl
          rw [e]
          exact q _ fun b o e => p.1 b o (ne_of_none e nD) e
      · have e : consB l h most z = false := by
          have h2 : ¬ z.length ≤ most := fun h3 => h1 (decide_eq_true (by omega))
          unfold consB
          rw [decide_eq_false h2, Bool.false_and, Bool.and_false]
        rw [e] at q
        exact q H (Same.refl H)
    · have e : consB l h most z = false := by
        have h2 : ¬ 0 < z.length := fun h3 => h0 (decide_eq_true (by omega))
        unfold consB
        rw [decide_eq_false h2, Bool.false_and]
      rw [e] at q
      exact ⟨_, rfl, iteF (q H (Same.refl H))⟩
theorem ok_box {f : Addr} {fd : FuncData} (F : Fun K "_law_box" "_law_box" s_box f fd) (T : Nm mg) : FnOk P w K mg base CX0 1 f fd ["_law_script", "_law_k", "_law_own"] (spBox K) := by
  refine F.ok sc_box (fun vs H Q E h => ?_) (fun cdv A outer s H vs Q E hr h => ?_)
  · obtain ⟨l, ns, k, own, rfl, _⟩ := h
    rfl
  · obtain ⟨l, ns, k, own, rfl, hl, hk, ho, q⟩ := h
    refine ⟨_, (pss_cons (ps_set (i := 3) sc_box.nd rfl (.inl rfl) (pe_op op_add (pe_op op_add (pe_op op_mul pe_int (pv 1)) (pe_op op_mul pe_int (pv 2))) pe_int))
  (C8.pss_cut (ps_if (pt_cmpR op_lt (pv 1) (pe_callB call_len_seq (by rfl) T.n_len (by decide +kernel) (pa_cons (pv 0) pa_nil)) (nomark _)) (pss_one (ps_set (i := 3) sc_box.nd rfl (.inl rfl) (pe_callB call_abs (by rfl) T.n_abs (by decide +kernel) (pa_cons (pe_ix ix_list (pv 0) (pv 1) (fun _ _ => rfl)) pa_nil)))) (pss_one (ps_if (pt_cmpR op_gt (pe_callB call_len_seq (by rfl) T.n_len (by decide +kernel) (pa_cons (pv 0) pa_nil)) pe_int (nomark _)) (pss_one (ps_set (i := 3) sc_box.nd rfl (.inl rfl) (pe_op op_add (pv 3) (pe_op op_mul (pe_op op_mod (pe_callB call_abs (by rfl) T.n_abs (by decide +kernel) (pa_cons (pe_ix ix_list (pv 0) (pe_op op_mod (pv 1) (pe_callB call_len_seq (by rfl) T.n_len (by decide +kernel) (pa_cons (pv 0) pa_nil))) (fun _ _ => rfl)) pa_nil)) pe_int) pe_int)))) pss_nil)))
  (pss_cons (ps_set (i := 4) sc_box.nd rfl (.inl rfl) (pe_op op_add (pe_op op_mod (pe_op op_add (pe_op op_mul (pe_op op_mod (pv 3) pe_int) pe_int) (pe_op op_mul pe_int (pe_op op_add (pv 1) (pe_op op_mul pe_int (pv 2))))) pe_int) pe_int))
  (pss_one (ps_ret (pe_lst (pa_cons (pe_ix ix_list (pe_lst (pa_cons pe_int (pa_cons (pv 3) pa_nil))) (pe_callTy call_int1 (by rfl) T.n_int (by decide +kernel) (pa_cons (pe_cmpR op_ge (pv 3) (pe_op op_pow pe_int pe_int) (nomark _)) pa_nil)) (fun _ _ => rfl)) (pa_cons (pv 4) (pa_cons pe_int pa_nil))))))))), ?_⟩
    refine ⟨_, rfl, _, _, rfl, rfl, .inl ⟨by decide, by decide⟩, ?_⟩
    refine ⟨_, rfl, _, _, rfl, rfl, .inl ⟨by decide, by decide⟩, _, _, rfl, rfl, _, _, rfl, rfl, ?_⟩
    refine ⟨fun σ' H' => ∃ c : Int, σ' = [some (.ref l), some (.int (k : Int)), some (.int (own : Int)), some (.int c), none] ∧ H' = H ∧ 0 ≤ c, ?_, ?_⟩
    · have hlen : (ns.map V.int).length = ns.length := List.length_map ..
      refine ⟨_, rfl, _, rfl, l, _, rfl, .inl hl, _, _, rfl, rfl, _, rfl, ?_⟩
      refine ite2 (fun ct => ?_) (fun cf => ?_)
      · have ct' := of_decide_eq_true ct
        have hkl : k < ns.length := by omega
        refine ⟨_, rfl, _, rfl, l, _, _, _, rfl, rfl, hl, atInt hkl, _, rfl, ?_⟩
        exact ⟨_, rfl, rfl, abs_nn _⟩
      · refine ⟨_, rfl, l, _, rfl, .inl hl, _, _, rfl, rfl, _, rfl, ?_⟩
        refine ite2 (fun dt => ?_) (fun df => ?_)
        · have dt' := of_decide_eq_true dt
          have hpos : 0 < ns.length := by omega
          have hm : (k : Int) % ((ns.map V.int).length : Int) = ((k % ns.length : Nat) : Int) := by rw [hlen]; rfl
          refine ⟨_, rfl, _, rfl, _, rfl, _, rfl, l, _, rfl, .inl hl, _, _, rfl, rfl, (by show (0 : Int) < _; omega), l, _, _, _, rfl, rfl, hl, (by rw [hm]; exact atInt (Nat.mod_lt _ hpos)), _, rfl, ?_⟩
          refine ⟨_, _, rfl, rfl, (by show (0 : Int) < 2147483629; decide), _, _, rfl, rfl, .inr ⟨by decide, by decide⟩, _, _, rfl, rfl, ?_⟩
          refine ⟨_, rfl, rfl, ?_⟩
          have := Int.emod_nonneg (if ns[k % ns.length]'(Nat.mod_lt _ hpos) < 0 then -ns[k % ns.length]'(Nat.mod_lt _ hpos) else ns[k % ns.length]'(Nat.mod_lt _ hpos)) (show (2147483629 : Int) ≠ 0 by decide)
          omega
        · exact ⟨_, rfl, rfl, by omega⟩
    · rintro σ' H' ⟨c, rfl, rfl, hc⟩
      -- the seed
      refine ⟨_, rfl, _, _, rfl, rfl, (by show (0 : Int) < 2147483629; decide), _, _, rfl, rfl, .inr ⟨by decide, by decide⟩, ?_⟩
      refine ⟨_, rfl, _, rfl, _, _, rfl, rfl, .inl ⟨by decide, by decide⟩, _, _, rfl, rfl, _, _, rfl, rfl, .inl ⟨by decide, by decide⟩, _, _, rfl, rfl, ?_⟩
      refine ⟨_, _, rfl, rfl, (by show (0 : Int) < 2147483629; decide), _, _, rfl, rfl, ?_⟩
      -- [0, cell]
      refine ⟨_, rfl, (by show 2 ≤ sizeLine; decide), fun z hz => ?_⟩
      refine ⟨_, rfl, _, _, rfl, rfl, ⟨by decide, by decide, by decide⟩, _, _, rfl, rfl, .inr ⟨_, rfl, ?_⟩⟩
      have s1 : Same H' (upd H' z (.lst [.int 0, .int c])) := fun b o e => by
        rw [upd_ne (ne_of_none e hz)]
        exact e
      by_cases big : (10 : Int) ^ (18 : Nat) ≤ c
      · have ed : decide ((10 : Int) ^ (Int.toNat 18) ≤ c) = true := decide_eq_true big
        refine ⟨z, _, _, .int c, rfl, rfl, SqL.of upd_same, (by rw [ed]; rfl), _, rfl, (by show 3 ≤ sizeLine; decide), fun p hp => ?_⟩
        refine q p _ (s1.free hp) (fun b o e => ?_) ⟨c, _, 0, upd_same, hc, ?_, ?_, by decide, by decide⟩
        · rw [upd_ne (ne_of_none (s1 b o e) hp)]
          exact s1 b o e
        · omega
        · omega
      · have ed : decide ((10 : Int) ^ (Int.toNat 18) ≤ c) = false := decide_eq_false big
        refine ⟨z, _, _, .int 0, rfl, rfl, SqL.of upd_same, (by rw [ed]; rfl), _, rfl, (by show 3 ≤ sizeLine; decide), fun p hp => ?_⟩
        refine q p _ (s1.free hp) (fun b o e => ?_) ⟨0, _, 0, upd_same, by decide, ?_, ?_, by decide, by decide⟩
        · rw [upd_ne (ne_of_none (s1 b o e) hp)]
          exact s1 b o e
        · omega
        · omega
theorem ok_own {f : Addr} {fd : FuncData} (F : Fun K "own_copy" "own_copy" s_own f fd) (T : NmO mg K f) : FnOk P w K mg base CX0 1 f fd ["value"] spOwnF := by
  refine F.ok sc_own (fun vs H Q E h => ?_) (fun cdv A outer s H vs Q E hr h => ?_)
  · obtain ⟨v, rfl, _⟩ := h
    rfl
  · obtain ⟨v, rfl, hv, q⟩ := h
    refine ⟨_, pss_cons (ps_if (pt_val (pe_callB call_isi (by rfl) T.n_isinstance (by decide +kernel) (pa_cons (pv 0) (pa_cons (pe_bltn (v := .ty "list") (by rfl) T.n_list (by decide +kernel) rfl) pa_nil)))) pss_never pss_nil)
      (pss_cons (ps_if (pt_val (pe_callB call_isi (by rfl) T.n_isinstance (by decide +kernel) (pa_cons (pv 0) (pa_cons (pe_bltn (v := .ty "tuple") (by rfl) T.n_tuple (by decide +kernel) rfl) pa_nil)))) pss_never pss_nil)
      (pss_cons (ps_if (pt_val (pe_callB call_isi (by rfl) T.n_isinstance (by decide +kernel) (pa_cons (pv 0) (pa_cons (pe_bltn (v := .ty "dict") (by rfl) T.n_dict (by decide +kernel) rfl) pa_nil)))) pss_never pss_nil)
      (pss_one (ps_ret (pv 0))))), ?_⟩
    rcases hv with ⟨i, rfl⟩ | ⟨x, rfl⟩
    · refine ⟨_, rfl, _, _, _, _, _, rfl, .ty _, .base (.int i), kit_ty (by decide +kernel), _, rfl, iteF ?_⟩
      refine ⟨_, rfl, _, _, _, _, _, rfl, .ty _, .base (.int i), kit_ty (by decide +kernel), _, rfl, iteF ?_⟩
      refine ⟨_, rfl, _, _, _, _, _, rfl, .ty _, .base (.int i), kit_ty (by decide +kernel), _, rfl, iteF ?_⟩
      exact ⟨_, rfl, q⟩
    · refine ⟨_, rfl, _, _, _, _, _, rfl, .ty _, .base (.str x), kit_ty (by decide +kernel), _, rfl, iteF ?_⟩
      refine ⟨_, rfl, _, _, _, _, _, rfl, .ty _, .base (.str x), kit_ty (by decide +kernel), _, rfl, iteF ?_⟩
      refine ⟨_, rfl, _, _, _, _, _, rfl, .ty _, .base (.str x), kit_ty (by decide +kernel), _, rfl, iteF ?_⟩
      exact ⟨_, rfl, q⟩
end
end R4

set_option linter.all false
set_option maxRecDepth 100000
set_option maxHeartbeats 8000000
namespace R4
open PySem PySem.Spec PyProof.Rows L2 Gx
/-! ### draws -/
abbrev s_take : Stmt := topS 16
abbrev n_take : List Str := ["_law_box_here", "_law_many", "_law_digit", "_law_raw"]
theorem sc_take : FnScope n_take ["_law_box_here", "_law_many"] (defScope s_take) := ⟨rfl, rfl, rfl, by decide +kernel, rfl, by decide +kernel, by decide +kernel⟩
abbrev s_mixed : Stmt := topS 17
abbrev n_mixed : List Str := ["_law_box_here", "_law_items", "_law_left", "_law_found"]
theorem sc_mixed : FnScope n_mixed ["_law_box_here", "_law_items"] (defScope s_mixed) := ⟨rfl, rfl, rfl, by decide +kernel, rfl, by decide +kernel, by decide +kernel⟩
abbrev s_pick : Stmt := topS 18
abbrev n_pick : List Str := ["_law_box_here", "_law_items"]
theorem sc_pick : FnScope n_pick ["_law_box_here", "_law_items"] (defScope s_pick) := ⟨rfl, rfl, rfl, by decide +kernel, rfl, by decide +kernel, by decide +kernel⟩
abbrev s_caps : Stmt := topS 19
abbrev n_caps : List Str := ["_law_box_here", "_law_many", "_law_letters", "_law_first", "_law_stem", "_law_k"]
theorem sc_caps : FnScope n_caps ["_law_box_here", "_law_many"] (defScope s_caps) := ⟨rfl, rfl, rfl, by decide +kernel, rfl, by decide +kernel, by decide +kernel⟩
def spMix : Sp := fun vs H Q _ => ∃ (p l : Addr) (zs : List Str) (m : Nat), vs = [.ref p, .ref l] ∧ BoxAt H p m ∧ H l = some (.lst (zs.map V.str)) ∧ (∀ z ∈ zs, Asc z) ∧ zs.length ≤ 100 ∧ m ≤ 10000 ∧
  ∀ (r : Addr) (ys : List Str) (H' : Hp), H r = none → H' r = some (.lst (ys.map V.str)) → ys.length = zs.length → (∀ y ∈ ys, y ∈ zs) → BoxAt H' p (m + zs.length) → Kp p H H' → Q (.ref r) H'
def spPick : Sp := fun vs H Q _ => ∃ (p l : Addr) (xs : List V) (m : Nat), vs = [.ref p, .ref l] ∧ BoxAt H p m ∧ H l = some (.lst xs) ∧ l ≠ p ∧ 1 ≤ xs.length ∧ xs.length ≤ 100 ∧ m ≤ 100000 ∧
  ∀ (x : V) (H' : Hp), x ∈ xs → BoxAt H' p (m + 1) → Kp p H H' → Q x H'
def CapOk (z : Str) : Prop := z.length ≤ 4 ∧ Asc z
def spCaps : Sp := fun vs H Q _ => ∃ (p : Addr) (m : Nat), vs = [.ref p, .int 4] ∧ BoxAt H p m ∧ m ≤ 100 ∧
  ∀ (r : Addr) (ys : List Str) (H' : Hp), H r = none → H' r = some (.lst (ys.map V.str)) → ys.length = 4 → (∀ y ∈ ys, CapOk y) → BoxAt H' p (m + 10) → Kp p H H' → Q (.ref r) H'
structure NmM (mg : Str → Option Value) (K : PySem.W.Frag) (ft fx : Addr) : Prop where
  g__law_take : mg "_law_take" = some (.ref ft)
  k__law_take : PySem.W.keepIn K (.ref ft) = true
  g__law_mixed : mg "_law_mixed" = some (.ref fx)
  k__law_mixed : PySem.W.keepIn K (.ref fx) = true
  n_list : mg "list" = none
  n_len : mg "len" = none
  n_range : mg "range" = none
def lenAt (H : Hp) (a : Addr) : Nat := match H a with
  | some (.lst ls) => ls.length
  | _ => 0
theorem lenAt_of {H : Hp} {a : Addr} {ls : List V} (h : H a = some (.lst ls)) : lenAt H a = ls.length := by
  unfold lenAt
  rw [h]
theorem erase_map {α β : Type} (f : α → β) : ∀ (l : List α) (k : Nat), (l.map f).eraseIdx k = (l.eraseIdx k).map f
  | [], _ => rfl
  | _ :: _, 0 => rfl
  | a :: l, k + 1 => congrArg (f a :: ·) (erase_map f l k)
theorem caps_at : ∀ i, i < 26 → ("ABCDEFGHIJKLMNOPQRSTUVWXYZ" : Str).cps.toList[i]? = some (65 + i) := by decide +kernel
section
variable {P : Program} {w : World} {K : PySem.W.Frag} {mg : Str → Option Value} {base : Heap}
theorem ok_take {f : Addr} {fd : FuncData} (F : Fun K "_law_take" "_law_take" s_take f fd) : FnOk P w K mg base CX0 1 f fd ["_law_box_here", "_law_many"] spTake := by
  refine F.ok sc_take (fun vs H Q E h => ?_) (fun cdv A outer s H vs Q E hr h => ?_)
  · obtain ⟨p, many, m, rfl, _⟩ := h
    rfl
  · obtain ⟨p, many, m, rfl, ⟨c, sd, n, hb, hc, hs0, hs1, hn0, hn1⟩, hm, h0, h1, k⟩ := h
    refine ⟨_, (pss_cons (ps_if (pt_cmpR op_gt (pe_ix ix_list (pv 0) pe_int (fun _ _ => rfl)) pe_int (nomark _)) (pss_cons (ps_set (i := 2) sc_take.nd rfl (.inl rfl) (pe_op op_mod (pe_ix ix_list (pv 0) pe_int (fun _ _ => rfl)) (pv 1)))
  (pss_cons (ps_asg (pe_op op_fdiv (pe_ix ix_list (pv 0) pe_int (fun _ _ => rfl)) (pv 1)) (pg_sub (pv 0) pe_int set_list))
  (pss_one (ps_ret (pv 2))))) pss_nil)
  (pss_cons (ps_asg (pe_op op_add (pe_ix ix_list (pv 0) pe_int (fun _ _ => rfl)) pe_int) (pg_sub (pv 0) pe_int set_list))
  (pss_cons (ps_set (i := 3) sc_take.nd rfl (.inl rfl) (pe_op op_mod (pe_op op_mul (pe_op op_add (pe_ix ix_list (pv 0) pe_int (fun _ _ => rfl)) (pe_op op_mul pe_int (pe_ix ix_list (pv 0) pe_int (fun _ _ => rfl)))) pe_int) pe_int))
  (pss_cons (ps_asg (pe_op op_add (pe_op op_mod (pe_op op_add (pe_op op_mul (pv 3) pe_int) pe_int) pe_int) pe_int) (pg_sub (pv 0) pe_int set_list))
  (pss_one (ps_ret (pe_op op_mod (pe_op op_fdiv (pe_op op_add (pe_op op_mul (pv 3) pe_int) (pe_ix ix_list (pv 0) pe_int (fun _ _ => rfl))) pe_int) (pv 1)))))))), ?_⟩
    refine ⟨_, rfl, p, _, _, _, rfl, rfl, SqL.of hb, rfl, _, _, rfl, rfl, _, rfl, ?_⟩
    refine ite2 (fun cpos => ?_) (fun cneg => ?_)
    · refine ⟨_, rfl, p, _, _, _, rfl, rfl, SqL.of hb, rfl, _, rfl, _, _, rfl, rfl, h0, ?_⟩
      refine ⟨_, rfl, p, _, _, _, rfl, rfl, SqL.of hb, rfl, _, rfl, _, _, rfl, rfl, ⟨h0, h1⟩, ?_⟩
      refine ⟨_, rfl, p, _, _, _, rfl, rfl, hb, rfl, ?_⟩
      refine ⟨_, rfl, ?_⟩
      refine k _ _ (Int.emod_nonneg _ (by omega)) (Int.emod_lt_of_pos _ h0) ⟨c / many, sd, n, upd_same, Int.ediv_nonneg hc (by omega), hs0, hs1, hn0, by omega⟩ fun b hb' => upd_ne hb'
    · refine ⟨_, rfl, p, _, _, _, rfl, rfl, SqL.of hb, rfl, _, _, rfl, rfl, ?_⟩
      refine ⟨_, rfl, p, _, _, _, rfl, rfl, hb, rfl, ?_⟩
      refine ⟨_, rfl, p, _, _, _, rfl, rfl, SqL.of upd_same, rfl, ?_⟩
      refine ⟨_, rfl, p, _, _, _, rfl, rfl, SqL.of upd_same, rfl, _, _, rfl, rfl, .inl ⟨by decide, by decide⟩, _, _, rfl, rfl, ?_⟩
      refine ⟨_, _, rfl, rfl, .inl ⟨by omega, by omega⟩, _, _, rfl, rfl, (by show (0 : Int) < 2147483647; decide), ?_⟩
      have hr0 := Int.emod_nonneg ((sd + 104729 * (n + 1)) * 69623) (show (2147483647 : Int) ≠ 0 by decide)
      have hr1 := Int.emod_lt_of_pos ((sd + 104729 * (n + 1)) * 69623) (show (0 : Int) < 2147483647 by decide)
      refine ⟨_, rfl, _, _, rfl, rfl, .inl ⟨by omega, by omega⟩, _, _, rfl, rfl, _, _, rfl, rfl, (by show (0 : Int) < 2147483629; decide), _, _, rfl, rfl, ?_⟩
      refine ⟨_, rfl, p, _, _, _, rfl, rfl, upd_same, rfl, ?_⟩
      refine ⟨_, rfl, _, _, rfl, rfl, .inl ⟨by omega, by omega⟩, ?_⟩
      refine ⟨_, rfl, p, _, _, _, rfl, rfl, SqL.of upd_same, rfl, _, _, rfl, rfl, _, _, rfl, rfl, ⟨by decide, by decide⟩, _, rfl, _, _, rfl, rfl, h0, ?_⟩
      refine k _ _ (Int.emod_nonneg _ (by omega)) (Int.emod_lt_of_pos _ h0) ⟨c, _, n + 1, upd_same, hc, by omega, by omega, by omega, by push_cast; omega⟩ fun b hb' => ?_
      rw [upd_ne hb', upd_ne hb']
theorem ok_pick {f ft fx : Addr} {fd fdt : FuncData} (F : Fun K "_law_pick" "_law_pick" s_pick f fd) (T : NmM mg K ft fx) (G__law_take : FnOk P w K mg base CX0 1 ft fdt ["_law_box_here", "_law_many"] spTake) (b__law_take : Binds K fdt ["_law_box_here", "_law_many"] []) :
    FnOk P w K mg base CX0 2 f fd ["_law_box_here", "_law_items"] spPick := by
  refine F.ok sc_pick (fun vs H Q E h => ?_) (fun cdv A outer s H vs Q E hr h => ?_)
  · obtain ⟨p, l, xs, m, rfl, _⟩ := h
    rfl
  · obtain ⟨p, l, xs, m, rfl, hb, hl, lp, h1, h2, hm, q⟩ := h
    refine ⟨_, (pss_one (ps_ret (pe_ix ix_list (pv 1) (pe_call G__law_take hr rfl T.g__law_take T.k__law_take b__law_take .nil pass0 (pa_cons (pv 0) (pa_cons (pe_callB call_len_seq (by rfl) T.n_len (by decide +kernel) (pa_cons (pv 1) pa_nil)) pa_nil))) (fun _ _ => rfl)))), ?_⟩
    refine ⟨_, rfl, _, rfl, _, rfl, l, _, rfl, .inl (SqL.of hl), p, _, m, rfl, hb, by omega, by omega, by omega, fun d H2 d0 d1 hb2 k2 => ?_⟩
    obtain ⟨k, rfl⟩ : ∃ k : Nat, d = (k : Int) := ⟨d.toNat, by omega⟩
    have hk : k < xs.length := by omega
    refine ⟨l, _, _, xs[k], rfl, rfl, SqL.of ((k2 l lp).trans hl), atI_nat (List.getElem?_eq_getElem hk), ?_⟩
    exact q _ _ (List.getElem_mem hk) hb2 (Kp.eq k2)
theorem ok_mixed {f ft fx : Addr} {fd fdt : FuncData} (F : Fun K "_law_mixed" "_law_mixed" s_mixed f fd) (T : NmM mg K ft fx) (G__law_take : FnOk P w K mg base CX0 1 ft fdt ["_law_box_here", "_law_many"] spTake) (b__law_take : Binds K fdt ["_law_box_here", "_law_many"] []) :
    FnOk P w K mg base CX0 2 f fd ["_law_box_here", "_law_items"] spMix := by
  refine F.ok sc_mixed (fun vs H Q E h => ?_) (fun cdv A outer s H vs Q E hr h => ?_)
  · obtain ⟨p, l, zs, m, rfl, _⟩ := h
    rfl
  · obtain ⟨p, l, zs, m, rfl, hb, hl, hA, hn, hm, q⟩ := h
    have hu64 := hr.units
    refine ⟨_, (pss_cons (ps_par (i := 2) (j := 3) (by rfl) sc_mixed.nd rfl rfl (by decide) rfl rfl (pa_cons (pe_callTy call_list_of (by rfl) T.n_list (by decide +kernel) (pa_cons (pv 1) pa_nil)) (pa_cons (pe_lst pa_nil) pa_nil)) (by rfl))
  (pss_cons (ps_while PassesOwn.never (pt_cmpR (op_neD hu64) (pv 2) (pe_lst pa_nil) (nomark _))
  (pss_one (ps_expr (pe_bm PySem.F.plainAttrs_list PySem.F.slot_list_append PySem.F.type_list_append mt_append (pv 3) (pa_cons (pe_bm PySem.F.plainAttrs_list PySem.F.slot_list_pop PySem.F.type_list_pop mt_popAt (pv 2) (pa_cons (pe_call G__law_take hr rfl T.g__law_take T.k__law_take b__law_take .nil pass0 (pa_cons (pv 0) (pa_cons (pe_callB call_len_seq (by rfl) T.n_len (by decide +kernel) (pa_cons (pv 2) pa_nil)) pa_nil))) pa_nil)) pa_nil)))))
  (pss_one (ps_ret (pv 3))))), ?_⟩
    refine ⟨_, rfl, l, _, rfl, .inl (SqL.of hl), fun a na => ?_⟩
    refine ⟨Nat.zero_le _, fun r nr => ⟨_, _, rfl, ?_⟩⟩
    have ea := new_same (o := .lst []) nr a (.lst (zs.map V.str)) upd_same
    have er : upd (upd H a (.lst (zs.map V.str))) r (.lst []) r = some (.lst []) := upd_same
    have S := (new_same (o := .lst (zs.map V.str)) na).trans (new_same (o := .lst []) nr)
    have nra : r ≠ a := fun z => by rw [z, upd_same] at nr; cases nr
    have nr0 : H r = none := (new_same na).free nr
    have pa : p ≠ a := hb.ne na
    have pr : p ≠ r := hb.ne nr0
    have hb2 := hb.mono S
    generalize upd (upd H a (.lst (zs.map V.str))) r (.lst []) = H2 at *
    refine while_by (fun σ Hi => ∃ (i : Nat) (ls fs : List Str), BoxAt Hi p (m + i) ∧ Kp p H Hi ∧ Hi a = some (.lst (ls.map V.str)) ∧ Hi r = some (.lst (fs.map V.str)) ∧ ls.length + i = zs.length ∧ fs.length = i ∧ (∀ y ∈ ls, y ∈ zs) ∧ (∀ y ∈ fs, y ∈ zs) ∧ σ = [some (.ref p), some (.ref l), some (.ref a), some (.ref r)])
      (fun _ Hi => lenAt Hi a) ⟨0, zs, [], hb2, Kp.of S, ea, er, rfl, rfl, fun _ h => h, (fun _ h => absurd h List.not_mem_nil), rfl⟩ (fun σ Hi P => ?_) (fun σ Hi Q1 Q2 hQ hc => ?_)
    · obtain ⟨i, ls, fs, hbi, ki, el, ef, hl1, hf1, hl2, hf2, rfl⟩ := P
      refine ⟨_, rfl, Nat.zero_le _, fun e0 n0 => ?_⟩
      have S0 := new_same (o := .lst []) n0
      refine ⟨.list (ls.map PyData.str), .list [], .lst (SqL.of (S0 _ _ el)) (dp_strs _), .lst (SqL.of upd_same) .nil, shaped_strs (fun z hz => hA z (hl2 z hz)), rfl, _, rfl, ?_⟩
      rw [eqv_nil]
      have hb0 := hbi.mono S0
      have k0 : Kp p H (upd Hi e0 (.lst [])) := ki.trans (Kp.of S0)
      have el0 := S0 _ _ el
      have ef0 := S0 _ _ ef
      have hμ : lenAt Hi a = ls.length := by rw [lenAt_of el, List.length_map]
      generalize upd Hi e0 (.lst []) = H0 at *
      cases ls with
      | nil => exact iteF ⟨_, rfl, q r fs H0 nr0 ef0 (by rw [List.length_nil] at hl1; omega) hf2 (hb0.le (by rw [List.length_nil] at hl1; omega)) k0⟩
      | cons z0 ls0 =>
        refine iteT ?_
        generalize hLs : z0 :: ls0 = ls at *
        have hpos : 0 < ls.length := by rw [← hLs]; exact Nat.succ_pos _
        refine ⟨_, rfl, .inl ⟨rfl, _, SqL.of ef0⟩, ?_⟩
        refine ⟨_, rfl, .inl ⟨rfl, _, SqL.of el0⟩, ?_⟩
        refine ⟨_, rfl, _, rfl, a, _, rfl, .inl (SqL.of el0), ?_⟩
        rw [List.length_map]
        refine ⟨p, _, m + i, rfl, hb0, by omega, by omega, by omega, fun d H3 d0 d1 hb3 k3 => ?_⟩
        have el3 := (k3 a (Ne.symm pa)).trans el0
        have ef3 := (k3 r (Ne.symm pr)).trans ef0
        obtain ⟨k, rfl⟩ : ∃ k : Nat, d = (k : Int) := ⟨d.toNat, by omega⟩
        have hk : k < ls.length := by omega
        refine ⟨a, ls.map V.str, _, k, .str ls[k], rfl, rfl, el3, by omega, by omega, by rw [List.length_map, sIx (by omega) (by omega)]; rfl, by rw [List.getElem?_map, List.getElem?_eq_getElem hk]; rfl, ?_⟩
        refine ⟨r, fs.map V.str, _, rfl, rfl, (upd_ne nra).trans ef3, by rw [List.length_map, hf1]; exact small1000 (by omega), ?_⟩
        refine ⟨⟨i + 1, ls.eraseIdx k, fs ++ [ls[k]], ?_, fun b o bp e => ?_, ?_, ?_, ?_, ?_, fun y hy => hl2 y (List.mem_of_mem_eraseIdx hy), fun y hy => ?_, rfl⟩, ?_⟩
        · obtain ⟨c, sd, n, e, x⟩ := hb3
          exact ⟨c, sd, n, by rw [upd_ne pr, upd_ne pa]; exact e, x⟩
        · rw [upd_ne (ne_of_none e nr0)]
          have ba : b ≠ a := fun z => by
            rw [z, na] at e
            cases e
          rw [upd_ne ba, k3 b bp]
          exact k0 b o bp e
        · rw [upd_ne (Ne.symm nra), upd_same, erase_map]
        · rw [upd_same, List.map_append]
          rfl
        · rw [List.length_eraseIdx, if_pos hk]
          omega
        · rw [List.length_append, hf1]
          rfl
        · rcases List.mem_append.mp hy with hy | hy
          · exact hf2 y hy
          · rw [List.mem_singleton.mp hy]
            exact hl2 _ (List.getElem_mem hk)
        · show lenAt _ a < lenAt Hi a
          rw [hμ, lenAt_of (H := upd (upd H3 a _) r _) (ls := (ls.map V.str).eraseIdx k) (by rw [upd_ne (Ne.symm nra), upd_same]), List.length_eraseIdx, List.length_map, if_pos hk]
          omega
    · obtain ⟨v, hv, h0, h⟩ := hc
      refine ⟨v, hv, h0, fun p hp => ?_⟩
      obtain ⟨d, e, h1, h2, h3, h4, k, h5, h6⟩ := h p hp
      exact ⟨d, e, h1, h2, h3, h4, k, h5, hQ _ _ h6⟩
theorem ok_caps {f ft fx : Addr} {fd fdt fdx : FuncData} (F : Fun K "_law_caps" "_law_caps" s_caps f fd) (T : NmM mg K ft fx) (G__law_take : FnOk P w K mg base CX0 2 ft fdt ["_law_box_here", "_law_many"] spTake) (b__law_take : Binds K fdt ["_law_box_here", "_law_many"] [])
    (G__law_mixed : FnOk P w K mg base CX0 2 fx fdx ["_law_box_here", "_law_items"] spMix) (b__law_mixed : Binds K fdx ["_law_box_here", "_law_items"] []) : FnOk P w K mg base CX0 3 f fd ["_law_box_here", "_law_many"] spCaps := by
  refine F.ok sc_caps (fun vs H Q E h => ?_) (fun cdv A outer s H vs Q E hr h => ?_)
  · obtain ⟨p, m, rfl, _⟩ := h
    rfl
  · obtain ⟨p, m, rfl, hb, hm, q⟩ := h
    refine ⟨_, (pss_cons (ps_asg (pe_tup (pa_cons pe_str (pa_cons (pe_call G__law_take hr rfl T.g__law_take T.k__law_take b__law_take .nil pass0 (pa_cons (pv 0) (pa_cons pe_int pa_nil))) pa_nil))) (pg_tup rfl (pgs_cons (pg_name (i := 2) sc_caps.nd rfl (.inr rfl)) (pgs_cons (pg_name (i := 3) sc_caps.nd rfl (.inr rfl)) pgs_nil))))
  (pss_cons (ps_if (pt_cmpR op_eq (pe_call G__law_take hr rfl T.g__law_take T.k__law_take b__law_take .nil pass0 (pa_cons (pv 0) (pa_cons pe_int pa_nil))) pe_int (nomark _)) (pss_one (ps_ret (pe_call G__law_mixed hr rfl T.g__law_mixed T.k__law_mixed b__law_mixed .nil pass0 (pa_cons (pv 0) (pa_cons (pe_slice sl_list (pe_lst (pa_cons pe_str (pa_cons pe_str (pa_cons pe_str (pa_cons pe_str (pa_cons pe_str (pa_cons pe_str pa_nil))))))) po_none (po_some (pv 1))) pa_nil))))) pss_nil)
  (pss_cons (ps_set (i := 4) sc_caps.nd rfl (.inr rfl) (pe_ix ix_list (pe_lst (pa_cons pe_str (pa_cons pe_str (pa_cons pe_str (pa_cons pe_str pa_nil))))) (pe_call G__law_take hr rfl T.g__law_take T.k__law_take b__law_take .nil pass0 (pa_cons (pv 0) (pa_cons pe_int pa_nil))) (fun _ _ => rfl)))
  (pss_one (ps_ret (pe_call G__law_mixed hr rfl T.g__law_mixed T.k__law_mixed b__law_mixed .nil pass0 (pa_cons (pv 0) (pa_cons (pe_lc (own := [("_law_k", 5)]) (g := gName 5) (tt := tYes) rfl sc_caps.nd (pi_range1 (by rfl) T.n_range (pa_cons (pv 1) pa_nil)) (blkOk_by (own := [("_law_k", 5)]) (N := n_caps) (sc := defScope s_caps) (by decide +kernel)) (fun _ _ _ _ _ => (pg_name (i := 5) sc_caps.nd rfl (.inl rfl))) (fun _ _ _ _ _ => pts_nil) (fun _ _ _ _ _ => (pe_op op_add_str (pv 4) (pe_ix ix_str (pv 2) (pe_op op_mod (pe_op op_add (pv 3) (pe_op op_mul pe_int (pv 5))) pe_int) (fun _ _ => rfl))))) pa_nil)))))))), ?_⟩
    have fin : ∀ (l : Addr) (zs : List Str) (H' : Hp) (m' : Nat), BoxAt H' p m' → m' ≤ m + 3 → Kp p H H' → H' l = some (.lst (zs.map V.str)) → zs.length = 4 → (∀ z ∈ zs, CapOk z) →
        spMix [.ref p, .ref l] H' Q E0 := fun l zs H' m' hb' hm' k' el hz hc =>
      ⟨p, l, zs, m', rfl, hb', el, fun z hz => (hc z hz).2, by omega, by omega, fun r ys H'' nr er ly my b'' k'' => q r ys H'' (by
        cases e : H r with
        | none => rfl
        | some o =>
          by_cases hp : r = p
          · exact absurd hp.symm (hb'.ne nr)
          · rw [k' r o hp e] at nr
            cases nr) er (by omega) (fun y hy => hc y (my y hy)) (b''.le (by omega)) (k'.trans k'')⟩
    refine ⟨_, rfl, p, 26, m, rfl, hb, by omega, by decide, by decide, fun d1 H1 d10 d11 hb1 k1 => ⟨(by show 2 ≤ sizeLine; decide), fun t nt => ?_⟩⟩
    have S1 := new_same (o := .tup [.str "ABCDEFGHIJKLMNOPQRSTUVWXYZ", .int d1]) nt
    have et : upd H1 t (.tup [.str "ABCDEFGHIJKLMNOPQRSTUVWXYZ", .int d1]) t = some (.tup [.str "ABCDEFGHIJKLMNOPQRSTUVWXYZ", .int d1]) := upd_same
    refine ⟨t, _, rfl, SqT.of et, rfl, _, _, rfl, _, _, rfl, rfl, ?_⟩
    have hb1' := hb1.mono S1
    have K1 : Kp p H (upd H1 t (.tup [.str "ABCDEFGHIJKLMNOPQRSTUVWXYZ", .int d1])) := (Kp.eq k1).trans (Kp.of S1)
    generalize upd H1 t (.tup [.str "ABCDEFGHIJKLMNOPQRSTUVWXYZ", .int d1]) = H2 at *
    refine ⟨_, rfl, p, 4, _, rfl, hb1', by omega, by decide, by decide, fun d2 H3 d20 d21 hb3 k3 => ⟨rfl, _, rfl, ?_⟩⟩
    have K3 := K1.trans (Kp.eq k3)
    refine ite2 (fun _ => ?_) (fun _ => ?_)
    · refine ⟨_, rfl, (by show 6 ≤ sizeLine; decide), fun l nl => ⟨_, rfl, _, rfl, l, _, rfl, SqL.of upd_same, fun l2 nl2 => ?_⟩⟩
      have S4 := (new_same (o := .lst [.str "K", .str "KK", .str "KKK", .str "KKKK", .str "Q", .str "QK"]) nl).trans (new_same (o := .lst (cutV [.str "K", .str "KK", .str "KKK", .str "KKKK", .str "Q", .str "QK"] none (some 4))) nl2)
      exact fin l2 ["K", "KK", "KKK", "KKKK"] _ _ (hb3.mono S4) (by omega) (K3.trans (Kp.of S4)) upd_same rfl (by unfold CapOk; decide +kernel)
    · refine ⟨(by show 4 ≤ sizeLine; decide), fun l nl => ?_⟩
      have S4 := new_same (o := .lst [.str "", .str "", .str "ZQZ", .str "A"]) nl
      have el4 : upd H3 l (.lst [.str "", .str "", .str "ZQZ", .str "A"]) l = some (.lst [.str "", .str "", .str "ZQZ", .str "A"]) := upd_same
      have hb4 := hb3.mono S4
      have K4 := K3.trans (Kp.of (p := p) S4)
      have pl := hb3.ne nl
      generalize upd H3 l (.lst [.str "", .str "", .str "ZQZ", .str "A"]) = H4 at *
      refine ⟨_, rfl, p, 4, _, rfl, hb4, by omega, by decide, by decide, fun d5 H5 d50 d51 hb5 k5 => ?_⟩
      have K5 := K4.trans (Kp.eq k5)
      obtain ⟨stem, hst, hs3, hsA⟩ : ∃ z : Str, atI [V.str "", .str "", .str "ZQZ", .str "A"] d5 = some (.str z) ∧ z.length ≤ 3 ∧ Asc z := by
        have hc : d5 = ((0 : Nat) : Int) ∨ d5 = ((1 : Nat) : Int) ∨ d5 = ((2 : Nat) : Int) ∨ d5 = ((3 : Nat) : Int) := by omega
        rcases hc with rfl | rfl | rfl | rfl
        · exact ⟨"", atI_nat (j := 0) rfl, by decide +kernel, by decide +kernel⟩
        · exact ⟨"", atI_nat (j := 1) rfl, by decide +kernel, by decide +kernel⟩
        · exact ⟨"ZQZ", atI_nat (j := 2) rfl, by decide +kernel, by decide +kernel⟩
        · exact ⟨"A", atI_nat (j := 3) rfl, by decide +kernel, by decide +kernel⟩
      refine ⟨l, _, _, _, rfl, rfl, SqL.of ((k5 l (Ne.symm pl)).trans el4), hst, ?_⟩
      refine ⟨_, rfl, _, rfl, 4, rfl, by decide, by decide, fun D nD => ?_⟩
      have pD := hb5.ne nD
      refine lc_range (lo := 0) (n := 4) (fun i Hi => Same H5 Hi ∧ ∃ zs : List Str, Hi D = some (.lst (zs.map V.str)) ∧ zs.length = i ∧ ∀ z ∈ zs, CapOk z)
        ⟨new_same nD, [], upd_same, rfl, fun _ h => absurd h List.not_mem_nil⟩ (fun i Hi hi p => ?_) (fun Hi p => ?_)
      · obtain ⟨s5, zs, ez, lz, hz⟩ := p
        obtain ⟨a, rfl⟩ : ∃ a : Nat, d1 = (a : Int) := ⟨d1.toNat, by omega⟩
        refine ⟨rfl, keep1' ?_⟩
        refine ⟨_, rfl, _, rfl, _, rfl, _, rfl, _, _, rfl, rfl, .inl ⟨by decide, by decide⟩, _, _, rfl, rfl, _, _, rfl, rfl, (by show (0 : Int) < 26; decide), ?_⟩
        have ei : ((a : Nat) + 5 * (0 + (i : Nat)) : Int) % 26 = (((a + 5 * i) % 26 : Nat) : Int) := by omega
        refine ⟨_, _, 65 + (a + 5 * i) % 26, rfl, rfl, (by rw [sizeLine_eq]; decide +kernel), (by rw [ei]; exact atI_nat (caps_at _ (Nat.mod_lt _ (by decide)))), _, _, rfl, rfl, (by show _ + 1 ≤ _; rw [sizeLine_eq]; omega), ?_⟩
        refine ⟨_, ez, by rw [List.length_map, lz, sizeLine_eq]; omega, fun b o e => (upd_ne (ne_of_none e nD)).trans (s5 _ _ e), zs ++ [_], by rw [upd_same, List.map_append]; rfl, by rw [List.length_append, lz]; rfl, fun z hz' => ?_⟩
        rcases List.mem_append.mp hz' with h | h
        · exact hz z h
        · rw [List.mem_singleton.mp h]
          refine ⟨by rw [len_app]; show _ + 1 ≤ 4; omega, app_asc hsA fun c hc => ?_⟩
          rw [List.mem_singleton.mp hc]
          omega
      · obtain ⟨s5, zs, ez, lz, hz⟩ := p
        exact fin D zs Hi _ (hb5.mono s5) (by omega) (K5.trans (Kp.of s5)) ez lz hz
end
end R4

set_option linter.all false
set_option maxRecDepth 100000
set_option maxHeartbeats 8000000
namespace R4
open PySem PySem.Spec PyProof.Rows L2 Gx
/-! ### rows, errors, rules -/
abbrev s_NoRules : Stmt := inClass (topS 5) 0
abbrev s_TooMany : Stmt := inClass (topS 6) 0
abbrev s_rows_in : Stmt := topS 8
abbrev n_rows_in : List Str := ["text"]
theorem sc_rows_in : FnScope n_rows_in ["text"] (defScope s_rows_in) := ⟨rfl, rfl, rfl, by decide +kernel, rfl, by decide +kernel, by decide +kernel⟩
abbrev s_is_kind_name : Stmt := topS 11
abbrev n_is_kind_name : List Str := ["word"]
theorem sc_is_kind_name : FnScope n_is_kind_name ["word"] (defScope s_is_kind_name) := ⟨rfl, rfl, rfl, by decide +kernel, rfl, by decide +kernel, by decide +kernel⟩
abbrev s_rinit : Stmt := inClass (topS 13) 0
abbrev n_rinit : List Str := ["self", "rows", "head", "kind"]
theorem sc_rinit : FnScope n_rinit ["self", "rows"] (defScope s_rinit) := ⟨rfl, rfl, rfl, by decide +kernel, rfl, by decide +kernel, by decide +kernel⟩
abbrev s_rread : Stmt := inClass (topS 13) 1
abbrev n_rread : List Str := ["text", "rows", "at", "row", "words"]
theorem sc_rread : FnScope n_rread ["text"] (defScope s_rread) := ⟨rfl, rfl, rfl, by decide +kernel, rfl, by decide +kernel, by decide +kernel⟩
abbrev s_rstr : Stmt := inClass (topS 13) 2
theorem sc_rstr : FnScope ["self"] ["self"] (defScope s_rstr) := ⟨rfl, rfl, rfl, by decide +kernel, rfl, by decide +kernel, by decide +kernel⟩
abbrev s_req : Stmt := inClass (topS 13) 3
theorem sc_req : FnScope ["self", "other"] ["self", "other"] (defScope s_req) := ⟨rfl, rfl, rfl, by decide +kernel, rfl, by decide +kernel, by decide +kernel⟩
def rowsL (z : Str) : List Str := if z = "" then [] else Txt.split z "\n"
theorem rowsL_of {z : Str} (h : ¬ z = "") : rowsL z = Txt.split z "\n" := if_neg h
def kindB (z : Str) : Bool := consB 65 90 4 z
def rowW (r : Str) : Option (Str × Str) := match wordsL r with
  | [h, k] => if ((decide ("all" = h) || decide ("root" = h)) && kindB k) = true then some (h, k) else none
  | _ => none
def lineS (r : Str × Str) : Str := r.1 ++ " " ++ r.2
def rowsText (rs : List (Str × Str)) : Str := Txt.join "\n" (rs.map lineS)
theorem nsplit_asc {z w : Str} (hA : Asc z) (h : w ∈ Txt.split z "\n") : Asc w := fun c hc => hA c (by
  have h1 := mem_join (y := "\n") h c hc
  rw [PySem.StrLaws.join_split] at h1
  exact h1)
theorem nsplit_lens {z w : Str} (h : w ∈ Txt.split z "\n") : w.length ≤ z.length := by
  have h1 := split_weight z "\n" (by decide +kernel)
  have h2 : w.length ≤ ((Txt.split z "\n").map (·.length)).sum := le_sum (List.mem_map_of_mem h)
  have h3 := split_pos z "\n"
  omega
theorem rowsL_len {z w : Str} (h : w ∈ rowsL z) : w.length ≤ z.length := by
  unfold rowsL at h
  by_cases e : z = ""
  · rw [if_pos e] at h
    cases h
  · rw [if_neg e] at h
    exact nsplit_lens h
theorem rowsL_asc {z w : Str} (hA : Asc z) (h : w ∈ rowsL z) : Asc w := by
  unfold rowsL at h
  by_cases e : z = ""
  · rw [if_pos e] at h
    cases h
  · rw [if_neg e] at h
    exact nsplit_asc hA h
theorem rowsL_count (z : Str) : (rowsL z).length ≤ z.length + 1 := by
  unfold rowsL
  by_cases e : z = ""
  · rw [if_pos e]
    exact Nat.zero_le _
  · rw [if_neg e]
    have := split_weight z "\n" (by decide +kernel)
    omega
theorem rowW_some {r : Str} {p : Str × Str} (h : rowW r = some p) : wordsL r = [p.1, p.2] ∧ (decide ("all" = p.1) || decide ("root" = p.1)) = true ∧ kindB p.2 = true := by
  unfold rowW at h
  split at h
  · rename_i a b hw
    by_cases hb : ((decide ("all" = a) || decide ("root" = a)) && kindB b) = true
    · rw [if_pos hb] at h
      cases h
      exact ⟨hw, (Bool.and_eq_true_iff.mp hb).1, (Bool.and_eq_true_iff.mp hb).2⟩
    · rw [if_neg hb] at h
      cases h
  · cases h
theorem rowW_line {r : Str} {p : Str × Str} (h : rowW r = some p) : lineS p = r := by
  obtain ⟨hw, _, _⟩ := rowW_some h
  have hne : ¬ r = "" := fun e => by
    rw [wordsL, if_pos e] at hw
    cases hw
  rw [wordsL_of hne] at hw
  have h1 := PySem.StrLaws.join_split r " "
  rw [hw] at h1
  exact h1
theorem rowW_len {r : Str} {p : Str × Str} (h : rowW r = some p) : (lineS p).length ≤ 9 := by
  obtain ⟨_, h1, h2⟩ := rowW_some h
  unfold kindB consB at h2
  simp only [Bool.and_eq_true, decide_eq_true_eq] at h2
  have h3 : p.1.length ≤ 4 := by
    rcases Bool.or_eq_true_iff.mp h1 with e | e
    · rw [← of_decide_eq_true e]
      decide +kernel
    · rw [← of_decide_eq_true e]
      decide +kernel
  unfold lineS
  rw [len_app, len_app, show (" " : Str).length = 1 from by decide +kernel]
  omega
theorem rows_text {z : Str} {rs : List (Str × Str)} (h : (rowsL z).map rowW = rs.map some) : rowsText rs = z := by
  have h1 : rs.map lineS = rowsL z := by
    have : ∀ (l : List Str) (rs : List (Str × Str)), l.map rowW = rs.map some → rs.map lineS = l := by
      intro l
      induction l with
      | nil =>
        intro rs h
        cases rs with
        | nil => rfl
        | cons p rs => cases h
      | cons r l ih =>
        intro rs h
        cases rs with
        | nil => cases h
        | cons p rs =>
          rw [List.map_cons, List.map_cons] at h
          obtain ⟨h2, h3⟩ := List.cons.inj h
          rw [List.map_cons, ih rs h3, rowW_line h2]
    exact this _ _ h
  unfold rowsText
  rw [h1, TL.join_eq]
  by_cases e : z = ""
  · rw [rowsL, if_pos e, e]
    decide +kernel
  · rw [rowsL_of e]
    exact PySem.StrLaws.join_split z "\n"
theorem first_bad {α : Type} : ∀ os : List (Option α), (∃ es : List α, os = es.map some) ∨ ∃ j : Nat, os[j]? = some none ∧ ∀ m : Nat, m < j → ∃ e, os[m]? = some (some e)
  | [] => .inl ⟨[], rfl⟩
  | none :: os => .inr ⟨0, rfl, fun m hm => absurd hm (Nat.not_lt_zero _)⟩
  | some e :: os => by
    rcases first_bad os with ⟨es, h⟩ | ⟨j, hj, hm⟩
    · exact .inl ⟨e :: es, by rw [h]; rfl⟩
    · refine .inr ⟨j + 1, hj, fun m h => ?_⟩
      cases m with
      | zero => exact ⟨e, rfl⟩
      | succ m => exact hm m (by omega)
/-- the first row that is none -/
def FirstBad (rs : List Str) (j : Nat) : Prop := (rs.map rowW)[j]? = some none ∧ ∀ m, m < j → ∃ e, (rs.map rowW)[m]? = some (some e)
/-- rows as a list of pairs -/
inductive RowsAt (H : Hp) : List V → List (Str × Str) → Prop
  | nil : RowsAt H [] []
  | cons {a : Addr} {vs : List V} {p : Str × Str} {ps : List (Str × Str)} : H a = some (.tup [.str p.1, .str p.2]) → RowsAt H vs ps → RowsAt H (.ref a :: vs) (p :: ps)
theorem RowsAt.mono {H H' : Hp} {vs : List V} {ps : List (Str × Str)} (h : RowsAt H vs ps) (s : ∀ a xs, H a = some (.tup xs) → H' a = some (.tup xs)) : RowsAt H' vs ps := by
  induction h with
  | nil => exact .nil
  | cons a _ ih => exact .cons (s _ _ a) ih
theorem RowsAt.snoc {H : Hp} {vs : List V} {ps : List (Str × Str)} {a : Addr} {p : Str × Str} (h : RowsAt H vs ps) (k : H a = some (.tup [.str p.1, .str p.2])) : RowsAt H (vs ++ [.ref a]) (ps ++ [p]) := by
  induction h with
  | nil => exact .cons k .nil
  | cons a _ ih => exact .cons a ih
theorem RowsAt.len {H : Hp} {vs : List V} {ps : List (Str × Str)} (h : RowsAt H vs ps) : vs.length = ps.length := by
  induction h with
  | nil => rfl
  | cons _ _ ih => rw [List.length_cons, List.length_cons, ih]
theorem RowsAt.get {H : Hp} {vs : List V} {ps : List (Str × Str)} (h : RowsAt H vs ps) : ∀ {i : Nat} {v : V}, vs[i]? = some v → ∃ p a, ps[i]? = some p ∧ v = .ref a ∧ H a = some (.tup [.str p.1, .str p.2]) := by
  induction h with
  | nil => intro i v hv; simp at hv
  | @cons a _ p _ k _ ih =>
    intro i v hv
    cases i with
    | zero => exact ⟨p, a, rfl, (Option.some.inj hv).symm, k⟩
    | succ i => exact ih hv
def teLine : TE := fun σ H Q => tJs [tFmt (tVar 2), tC (.str " "), tFmt (tVar 3)] Str.empty σ H fun out H1 => Q (.str out) H1
def flds (t : Addr) (z : Str) : List (Str × V) := putF "_text" (.str z) (putF "rows" (.ref t) [])
theorem flds_text (t : Addr) (z : Str) : (flds t z).lookup ("_text" : Str) = some (.str z) := by
  unfold flds
  rw [lookup_putF, if_pos rfl]
def RuleAt (C : Addr) (H : Hp) (a : Addr) (z : Str) : Prop := ∃ dx t, H a = some (.ins C dx (flds t z))
def spRowsIn : Sp := fun vs H Q _ => ∃ z : Str, vs = [.str z] ∧ z.length ≤ 1000 ∧ ∀ (a : Addr) (H' : Hp), Same H H' → H a = none → H' a = some (.lst ((rowsL z).map V.str)) → Q (.ref a) H'
def spRInit (C : Addr) : Sp := fun vs H Q _ => ∃ (a dx l : Addr) (vs' : List V) (rs : List (Str × Str)), vs = [.ref a, .ref l] ∧ H a = some (.ins C dx []) ∧ H l = some (.lst vs') ∧ RowsAt H vs' rs ∧ rs.length ≤ 100 ∧ (∀ p ∈ rs, (lineS p).length ≤ 9) ∧
  ∀ (t : Addr) (H' : Hp), (∀ b o, b ≠ a → H b = some o → H' b = some o) → H' a = some (.ins C dx (flds t (rowsText rs))) → Q .non H'
def spRead (C Cn Ct : Addr) : Sp := fun vs H Q E => ∃ z : Str, vs = [.str z] ∧ z.length ≤ 1000 ∧ Asc z ∧
  (∀ (a : Addr) (H' : Hp), Same H H' → H a = none → (∃ rs : List (Str × Str), (rowsL z).map rowW = rs.map some) → (rowsL z).length ≤ 3 → RuleAt C H' a z → Q (.ref a) H') ∧
  (∀ (j : Nat) (d : Addr) (H' : Hp), Same H H' → FirstBad (rowsL z) j → H' d = some (.xd [("row", .int (j : Nat))]) → E (.ref Cn) (some d) H') ∧
  (∀ (d : Addr) (H' : Hp), Same H H' → (∃ rs : List (Str × Str), (rowsL z).map rowW = rs.map some) → 3 < (rowsL z).length → H' d = some (.xd [("word", .str "rows")]) → E (.ref Ct) (some d) H')
def spStr (C : Addr) : Sp := fun vs H Q _ => ∃ (a : Addr) (z : Str), vs = [.ref a] ∧ RuleAt C H a z ∧ z.length ≤ 1000 ∧ Q (.str z) H
def spEqR (C : Addr) (K : PySem.W.Frag) : Sp := fun vs H Q _ => ∃ (a : Addr) (z : Str) (y : V), vs = [.ref a, y] ∧ RuleAt C H a z ∧
  ((∃ b x, y = .ref b ∧ RuleAt C H b x ∧ Q (.bl (decide (z = x))) H) ∨ (∃ t, TyX K H y t ∧ PySem.W.kitOne K t (.ref C) = some false ∧ Q (.bl false) H))
structure NmW (P : Program) (w : World) (K : PySem.W.Frag) (mg : Str → Option Value) (fr fw fc fk C Cn Ct fIn fIt : Addr) : Prop where
  g_rows_in : mg "rows_in" = some (.ref fr)
  k_rows_in : PySem.W.keepIn K (.ref fr) = true
  g_words_in : mg "words_in" = some (.ref fw)
  k_words_in : PySem.W.keepIn K (.ref fw) = true
  g_consists_of : mg "consists_of" = some (.ref fc)
  k_consists_of : PySem.W.keepIn K (.ref fc) = true
  g_is_kind_name : mg "is_kind_name" = some (.ref fk)
  k_is_kind_name : PySem.W.keepIn K (.ref fk) = true
  g_Rules : mg "Rules" = some (.ref C)
  cl : Cls K C
  n_rows : NoAttr K C "rows"
  n_text : NoAttr K C "_text"
  ha : PySem.W.findIn K (.ref C) "__class__" = some (some (.builtin "object.__class__"))
  hn : PySem.W.specialIn K (.builtin "object.__class__") "__get__" = some (some (.builtin "getset_descriptor.__get__"))
  htk : PySem.W.takesIn K (.builtin "object.__class__") = some true
  hm : PySem.W.mroIn K C (.type "object") = some true
  kit : PySem.W.kitOne K (.ref C) (.ref C) = some true
  g_NoRules : mg "NoRules" = some (.ref Cn)
  k_NoRules : PySem.W.keepIn K (.ref Cn) = true
  b_NoRules : PySem.W.subIn K (.ref Cn) (.type "BaseException") = some true
  t_NoRules : PySem.W.typeIn K (.ref Cn) = some (.type "type")
  m_NoRules : Exv.MkOk P w K Cn fIn
  g_TooMany : mg "TooMany" = some (.ref Ct)
  k_TooMany : PySem.W.keepIn K (.ref Ct) = true
  b_TooMany : PySem.W.subIn K (.ref Ct) (.type "BaseException") = some true
  t_TooMany : PySem.W.typeIn K (.ref Ct) = some (.type "type")
  m_TooMany : Exv.MkOk P w K Ct fIt
  n_len : mg "len" = none
  n_enumerate : mg "enumerate" = none
  n_tuple : mg "tuple" = none
  n_isinstance : mg "isinstance" = none
section
variable {P : Program} {w : World} {K : PySem.W.Frag} {mg : Str → Option Value} {base : Heap}
theorem ok_NoRules {f C cc cda g : Addr} {fdg : FuncData} {B i : String} {oc : Value} {od : Option Addr} {osl : Array (Option Value)} {dV kV doc pm ct : Value} {an : Option Addr}
    (lk : K.lookup f = some ⟨oc, od, .func (PySem.W.fnX "__init__" "NoRules.__init__" (defArgs s_NoRules) (defBody s_NoRules) (defScope s_NoRules) [("__class__", cc)] dV kV doc pm an (.ref cda) ct), osl⟩)
    (hcd : PySem.W.codeIn K (.ref cda) "NoRules.__init__" = true) (D : Sup.SupF P K B i C cc cda) (Ec : Exg.EcC K C) (hno : PySem.W.findIn K (.ref C) "row" = some none)
    (hsup : mg "super" = none) (htop : (P.main.scope.names.lookup ("super" : Str)).isSome = false) (T : NmO mg K g) (G : FnOk P w K mg base CX0 1 g fdg ["value"] spOwnF) (bO : Binds K fdg ["value"] []) :
    FnOk P w K mg base CX0 2 f (PySem.W.fnX "__init__" "NoRules.__init__" (defArgs s_NoRules) (defBody s_NoRules) (defScope s_NoRules) [("__class__", cc)] dV kV doc pm an (.ref cda) ct) ["self", "row"] (spI1 C "row") := by
  refine Sup.ok_sup (F := ⟨"__init__", "NoRules.__init__", defArgs s_NoRules, defBody s_NoRules, defScope s_NoRules, [("__class__", cc)], cda⟩) (N := ["self", "row", "__class__"]) D rfl rfl lk hcd (NdefX.nscope_by (by show NdefX.nscB ["self", "row", "__class__"] ["self", "row"] ["__class__"] (defScope s_NoRules) = true; decide +kernel)) rfl rfl rfl rfl
    (fun L => ⟨_, rfl⟩) hsup htop (fun vs H Q E h => ?_) (fun vs H Q E h => ?_) (fun A outer s H vs Q E hr h => ?_)
  · obtain ⟨a, v, rfl, _⟩ := h
    rfl
  · obtain ⟨a, v, rfl, ha, _⟩ := h
    exact ⟨a, _, rfl, ha⟩
  · obtain ⟨a, v, rfl, ha, hv, q⟩ := h
    refine ⟨_, pss_one (Exg.ps_st (pv 0) (pe_call G hr rfl T.g T.k bO .nil pass0 (pa_cons (pv 1) pa_nil))), ?_⟩
    refine ⟨_, rfl, v, rfl, hv, ?_⟩
    refine ⟨_, rfl, a, C, rfl, Ec, hno, .inl ⟨ha, fun dx ndx dxa => ?_⟩⟩
    refine q dx _ ndx upd_same (by rw [upd_ne dxa, upd_same]) (fun b o ba e => ?_)
    rw [upd_ne ba, upd_ne (ne_of_none e ndx)]
    exact e
theorem ok_TooMany {f C cc cda g : Addr} {fdg : FuncData} {B i : String} {oc : Value} {od : Option Addr} {osl : Array (Option Value)} {dV kV doc pm ct : Value} {an : Option Addr}
    (lk : K.lookup f = some ⟨oc, od, .func (PySem.W.fnX "__init__" "TooMany.__init__" (defArgs s_TooMany) (defBody s_TooMany) (defScope s_TooMany) [("__class__", cc)] dV kV doc pm an (.ref cda) ct), osl⟩)
    (hcd : PySem.W.codeIn K (.ref cda) "TooMany.__init__" = true) (D : Sup.SupF P K B i C cc cda) (Ec : Exg.EcC K C) (hno : PySem.W.findIn K (.ref C) "word" = some none)
    (hsup : mg "super" = none) (htop : (P.main.scope.names.lookup ("super" : Str)).isSome = false) (T : NmO mg K g) (G : FnOk P w K mg base CX0 1 g fdg ["value"] spOwnF) (bO : Binds K fdg ["value"] []) :
    FnOk P w K mg base CX0 2 f (PySem.W.fnX "__init__" "TooMany.__init__" (defArgs s_TooMany) (defBody s_TooMany) (defScope s_TooMany) [("__class__", cc)] dV kV doc pm an (.ref cda) ct) ["self", "word"] (spI1 C "word") := by
  refine Sup.ok_sup (F := ⟨"__init__", "TooMany.__init__", defArgs s_TooMany, defBody s_TooMany, defScope s_TooMany, [("__class__", cc)], cda⟩) (N := ["self", "word", "__class__"]) D rfl rfl lk hcd (NdefX.nscope_by (by show NdefX.nscB ["self", "word", "__class__"] ["self", "word"] ["__class__"] (defScope s_TooMany) = true; decide +kernel)) rfl rfl rfl rfl
    (fun L => ⟨_, rfl⟩) hsup htop (fun vs H Q E h => ?_) (fun vs H Q E h => ?_) (fun A outer s H vs Q E hr h => ?_)
  · obtain ⟨a, v, rfl, _⟩ := h
    rfl
  · obtain ⟨a, v, rfl, ha, _⟩ := h
    exact ⟨a, _, rfl, ha⟩
  · obtain ⟨a, v, rfl, ha, hv, q⟩ := h
    refine ⟨_, pss_one (Exg.ps_st (pv 0) (pe_call G hr rfl T.g T.k bO .nil pass0 (pa_cons (pv 1) pa_nil))), ?_⟩
    refine ⟨_, rfl, v, rfl, hv, ?_⟩
    refine ⟨_, rfl, a, C, rfl, Ec, hno, .inl ⟨ha, fun dx ndx dxa => ?_⟩⟩
    refine q dx _ ndx upd_same (by rw [upd_ne dxa, upd_same]) (fun b o ba e => ?_)
    rw [upd_ne ba, upd_ne (ne_of_none e ndx)]
    exact e
theorem ok_rows_in {f : Addr} {fd : FuncData} (F : Fun K "rows_in" "rows_in" s_rows_in f fd) : FnOk P w K mg base CX0 1 f fd ["text"] spRowsIn := by
  refine F.ok sc_rows_in (fun vs H Q E h => ?_) (fun cdv A outer s H vs Q E hr h => ?_)
  · obtain ⟨z, rfl, _⟩ := h
    rfl
  · obtain ⟨z, rfl, hz, q⟩ := h
    refine ⟨_, (pss_cons (ps_if (pt_cmpR op_eq (pv 0) pe_str (nomark _)) (pss_one (ps_ret (pe_lst pa_nil))) pss_nil)
  (pss_one (ps_ret (pe_split (pv 0) pe_str)))), ?_⟩
    refine ⟨_, rfl, rfl, _, rfl, ite2 (fun h0 => ?_) (fun h0 => ?_)⟩
    · have e0 : z = "" := V.str.inj (of_decide_eq_true h0)
      refine ⟨Nat.zero_le _, fun a na => q a _ (new_same na) na ?_⟩
      rw [rowsL, if_pos e0]
      exact upd_same
    · have e0 : ¬ z = "" := fun h => h0 (decide_eq_true (congrArg V.str h))
      refine ⟨_, rfl, ⟨_, rfl⟩, _, _, rfl, rfl, by decide +kernel, (by rw [sizeLine_eq]; omega), fun L nL => ?_⟩
      refine q L _ (new_same nL) nL ?_
      rw [rowsL_of e0]
      exact upd_same
theorem ok_is_kind_name {fr fw fc fk C Cn Ct fIn fIt f : Addr} {fd fdc : FuncData} (F : Fun K "is_kind_name" "is_kind_name" s_is_kind_name f fd) (T : NmW P w K mg fr fw fc fk C Cn Ct fIn fIt)
    (G_consists_of : FnOk P w K mg base CX0 1 fc fdc ["word", "low", "high", "most"] spCons) (b_consists_of : Binds K fdc ["word", "low", "high", "most"] []) : FnOk P w K mg base CX0 2 f fd ["word"] (spIs kindB) := by
  refine F.ok sc_is_kind_name (fun vs H Q E h => ?_) (fun cdv A outer s H vs Q E hr h => ?_)
  · obtain ⟨z, rfl, _⟩ := h
    rfl
  · obtain ⟨z, rfl, hz, hA, q⟩ := h
    refine ⟨_, pss_one (ps_ret (pe_call G_consists_of hr rfl T.g_consists_of T.k_consists_of b_consists_of .nil pass0 (pa_cons (pv 0) (pa_cons pe_str (pa_cons pe_str (pa_cons pe_int pa_nil)))))), ?_⟩
    exact ⟨_, rfl, z, _, _, 65, 90, 4, rfl, hz, by decide +kernel, by decide +kernel, q⟩
theorem ok_rinit {fr fw fc fk C Cn Ct fIn fIt f : Addr} {fd : FuncData} (F : Fun K "__init__" "Rules.__init__" s_rinit f fd) (T : NmW P w K mg fr fw fc fk C Cn Ct fIn fIt) : FnOk P w K mg base CX0 1 f fd ["self", "rows"] (spRInit C) := by
  refine F.ok sc_rinit (fun vs H Q E h => ?_) (fun cdv A outer s H vs Q E hr h => ?_)
  · obtain ⟨a, dx, l, vs', rs, rfl, _⟩ := h
    rfl
  · obtain ⟨a, dx, l, vs', rs, rfl, ha, hl, hrs, hn, hlen, q⟩ := h
    refine ⟨_, pss_cons (ps_fld (pv 0) (pe_callTy call_tuple_of (by rfl) T.n_tuple (by decide +kernel) (pa_cons (pv 1) pa_nil)) rfl)
      (pss_one (ps_fld (pv 0) (pe_join pe_str (pe_lc (own := [("head", 2), ("kind", 3)]) (g := gTup K 2 (gCons (gName 2) (gCons (gName 3) gNil))) (tt := tYes) (te := teLine) rfl sc_rinit.nd (pi_list (pv 1)) (blkOk_by (own := [("head", 2), ("kind", 3)]) (N := n_rinit) (sc := defScope s_rinit) (by decide +kernel)) (fun _ _ _ _ _ => (pg_tup rfl (pgs_cons (pg_name (i := 2) sc_rinit.nd rfl (.inl rfl)) (pgs_cons (pg_name (i := 3) sc_rinit.nd rfl (.inl rfl)) pgs_nil)))) (fun _ _ _ _ _ => pts_nil)
        (fun _ _ _ _ _ => pe_joined (.cons (pe_fmt (pv 2)) (.cons pe_str (.cons (pe_fmt (pv 3)) .nil)))))) rfl)), ?_⟩
    refine ⟨_, rfl, l, vs', rfl, .inl ⟨SqL.of hl, fun t nt => ?_⟩⟩
    have at' : a ≠ t := ne_of_none ha nt
    have lt' : l ≠ t := ne_of_none hl nt
    have al : a ≠ l := fun z => by
      rw [z, hl] at ha
      cases ha
    refine ⟨_, rfl, a, C, dx, [], rfl, (upd_ne at').trans ha, T.cl, T.n_rows, (by show 0 < 1000; decide), ?_⟩
    have S1 : ∀ b o, b ≠ a → H b = some o → upd (upd H t (.tup vs')) a (.ins C dx (putF "rows" (.ref t) [])) b = some o := fun b o n e => by
      rw [upd_ne n, upd_ne (ne_of_none e nt)]
      exact e
    have ea : upd (upd H t (.tup vs')) a (.ins C dx (putF "rows" (.ref t) [])) a = some (.ins C dx (putF "rows" (.ref t) [])) := upd_same
    generalize upd (upd H t (.tup vs')) a (.ins C dx (putF "rows" (.ref t) [])) = H1 at *
    have hl1 := S1 l _ (Ne.symm al) hl
    have hrs1 : RowsAt H1 vs' rs := hrs.mono fun b xs e => S1 b _ (fun z => by
      rw [z, ha] at e
      cases e) e
    refine ⟨⟨_, rfl⟩, _, rfl, l, rfl, ⟨_, SqL.of hl1⟩, fun D nD => ?_⟩
    refine lc_list (K := K) (a := l) (xs := vs') (fun i Hi => (∀ b o, b ≠ D → H1 b = some o → Hi b = some o) ∧ Hi D = some (.lst (((rs.take i).map lineS).map V.str)))
      ⟨fun b o z e => by rw [upd_ne z]; exact e, upd_same⟩ (fun i Hi _ p => SqL.of (p.1 _ _ (ne_of_none hl1 nD) hl1)) (fun i x Hi hx p => ?_) (fun Hi p => ?_)
    · obtain ⟨pr, c, hpr, rfl, hc⟩ := hrs1.get hx
      have hc' := p.1 _ _ (ne_of_none hc nD) hc
      have hi : i < rs.length := (List.getElem?_eq_some_iff.mp hpr).1
      have hl9 := hlen pr (List.mem_of_getElem? hpr)
      unfold lineS at hl9
      rw [len_app, len_app] at hl9
      have h1 : (" " : Str).length = 1 := by decide +kernel
      refine ⟨c, _, rfl, SqT.of hc', rfl, _, _, rfl, _, _, rfl, rfl, rfl, keep1' ?_⟩
      refine ⟨_, rfl, .inl ⟨pr.1, rfl, by rw [sizeLine_eq]; omega, ?_⟩⟩
      refine ⟨pr.1, rfl, by rw [empty_app, sizeLine_eq]; omega, " ", rfl, by rw [empty_app, len_app, sizeLine_eq]; omega, ?_⟩
      refine ⟨_, rfl, .inl ⟨pr.2, rfl, by rw [sizeLine_eq]; omega, ?_⟩⟩
      refine ⟨pr.2, rfl, by rw [empty_app, len_app, len_app, sizeLine_eq]; omega, ?_⟩
      refine ⟨_, p.2, ?_, fun b o z e => by rw [upd_ne z]; exact p.1 _ _ z e, ?_⟩
      · rw [List.length_map, List.length_map, List.length_take]
        exact small1000 (by omega)
      · rw [upd_same, take_snoc hpr, List.map_append, List.map_append, empty_app]
        rfl
    · have eD := p.2
      rw [hrs1.len, List.take_length] at eD
      have ea2 := p.1 a _ (ne_of_none ea nD) ea
      have hsum : ∀ l : List (Str × Str), (∀ p ∈ l, (lineS p).length ≤ 9) → ((l.map lineS).map (·.length)).sum ≤ 9 * l.length := by
        intro l
        induction l with
        | nil => intro _; exact Nat.zero_le _
        | cons p l ih =>
          intro h
          have h1 := h p (List.mem_cons_self ..)
          have h2 := ih fun x hx => h x (List.mem_cons_of_mem _ hx)
          rw [List.map_cons, List.map_cons, List.sum_cons, List.length_cons]
          omega
      refine ⟨_, D, rs.map lineS, rfl, rfl, .inl (SqL.of eD), ?_, ?_⟩
      · have := hsum rs hlen
        rw [show ("\n" : Str).length = 1 from by decide +kernel, List.length_map]
        omega
      · refine ⟨_, rfl, a, C, dx, _, rfl, ea2, T.cl, T.n_text, (by show 1 < 1000; decide), ?_⟩
        refine q t _ (fun b o n e => ?_) upd_same
        rw [upd_ne n]
        have e1 := S1 b o n e
        exact p.1 b o (ne_of_none e1 nD) e1
theorem ok_rstr {fr fw fc fk C Cn Ct fIn fIt f : Addr} {fd : FuncData} (F : Fun K "__str__" "Rules.__str__" s_rstr f fd) (T : NmW P w K mg fr fw fc fk C Cn Ct fIn fIt) : FnOk P w K mg base CX0 1 f fd ["self"] (spStr C) := by
  refine F.ok sc_rstr (fun vs H Q E h => ?_) (fun cdv A outer s H vs Q E hr h => ?_)
  · obtain ⟨a, z, rfl, _⟩ := h
    rfl
  · obtain ⟨a, z, rfl, ⟨dx, t, ha⟩, hz, q⟩ := h
    refine ⟨_, pss_one (ps_ret (pe_joined1 (pe_fmt (pe_fld (pv 0) rfl)))), ?_⟩
    exact ⟨_, rfl, a, C, dx, _, _, rfl, ha, T.cl, T.n_text, flds_text _ _, .inl ⟨z, rfl, by rw [sizeLine_eq]; omega, q⟩⟩
theorem ok_req {fr fw fc fk C Cn Ct fIn fIt f : Addr} {fd : FuncData} (F : Fun K "__eq__" "Rules.__eq__" s_req f fd) (T : NmW P w K mg fr fw fc fk C Cn Ct fIn fIt) : FnOk P w K mg base CX0 1 f fd ["self", "other"] (spEqR C K) := by
  refine F.ok sc_req (fun vs H Q E h => ?_) (fun cdv A outer s H vs Q E hr h => ?_)
  · obtain ⟨a, z, y, rfl, _⟩ := h
    rfl
  · obtain ⟨a, z, y, rfl, ⟨dx, t, ha⟩, h⟩ := h
    refine ⟨_, pss_one (ps_ret (pe_and (pe_callB call_isi (by rfl) T.n_isinstance (by decide +kernel) (pa_cons (pv 1) (pa_cons (pe_glob (v := .ref _) rfl T.g_Rules rfl) pa_nil))) (pe_one (pe_cmpR op_eq (pe_fld (pv 0) rfl) (pe_fld (pv 1) rfl) (nomark _))))), ?_⟩
    rcases h with ⟨b, x, rfl, ⟨dy, u, hb⟩, q⟩ | ⟨ty, hty, hk, q⟩
    · refine ⟨_, rfl, _, _, _, _, _, rfl, .own C, .base (.ins hb T.cl T.ha T.hn T.htk T.hm), T.kit, _, rfl, iteT ?_⟩
      refine ⟨_, rfl, a, C, dx, _, _, rfl, ha, T.cl, T.n_text, flds_text _ _, _, rfl, b, C, dy, _, _, rfl, hb, T.cl, T.n_text, flds_text _ _, rfl, ?_⟩
      rw [show decide (V.str z = V.str x) = decide (z = x) from decide_eq_decide.mpr ⟨V.str.inj, congrArg V.str⟩]
      exact q
    · exact ⟨_, rfl, _, _, _, _, _, rfl, .own C, hty, hk, _, rfl, iteF q⟩
end
end R4

set_option linter.all false
set_option maxRecDepth 100000
set_option maxHeartbeats 8000000
namespace R4
open PySem PySem.Spec PyProof.Rows L2 Gx
/-! ### rules read -/
theorem in2 (z a b : Str) : inV (.str z) [.str a, .str b] = (decide (a = z) || decide (b = z)) := by
  show ((a == z) || ((b == z) || false)) = _
  rw [Bool.or_false]
  rfl
theorem rowW_two {r h k : Str} (e : wordsL r = [h, k]) : rowW r = if ((decide ("all" = h) || decide ("root" = h)) && kindB k) = true then some (h, k) else none := by
  unfold rowW
  rw [e]
theorem rowW_len2 {r : Str} (e : (wordsL r).length ≠ 2) : rowW r = none := by
  unfold rowW
  split
  · rename_i a b hw
    rw [hw] at e
    exact absurd rfl e
  · rfl
theorem two_of {l : List Str} (h : l.length = 2) : ∃ a b, l = [a, b] := by
  match l, h with
  | [a, b], _ => exact ⟨a, b, rfl⟩
section
variable {P : Program} {w : World} {K : PySem.W.Frag} {mg : Str → Option Value} {base : Heap}
theorem ok_rread {fr fw fc fk C Cn Ct fIn fIt fI f : Addr} {fd fdr fdw fdk fdI fdn fdt : FuncData} (F : Fun K "read" "Rules.read" s_rread f fd) (T : NmW P w K mg fr fw fc fk C Cn Ct fIn fIt)
    (G_rows_in : FnOk P w K mg base CX0 1 fr fdr ["text"] spRowsIn) (b_rows_in : Binds K fdr ["text"] [])
    (G_words_in : FnOk P w K mg base CX0 1 fw fdw ["row"] spWords) (b_words_in : Binds K fdw ["row"] [])
    (G_is_kind_name : FnOk P w K mg base CX0 2 fk fdk ["word"] (spIs kindB)) (b_is_kind_name : Binds K fdk ["word"] [])
    (M : Mk K C fI) (G_init : FnOk P w K mg base CX0 1 fI fdI ["self", "rows"] (spRInit C)) (b_init : Binds K fdI ["self", "rows"] [])
    (In : FnOk P w K mg base CX0 2 fIn fdn ["self", "row"] (spI1 Cn "row")) (bn : Binds K fdn ["self", "row"] [])
    (It : FnOk P w K mg base CX0 2 fIt fdt ["self", "word"] (spI1 Ct "word")) (bt : Binds K fdt ["self", "word"] []) : FnOk P w K mg base (L2.CX P w) 4 f fd ["text"] (spRead C Cn Ct) := by
  refine F.okX sc_rread (fun vs H Q E h => ?_) (fun cdv A outer s H vs Q E hr h => ?_)
  · obtain ⟨z, rfl, _⟩ := h
    rfl
  · obtain ⟨z, rfl, hz, hA, q, qN, qT⟩ := h
    refine ⟨_, pss_cons (ps_set (i := 1) sc_rread.nd rfl (.inl rfl) (pe_lst pa_nil))
      (pss_cons (ps_for PassesOwn.leaving rfl (pi_enum (by rfl) T.n_enumerate (pa_cons (pe_call G_rows_in (hr.mono (by decide)) rfl T.g_rows_in T.k_rows_in b_rows_in .nil pass0 (pa_cons (pv 0) pa_nil)) pa_nil)) (pg_tup rfl (pgs_cons (pg_name (i := 2) sc_rread.nd rfl (.inl rfl)) (pgs_cons (pg_name (i := 3) sc_rread.nd rfl (.inl rfl)) pgs_nil)))
        (pss_cons (ps_set (i := 4) sc_rread.nd rfl (.inl rfl) (pe_call G_words_in (hr.mono (by decide)) rfl T.g_words_in T.k_words_in b_words_in .nil pass0 (pa_cons (pv 3) pa_nil)))
        (pss_cons (ps_if (PW.pt (pw_or (pt_cmpR op_ne (pe_callB call_len_seq (by rfl) T.n_len (by decide +kernel) (pa_cons (pv 4) pa_nil)) pe_int (nomark _)) (pw_or (pt_cmpR op_notIn_seq (pe_ix ix_list (pv 4) pe_int (fun _ _ => rfl)) (pe_tup (pa_cons pe_str (pa_cons pe_str pa_nil))) (by rfl)) (pw_or1 (pt_not (pt_val (pe_call G_is_kind_name (hr.mono (by decide)) rfl T.g_is_kind_name T.k_is_kind_name b_is_kind_name .nil pass0 (pa_cons (pe_ix ix_list (pv 4) pe_int (fun _ _ => rfl)) pa_nil))))))))
          (pss_one (ps_raise rfl (takes_of rfl rfl rfl rfl) (Tr.pmk_of T.m_NoRules T.k_NoRules (raises_own T.b_NoRules T.t_NoRules) In hr bn pass0 rfl T.g_NoRules (pa_cons (pv 2) pa_nil)))) pss_nil)
        (pss_one (ps_expr (pe_bm PySem.F.plainAttrs_list PySem.F.slot_list_append PySem.F.type_list_append mt_append (pv 1) (pa_cons (pe_tup (pa_cons (pe_ix ix_list (pv 4) pe_int (fun _ _ => rfl)) (pa_cons (pe_ix ix_list (pv 4) pe_int (fun _ _ => rfl)) pa_nil))) pa_nil)))))))
      (pss_cons (ps_if (pt_cmpR op_gt (pe_callB call_len_seq (by rfl) T.n_len (by decide +kernel) (pa_cons (pv 1) pa_nil)) pe_int (nomark _)) (pss_one (ps_raise rfl (takes_of rfl rfl rfl rfl) (Tr.pmk_of T.m_TooMany T.k_TooMany (raises_own T.b_TooMany T.t_TooMany) It hr bt pass0 rfl T.g_TooMany (pa_cons pe_str pa_nil)))) pss_nil)
      (pss_one (ps_ret (pe_make M G_init (hr.mono (by decide)) rfl T.g_Rules b_init .nil pass0 (pa_cons (pv 1) pa_nil)))))), ?_⟩
    refine ⟨Nat.zero_le _, fun R nR => ?_⟩
    have S0 := new_same (o := .lst []) nR
    have eR : upd H R (.lst []) R = some (.lst []) := upd_same
    generalize upd H R (.lst []) = H0 at *
    refine ⟨_, rfl, z, rfl, hz, fun L H1 S1 nL eL => ?_⟩
    have RL : R ≠ L := ne_of_none eR nL
    have eR1 := S1 _ _ eR
    have hc := rowsL_count z
    refine ⟨L, _, rfl, SqL.of eL, ?_⟩
    refine for_it walk_enum (fun i σ Hi => (∀ b o, b ≠ R → H1 b = some o → Hi b = some o) ∧ (∃ (rs : List (Str × Str)) (vs' : List V), Hi R = some (.lst vs') ∧ RowsAt Hi vs' rs ∧ ((rowsL z).take i).map rowW = rs.map some) ∧ ∃ b2 b3 b4 : Option V, σ = [some (.str z), some (.ref R), b2, b3, b4])
      ⟨fun _ _ _ e => e, ⟨[], [], eR1, .nil, rfl⟩, _, _, _, rfl⟩ (fun i σ H' _ p => SqL.of (p.1 _ _ (Ne.symm RL) eL)) (fun j x σ H5 H6 hj p y => ?_) (fun σ H5 p => ?_)
    · obtain ⟨k1, ⟨rs, vs', eV, hrs, hW⟩, b2, b3, b4, rfl⟩ := p
      obtain ⟨T0, x', y', rfl, nT, rfl, ex, ey⟩ := y
      cases ex
      rw [List.length_map] at hj
      have ey' : ((rowsL z).map V.str)[j]? = some y' := ey
      rw [List.getElem?_map] at ey'
      obtain ⟨row, hrow, rfl⟩ := Option.map_eq_some_iff.mp ey'
      have hm := List.mem_of_getElem? hrow
      have s6 := new_same (o := .tup [.int (j : Nat), .str row]) nT
      have eT : upd H5 T0 (.tup [.int (j : Nat), .str row]) T0 = some (.tup [.int (j : Nat), .str row]) := upd_same
      generalize upd H5 T0 (.tup [.int (j : Nat), .str row]) = H6 at *
      refine ⟨T0, _, rfl, SqT.of eT, rfl, _, _, rfl, _, _, rfl, rfl, ?_⟩
      have hrl := rowsL_len hm
      have hrA := rowsL_asc hA hm
      refine ⟨_, rfl, row, rfl, by omega, fun W H7 s7 nW eW => ?_⟩
      have S7 : Same H5 H7 := s6.trans s7
      have up : ∀ b o, H b = some o → H5 b = some o := fun b o e => k1 b o (ne_of_none e nR) (S1 _ _ (S0 _ _ e))
      have hbef : ∀ m, m < j → ∃ e, ((rowsL z).map rowW)[m]? = some (some e) := fun m h => by
        have h1 : (((rowsL z).take j).map rowW)[m]? = (rs.map some)[m]? := by rw [hW]
        rw [List.getElem?_map, List.getElem?_take_of_lt h, ← List.getElem?_map] at h1
        have hlen : rs.length = j := by
          have := congrArg List.length hW
          rw [List.length_map, List.length_map, List.length_take] at this
          omega
        have h2 : (rs.map some)[m]? = some (some (rs[m]'(by omega))) := by
          rw [List.getElem?_map, List.getElem?_eq_getElem (show m < rs.length by omega)]
          rfl
        exact ⟨_, h1.trans h2⟩
      have bad : ∀ Hx : Hp, Same H7 Hx → rowW row = none → ∃ v, (some (some (V.int (j : Nat)))) = some (some v) ∧ [v].length ≤ 1000 ∧ ∀ a, Hx a = none → spI1 Cn "row" (V.ref a :: [v]) (upd Hx a (exo a Cn none)) (fun v H2 => v = .non ∧ ∃ d fs, H2 a = some (exo a Cn (some d)) ∧ H2 d = some (exd d fs) ∧ Hx d = none ∧ E (.ref Cn) (some d) (upd (del H2 a) d (.xd fs))) (fun _ _ _ => False) := by
        intro Hx sx hb
        refine ⟨_, rfl, (by show 1 ≤ 1000; decide), fun a na => ⟨a, _, rfl, upd_same, .inl ⟨_, rfl⟩, fun x H8 nx ea ed kp => ⟨rfl, x, _, ea, ed, ?_, ?_⟩⟩⟩
        · by_cases xa : x = a
          · rw [xa]
            exact na
          · rw [upd_ne xa] at nx
            exact nx
        · have xa : x ≠ a := fun z => by
            rw [z, upd_same] at nx
            cases nx
          have nx0 : Hx x = none := by
            rw [upd_ne xa] at nx
            exact nx
          refine qN j x _ (fun b o e => ?_) ⟨by rw [List.getElem?_map, hrow, ← hb]; rfl, hbef⟩ upd_same
          have e6 := sx _ _ (S7 _ _ (up b o e))
          rw [upd_ne (ne_of_none e6 nx0), del_ne (ne_of_none e6 na)]
          exact kp b o (ne_of_none e6 na) (new_same na _ _ e6)
      refine ⟨_, rfl, W, _, rfl, .inl (SqL.of eW), rfl, _, rfl, ?_⟩
      rw [List.length_map]
      by_cases h2 : (wordsL row).length = 2
      · obtain ⟨h, k, hw⟩ := two_of h2
        rw [hw] at eW ⊢
        rw [show (!decide (V.int ((([h, k] : List Str).length : Nat) : Int) = V.int 2)) = false from rfl]
        have hkin : k ∈ wordsL row := by rw [hw]; exact List.mem_cons_of_mem _ (List.mem_cons_self ..)
        have hkl := wordsL_len hkin
        refine iteF ?_
        refine ⟨_, rfl, W, _, _, _, rfl, rfl, SqL.of eW, atI_nat (j := 0) rfl, (by show 2 ≤ sizeLine; decide), fun t nt => ?_⟩
        have s8 := new_same (o := .tup [.str "all", .str "root"]) nt
        refine ⟨t, _, rfl, .inr (SqT.of upd_same), rfl, by decide, _, rfl, ?_⟩
        have eW8 := s8 _ _ eW
        rw [show inV (V.str h) [.str "all", .str "root"] = (decide ("all" = h) || decide ("root" = h)) from in2 _ _ _]
        generalize upd H7 t (.tup [.str "all", .str "root"]) = H8 at *
        cases hin : (decide ("all" = h) || decide ("root" = h)) with
        | false =>
          refine iteT (iteT ?_)
          refine bad H8 s8 ?_
          rw [rowW_two hw, hin]
          rfl
        | true =>
          refine iteF ?_
          refine ⟨_, rfl, W, _, _, _, rfl, rfl, SqL.of eW8, atI_nat (j := 1) rfl, k, rfl, by omega, wordsL_asc hrA hkin, fun H9 s9 => ⟨_, rfl, ?_⟩⟩
          cases hk : kindB k with
          | false =>
            refine iteT ?_
            refine bad H9 (s8.trans s9) ?_
            rw [rowW_two hw, hin, hk]
            rfl
          | true =>
            refine iteF ?_
            have S9 : Same H5 H9 := S7.trans (s8.trans s9)
            have eV9 := S9 _ _ eV
            have eW9 := s9 _ _ eW8
            refine ⟨_, rfl, .inl ⟨rfl, _, SqL.of eV9⟩, ?_⟩
            refine ⟨_, rfl, W, _, _, _, rfl, rfl, SqL.of eW9, atI_nat (j := 0) rfl, _, rfl, W, _, _, _, rfl, rfl, SqL.of eW9, atI_nat (j := 1) rfl, (by show 2 ≤ sizeLine; decide), fun t2 nt2 => ?_⟩
            have s10 := new_same (o := .tup [.str h, .str k]) nt2
            have et2 : upd H9 t2 (.tup [.str h, .str k]) t2 = some (.tup [.str h, .str k]) := upd_same
            generalize upd H9 t2 (.tup [.str h, .str k]) = H10 at *
            have eV10 := s10 _ _ eV9
            have hlen : rs.length = j := by
              have := congrArg List.length hW
              rw [List.length_map, List.length_map, List.length_take] at this
              omega
            refine ⟨R, vs', _, rfl, rfl, eV10, by rw [hrs.len, hlen, sizeLine_eq]; omega, ?_⟩
            have kR : ∀ (a : Addr) (xs : List V) (o : HO), H10 a = some (.tup xs) → upd H10 R o a = some (.tup xs) := fun a xs o e => (upd_ne (fun h => by
              rw [h, eV10] at e
              cases e)).trans e
            refine ⟨fun b o n e => (upd_ne n).trans (s10 _ _ (S9 _ _ (k1 b o n e))), ⟨rs ++ [(h, k)], vs' ++ [.ref t2], upd_same, ?_, ?_⟩, _, _, _, rfl⟩
            · exact ((hrs.mono fun a xs e => s10 _ _ (S9 _ _ e)).snoc (p := (h, k)) et2).mono fun a xs e => kR a xs _ e
            · rw [take_snoc hrow, List.map_append, List.map_append, hW]
              show rs.map some ++ [rowW row] = _
              rw [rowW_two hw, hin, hk]
              rfl
      · rw [show (!decide (V.int (((wordsL row).length : Nat) : Int) = V.int 2)) = true from by
          rw [decide_eq_false (fun h => h2 (by have := V.int.inj h; omega))]
          rfl]
        refine iteT (iteT ?_)
        exact bad H7 (Same.refl _) (rowW_len2 h2)
    · obtain ⟨k1, ⟨rs, vs', eV, hrs, hW⟩, b2, b3, b4, rfl⟩ := p
      rw [List.length_map, List.take_length] at hW
      have hlen : rs.length = (rowsL z).length := by
        have := congrArg List.length hW
        rw [List.length_map, List.length_map] at this
        exact this.symm
      have up : Same H H5 := fun b o e => k1 b o (ne_of_none e nR) (S1 _ _ (S0 _ _ e))
      refine ⟨_, rfl, R, _, rfl, .inl (SqL.of eV), _, _, rfl, rfl, _, rfl, ?_⟩
      rw [hrs.len, hlen]
      refine ite2 (fun hg => ?_) (fun hg => ?_)
      · have hg' : 3 < (rowsL z).length := by
          have := of_decide_eq_true hg
          omega
        refine ⟨(by show 1 ≤ 1000; decide), fun a na => ⟨a, _, rfl, upd_same, .inr ⟨_, rfl⟩, fun x H8 nx ea ed kp => ⟨rfl, x, _, ea, ed, ?_, ?_⟩⟩⟩
        · by_cases xa : x = a
          · rw [xa]
            exact na
          · rw [upd_ne xa] at nx
            exact nx
        · have xa : x ≠ a := fun z => by
            rw [z, upd_same] at nx
            cases nx
          have nx0 : H5 x = none := by
            rw [upd_ne xa] at nx
            exact nx
          refine qT x _ (fun b o e => ?_) ⟨rs, hW⟩ hg' upd_same
          have e6 := up b o e
          rw [upd_ne (ne_of_none e6 nx0), del_ne (ne_of_none e6 na)]
          exact kp b o (ne_of_none e6 na) (new_same na _ _ e6)
      · have hg' : (rowsL z).length ≤ 3 := by
          by_cases h : (rowsL z).length ≤ 3
          · exact h
          · exact absurd (decide_eq_true (by omega)) hg
        refine ⟨_, rfl, fun a dx na nd dxa => ?_⟩
        have S8 : Same H5 (upd (upd H5 dx (.own a)) a (.ins C dx [])) := fun b o e => by
          rw [upd_ne (ne_of_none e na), upd_ne (ne_of_none e nd)]
          exact e
        refine ⟨a, dx, R, vs', rs, rfl, upd_same, S8 _ _ eV, hrs.mono fun b xs e => S8 _ _ e, by omega, fun p hp => ?_, fun t H9 k9 ea => ⟨rfl, ?_⟩⟩
        · have h1 : some p ∈ (rowsL z).map rowW := by
            rw [hW]
            exact List.mem_map_of_mem hp
          obtain ⟨r, _, hr'⟩ := List.mem_map.mp h1
          exact rowW_len hr'
        · rw [rows_text hW] at ea
          refine q a H9 (fun b o e => ?_) (up.free na) ⟨rs, hW⟩ hg' ⟨dx, t, ea⟩
          have e5 := up b o e
          exact k9 b o (ne_of_none e5 na) (S8 _ _ e5)
end
end R4

set_option linter.all false
set_option maxRecDepth 100000
set_option maxHeartbeats 8000000
namespace R4
open PySem PySem.Spec PyProof.Rows L2 Gx
/-! ### the law's own reading of rows -/
abbrev s_is_kind : Stmt := topS 20
abbrev n_is_kind : List Str := ["_law_word", "_law_sign"]
theorem sc_is_kind : FnScope n_is_kind ["_law_word"] (defScope s_is_kind) := ⟨rfl, rfl, rfl, by decide +kernel, rfl, by decide +kernel, by decide +kernel⟩
abbrev s_due : Stmt := topS 21
abbrev n_due : List Str := ["_law_text", "_law_rows", "_law_at", "_law_row", "_law_words"]
theorem sc_due : FnScope n_due ["_law_text"] (defScope s_due) := ⟨rfl, rfl, rfl, by decide +kernel, rfl, by decide +kernel, by decide +kernel⟩
abbrev s_read : Stmt := topS 22
abbrev n_read : List Str := ["_law_text", "_law_found", "e"]
theorem sc_read : FnScope n_read ["_law_text"] (defScope s_read) := ⟨rfl, rfl, rfl, by decide +kernel, rfl, by decide +kernel, by decide +kernel⟩
def ttCap : TT := tTest (tOp (fun x y H Q => ∃ (c : Nat) (z : Str), x = .str ⟨#[c]⟩ ∧ y = .str z ∧ Q (.bl (!decide (c ∈ z.cps.toList))) H) (tVar 1) (tC (.str "ABCDEFGHIJKLMNOPQRSTUVWXYZ")))
theorem caps_mem (c : Nat) : (c ∈ ("ABCDEFGHIJKLMNOPQRSTUVWXYZ" : Str).cps.toList) ↔ 65 ≤ c ∧ c ≤ 90 := by
  constructor
  · intro h
    exact (by decide +kernel : ∀ x ∈ ("ABCDEFGHIJKLMNOPQRSTUVWXYZ" : Str).cps.toList, 65 ≤ x ∧ x ≤ 90) c h
  · intro ⟨h1, h2⟩
    have h := caps_at (c - 65) (by omega)
    rw [show 65 + (c - 65) = c from by omega] at h
    exact List.mem_of_getElem? h
def AllOk (z : Str) : Prop := ∃ rs : List (Str × Str), (rowsL z).map rowW = rs.map some
def DueR (H : Hp) (z : Str) (t : Addr) : Prop :=
  (∃ j, FirstBad (rowsL z) j ∧ H t = some (.tup [.str "row", .int (j : Nat)])) ∨ (AllOk z ∧ 3 < (rowsL z).length ∧ H t = some (.tup [.str "many", .str "rows"])) ∨ (AllOk z ∧ (rowsL z).length ≤ 3 ∧ H t = some (.tup [.str "text", .str z]))
def spDueR : Sp := fun vs H Q _ => ∃ z : Str, vs = [.str z] ∧ z.length ≤ 1000 ∧ Asc z ∧ ∀ (t : Addr) (H' : Hp), Same H H' → DueR H' z t → Q (.ref t) H'
structure NmD (mg : Str → Option Value) (K : PySem.W.Frag) (fi : Addr) : Prop where
  g__law_is_kind : mg "_law_is_kind" = some (.ref fi)
  k__law_is_kind : PySem.W.keepIn K (.ref fi) = true
  n_len : mg "len" = none
  n_enumerate : mg "enumerate" = none
structure NmR (mg : Str → Option Value) (K : PySem.W.Frag) (C Cn Ct Ck Cs : Addr) (mc : Value) (ps gs fr : Addr) : Prop where
  g_KeptError : mg "KeptError" = some (.ref Ck)
  g_NoKinds : mg "NoKinds" = some (.ref Cs)
  cr : ClX.CRead K C mc
  cs : Wc.CSta K C mc "read" ps fr
  str : PySem.W.findIn K (.ref C) "__str__" = some (some (.ref gs))
  isf : PySem.W.isFn K (.ref gs) = true
  e_nn : PySem.W.exmOne K (.ref Cn) (.ref Cn) = some true
  e_tn : PySem.W.exmOne K (.ref Ct) (.ref Cn) = some false
  e_tt : PySem.W.exmOne K (.ref Ct) (.ref Ct) = some true
  x_n : ExcC K Cn
  x_t : ExcC K Ct
  f_n : XfC K Cn
  f_t : XfC K Ct
  no_n : PySem.W.findIn K (.ref Cn) "row" = some none
  no_t : PySem.W.findIn K (.ref Ct) "word" = some none
  k_nn : PySem.W.kitAny K (.ref Cn) [.ref Cs, .ref Ct] = some false
  k_tk : PySem.W.kitOne K (.ref Ct) (.ref Ck) = some true
  k_tv : PySem.W.kitOne K (.ref Ct) (.type "ValueError") = some true
  n_str : mg "str" = none
  n_ValueError : mg "ValueError" = none
section
variable {P : Program} {w : World} {K : PySem.W.Frag} {mg : Str → Option Value} {base : Heap}
theorem ok_is_kind {f : Addr} {fd : FuncData} (F : Fun K "_law_is_kind" "_law_is_kind" s_is_kind f fd) (n_len : mg "len" = none) : FnOk P w K mg base CX0 1 f fd ["_law_word"] (spIs kindB) := by
  refine F.ok sc_is_kind (fun vs H Q E h => ?_) (fun cdv A outer s H vs Q E hr h => ?_)
  · obtain ⟨z, rfl, _⟩ := h
    rfl
  · obtain ⟨z, rfl, hz, hA, q⟩ := h
    have hu64 := hr.units
    refine ⟨_, pss_one (ps_ret (pe_and (pe_chain op_lt op_lt pe_int (pe_callB call_len_str (by rfl) n_len (by decide +kernel) (pa_cons (pv 0) pa_nil)) pe_int)
      (pe_one (pe_cmpR (op_eqD hu64) (pe_lc (own := [("_law_sign", 1)]) (g := gName 1) (tt := ttCap) rfl sc_is_kind.nd (pi_str (pv 0)) (blkOk_by (own := [("_law_sign", 1)]) (N := n_is_kind) (sc := defScope s_is_kind) (by decide +kernel)) (fun _ _ _ _ _ => (pg_name (i := 1) sc_is_kind.nd rfl (.inl rfl))) (fun _ _ _ _ _ => pts_one (pt_cmpR op_notIn_sign (pv 1) pe_str (by rfl))) (fun _ _ _ _ _ => (pv 1))) (pe_lst pa_nil) (nomark _))))), ?_⟩
    have hz' : z.length ≤ sizeLine := Nat.le_of_lt (small1000 hz)
    have hk : kindB z = (decide (0 < z.length) && (decide (z.length < 5) && z.cps.toList.all fun c => decide (65 ≤ c) && decide (c ≤ 90))) := by
      unfold kindB consB
      rw [show decide (z.length ≤ 4) = decide (z.length < 5) from decide_eq_decide.mpr (by omega)]
    refine ⟨_, rfl, z, rfl, hz', _, _, rfl, rfl, _, rfl, ite2 (fun h0 => ?_) (fun h0 => ?_)⟩
    · have h0' : 0 < z.length := by
        have := of_decide_eq_true h0
        omega
      refine ⟨_, _, rfl, rfl, _, rfl, ite2 (fun h1 => ?_) (fun h1 => ?_)⟩
      · have h1' : z.length < 5 := by
          have := of_decide_eq_true h1
          omega
        refine ⟨_, rfl, z, rfl, fun D nD => ?_⟩
        refine lc_it walk_str (fun i Hi => (∀ b o, b ≠ D → H b = some o → Hi b = some o) ∧ Hi D = some (.lst ((Gx.signs ((z.cps.toList.take i).filter fun c => !decide (c ∈ ("ABCDEFGHIJKLMNOPQRSTUVWXYZ" : Str).cps.toList))).map V.str)))
          ⟨fun b o x e => by rw [upd_ne x]; exact e, upd_same⟩ (fun _ _ _ _ => True.intro) (fun i x Hi Hj hi p y => ?_) (fun Hi p => ?_)
        · obtain ⟨rfl, c, hc, rfl⟩ := y
          have hcl : z.cps.toList[i]? = some c := by rw [Array.getElem?_toList]; exact hc
          refine ⟨rfl, _, rfl, c, _, rfl, rfl, _, rfl, ite2 (fun hb => ?_) (fun hb => ?_)⟩
          · refine ⟨_, rfl, _, p.2, ?_, fun b o x e => by rw [upd_ne x]; exact p.1 b o x e, ?_⟩
            · rw [List.length_map]
              unfold Gx.signs
              rw [List.length_map]
              have h1 := List.length_filter_le (fun c => !decide (c ∈ ("ABCDEFGHIJKLMNOPQRSTUVWXYZ" : Str).cps.toList)) (z.cps.toList.take i)
              rw [List.length_take] at h1
              exact small1000 (Nat.le_trans h1 (Nat.le_trans (Nat.min_le_right _ _) hz))
            · rw [upd_same, take_snoc hcl, List.filter_append, List.filter_cons, hb]
              unfold Gx.signs
              rw [List.map_append, List.map_append]
              rfl
          · refine ⟨p.1, ?_⟩
            have hb' : (!decide (c ∈ ("ABCDEFGHIJKLMNOPQRSTUVWXYZ" : Str).cps.toList)) = false := Bool.eq_false_iff.mpr hb
            rw [take_snoc hcl, List.filter_append, List.filter_cons, hb']
            show _ = some (HO.lst ((Gx.signs (_ ++ [])).map V.str))
            rw [List.append_nil]
            exact p.2
        · refine ⟨Nat.zero_le _, fun e0 n0 => ?_⟩
          have eD := p.2
          rw [show z.cps.size = z.cps.toList.length from rfl, List.take_length] at eD
          have hF : ∀ x ∈ Gx.signs (z.cps.toList.filter fun c => !decide (c ∈ ("ABCDEFGHIJKLMNOPQRSTUVWXYZ" : Str).cps.toList)), Asc x := fun x hx => by
            obtain ⟨c, hc, rfl⟩ := List.mem_map.mp hx
            intro d hd
            rw [List.mem_singleton.mp hd]
            exact hA c (List.mem_filter.mp hc).1
          have S9 : Same H (upd Hi e0 (.lst [])) := fun b o e => new_same n0 _ _ (p.1 b o (ne_of_none e nD) e)
          refine ⟨_, .list [], .lst (SqL.of (new_same n0 _ _ eD)) (dp_strs _), .lst (SqL.of upd_same) .nil, shaped_strs hF, rfl, ?_⟩
          rw [eqv_nil, filter_nil (q := fun c => decide (65 ≤ c) && decide (c ≤ 90)) (fun c _ => by
            congr 1
            rw [← Bool.decide_and]
            exact decide_eq_decide.mpr (caps_mem c))]
          rw [decide_eq_true h0', decide_eq_true h1', Bool.true_and, Bool.true_and] at hk
          rw [← hk]
          exact q _ S9
      · have h2 : ¬ z.length < 5 := fun h => h1 (decide_eq_true (by omega))
        rw [decide_eq_false h2, Bool.false_and, Bool.and_false] at hk
        rw [hk] at q
        exact q H (Same.refl H)
    · have h2 : ¬ 0 < z.length := fun h => h0 (decide_eq_true (by omega))
      rw [decide_eq_false h2, Bool.false_and] at hk
      rw [hk] at q
      exact ⟨_, rfl, iteF (q H (Same.refl H))⟩
theorem split_words {r : Str} : (∃ h k, Txt.split r " " = [h, k] ∧ wordsL r = [h, k]) ∨ ((Txt.split r " ").length ≠ 2 ∧ rowW r = none) := by
  by_cases e : r = ""
  · right
    rw [e]
    exact ⟨by decide +kernel, by decide +kernel⟩
  · by_cases h2 : (Txt.split r " ").length = 2
    · obtain ⟨h, k, hw⟩ := two_of h2
      exact .inl ⟨h, k, hw, (wordsL_of e).trans hw⟩
    · exact .inr ⟨h2, rowW_len2 (by rw [wordsL_of e]; exact h2)⟩
theorem ok_due {f fi : Addr} {fd fdi : FuncData} (F : Fun K "_law_due" "_law_due" s_due f fd) (T : NmD mg K fi)
    (G__law_is_kind : FnOk P w K mg base CX0 1 fi fdi ["_law_word"] (spIs kindB)) (b__law_is_kind : Binds K fdi ["_law_word"] []) : FnOk P w K mg base CX0 2 f fd ["_law_text"] spDueR := by
  refine F.ok sc_due (fun vs H Q E h => ?_) (fun cdv A outer s H vs Q E hr h => ?_)
  · obtain ⟨z, rfl, _⟩ := h
    rfl
  · obtain ⟨z, rfl, hz, hA, q⟩ := h
    refine ⟨_, (C8.pss_cut (ps_set (i := 1) sc_due.nd rfl (.inl rfl) (pe_ifExp (pt_cmpR op_ne (pv 0) pe_str (nomark _)) (pe_split (pv 0) pe_str) (pe_lst pa_nil)))
  (pss_cons (ps_for PassesOwn.never rfl (pi_enum (by rfl) T.n_enumerate (pa_cons (pv 1) pa_nil)) (pg_tup rfl (pgs_cons (pg_name (i := 2) sc_due.nd rfl (.inl rfl)) (pgs_cons (pg_name (i := 3) sc_due.nd rfl (.inl rfl)) pgs_nil)))
  (pss_cons (ps_set (i := 4) sc_due.nd rfl (.inl rfl) (pe_split (pv 3) pe_str))
  (pss_one (ps_if (PW.pt (pw_or (pt_cmpR op_ne (pe_callB call_len_seq (by rfl) T.n_len (by decide +kernel) (pa_cons (pv 4) pa_nil)) pe_int (nomark _)) (pw_or (pt_cmpR op_notIn_seq (pe_ix ix_list (pv 4) pe_int (fun _ _ => rfl)) (pe_tup (pa_cons pe_str (pa_cons pe_str pa_nil))) (by rfl)) (pw_or1 (pt_not (pt_val (pe_call G__law_is_kind hr rfl T.g__law_is_kind T.k__law_is_kind b__law_is_kind .nil pass0 (pa_cons (pe_ix ix_list (pv 4) pe_int (fun _ _ => rfl)) pa_nil)))))))) (pss_one (ps_ret (pe_tup (pa_cons pe_str (pa_cons (pv 2) pa_nil))))) pss_nil))))
  (pss_one (ps_ret (pe_ifExp (pt_cmpR op_gt (pe_callB call_len_seq (by rfl) T.n_len (by decide +kernel) (pa_cons (pv 1) pa_nil)) pe_int (nomark _)) (pe_tup (pa_cons pe_str (pa_cons pe_str pa_nil))) (pe_tup (pa_cons pe_str (pa_cons (pv 0) pa_nil)))))))), ?_⟩
    have hc := rowsL_count z
    refine ⟨fun σ' Hx => ∃ R, σ' = [some (.str z), some (.ref R), none, none, none] ∧ Same H Hx ∧ Hx R = some (.lst ((rowsL z).map V.str)), ?_, ?_⟩
    · refine ⟨_, rfl, rfl, _, rfl, ite2 (fun h0 => ?_) (fun h0 => ?_)⟩
      · have hz0 : ¬ z = "" := fun e => by
          rw [e] at h0
          exact absurd h0 (by decide)
        refine ⟨_, rfl, ⟨_, rfl⟩, _, _, rfl, rfl, by decide +kernel, (by rw [sizeLine_eq]; omega), fun L nL => ⟨L, rfl, new_same nL, ?_⟩⟩
        rw [rowsL_of hz0]
        exact upd_same
      · have hz0 : z = "" := by
          by_cases h : z = ""
          · exact h
          · exact absurd (by
              show (!decide (V.str z = V.str "")) = true
              rw [decide_eq_false (fun e => h (V.str.inj e))]
              rfl) h0
        refine ⟨Nat.zero_le _, fun L nL => ⟨L, rfl, new_same nL, ?_⟩⟩
        rw [rowsL, if_pos hz0]
        exact upd_same
    · rintro σ' Hx ⟨R, rfl, S1, eR⟩
      refine ⟨_, rfl, R, _, rfl, SqL.of eR, ?_⟩
      refine for_it walk_enum (fun i σ Hi => Same Hx Hi ∧ (∀ m, m < i → ∃ e, ((rowsL z).map rowW)[m]? = some (some e)) ∧ ∃ b2 b3 b4 : Option V, σ = [some (.str z), some (.ref R), b2, b3, b4])
        ⟨Same.refl _, (fun m h => absurd h (Nat.not_lt_zero _)), _, _, _, rfl⟩ (fun i σ H' _ p => SqL.of (p.1 _ _ eR)) (fun j x σ H5 H6 hj p y => ?_) (fun σ H5 p => ?_)
      · obtain ⟨s5, hm, b2, b3, b4, rfl⟩ := p
        obtain ⟨T0, x', y', rfl, nT, rfl, ex, ey⟩ := y
        cases ex
        rw [List.length_map] at hj
        have ey' : ((rowsL z).map V.str)[j]? = some y' := ey
        rw [List.getElem?_map] at ey'
        obtain ⟨row, hrow, rfl⟩ := Option.map_eq_some_iff.mp ey'
        have hmem := List.mem_of_getElem? hrow
        have hrl := rowsL_len hmem
        have hrA := rowsL_asc hA hmem
        have s6 := s5.trans (new_same (o := .tup [.int (j : Nat), .str row]) nT)
        have eT : upd H5 T0 (.tup [.int (j : Nat), .str row]) T0 = some (.tup [.int (j : Nat), .str row]) := upd_same
        generalize upd H5 T0 (.tup [.int (j : Nat), .str row]) = H6 at *
        refine ⟨T0, _, rfl, SqT.of eT, rfl, _, _, rfl, _, _, rfl, rfl, ?_⟩
        refine ⟨_, rfl, ⟨_, rfl⟩, _, _, rfl, rfl, by decide +kernel, (by rw [sizeLine_eq]; omega), fun W nW => ?_⟩
        have s7 := s6.trans (new_same (o := .lst ((Txt.split row " ").map V.str)) nW)
        have eW : upd H6 W (.lst ((Txt.split row " ").map V.str)) W = some (.lst ((Txt.split row " ").map V.str)) := upd_same
        generalize upd H6 W (.lst ((Txt.split row " ").map V.str)) = H7 at *
        have bad : ∀ Hy : Hp, Same H7 Hy → rowW row = none → ([V.str "row", .int (j : Nat)] : List V).length ≤ sizeLine ∧ ∀ p, Hy p = none → Q (.ref p) (upd Hy p (.tup [.str "row", .int (j : Nat)])) := fun Hy sy hb =>
          ⟨(by show 2 ≤ sizeLine; decide), fun t nt => q t _ (((S1.trans s7).trans sy).trans (new_same nt)) (.inl ⟨j, ⟨by rw [List.getElem?_map, hrow, ← hb]; rfl, hm⟩, upd_same⟩)⟩
        refine ⟨_, rfl, W, _, rfl, .inl (SqL.of eW), rfl, _, rfl, ?_⟩
        rw [List.length_map]
        rcases split_words (r := row) with ⟨h, k, hs, hw⟩ | ⟨hs, hb⟩
        · rw [hs] at eW ⊢
          rw [show (!decide (V.int ((([h, k] : List Str).length : Nat) : Int) = V.int 2)) = false from rfl]
          have hkin : k ∈ wordsL row := by rw [hw]; exact List.mem_cons_of_mem _ (List.mem_cons_self ..)
          have hkl := wordsL_len hkin
          refine iteF ?_
          refine ⟨_, rfl, W, _, _, _, rfl, rfl, SqL.of eW, atI_nat (j := 0) rfl, (by show 2 ≤ sizeLine; decide), fun t nt => ?_⟩
          have s8 := new_same (o := .tup [.str "all", .str "root"]) nt
          refine ⟨t, _, rfl, .inr (SqT.of upd_same), rfl, by decide, _, rfl, ?_⟩
          have eW8 := s8 _ _ eW
          rw [show inV (V.str h) [.str "all", .str "root"] = (decide ("all" = h) || decide ("root" = h)) from in2 _ _ _]
          generalize upd H7 t (.tup [.str "all", .str "root"]) = H8 at *
          cases hin : (decide ("all" = h) || decide ("root" = h)) with
          | false =>
            refine iteT (iteT ?_)
            exact ⟨_, rfl, bad H8 s8 (by rw [rowW_two hw, hin]; rfl)⟩
          | true =>
            refine iteF ?_
            refine ⟨_, rfl, W, _, _, _, rfl, rfl, SqL.of eW8, atI_nat (j := 1) rfl, k, rfl, by omega, wordsL_asc hrA hkin, fun H9 s9 => ⟨_, rfl, ?_⟩⟩
            cases hk : kindB k with
            | false =>
              refine iteT ?_
              exact ⟨_, rfl, bad H9 (s8.trans s9) (by rw [rowW_two hw, hin, hk]; rfl)⟩
            | true =>
              refine iteF ?_
              refine ⟨s7.trans (s8.trans s9), fun m h' => ?_, _, _, _, rfl⟩
              by_cases hmj : m = j
              · exact ⟨(h, k), by rw [hmj, List.getElem?_map, hrow]; show some (rowW row) = _; rw [rowW_two hw, hin, hk]; rfl⟩
              · exact hm m (by omega)
        · rw [show (!decide (V.int (((Txt.split row " ").length : Nat) : Int) = V.int 2)) = true from by
            rw [decide_eq_false (fun h => hs (by have := V.int.inj h; omega))]
            rfl]
          refine iteT (iteT ?_)
          exact ⟨_, rfl, bad H7 (Same.refl _) hb⟩
      · obtain ⟨s5, hm, b2, b3, b4, rfl⟩ := p
        have hall : AllOk z := by
          rcases first_bad ((rowsL z).map rowW) with ⟨rs, h⟩ | ⟨j, hj, _⟩
          · exact ⟨rs, h⟩
          · exfalso
            have hjl := (List.getElem?_eq_some_iff.mp hj).1
            rw [List.length_map] at hjl
            obtain ⟨e, he⟩ := hm j (by rw [List.length_map]; exact hjl)
            rw [hj] at he
            cases he
        refine ⟨_, rfl, R, _, rfl, .inl (SqL.of (s5 _ _ eR)), _, _, rfl, rfl, _, rfl, ?_⟩
        rw [List.length_map]
        refine ite2 (fun hg => ?_) (fun hg => ?_)
        · exact ⟨(by show 2 ≤ sizeLine; decide), fun t nt => q t _ ((S1.trans s5).trans (new_same nt)) (.inr (.inl ⟨hall, by have := of_decide_eq_true hg; omega, upd_same⟩))⟩
        · refine ⟨_, rfl, (by show 2 ≤ sizeLine; decide), fun t nt => q t _ ((S1.trans s5).trans (new_same nt)) (.inr (.inr ⟨hall, ?_, upd_same⟩))⟩
          by_cases h : (rowsL z).length ≤ 3
          · exact h
          · exact absurd (decide_eq_true (by omega)) hg
end
end R4

set_option linter.all false
set_option maxRecDepth 100000
set_option maxHeartbeats 8000000
namespace R4
open PySem PySem.Spec PyProof.Rows L2 Gx
/-! ### what the law reads, and texts spoilt -/
abbrev s_spoilt : Stmt := topS 23
abbrev n_spoilt : List Str := ["_law_box_here", "_law_text", "_law_caps_here", "_law_form", "_law_rows", "_law_at", "_law_spot", "_law_some"]
theorem sc_spoilt : FnScope n_spoilt ["_law_box_here", "_law_text", "_law_caps_here"] (defScope s_spoilt) := ⟨rfl, rfl, rfl, by decide +kernel, rfl, by decide +kernel, by decide +kernel⟩
theorem njoin_le : ∀ ys : List Str, (PySem.Str.join "\n" ys).length ≤ wt ys - 1
  | [] => by
    show 0 ≤ _
    omega
  | [a] => by
    rw [wt_one]
    show a.length ≤ _
    omega
  | a :: b :: r => by
    have h := njoin_le (b :: r)
    show (a ++ "\n" ++ PySem.Str.join "\n" (b :: r)).length ≤ _
    rw [len_app, len_app, show ("\n" : Str).length = 1 from by decide +kernel, show a :: b :: r = [a] ++ (b :: r) from rfl, wt_app, wt_one]
    have h2 : 1 ≤ wt (b :: r) := by
      unfold wt
      rw [List.length_cons]
      omega
    omega
theorem njoin_asc : ∀ {ys : List Str}, (∀ y ∈ ys, Asc y) → Asc (PySem.Str.join "\n" ys)
  | [], _ => fun c hc => absurd hc (List.not_mem_nil)
  | [a], h => h a (List.mem_singleton.mpr rfl)
  | a :: b :: r, h => app_asc (app_asc (h a (List.mem_cons_self ..)) (by decide +kernel)) (njoin_asc fun y hy => h y (List.mem_cons_of_mem _ hy))
theorem ntjoin (ys : List Str) : Txt.join "\n" ys = PySem.Str.join "\n" ys := TL.join_eq _ _
theorem njoin_fits {ys : List Str} (h : wt ys ≤ 5000) : (ys.map (·.length)).sum + ys.length * ("\n" : Str).length ≤ 16777216 := by
  rw [show ("\n" : Str).length = 1 from by decide +kernel, Nat.mul_one]
  unfold wt at h
  omega
def OkS (n : Nat) (z : Str) : Prop := z.length ≤ n ∧ Asc z
theorem OkS.app {a b : Nat} {x y : Str} (h : OkS a x) (k : OkS b y) (c : Nat) (hc : a + b ≤ c) : OkS c (x ++ y) := ⟨by rw [len_app]; have := h.1; have := k.1; omega, app_asc h.2 k.2⟩
theorem OkS.up {a b : Nat} {x : Str} (h : OkS a x) (hc : a ≤ b) : OkS b x := ⟨Nat.le_trans h.1 hc, h.2⟩
def someR (a b : Str) : List Str := ["", "all", "all " ++ a, "root " ++ b ++ " " ++ a, "roots " ++ a, "all all", "root a", "All " ++ a, "all ABCDE", "root  " ++ a, " root " ++ a, "any K", "all " ++ a ++ " "]
theorem someR_ok {a b : Str} (ha : CapOk a) (hb : CapOk b) : ∀ y ∈ someR a b, OkS 15 y := by
  have A : OkS 4 a := ha
  have B : OkS 4 b := hb
  have l : ∀ {n : Nat} {z : Str}, z.length ≤ n → Asc z → OkS n z := fun h k => ⟨h, k⟩
  intro y hy
  simp only [someR, List.mem_cons, List.not_mem_nil, or_false] at hy
  rcases hy with rfl | rfl | rfl | rfl | rfl | rfl | rfl | rfl | rfl | rfl | rfl | rfl | rfl
  · exact l (by decide +kernel) (by decide +kernel)
  · exact l (by decide +kernel) (by decide +kernel)
  · exact (l (n := 4) (by decide +kernel) (by decide +kernel)).app A 15 (by decide)
  · exact (((l (n := 5) (by decide +kernel) (by decide +kernel)).app B 9 (by decide)).app (l (n := 1) (by decide +kernel) (by decide +kernel)) 10 (by decide)).app A 15 (by decide)
  · exact (l (n := 6) (by decide +kernel) (by decide +kernel)).app A 15 (by decide)
  · exact l (by decide +kernel) (by decide +kernel)
  · exact l (by decide +kernel) (by decide +kernel)
  · exact (l (n := 4) (by decide +kernel) (by decide +kernel)).app A 15 (by decide)
  · exact l (by decide +kernel) (by decide +kernel)
  · exact (l (n := 6) (by decide +kernel) (by decide +kernel)).app A 15 (by decide)
  · exact (l (n := 6) (by decide +kernel) (by decide +kernel)).app A 15 (by decide)
  · exact l (by decide +kernel) (by decide +kernel)
  · exact ((l (n := 4) (by decide +kernel) (by decide +kernel)).app A 8 (by decide)).app (l (n := 1) (by decide +kernel) (by decide +kernel)) 15 (by decide)
def tsN (K : PySem.W.Frag) (Cn Cs Ct : Addr) : Addr → Value → Option Addr → TS := fun a cls d => tAsg (tIf (tNot (tB (tCB (Wc.rIsDT K a cls d) (tCons (tVar 2) (tCons (tTup (tCons (tC (.ref Cs)) (tCons (tC (.ref Ct)) tNil))) tNil))))) (tTup (tCons (tC (.str "row")) (tCons (tXf a cls d Cn "row" (tVar 2)) tNil))) (tTup (tCons (tC (.str "odd")) tNil))) (gName 1)
def tsT (K : PySem.W.Frag) (Ct Ck : Addr) : Addr → Value → Option Addr → TS := fun a cls d => tAsg (tIf (tAnd (tB (tCB (rIsD K a cls d) (tCons (tVar 2) (tCons (tC (.ref Ck)) tNil)))) (tB (tCB (rIsD K a cls d) (tCons (tVar 2) (tCons (tC (.ty "ValueError")) tNil))))) (tTup (tCons (tC (.str "many")) (tCons (tXf a cls d Ct "word" (tVar 2)) tNil))) (tTup (tCons (tC (.str "odd")) tNil))) (gName 1)
def spSpoilt : Sp := fun vs H Q _ => ∃ (p c : Addr) (z : Str) (ys : List Str) (m : Nat), vs = [.ref p, .str z, .ref c] ∧ BoxAt H p m ∧ H c = some (.lst (ys.map V.str)) ∧ c ≠ p ∧ ys.length = 4 ∧ (∀ y ∈ ys, CapOk y) ∧ m ≤ 50000 ∧ z.length ≤ 400 ∧ Asc z ∧
  ∀ (z' : Str) (H' : Hp), z'.length ≤ 2 * z.length + 20 → Asc z' → BoxAt H' p (m + 10) → Kp p H H' → Q (.str z') H'
structure NmS (mg : Str → Option Value) (K : PySem.W.Frag) (ft fp : Addr) : Prop where
  g__law_take : mg "_law_take" = some (.ref ft)
  k__law_take : PySem.W.keepIn K (.ref ft) = true
  g__law_pick : mg "_law_pick" = some (.ref fp)
  k__law_pick : PySem.W.keepIn K (.ref fp) = true
  n_len : mg "len" = none
section
variable {P : Program} {w : World} {K : PySem.W.Frag} {mg : Str → Option Value} {base : Heap}
theorem ok_read {fr fw fc fk C Cn Ct fIn fIt Ck Cs ps gs frd f : Addr} {mc : Value} {fd fdr fds : FuncData} (F : Fun K "_law_read" "_law_read" s_read f fd) (T : NmW P w K mg fr fw fc fk C Cn Ct fIn fIt) (TR : NmR mg K C Cn Ct Ck Cs mc ps gs frd)
    (G_read : FnOk P w K mg base (L2.CX P w) 4 frd fdr ["text"] (spRead C Cn Ct)) (b_read : Binds K fdr ["text"] [])
    (G_str : FnOk P w K mg base CX0 1 gs fds ["self"] (spStr C)) (b_str : Binds K fds ["self"] []) : FnOk P w K mg base CX0 5 f fd ["_law_text"] spDueR := by
  refine F.ok sc_read (fun vs H Q E h => ?_) (fun cdv A outer s H vs Q E hr h => ?_)
  · obtain ⟨z, rfl, _⟩ := h
    rfl
  · obtain ⟨z, rfl, hz, hA, q⟩ := h
    refine ⟨_, pss_cons (ps_set (i := 1) sc_read.nd rfl (.inl rfl) (pe_tup (pa_cons pe_str pa_nil)))
      (pss_cons (Tr.ps_try_mix rfl rfl takes0 (fun W pn xe tk _ => by exact pss_one (ps_set (i := 1) sc_read.nd rfl (.inl rfl) (pe_tup (pa_cons pe_str (pa_cons (pe_callTy (Wc.call_strO TR.str TR.isf G_str (hr.mono (by decide)) b_str pass0) (by rfl) TR.n_str (by decide +kernel) (pa_cons (Wc.pe_statS (pe_glob (v := .ref _) rfl T.g_Rules rfl) TR.cr TR.cs G_read hr b_read (fun σ => passAt tk σ) (pa_cons (pv 0) pa_nil)) pa_nil)) pa_nil)))))
        (l := [(.ref Cn, some 2, tsN K Cn Cs Ct), (.ref Ct, some 2, tsT K Ct Ck)])
        (by exact .as (i := 2) (ts := tsN K Cn Cs Ct) sc_read.nd rfl rfl ⟨rfl, by decide, .inl T.g_NoRules⟩ (fun a oe cls d pn hzz hff => by exact pss_one (ps_set (i := 1) sc_read.nd rfl (.inl rfl) (pe_ifExp (pt_not (pt_val (pe_callB (Wc.call_isDT hzz hff) (by rfl) T.n_isinstance (by decide +kernel) (pa_cons (pv 2) (pa_cons (pe_tup (pa_cons (pe_glob (v := .ref _) rfl TR.g_NoKinds rfl) (pa_cons (pe_glob (v := .ref _) rfl T.g_TooMany rfl) pa_nil))) pa_nil))))) (pe_tup (pa_cons pe_str (pa_cons (pe_xf TR.f_n TR.no_n hzz hff (pv 2)) pa_nil))) (pe_tup (pa_cons pe_str pa_nil))))) (.as (i := 2) (ts := tsT K Ct Ck) sc_read.nd rfl rfl ⟨rfl, by decide, .inl T.g_TooMany⟩ (fun a oe cls d pn hzz hff => by exact pss_one (ps_set (i := 1) sc_read.nd rfl (.inl rfl) (pe_ifExp (PW.pt (pw_and (pt_val (pe_callB (call_isD hzz hff) (by rfl) T.n_isinstance (by decide +kernel) (pa_cons (pv 2) (pa_cons (pe_glob (v := .ref _) rfl TR.g_KeptError rfl) pa_nil)))) (pw_and1 (pt_val (pe_callB (call_isD hzz hff) (by rfl) T.n_isinstance (by decide +kernel) (pa_cons (pv 2) (pa_cons (pe_bltn (v := .ty "ValueError") (by rfl) TR.n_ValueError (by decide +kernel) rfl) pa_nil))))))) (pe_tup (pa_cons pe_str (pa_cons (pe_xf TR.f_t TR.no_t hzz hff (pv 2)) pa_nil))) (pe_tup (pa_cons pe_str pa_nil))))) .nil)))
      (pss_one (ps_ret (pv 1)))), ?_⟩
    refine ⟨(by show 1 ≤ sizeLine; decide), fun t0 nt0 => ?_⟩
    have S0 := new_same (o := .tup [.str "other"]) nt0
    generalize upd H t0 (.tup [.str "other"]) = H0 at *
    refine ⟨rfl, _, rfl, z, rfl, hz, hA, fun a H1 s1 na hall hle hat => ?_, fun j d H1 s1 hb ed => ?_, fun d H1 s1 hall hg ed => ?_⟩
    · obtain ⟨dx, u, ha⟩ := id hat
      refine ⟨a, dx, _, rfl, ha, a, z, rfl, hat, hz, z, rfl, (by show 2 ≤ sizeLine; decide), fun t nt => ?_⟩
      exact ⟨_, rfl, q t _ ((S0.trans s1).trans (new_same nt)) (.inr (.inr ⟨hall, hle, upd_same⟩))⟩
    · refine ⟨true, TR.e_nn, fun _ a0 na0 => ?_, fun z => nomatch z⟩
      refine ⟨_, rfl, (by show 2 ≤ sizeLine; decide), fun tp ntp => ?_⟩
      have s2 := new_same (o := .tup [.ref Cs, .ref Ct]) ntp
      have ed2 := s2 _ _ ed
      refine ⟨_, d, tp, _, _, _, false, rfl, rfl, rfl, ed2, TR.x_n, upd_same, .cons (.own Cs) (.cons (.own Ct) .nil), TR.k_nn, _, rfl, iteT ?_⟩
      refine ⟨_, rfl, rfl, rfl, d, _, _, rfl, ed2, rfl, (by show 2 ≤ sizeLine; decide), fun t nt => ?_⟩
      exact ⟨_, rfl, q t _ (((S0.trans s1).trans s2).trans (new_same nt)) (.inl ⟨j, hb, upd_same⟩)⟩
    · refine ⟨false, TR.e_tn, (fun z => nomatch z), fun _ => ⟨true, TR.e_tt, fun _ a0 na0 => ?_, fun z => nomatch z⟩⟩
      refine ⟨_, rfl, _, d, _, .ref Ck, .ref Ck, true, rfl, rfl, rfl, ed, TR.x_t, (fun u r => r), TR.k_tk, _, rfl, iteT ?_⟩
      refine ⟨_, rfl, _, d, _, .ty "ValueError", .type "ValueError", true, rfl, rfl, rfl, ed, TR.x_t, (fun u r => r), TR.k_tv, _, rfl, iteT ?_⟩
      refine ⟨_, rfl, rfl, rfl, d, _, _, rfl, ed, rfl, (by show 2 ≤ sizeLine; decide), fun t nt => ?_⟩
      exact ⟨_, rfl, q t _ ((S0.trans s1).trans (new_same nt)) (.inr (.inl ⟨hall, hg, upd_same⟩))⟩
end
end R4

set_option linter.all false
set_option maxRecDepth 100000
set_option maxHeartbeats 8000000
namespace R4
open PySem PySem.Spec PyProof.Rows L2 Gx
/-! ### a text spoilt -/
theorem big60 : 60 ≤ sizeLine := by rw [sizeLine_eq]; decide
section
variable {P : Program} {w : World} {K : PySem.W.Frag} {mg : Str → Option Value} {base : Heap}
theorem ok_spoilt {f ft fp : Addr} {fd fdt fdp : FuncData} (F : Fun K "_law_spoilt" "_law_spoilt" s_spoilt f fd) (T : NmS mg K ft fp)
    (G__law_take : FnOk P w K mg base CX0 2 ft fdt ["_law_box_here", "_law_many"] spTake) (b__law_take : Binds K fdt ["_law_box_here", "_law_many"] [])
    (G__law_pick : FnOk P w K mg base CX0 2 fp fdp ["_law_box_here", "_law_items"] spPick) (b__law_pick : Binds K fdp ["_law_box_here", "_law_items"] []) : FnOk P w K mg base CX0 3 f fd ["_law_box_here", "_law_text", "_law_caps_here"] spSpoilt := by
  refine F.ok sc_spoilt (fun vs H Q E h => ?_) (fun cdv A outer s H vs Q E hr h => ?_)
  · obtain ⟨p, c, z, ys, m, rfl, _⟩ := h
    rfl
  · obtain ⟨p, c, z, ys, m, rfl, hb, hc, cp, hy4, hyc, hm, hz, hA, q⟩ := h
    refine ⟨_, (pss_cons (ps_par (i := 3) (j := 4) (by rfl) sc_spoilt.nd rfl rfl (by decide) rfl rfl (pa_cons (pe_call G__law_take hr rfl T.g__law_take T.k__law_take b__law_take .nil pass0 (pa_cons (pv 0) (pa_cons pe_int pa_nil))) (pa_cons (pe_split (pv 1) pe_str) pa_nil)) (by rfl))
  (pss_cons (ps_par (i := 5) (j := 6) (by rfl) sc_spoilt.nd rfl rfl (by decide) rfl rfl (pa_cons (pe_call G__law_take hr rfl T.g__law_take T.k__law_take b__law_take .nil pass0 (pa_cons (pv 0) (pa_cons (pe_callB call_len_seq (by rfl) T.n_len (by decide +kernel) (pa_cons (pv 4) pa_nil)) pa_nil))) (pa_cons (pe_call G__law_take hr rfl T.g__law_take T.k__law_take b__law_take .nil pass0 (pa_cons (pv 0) (pa_cons (pe_op op_add (pe_callB call_len_str (by rfl) T.n_len (by decide +kernel) (pa_cons (pv 1) pa_nil)) pe_int) pa_nil))) pa_nil)) (by rfl))
  (pss_cons (ps_set (i := 7) sc_spoilt.nd rfl (.inl rfl) (pe_lst (pa_cons pe_str (pa_cons pe_str (pa_cons (pe_op op_add_str pe_str (pe_ix ix_list (pv 2) pe_int (fun _ _ => rfl))) (pa_cons (pe_op op_add_str (pe_op op_add_str (pe_op op_add_str pe_str (pe_ix ix_list (pv 2) pe_int (fun _ _ => rfl))) pe_str) (pe_ix ix_list (pv 2) pe_int (fun _ _ => rfl))) (pa_cons (pe_op op_add_str pe_str (pe_ix ix_list (pv 2) pe_int (fun _ _ => rfl))) (pa_cons pe_str (pa_cons pe_str pa_nil)))))))))
  (pss_cons (ps_set (i := 7) sc_spoilt.nd rfl (.inl rfl) (pe_op op_cat (pv 7) (pe_lst (pa_cons (pe_op op_add_str pe_str (pe_ix ix_list (pv 2) pe_int (fun _ _ => rfl))) (pa_cons pe_str (pa_cons (pe_op op_add_str pe_str (pe_ix ix_list (pv 2) pe_int (fun _ _ => rfl))) (pa_cons (pe_op op_add_str pe_str (pe_ix ix_list (pv 2) pe_int (fun _ _ => rfl))) (pa_cons pe_str pa_nil))))))))
  (pss_cons (ps_expr (pe_bm PySem.F.plainAttrs_list PySem.F.slot_list_append PySem.F.type_list_append mt_append (pv 7) (pa_cons (pe_op op_add_str (pe_op op_add_str pe_str (pe_ix ix_list (pv 2) pe_int (fun _ _ => rfl))) pe_str) pa_nil)))
  (pss_cons (ps_if (pt_cmpR op_eq (pv 3) pe_int (nomark _)) (pss_one (ps_ret (pe_op op_add_str (pe_op op_add_str (pe_slice sl_str (pv 1) po_none (po_some (pv 6))) (pe_ix ix_str pe_str (pe_call G__law_take hr rfl T.g__law_take T.k__law_take b__law_take .nil pass0 (pa_cons (pv 0) (pa_cons pe_int pa_nil))) (fun _ _ => rfl))) (pe_slice sl_str (pv 1) (po_some (pv 6)) po_none)))) pss_nil)
  (pss_cons (ps_if (pt_cmpR op_eq (pv 3) pe_int (nomark _)) (pss_one (ps_ret (pe_op op_add_str (pe_slice sl_str (pv 1) po_none (po_some (pv 6))) (pe_slice sl_str (pv 1) (po_some (pe_op op_add (pv 6) pe_int)) po_none)))) pss_nil)
  (pss_cons (ps_if (pt_cmpR op_eq (pv 3) pe_int (nomark _)) (pss_one (ps_set (i := 4) sc_spoilt.nd rfl (.inl rfl) (pe_op op_cat (pe_slice sl_list (pv 4) po_none (po_some (pv 5))) (pe_slice sl_list (pv 4) (po_some (pe_op op_add (pv 5) pe_int)) po_none)))) pss_nil)
  (pss_cons (ps_if (pt_cmpR op_eq (pv 3) pe_int (nomark _)) (pss_one (ps_set (i := 4) sc_spoilt.nd rfl (.inl rfl) (pe_op op_cat (pe_slice sl_list (pv 4) po_none (po_some (pe_op op_add (pv 5) pe_int))) (pe_slice sl_list (pv 4) (po_some (pv 5)) po_none)))) pss_nil)
  (pss_cons (ps_if (pt_cmpR op_gt (pv 3) pe_int (nomark _)) (pss_one (ps_set (i := 4) sc_spoilt.nd rfl (.inl rfl) (pe_op op_cat (pe_op op_cat (pe_slice sl_list (pv 4) po_none (po_some (pv 5))) (pe_lst (pa_cons (pe_call G__law_pick hr rfl T.g__law_pick T.k__law_pick b__law_pick .nil pass0 (pa_cons (pv 0) (pa_cons (pv 7) pa_nil))) pa_nil))) (pe_slice sl_list (pv 4) (po_some (pe_op op_sub (pe_op op_add (pv 5) (pv 3)) pe_int)) po_none)))) pss_nil)
  (pss_one (ps_ret (pe_join pe_str (pv 4)))))))))))))), ?_⟩
    obtain ⟨c0, c1, c2, c3, rfl⟩ : ∃ c0 c1 c2 c3, ys = [c0, c1, c2, c3] := by
      match ys, hy4 with
      | [c0, c1, c2, c3], _ => exact ⟨c0, c1, c2, c3, rfl⟩
    have k0 : CapOk c0 := hyc c0 (by simp)
    have k1 : CapOk c1 := hyc c1 (by simp)
    have h0 := k0.1
    have h1 := k1.1
    have hz' : z.length ≤ sizeLine := Nat.le_of_lt (small1000 (by omega))
    have hws : ∀ y ∈ Txt.split z "\n", Asc y := fun y hy => nsplit_asc hA hy
    have hwt : wt (Txt.split z "\n") ≤ z.length + 1 := split_weight z "\n" (by decide +kernel)
    have hn1 : 1 ≤ (Txt.split z "\n").length := by
      have := split_pos z "\n"
      omega
    have hn2 : (Txt.split z "\n").length ≤ wt (Txt.split z "\n") := by
      unfold wt
      omega
    have hsp := someR_ok k0 k1
    generalize hW : Txt.split z "\n" = W at *
    refine ⟨_, rfl, p, 6, m, rfl, hb, by omega, by decide, by decide, fun form H1 f0 f1 hb1 kk1 => ?_⟩
    have K1 : Kp p H H1 := Kp.eq kk1
    refine ⟨_, rfl, ⟨_, rfl⟩, z, "\n", rfl, rfl, by decide +kernel, (by rw [sizeLine_eq]; omega), fun L nL => ⟨_, _, rfl, ?_⟩⟩
    rw [hW]
    have S1 := new_same (o := .lst (W.map V.str)) nL
    have eL : upd H1 L (.lst (W.map V.str)) L = some (.lst (W.map V.str)) := upd_same
    have pL := hb1.ne nL
    have hb2 := hb1.mono S1
    have K2 : Kp p H (upd H1 L (.lst (W.map V.str))) := K1.trans (Kp.of S1)
    generalize upd H1 L (.lst (W.map V.str)) = H2 at *
    -- at, spot
    refine ⟨_, rfl, _, rfl, L, _, rfl, .inl (SqL.of eL), ?_⟩
    rw [List.length_map]
    refine ⟨p, _, _, rfl, hb2, by omega, by omega, by omega, fun at' H3 a0 a1 hb3 kk3 => ?_⟩
    obtain ⟨i, rfl⟩ : ∃ i : Nat, at' = (i : Int) := ⟨at'.toNat, by omega⟩
    have eL3 := (kk3 L (Ne.symm pL)).trans eL
    refine ⟨_, rfl, _, rfl, z, rfl, hz', _, _, rfl, rfl, p, _, _, rfl, hb3, by omega, by omega, by omega, fun sp H4 sp0 sp1 hb4 kk4 => ⟨_, _, rfl, ?_⟩⟩
    obtain ⟨s0, rfl⟩ : ∃ s0 : Nat, sp = (s0 : Int) := ⟨sp.toNat, by omega⟩
    have eL4 := (kk4 L (Ne.symm pL)).trans eL3
    have K4 : Kp p H H4 := (K2.trans (Kp.eq kk3)).trans (Kp.eq kk4)
    have ec4 : H4 c = some (.lst [.str c0, .str c1, .str c2, .str c3]) := K4 c _ cp hc
    have sz : ∀ {x y : Str} {a b : Nat}, x.length ≤ a → y.length ≤ b → a + b ≤ 60 → x.length + y.length ≤ sizeLine := fun h k hab => Nat.le_trans (Nat.add_le_add h k) (Nat.le_trans hab big60)
    have l4 : ("all " : Str).length ≤ 4 := by decide +kernel
    have l5 : ("root " : Str).length ≤ 5 := by decide +kernel
    have l1 : (" " : Str).length ≤ 1 := by decide +kernel
    have l6 : ("roots " : Str).length ≤ 6 := by decide +kernel
    have l4' : ("All " : Str).length ≤ 4 := by decide +kernel
    have l6' : ("root  " : Str).length ≤ 6 := by decide +kernel
    have l6'' : (" root " : Str).length ≤ 6 := by decide +kernel
    have m9 : (("root " : Str) ++ c1).length ≤ 9 := by rw [len_app]; omega
    have m10 : (("root " : Str) ++ c1 ++ " ").length ≤ 10 := by rw [len_app]; omega
    have m8 : (("all " : Str) ++ c0).length ≤ 8 := by rw [len_app]; omega
    refine ⟨_, rfl, c, _, _, _, rfl, rfl, SqL.of ec4, atI_nat (j := 0) rfl, _, _, rfl, rfl, sz l4 h0 (by decide), ?_⟩
    refine ⟨_, rfl, c, _, _, _, rfl, rfl, SqL.of ec4, atI_nat (j := 1) rfl, _, _, rfl, rfl, sz l5 h1 (by decide), _, _, rfl, rfl, sz m9 l1 (by decide), ?_⟩
    refine ⟨_, rfl, c, _, _, _, rfl, rfl, SqL.of ec4, atI_nat (j := 0) rfl, _, _, rfl, rfl, sz m10 h0 (by decide), ?_⟩
    refine ⟨_, rfl, c, _, _, _, rfl, rfl, SqL.of ec4, atI_nat (j := 0) rfl, _, _, rfl, rfl, sz l6 h0 (by decide), (by show 7 ≤ sizeLine; decide), fun l nl => ?_⟩
    have S5 := new_same (o := .lst [.str "", .str "all", .str (("all " : Str) ++ c0), .str (("root " : Str) ++ c1 ++ " " ++ c0), .str (("roots " : Str) ++ c0), .str "all all", .str "root a"]) nl
    have ec5 := S5 _ _ ec4
    have el5 : upd H4 l (.lst [.str "", .str "all", .str (("all " : Str) ++ c0), .str (("root " : Str) ++ c1 ++ " " ++ c0), .str (("roots " : Str) ++ c0), .str "all all", .str "root a"]) l = some (.lst [.str "", .str "all", .str (("all " : Str) ++ c0), .str (("root " : Str) ++ c1 ++ " " ++ c0), .str (("roots " : Str) ++ c0), .str "all all", .str "root a"]) := upd_same
    have pl := hb4.ne nl
    generalize upd H4 l (.lst [.str "", .str "all", .str (("all " : Str) ++ c0), .str (("root " : Str) ++ c1 ++ " " ++ c0), .str (("roots " : Str) ++ c0), .str "all all", .str "root a"]) = H5 at *
    refine ⟨_, rfl, _, rfl, c, _, _, _, rfl, rfl, SqL.of ec5, atI_nat (j := 0) rfl, _, _, rfl, rfl, sz l4' h0 (by decide), ?_⟩
    refine ⟨_, rfl, c, _, _, _, rfl, rfl, SqL.of ec5, atI_nat (j := 0) rfl, _, _, rfl, rfl, sz l6' h0 (by decide), ?_⟩
    refine ⟨_, rfl, c, _, _, _, rfl, rfl, SqL.of ec5, atI_nat (j := 0) rfl, _, _, rfl, rfl, sz l6'' h0 (by decide), (by show 5 ≤ sizeLine; decide), fun l2 nl2 => ?_⟩
    have S6 := new_same (o := .lst [.str (("All " : Str) ++ c0), .str "all ABCDE", .str (("root  " : Str) ++ c0), .str ((" root " : Str) ++ c0), .str "any K"]) nl2
    have ec6 := S6 _ _ ec5
    have el6 := S6 _ _ el5
    have el26 : upd H5 l2 (.lst [.str (("All " : Str) ++ c0), .str "all ABCDE", .str (("root  " : Str) ++ c0), .str ((" root " : Str) ++ c0), .str "any K"]) l2 = some (.lst [.str (("All " : Str) ++ c0), .str "all ABCDE", .str (("root  " : Str) ++ c0), .str ((" root " : Str) ++ c0), .str "any K"]) := upd_same
    generalize upd H5 l2 (.lst [.str (("All " : Str) ++ c0), .str "all ABCDE", .str (("root  " : Str) ++ c0), .str ((" root " : Str) ++ c0), .str "any K"]) = H6 at *
    refine ⟨l, l2, _, _, rfl, rfl, el6, el26, (by show 7 + 5 ≤ sizeLine; decide), fun l3 nl3 => ?_⟩
    have S7 := new_same (o := .lst ([.str "", .str "all", .str (("all " : Str) ++ c0), .str (("root " : Str) ++ c1 ++ " " ++ c0), .str (("roots " : Str) ++ c0), .str "all all", .str "root a"] ++ [.str (("All " : Str) ++ c0), .str "all ABCDE", .str (("root  " : Str) ++ c0), .str ((" root " : Str) ++ c0), .str "any K"])) nl3
    have ec7 := S7 _ _ ec6
    have el37 : upd H6 l3 (.lst ([.str "", .str "all", .str (("all " : Str) ++ c0), .str (("root " : Str) ++ c1 ++ " " ++ c0), .str (("roots " : Str) ++ c0), .str "all all", .str "root a"] ++ [.str (("All " : Str) ++ c0), .str "all ABCDE", .str (("root  " : Str) ++ c0), .str ((" root " : Str) ++ c0), .str "any K"])) l3 = some (.lst ([.str "", .str "all", .str (("all " : Str) ++ c0), .str (("root " : Str) ++ c1 ++ " " ++ c0), .str (("roots " : Str) ++ c0), .str "all all", .str "root a"] ++ [.str (("All " : Str) ++ c0), .str "all ABCDE", .str (("root  " : Str) ++ c0), .str ((" root " : Str) ++ c0), .str "any K"])) := upd_same
    have pl3 : p ≠ l3 := ((hb4.mono S5).mono S6).ne nl3
    have nl34 : H4 l3 = none := S5.free (S6.free nl3)
    have S47 : Same H4 (upd H6 l3 (.lst ([.str "", .str "all", .str (("all " : Str) ++ c0), .str (("root " : Str) ++ c1 ++ " " ++ c0), .str (("roots " : Str) ++ c0), .str "all all", .str "root a"] ++ [.str (("All " : Str) ++ c0), .str "all ABCDE", .str (("root  " : Str) ++ c0), .str ((" root " : Str) ++ c0), .str "any K"]))) := (S5.trans S6).trans S7
    generalize upd H6 l3 (.lst ([.str "", .str "all", .str (("all " : Str) ++ c0), .str (("root " : Str) ++ c1 ++ " " ++ c0), .str (("roots " : Str) ++ c0), .str "all all", .str "root a"] ++ [.str (("All " : Str) ++ c0), .str "all ABCDE", .str (("root  " : Str) ++ c0), .str ((" root " : Str) ++ c0), .str "any K"])) = H7 at *
    refine ⟨_, rfl, .inl ⟨rfl, _, SqL.of el37⟩, ?_⟩
    refine ⟨_, rfl, c, _, _, _, rfl, rfl, SqL.of ec7, atI_nat (j := 0) rfl, _, _, rfl, rfl, sz l4 h0 (by decide), _, _, rfl, rfl, sz m8 l1 (by decide), ?_⟩
    refine ⟨l3, _, _, rfl, rfl, el37, (by show 12 < sizeLine; decide), ?_⟩
    have S8 : Same H4 (upd H7 l3 (.lst (([.str "", .str "all", .str (("all " : Str) ++ c0), .str (("root " : Str) ++ c1 ++ " " ++ c0), .str (("roots " : Str) ++ c0), .str "all all", .str "root a"] ++ [.str (("All " : Str) ++ c0), .str "all ABCDE", .str (("root  " : Str) ++ c0), .str ((" root " : Str) ++ c0), .str "any K"]) ++ [.str (("all " : Str) ++ c0 ++ " ")]))) := fun b o e => (upd_ne (ne_of_none e nl34)).trans (S47 _ _ e)
    have eS : upd H7 l3 (.lst (([.str "", .str "all", .str (("all " : Str) ++ c0), .str (("root " : Str) ++ c1 ++ " " ++ c0), .str (("roots " : Str) ++ c0), .str "all all", .str "root a"] ++ [.str (("All " : Str) ++ c0), .str "all ABCDE", .str (("root  " : Str) ++ c0), .str ((" root " : Str) ++ c0), .str "any K"]) ++ [.str (("all " : Str) ++ c0 ++ " ")])) l3 = some (.lst ((someR c0 c1).map V.str)) := upd_same
    generalize upd H7 l3 (.lst (([.str "", .str "all", .str (("all " : Str) ++ c0), .str (("root " : Str) ++ c1 ++ " " ++ c0), .str (("roots " : Str) ++ c0), .str "all all", .str "root a"] ++ [.str (("All " : Str) ++ c0), .str "all ABCDE", .str (("root  " : Str) ++ c0), .str ((" root " : Str) ++ c0), .str "any K"]) ++ [.str (("all " : Str) ++ c0 ++ " ")])) = H8 at *
    have hb8 := hb4.mono S8
    have K8 : Kp p H H8 := K4.trans (Kp.of S8)
    have eL8 := S8 _ _ eL4
    have Fin : ∀ (R : Addr) (us : List Str) (Hx : Hp) (b7 : Option V), Hx R = some (.lst (us.map V.str)) → wt us ≤ 2 * wt W + 16 → (∀ y ∈ us, Asc y) → BoxAt Hx p (m + 10) → Kp p H Hx → ∃ a r, ∃ ts : List Str, V.str "\n" = .str a ∧ [V.ref R] = [.ref r] ∧ (SqL K Hx r (ts.map V.str) ∨ SqT K Hx r (ts.map V.str)) ∧ (ts.map (·.length)).sum + ts.length * a.length ≤ 16777216 ∧ Q (.str (Txt.join a ts)) Hx := by
      intro R us Hx b7 eR hw ha hbx kx
      refine ⟨_, R, us, rfl, rfl, .inl (SqL.of eR), njoin_fits (by omega), ?_⟩
      rw [ntjoin]
      have := njoin_le us
      exact q _ _ (by omega) (njoin_asc ha) hbx kx
    have l1s := cutS_lo_len z s0
    have l0s := cutS_length z none (some ((s0 : Nat) : Int))
    have wp := wt_part W i
    have hcase : form = 0 ∨ form = 1 ∨ form = 2 ∨ form = 3 ∨ form = 4 ∨ form = 5 := by omega
    have b10 : ∀ {Hx : Hp} {k : Nat}, BoxAt Hx p k → k ≤ m + 10 → BoxAt Hx p (m + 10) := fun h k => h.le k
    have cat2 : ∀ (i1 i2 : Nat), wt (W.take i1) + wt (W.drop i2) ≤ 2 * wt W := fun i1 i2 => by
      have := wt_part W i1
      have := wt_part W i2
      omega
    have asc2 : ∀ (i1 i2 : Nat), ∀ y ∈ W.take i1 ++ W.drop i2, Asc y := fun i1 i2 y hy => (List.mem_append.mp hy).elim (fun h => hws y (List.mem_of_mem_take h)) fun h => hws y (List.mem_of_mem_drop h)
    have hi1 : ((i : Nat) : Int) + 1 = ((i + 1 : Nat) : Int) := by omega
    have cl : ∀ (a b : Option Int), (cutV (W.map V.str) a b).length ≤ 500 := fun a b => by
      have := cutV_length (W.map V.str) a b
      rw [List.length_map] at this
      omega
    have cl2 : ∀ (a b a' b' : Option Int), (cutV (W.map V.str) a b).length + (cutV (W.map V.str) a' b').length ≤ sizeLine := fun a b a' b' => by
      have := cl a b
      have := cl a' b'
      rw [sizeLine_eq]
      omega
    rcases hcase with rfl | rfl | rfl | rfl | hgt
    · refine ⟨_, rfl, rfl, _, rfl, iteT ?_⟩
      refine ⟨_, rfl, _, rfl, _, rfl, z, rfl, hz', _, rfl, p, 6, _, rfl, hb8, by omega, by decide, by decide, fun d H9 d0 d1 hb9 k9 => ?_⟩
      obtain ⟨j, rfl⟩ : ∃ j : Nat, d = (j : Int) := ⟨d.toNat, by omega⟩
      obtain ⟨c, hc, hc2⟩ : ∃ c : Nat, (" \nAa0~" : Str).cps.toList[j]? = some c ∧ c < 256 := by
        have h : ∀ j, j < 6 → ∃ c, (" \nAa0~" : Str).cps.toList[j]? = some c ∧ c < 256 := by
          intro j hj
          have : (((List.range 6).all fun j => match (" \nAa0~" : Str).cps.toList[j]? with | some c => decide (c < 256) | none => false)) = true := by decide +kernel
          have h1 := List.all_eq_true.mp this j (List.mem_range.mpr hj)
          cases h2 : (" \nAa0~" : Str).cps.toList[j]? with
          | none =>
            rw [h2] at h1
            cases h1
          | some c =>
            rw [h2] at h1
            exact ⟨c, rfl, of_decide_eq_true h1⟩
        exact h j (by omega)
      refine ⟨_, _, c, rfl, rfl, (by rw [sizeLine_eq]; decide +kernel), atI_nat hc, _, _, rfl, rfl, (by show _ + 1 ≤ _; rw [sizeLine_eq]; omega), ?_⟩
      have l2s := cutS_hi_len z s0
      have lc : (⟨#[c]⟩ : Str).length = 1 := rfl
      refine ⟨_, rfl, _, rfl, _, rfl, z, rfl, hz', _, _, rfl, rfl, (by rw [len_app, lc, sizeLine_eq]; omega), ?_⟩
      refine q _ _ ?_ (app_asc (app_asc (cut_asc hA) fun x hx => ?_) (cut_asc hA)) (b10 hb9 (by omega)) (K8.trans (Kp.eq k9))
      · rw [len_app, len_app, lc]
        omega
      · rw [List.mem_singleton.mp hx]
        exact hc2
    · refine ⟨_, rfl, rfl, _, rfl, iteF ?_⟩
      refine ⟨_, rfl, rfl, _, rfl, iteT ?_⟩
      have e1 : ((s0 : Nat) : Int) + 1 = ((s0 + 1 : Nat) : Int) := by omega
      have l2s := cutS_hi_len z (s0 + 1)
      rw [← e1] at l2s
      refine ⟨_, rfl, _, rfl, _, rfl, z, rfl, hz', _, rfl, _, rfl, _, _, rfl, rfl, _, rfl, z, rfl, hz', _, _, rfl, rfl, (by rw [sizeLine_eq]; omega), ?_⟩
      refine q _ _ ?_ (app_asc (cut_asc hA) (cut_asc hA)) (b10 hb8 (by omega)) K8
      rw [len_app]
      omega
    · refine ⟨_, rfl, rfl, _, rfl, iteF ?_⟩
      refine ⟨_, rfl, rfl, _, rfl, iteF ?_⟩
      refine ⟨_, rfl, rfl, _, rfl, iteT ?_⟩
      refine ⟨_, rfl, _, rfl, _, rfl, L, _, rfl, SqL.of eL8, fun r1 n1 => ?_⟩
      have T1 := new_same (o := .lst (cutV (W.map V.str) none (some ((i : Nat) : Int)))) n1
      refine ⟨_, rfl, _, rfl, _, _, rfl, rfl, _, rfl, L, _, rfl, SqL.of (T1 _ _ eL8), fun r2 n2 => ?_⟩
      have r12 : r1 ≠ r2 := ne_of_none upd_same n2
      have T2 := new_same (o := .lst (cutV (W.map V.str) (some (((i : Nat) : Int) + 1)) none)) n2
      refine ⟨r1, r2, _, _, rfl, rfl, (upd_ne r12).trans upd_same, upd_same, cl2 _ _ _ _, fun r3 n3 => ?_⟩
      have T3 := (T1.trans T2).trans (new_same (o := .lst (cutV (W.map V.str) none (some ((i : Nat) : Int)) ++ cutV (W.map V.str) (some (((i : Nat) : Int) + 1)) none)) n3)
      refine ⟨_, rfl, rfl, _, rfl, iteF ?_⟩
      refine ⟨_, rfl, _, _, rfl, rfl, _, rfl, iteF ?_⟩
      exact ⟨⟨_, rfl⟩, _, rfl, Fin r3 (W.take i ++ W.drop (i + 1)) _ none (by rw [upd_same, cutV_lo, hi1, cutV_hi, List.map_append]) (by rw [wt_app]; have := cat2 i (i + 1); omega) (asc2 _ _) (b10 (hb8.mono T3) (by omega)) (K8.trans (Kp.of T3))⟩
    · refine ⟨_, rfl, rfl, _, rfl, iteF ?_⟩
      refine ⟨_, rfl, rfl, _, rfl, iteF ?_⟩
      refine ⟨_, rfl, rfl, _, rfl, iteF ?_⟩
      refine ⟨_, rfl, rfl, _, rfl, iteT ?_⟩
      refine ⟨_, rfl, _, rfl, _, _, rfl, rfl, _, rfl, L, _, rfl, SqL.of eL8, fun r1 n1 => ?_⟩
      have T1 := new_same (o := .lst (cutV (W.map V.str) none (some (((i : Nat) : Int) + 1)))) n1
      refine ⟨_, rfl, _, rfl, _, rfl, L, _, rfl, SqL.of (T1 _ _ eL8), fun r2 n2 => ?_⟩
      have r12 : r1 ≠ r2 := ne_of_none upd_same n2
      have T2 := new_same (o := .lst (cutV (W.map V.str) (some ((i : Nat) : Int)) none)) n2
      refine ⟨r1, r2, _, _, rfl, rfl, (upd_ne r12).trans upd_same, upd_same, cl2 _ _ _ _, fun r3 n3 => ?_⟩
      have T3 := (T1.trans T2).trans (new_same (o := .lst (cutV (W.map V.str) none (some (((i : Nat) : Int) + 1)) ++ cutV (W.map V.str) (some ((i : Nat) : Int)) none)) n3)
      refine ⟨_, rfl, _, _, rfl, rfl, _, rfl, iteF ?_⟩
      exact ⟨⟨_, rfl⟩, _, rfl, Fin r3 (W.take (i + 1) ++ W.drop i) _ none (by rw [upd_same, hi1, cutV_lo, cutV_hi, List.map_append]) (by rw [wt_app]; have := cat2 (i + 1) i; omega) (asc2 _ _) (b10 (hb8.mono T3) (by omega)) (K8.trans (Kp.of T3))⟩
    · obtain ⟨u, hu⟩ : ∃ u : Nat, ((i : Nat) : Int) + form - 4 = ((u : Nat) : Int) := ⟨(((i : Nat) : Int) + form - 4).toNat, by omega⟩
      have nf : ∀ k : Int, k < 4 → decide (V.int form = V.int k) = false := fun k hk => decide_eq_false fun e => by
        have := V.int.inj e
        omega
      refine ⟨_, rfl, rfl, _, rfl, ?_⟩
      rw [nf 0 (by decide)]
      refine iteF ⟨_, rfl, rfl, _, rfl, ?_⟩
      rw [nf 1 (by decide)]
      refine iteF ⟨_, rfl, rfl, _, rfl, ?_⟩
      rw [nf 2 (by decide)]
      refine iteF ⟨_, rfl, rfl, _, rfl, ?_⟩
      rw [nf 3 (by decide)]
      refine iteF ⟨_, rfl, _, _, rfl, rfl, _, rfl, ?_⟩
      rw [decide_eq_true (show (3 : Int) < form by omega)]
      refine iteT ?_
      refine ⟨_, rfl, _, rfl, _, rfl, L, _, rfl, SqL.of eL8, fun r1 n1 => ?_⟩
      have T1 := new_same (o := .lst (cutV (W.map V.str) none (some ((i : Nat) : Int)))) n1
      have e19 : upd H8 r1 (.lst (cutV (W.map V.str) none (some ((i : Nat) : Int)))) r1 = some (.lst ((W.take i).map V.str)) := by rw [upd_same, cutV_lo]
      have hb9 := hb8.mono T1
      have K9 := K8.trans (Kp.of (p := p) T1)
      have pr1 := hb8.ne n1
      have eS9 := T1 _ _ eS
      have eL9 := T1 _ _ eL8
      generalize upd H8 r1 (.lst (cutV (W.map V.str) none (some ((i : Nat) : Int)))) = H9 at *
      refine ⟨_, rfl, _, rfl, p, l3, _, _, rfl, hb9, eS9, Ne.symm pl3, (by show 1 ≤ 13; decide), (by show 13 ≤ 100; decide), by omega, fun x H10 hx hb10 k10 => ?_⟩
      obtain ⟨y, hy, rfl⟩ := List.mem_map.mp hx
      obtain ⟨hyl, hyA⟩ := hsp y hy
      refine ⟨(by show 1 ≤ sizeLine; decide), fun r2 n2 => ?_⟩
      have e110 := k10 r1 _ (Ne.symm pr1) e19
      have r12 : r1 ≠ r2 := ne_of_none e110 n2
      have T2 := new_same (o := .lst [.str y]) n2
      refine ⟨r1, r2, _, _, rfl, rfl, (upd_ne r12).trans e110, upd_same, by
        rw [List.length_map, List.length_take, sizeLine_eq]
        show _ + 1 ≤ _
        omega, fun r3 n3 => ?_⟩
      have T3 := T2.trans (new_same (o := .lst ((W.take i).map V.str ++ [.str y])) n3)
      have e311 : upd (upd H10 r2 (.lst [.str y])) r3 (.lst ((W.take i).map V.str ++ [.str y])) r3 = some (.lst ((W.take i ++ [y]).map V.str)) := by rw [upd_same, List.map_append]; rfl
      have eL11 := T3 _ _ (k10 L _ (Ne.symm pL) eL9)
      have hb11 := hb10.mono T3
      have K11 := (K9.trans k10).trans (Kp.of (p := p) T3)
      generalize upd (upd H10 r2 (.lst [.str y])) r3 (.lst ((W.take i).map V.str ++ [.str y])) = H11 at *
      refine ⟨_, rfl, _, rfl, _, rfl, _, _, rfl, rfl, _, _, rfl, rfl, _, rfl, L, _, rfl, SqL.of eL11, fun r4 n4 => ?_⟩
      rw [hu, cutV_hi]
      have T4 := new_same (o := .lst ((W.drop u).map V.str)) n4
      have r34 : r3 ≠ r4 := ne_of_none e311 n4
      refine ⟨r3, r4, _, _, rfl, rfl, (upd_ne r34).trans e311, upd_same, by
        rw [List.length_map, List.length_map, List.length_append, List.length_take, List.length_drop, sizeLine_eq]
        show _ + 1 + _ ≤ _
        omega, fun r5 n5 => ?_⟩
      have T5 := T4.trans (new_same (o := .lst ((W.take i ++ [y]).map V.str ++ (W.drop u).map V.str)) n5)
      refine ⟨⟨_, rfl⟩, _, rfl, Fin r5 ((W.take i ++ [y]) ++ W.drop u) _ none (by rw [upd_same, ← List.map_append]) ?_ (fun x hx => ?_) (b10 (hb11.mono T5) (by omega)) (K11.trans (Kp.of T5))⟩
      · rw [wt_app, wt_app, wt_one]
        have := cat2 i u
        omega
      · rcases List.mem_append.mp hx with h | h
        · rcases List.mem_append.mp h with h | h
          · exact hws x (List.mem_of_mem_take h)
          · rw [List.mem_singleton.mp h]
            exact hyA
        · exact hws x (List.mem_of_mem_drop h)
end
end R4

set_option linter.all false
set_option maxRecDepth 100000
set_option maxHeartbeats 16000000
namespace R4
open PySem PySem.Spec PyProof.Rows L2 Gx
/-! ### the law itself -/
theorem passN {P : Program} {w : World} {X : Cx} : Passes (L2.CX P w) X (fun _ _ _ => False) := fun _ _ _ _ _ _ _ ⟨_, _, _, _, _, _, _, _, _, _, _, _, h⟩ => h.elim
theorem same_kp {p : Addr} {H H1 H2 : Hp} (s : Same H H1) (n : H p = none) (k : Kp p H1 H2) : Same H H2 := fun b o e => k b o (ne_of_none e n) (s b o e)
theorem turns_le (n : Nat) : ((if (if (n : Int) < 6 then (n : Int) else 6) > 2 then (if (n : Int) < 6 then (n : Int) else 6) else 2).toNat) ≤ 6 := by split <;> split <;> omega
abbrev s_law : Stmt := topS 24
abbrev n_law : List Str := ["_law_script", "_law_k", "_law_box_here", "_law_caps_here", "_law_made", "_law_turn", "_law_rows", "_law_text", "_law_more", "_law_some", "_law_one", "_law_its", "_law_other", "_law_row", "_law_odd"]
theorem sc_law : FnScope n_law ["_law_script"] (defScope s_law) := ⟨rfl, rfl, rfl, by decide +kernel, rfl, by decide +kernel, by decide +kernel⟩
structure NmL (mg : Str → Option Value) (K : PySem.W.Frag) (f_box f_take f_caps f_pick f_spoilt f_read f_due : Addr) : Prop where
  g__law_box : mg "_law_box" = some (.ref f_box)
  k__law_box : PySem.W.keepIn K (.ref f_box) = true
  g__law_take : mg "_law_take" = some (.ref f_take)
  k__law_take : PySem.W.keepIn K (.ref f_take) = true
  g__law_caps : mg "_law_caps" = some (.ref f_caps)
  k__law_caps : PySem.W.keepIn K (.ref f_caps) = true
  g__law_pick : mg "_law_pick" = some (.ref f_pick)
  k__law_pick : PySem.W.keepIn K (.ref f_pick) = true
  g__law_spoilt : mg "_law_spoilt" = some (.ref f_spoilt)
  k__law_spoilt : PySem.W.keepIn K (.ref f_spoilt) = true
  g__law_read : mg "_law_read" = some (.ref f_read)
  k__law_read : PySem.W.keepIn K (.ref f_read) = true
  g__law_due : mg "_law_due" = some (.ref f_due)
  k__law_due : PySem.W.keepIn K (.ref f_due) = true
  n_repr : mg "repr" = none
  n_range : mg "range" = none
  n_max : mg "max" = none
  n_min : mg "min" = none
  n_len : mg "len" = none
  n_int : mg "int" = none
structure NmEq (K : PySem.W.Frag) (C ge : Addr) : Prop where
  eq : PySem.W.findIn K (.ref C) "__eq__" = some (some (.ref ge))
  ne : PySem.W.findIn K (.ref C) "__ne__" = some (some (.builtin "object.__ne__"))
  isf : PySem.W.isFn K (.ref ge) = true
  k0 : PySem.W.kitOne K (.type "NoneType") (.ref C) = some false
  k1 : PySem.W.kitOne K (.type "int") (.ref C) = some false
  k2 : PySem.W.kitOne K (.type "str") (.ref C) = some false
  k3 : PySem.W.kitOne K (.type "tuple") (.ref C) = some false
  f0 : PySem.W.notFirst K C (.type "NoneType") = true
  f1 : PySem.W.notFirst K C (.type "int") = true
  f2 : PySem.W.notFirst K C (.type "str") = true
  f3 : PySem.W.notFirst K C (.type "tuple") = true
  f4 : PySem.W.notFirst K C (.ref C) = true
def ttOdd (K : PySem.W.Frag) (C : Addr) : TT := tOr (tTest (tOp (Wc.rCmpO K C (spEqR C K) E0) (tVar 10) (tVar 14))) (tNot (tTest (tOp (Wc.rNeO K C (spEqR C K) E0) (tVar 10) (tVar 14))))
def teRows (K : PySem.W.Frag) : TE := tOp rAddStr (tOp (rIxL K) (tLst (tCons (tC (.str "all ")) (tCons (tC (.str "root ")) tNil))) (tCall spTake [] E0 (tCons (tVar 2) (tCons (tC (.int 2)) tNil)))) (tCall spPick [] E0 (tCons (tVar 2) (tCons (tVar 3) tNil)))
def teSome (C Cn Ct : Addr) : TE := tTup (tCons (tVar 7) (tCons (Wc.tStat C (spRead C Cn Ct) (fun _ _ _ => False) (tC (.ref C)) (tCons (tVar 7) tNil)) tNil))
def spLaw (K : PySem.W.Frag) : Sp := fun vs H Q _ => ∃ (l : Addr) (ns : List Int), vs = [.ref l] ∧ SqL K H l (ns.map V.int) ∧ ns.length ≤ 100 ∧ ∀ H' : Hp, Q (.bl true) H'
def GoodT (z : Str) : Prop := AllOk z ∧ (rowsL z).length ≤ 3 ∧ z.length ≤ 1000 ∧ Asc z
inductive SomeAt (C : Addr) (H : Hp) : List V → List Str → Prop
  | nil : SomeAt C H [] []
  | cons {t a : Addr} {vs : List V} {z : Str} {zs : List Str} : H t = some (.tup [.str z, .ref a]) → RuleAt C H a z → SomeAt C H vs zs → SomeAt C H (.ref t :: vs) (z :: zs)
theorem RuleAt.mono {C : Addr} {H H' : Hp} {a : Addr} {z : Str} (h : RuleAt C H a z) (s : ∀ b o, (∀ xs, o ≠ HO.lst xs) → H b = some o → H' b = some o) : RuleAt C H' a z := by
  obtain ⟨dx, t, e⟩ := h
  exact ⟨dx, t, s _ _ (fun xs h => by cases h) e⟩
theorem SomeAt.mono {C : Addr} {H H' : Hp} {vs : List V} {zs : List Str} (h : SomeAt C H vs zs) (s : ∀ b o, (∀ xs, o ≠ HO.lst xs) → H b = some o → H' b = some o) : SomeAt C H' vs zs := by
  induction h with
  | nil => exact .nil
  | cons e r _ ih => exact .cons (s _ _ (fun xs h => by cases h) e) (r.mono s) ih
theorem SomeAt.snoc {C : Addr} {H : Hp} {vs : List V} {zs : List Str} {t a : Addr} {z : Str} (h : SomeAt C H vs zs) (e : H t = some (.tup [.str z, .ref a])) (r : RuleAt C H a z) : SomeAt C H (vs ++ [.ref t]) (zs ++ [z]) := by
  induction h with
  | nil => exact .cons e r .nil
  | cons e' r' _ ih => exact .cons e' r' ih
theorem SomeAt.len {C : Addr} {H : Hp} {vs : List V} {zs : List Str} (h : SomeAt C H vs zs) : vs.length = zs.length := by
  induction h with
  | nil => rfl
  | cons _ _ _ ih => rw [List.length_cons, List.length_cons, ih]
theorem SomeAt.get {C : Addr} {H : Hp} {vs : List V} {zs : List Str} (h : SomeAt C H vs zs) : ∀ {i : Nat} {v : V}, vs[i]? = some v → ∃ z t a, zs[i]? = some z ∧ v = .ref t ∧ H t = some (.tup [.str z, .ref a]) ∧ RuleAt C H a z := by
  induction h with
  | nil => intro i v hv; simp at hv
  | @cons t a _ z _ e r _ ih =>
    intro i v hv
    cases i with
    | zero => exact ⟨z, t, a, rfl, (Option.some.inj hv).symm, e, r⟩
    | succ i => exact ih hv
/-- what is due, as data -/
def DueRD (z : Str) (d : PyData) : Prop :=
  (∃ j, FirstBad (rowsL z) j ∧ d = .tuple [.str "row", .int (j : Nat)]) ∨ (AllOk z ∧ 3 < (rowsL z).length ∧ d = .tuple [.str "many", .str "rows"]) ∨ (AllOk z ∧ (rowsL z).length ≤ 3 ∧ d = .tuple [.str "text", .str z])
theorem bad_ok {z : Str} {j : Nat} (h : FirstBad (rowsL z) j) (k : AllOk z) : False := by
  obtain ⟨rs, hr⟩ := k
  have h1 := h.1
  rw [hr, List.getElem?_map] at h1
  cases h2 : rs[j]? with
  | none =>
    rw [h2] at h1
    cases h1
  | some e =>
    rw [h2] at h1
    cases h1
theorem bad_one {z : Str} {i j : Nat} (h : FirstBad (rowsL z) i) (k : FirstBad (rowsL z) j) : i = j := by
  have half : ∀ {i j : Nat}, FirstBad (rowsL z) i → FirstBad (rowsL z) j → ¬ i < j := fun {i j} h1 h2 hl => by
    obtain ⟨e, he⟩ := h2.2 i hl
    rw [h1.1] at he
    cases he
  have h1 := half h k
  have h2 := half k h
  omega
theorem dueRD_one {z : Str} {d d' : PyData} (h : DueRD z d) (h' : DueRD z d') : d = d' := by
  rcases h with ⟨j, h, rfl⟩ | ⟨h, g, rfl⟩ | ⟨h, g, rfl⟩ <;> rcases h' with ⟨i, k, rfl⟩ | ⟨k, l, rfl⟩ | ⟨k, l, rfl⟩
  · rw [bad_one h k]
  · exact (bad_ok h k).elim
  · exact (bad_ok h k).elim
  · exact (bad_ok k h).elim
  · rfl
  · omega
  · exact (bad_ok k h).elim
  · omega
  · rfl
theorem dueR_dp {K : PySem.W.Frag} {H : Hp} {z : Str} {t : Addr} (h : DueR H z t) : ∃ d, DueRD z d ∧ Dp K H (.ref t) d := by
  rcases h with ⟨j, h, e⟩ | ⟨h, g, e⟩ | ⟨h, g, e⟩
  · exact ⟨_, .inl ⟨j, h, rfl⟩, .tup (SqT.of e) (.cons (.str _) (.cons (.int _) .nil))⟩
  · exact ⟨_, .inr (.inl ⟨h, g, rfl⟩), .tup (SqT.of e) (.cons (.str _) (.cons (.str _) .nil))⟩
  · exact ⟨_, .inr (.inr ⟨h, g, rfl⟩), .tup (SqT.of e) (.cons (.str _) (.cons (.str _) .nil))⟩
theorem dueR_sh {z : Str} {d : PyData} (h : DueRD z d) (hz : z.length ≤ 1000) (hA : Asc z) : Sh 1 30000 d := by
  have two : ∀ {x : Str} {y : PyData}, x.length ≤ 8 → Asc x → Sh 0 10002 y → Sh 1 30000 (.tuple [.str x, y]) := fun {x y} hx ha hy =>
    (Sh.tuple (k := 0) (L := 10002) (n := 2) (ds := [.str x, y]) (fun d hd => by
      rcases List.mem_cons.mp hd with rfl | hd
      · exact (Sh.str (n := 8) ha hx).up (Nat.le_refl _) (by decide)
      · rw [List.mem_singleton.mp hd]
        exact hy) (by show 2 ≤ 2; decide)).up (by decide) (by decide)
  rcases h with ⟨j, h, rfl⟩ | ⟨h, g, rfl⟩ | ⟨h, g, rfl⟩
  · have hj : j < (rowsL z).length := by
      have := (List.getElem?_eq_some_iff.mp h.1).1
      rw [List.length_map] at this
      exact this
    have := rowsL_count z
    exact two (by decide +kernel) (by decide +kernel) ((Sh.int (by omega) (by omega)).up (Nat.le_refl _) (by decide))
  · exact two (by decide +kernel) (by decide +kernel) ((Sh.str (n := 8) (by decide +kernel) (by decide +kernel)).up (Nat.le_refl _) (by decide))
  · exact two (by decide +kernel) (by decide +kernel) (Sh.str (n := 1000) hA hz)
theorem good_empty : GoodT "" := ⟨⟨[], by decide +kernel⟩, by decide +kernel, by decide +kernel, by decide +kernel⟩
theorem good_allK : GoodT "all K" := ⟨⟨[("all", "K")], by decide +kernel⟩, by decide +kernel, by decide +kernel, by decide +kernel⟩
theorem two_sh (b : Bool) : SeqAt.shaped (.list [.bool b, .bool (!b)]) = true := by cases b <;> decide +kernel
theorem two_eq (b : Bool) : PyData.eqv (.list [.bool b, .bool (!b)]) (.list [.bool b, .bool (!b)]) = true := by cases b <;> decide +kernel
section
variable {P : Program} {w : World} {K : PySem.W.Frag} {mg : Str → Option Value} {base : Heap}
theorem ok_law {fr fw fc fk C Cn Ct fIn fIt Ck Cs ps gs frd ge f f_box f_take f_caps f_pick f_spoilt f_read f_due : Addr} {mc : Value} {fd fdr fde fd_box fd_take fd_caps fd_pick fd_spoilt fd_read fd_due : FuncData} (F : Fun K "law" "law" s_law f fd) (T : NmL mg K f_box f_take f_caps f_pick f_spoilt f_read f_due) (TW : NmW P w K mg fr fw fc fk C Cn Ct fIn fIt) (TR : NmR mg K C Cn Ct Ck Cs mc ps gs frd) (TE : NmEq K C ge)
    (G__law_box : FnOk P w K mg base CX0 10 f_box fd_box ["_law_script", "_law_k", "_law_own"] (spBox K)) (b__law_box : Binds K fd_box ["_law_script", "_law_k", "_law_own"] [])
    (G__law_take : FnOk P w K mg base CX0 10 f_take fd_take ["_law_box_here", "_law_many"] (spTake)) (b__law_take : Binds K fd_take ["_law_box_here", "_law_many"] [])
    (G__law_caps : FnOk P w K mg base CX0 10 f_caps fd_caps ["_law_box_here", "_law_many"] (spCaps)) (b__law_caps : Binds K fd_caps ["_law_box_here", "_law_many"] [])
    (G__law_pick : FnOk P w K mg base CX0 10 f_pick fd_pick ["_law_box_here", "_law_items"] (spPick)) (b__law_pick : Binds K fd_pick ["_law_box_here", "_law_items"] [])
    (G__law_spoilt : FnOk P w K mg base CX0 10 f_spoilt fd_spoilt ["_law_box_here", "_law_text", "_law_caps_here"] (spSpoilt)) (b__law_spoilt : Binds K fd_spoilt ["_law_box_here", "_law_text", "_law_caps_here"] [])
    (G__law_read : FnOk P w K mg base CX0 10 f_read fd_read ["_law_text"] (spDueR)) (b__law_read : Binds K fd_read ["_law_text"] [])
    (G__law_due : FnOk P w K mg base CX0 10 f_due fd_due ["_law_text"] (spDueR)) (b__law_due : Binds K fd_due ["_law_text"] [])
    (G_read : FnOk P w K mg base (L2.CX P w) 4 frd fdr ["text"] (spRead C Cn Ct)) (b_read : Binds K fdr ["text"] [])
    (G_eq : FnOk P w K mg base CX0 1 ge fde ["self", "other"] (spEqR C K)) (b_eq : Binds K fde ["self", "other"] []) :
    Rg.FnG P w K mg base CX0 11 f fd ["_law_script"] (spLaw K) := by
  refine Rg.okG F sc_law (fun vs H Q E h => ?_) (fun cdv Ar outer s H vs Q E hgu hr h => ?_)
  · obtain ⟨l, ns, rfl, _⟩ := h
    rfl
  · obtain ⟨l, ns, rfl, hl, hn, q⟩ := h
    have hu64 := hr.units
    refine ⟨_, (pss_cons (ps_for PassesOwn.leaving rfl (pi_range1 (by rfl) T.n_range (pa_cons (pe_callB (call_max2 rfl) (by rfl) T.n_max (by decide +kernel) (pa_cons pe_int (pa_cons (pe_callB (call_min2 rfl) (by rfl) T.n_min (by decide +kernel) (pa_cons pe_int (pa_cons (pe_callB call_len_seq (by rfl) T.n_len (by decide +kernel) (pa_cons (pv 0) pa_nil)) pa_nil))) pa_nil))) pa_nil)) (pg_name (i := 1) sc_law.nd rfl (.inl rfl))
  (pss_cons (ps_set (i := 2) sc_law.nd rfl (.inr rfl) (pe_call G__law_box hr rfl T.g__law_box T.k__law_box b__law_box .nil pass0 (pa_cons (pv 0) (pa_cons (pv 1) (pa_cons pe_int pa_nil)))))
  (pss_cons (ps_asg (pe_tup (pa_cons (pe_call G__law_caps hr rfl T.g__law_caps T.k__law_caps b__law_caps .nil pass0 (pa_cons (pv 2) (pa_cons pe_int pa_nil))) (pa_cons (pe_lst pa_nil) pa_nil))) (pg_tup rfl (pgs_cons (pg_name (i := 3) sc_law.nd rfl (.inr rfl)) (pgs_cons (pg_name (i := 4) sc_law.nd rfl (.inl rfl)) pgs_nil))))
  (pss_cons (ps_for PassesOwn.leaving rfl (pi_range1 (by rfl) T.n_range (pa_cons pe_int pa_nil)) (pg_name (i := 5) sc_law.nd rfl (.inl rfl))
  (pss_cons (ps_setLc (i := 6) (own := [("_law_row", 13)]) (g := gName 13) (tt := tYes) (te := teRows K) rfl sc_law.nd rfl rfl (sw_true rfl rfl rfl (by decide +kernel)) (pi_range1 (by rfl) T.n_range (pa_cons (pe_call G__law_take hr rfl T.g__law_take T.k__law_take b__law_take .nil pass0 (pa_cons (pv 2) (pa_cons pe_int pa_nil))) pa_nil)) (blkOk_by (own := [("_law_row", 13)]) (N := n_law) (sc := defScope s_law) (by decide +kernel)) (fun _ _ _ _ _ => (pg_name (i := 13) sc_law.nd rfl (.inl rfl))) (fun _ _ _ _ _ => pts_nil) (fun _ _ _ _ _ => (pe_op op_add_str (pe_ix ix_list (pe_lst (pa_cons pe_str (pa_cons pe_str pa_nil))) (pe_call G__law_take hr rfl T.g__law_take T.k__law_take b__law_take .nil pass0 (pa_cons (pv 2) (pa_cons pe_int pa_nil))) (fun _ _ => rfl)) (pe_call G__law_pick hr rfl T.g__law_pick T.k__law_pick b__law_pick .nil pass0 (pa_cons (pv 2) (pa_cons (pv 3) pa_nil))))))
  (pss_cons (ps_set (i := 7) sc_law.nd rfl (.inl rfl) (pe_join pe_str (pv 6)))
  (pss_cons (ps_for PassesOwn.leaving rfl (pi_range1 (by rfl) T.n_range (pa_cons (pe_call G__law_take hr rfl T.g__law_take T.k__law_take b__law_take .nil pass0 (pa_cons (pv 2) (pa_cons pe_int pa_nil))) pa_nil)) (pg_name (i := 8) sc_law.nd rfl (.inl rfl))
  (pss_one (ps_set (i := 7) sc_law.nd rfl (.inl rfl) (pe_call G__law_spoilt hr rfl T.g__law_spoilt T.k__law_spoilt b__law_spoilt .nil pass0 (pa_cons (pv 2) (pa_cons (pv 7) (pa_cons (pv 3) pa_nil)))))))
  (pss_cons (ps_if (PW.pt (pw_or (pt_cmpR op_ne (pe_callB (Rg.call_repr hgu hu64) (by rfl) T.n_repr (by decide +kernel) (pa_cons (pe_call G__law_read hr rfl T.g__law_read T.k__law_read b__law_read .nil pass0 (pa_cons (pv 7) pa_nil)) pa_nil)) (pe_callB (Rg.call_repr hgu hu64) (by rfl) T.n_repr (by decide +kernel) (pa_cons (pe_call G__law_due hr rfl T.g__law_due T.k__law_due b__law_due .nil pass0 (pa_cons (pv 7) pa_nil)) pa_nil)) (nomark _)) (pw_or1 (pt_cmpR op_ne (pe_callB (Rg.call_repr hgu hu64) (by rfl) T.n_repr (by decide +kernel) (pa_cons (pe_call G__law_read hr rfl T.g__law_read T.k__law_read b__law_read .nil pass0 (pa_cons (pv 7) pa_nil)) pa_nil)) (pe_callB (Rg.call_repr hgu hu64) (by rfl) T.n_repr (by decide +kernel) (pa_cons (pe_call G__law_due hr rfl T.g__law_due T.k__law_due b__law_due .nil pass0 (pa_cons (pv 7) pa_nil)) pa_nil)) (nomark _))))) (pss_one (ps_ret pe_bl)) pss_nil)
  (pss_one (ps_expr (pe_bm PySem.F.plainAttrs_list PySem.F.slot_list_extend PySem.F.type_list_extend mt_extend (pv 4) (pa_cons (pe_op op_rep (pe_lst (pa_cons (pv 7) pa_nil)) (pe_callTy call_int1 (by rfl) T.n_int (by decide +kernel) (pa_cons (pe_cmpR op_eq (pe_ix ix_tup (pe_call G__law_due hr rfl T.g__law_due T.k__law_due b__law_due .nil pass0 (pa_cons (pv 7) pa_nil)) pe_int (fun _ _ => rfl)) pe_str (nomark _)) pa_nil))) pa_nil)))))))))
  (pss_cons (ps_setLc (i := 9) (own := [("_law_text", 7)]) (g := gName 7) (tt := tYes) (te := teSome C Cn Ct) rfl sc_law.nd rfl rfl (sw_true rfl rfl rfl (by decide +kernel)) (pi_list (pe_op op_cat (pv 4) (pe_lst (pa_cons pe_str (pa_cons pe_str pa_nil))))) (blkOk_by (own := [("_law_text", 7)]) (N := n_law) (sc := defScope s_law) (by decide +kernel)) (fun _ _ _ _ _ => (pg_name (i := 7) sc_law.nd rfl (.inl rfl))) (fun _ _ _ _ _ => pts_nil) (fun _ _ _ _ _ => (pe_tup (pa_cons (pv 7) (pa_cons (Wc.pe_stat (pe_glob (v := .ref _) rfl TW.g_Rules rfl) TR.cr TR.cs G_read (hr.mono (by decide)) b_read passN (pa_cons (pv 7) pa_nil)) pa_nil)))))
  (pss_one (ps_for PassesOwn.leaving rfl (pi_list (pv 9)) (pg_tup rfl (pgs_cons (pg_name (i := 7) sc_law.nd rfl (.inl rfl)) (pgs_cons (pg_name (i := 10) sc_law.nd rfl (.inr rfl)) pgs_nil)))
  (pss_cons (ps_for PassesOwn.leaving rfl (pi_list (pv 9)) (pg_tup rfl (pgs_cons (pg_name (i := 11) sc_law.nd rfl (.inl rfl)) (pgs_cons (pg_name (i := 12) sc_law.nd rfl (.inl rfl)) pgs_nil)))
  (pss_one (ps_if (pt_cmpR (op_neD hu64) (pe_lst (pa_cons (pe_cmpR (Wc.op_eqO TE.eq TE.isf G_eq (hr.mono (by decide)) b_eq pass0) (pv 10) (pv 12) (nomark _)) (pa_cons (pe_cmpR (Wc.op_neO TE.ne TW.hm TE.eq TE.isf G_eq (hr.mono (by decide)) b_eq pass0) (pv 10) (pv 12) (nomark _)) pa_nil))) (pe_lst (pa_cons (pe_cmpR op_eq (pv 7) (pv 11) (nomark _)) (pa_cons (pe_cmpR op_ne (pv 7) (pv 11) (nomark _)) pa_nil))) (nomark _)) (pss_one (ps_ret pe_bl)) pss_nil)))
  (pss_one (ps_if (pt_cmpR (op_neD hu64) (pe_lc (own := [("_law_odd", 14)]) (g := gName 14) (tt := ttOdd K C) rfl sc_law.nd (pi_tup (pe_tup (pa_cons pe_non (pa_cons pe_int (pa_cons (pv 7) (pa_cons (pe_tup (pa_cons (pv 7) pa_nil)) pa_nil)))))) (blkOk_by (own := [("_law_odd", 14)]) (N := n_law) (sc := defScope s_law) (by decide +kernel)) (fun _ _ _ _ _ => (pg_name (i := 14) sc_law.nd rfl (.inl rfl))) (fun _ _ _ _ _ => pts_one (PW.pt (pw_or (pt_cmpR (Wc.op_eqO TE.eq TE.isf G_eq (hr.mono (by decide)) b_eq pass0) (pv 10) (pv 14) (nomark _)) (pw_or1 (pt_not (pt_cmpR (Wc.op_neO TE.ne TW.hm TE.eq TE.isf G_eq (hr.mono (by decide)) b_eq pass0) (pv 10) (pv 14) (nomark _))))))) (fun _ _ _ _ _ => (pv 14))) (pe_lst pa_nil) (nomark _)) (pss_one (ps_ret pe_bl)) pss_nil))))))))))
  (pss_one (ps_ret pe_bl))), ?_⟩
    have big : 30000 ≤ sizeLine := by rw [sizeLine_eq]; decide
    -- how many turns
    refine ⟨_, rfl, l, ns.map V.int, rfl, .inl hl, _, _, rfl, ?_⟩
    rw [List.length_map]
    refine ⟨_, _, rfl, _, rfl, by split <;> split <;> omega, by split <;> split <;> omega, ?_⟩
    have hturns := turns_le ns.length
    generalize (if (if (ns.length : Int) < 6 then (ns.length : Int) else 6) > 2 then (if (ns.length : Int) < 6 then (ns.length : Int) else 6) else 2).toNat = turns at *
    refine for_range (lo := 0) (n := turns) (fun _ σ H' => SqL K H' l (ns.map V.int) ∧ ∃ a1 a2 a3 a4 a5 a6 a7 a8 a9 a10 a11 a12 a13 a14 : Option V, σ = [some (.ref l), a1, a2, a3, a4, a5, a6, a7, a8, a9, a10, a11, a12, a13, a14])
      ⟨hl, _, _, _, _, _, _, _, _, _, _, _, _, _, _, rfl⟩ (fun k σ H hk p => ?_) (fun σ H' p => q H')
    obtain ⟨hl, a1, a2, a3, a4, a5, a6, a7, a8, a9, a10, a11, a12, a13, a14, rfl⟩ := p
    refine ⟨_, rfl, _, rfl, l, ns, k, 16, by rw [Int.zero_add]; rfl, hl, by omega, by decide, fun p H1 np s1 bx => ?_⟩
    -- caps, made
    refine ⟨_, rfl, p, 0, rfl, bx, by decide, fun c ys H2 nc ec ly hy b2 k2 => ?_⟩
    have cp : c ≠ p := fun z => bx.ne nc z.symm
    refine ⟨Nat.zero_le _, fun M nM => ⟨(by show 2 ≤ sizeLine; decide), fun t nt => ?_⟩⟩
    have cM : c ≠ M := ne_of_none ec nM
    have pM := b2.ne nM
    have S3 : Same H2 (upd (upd H2 M (.lst [])) t (.tup [.ref c, .ref M])) := (new_same nM).trans (new_same nt)
    have et : upd (upd H2 M (.lst [])) t (.tup [.ref c, .ref M]) t = some (.tup [.ref c, .ref M]) := upd_same
    have eM : upd (upd H2 M (.lst [])) t (.tup [.ref c, .ref M]) M = some (.lst []) := new_same nt _ _ upd_same
    refine ⟨t, _, rfl, SqT.of et, rfl, _, _, rfl, _, _, rfl, rfl, ?_⟩
    have b3 := b2.mono S3
    have nM0 : H M = none := by
      cases e : H M with
      | none => rfl
      | some o =>
        have h1 := k2 M o (Ne.symm pM) (s1 _ _ e)
        rw [nM] at h1
        cases h1
    have K3 : Kp p H1 (upd (upd H2 M (.lst [])) t (.tup [.ref c, .ref M])) := k2.trans (Kp.of S3)
    have ec3 := S3 _ _ ec
    generalize upd (upd H2 M (.lst [])) t (.tup [.ref c, .ref M]) = H3 at *
    refine ⟨10, rfl, by decide, by decide, ?_⟩
    refine for_range (lo := 0) (n := 10) (fun i σ Hi => BoxAt Hi p (10 + 60 * i) ∧ (∀ b o, b ≠ p → b ≠ M → H3 b = some o → Hi b = some o) ∧ (∃ zs : List Str, Hi M = some (.lst (zs.map V.str)) ∧ zs.length ≤ i ∧ ∀ z ∈ zs, GoodT z) ∧ ∃ b5 b6 b7 b8 b9 b10 b11 b12 b13 b14 : Option V, σ = [some (.ref l), some (.int (0 + (k : Nat))), some (.ref p), some (.ref c), some (.ref M), b5, b6, b7, b8, b9, b10, b11, b12, b13, b14])
      ⟨b3, fun _ _ _ _ e => e, ⟨[], eM, Nat.le_refl _, fun _ h => absurd h List.not_mem_nil⟩, _, _, _, _, _, _, _, _, _, _, rfl⟩ (fun i σ Hi hi P => ?_) (fun σ Hi P => ?_)
    · obtain ⟨bi, ki, ⟨zs, eMi, lzs, gzs⟩, b5, b6, b7, b8, b9, b10, b11, b12, b13, b14, rfl⟩ := P
      have eci : Hi c = some (.lst (ys.map V.str)) := ki c _ cp cM ec3
      -- the rows
      refine ⟨_, rfl, p, 6, _, rfl, bi, by omega, by decide, by decide, fun d H4 d0 d1 b4 k4 => ?_⟩
      obtain ⟨dn, rfl⟩ : ∃ dn : Nat, d = (dn : Int) := ⟨d.toNat, by omega⟩
      refine ⟨_, rfl, by omega, by omega, fun D nD => ?_⟩
      rw [Int.toNat_natCast]
      have pD := b4.ne nD
      have ec4 := (k4 c cp).trans eci
      have cD : c ≠ D := ne_of_none ec4 nD
      refine lc_range (lo := 0) (n := dn) (fun j Hj => BoxAt Hj p (11 + 60 * i + 2 * j) ∧ (∀ b o, b ≠ p → b ≠ D → H4 b = some o → Hj b = some o) ∧ ∃ rs : List Str, Hj D = some (.lst (rs.map V.str)) ∧ rs.length = j ∧ ∀ r ∈ rs, OkS 9 r)
        ⟨(b4.mono (new_same nD)).le (by omega), fun b o _ n e => (upd_ne n).trans e, [], upd_same, rfl, fun _ h => absurd h List.not_mem_nil⟩ (fun j Hj hj P => ?_) (fun Hj P => ?_)
      · obtain ⟨bj, kj, rs, er, lr, gr⟩ := P
        refine ⟨rfl, keep1' ?_⟩
        refine ⟨(by show 2 ≤ sizeLine; decide), fun l1 nl1 => ?_⟩
        have T1 := new_same (o := .lst [.str "all ", .str "root "]) nl1
        have e1 : upd Hj l1 (.lst [.str "all ", .str "root "]) l1 = some (.lst [.str "all ", .str "root "]) := upd_same
        have pl1 := bj.ne nl1
        have bj1 := bj.mono T1
        have er1 := T1 _ _ er
        have ecj := T1 _ _ (kj c _ cp cD ec4)
        have kj1 : ∀ b o, b ≠ p → b ≠ D → H4 b = some o → upd Hj l1 (.lst [.str "all ", .str "root "]) b = some o := fun b o n m e => T1 _ _ (kj b o n m e)
        generalize upd Hj l1 (.lst [.str "all ", .str "root "]) = Hk at *
        refine ⟨_, rfl, p, 2, _, rfl, bj1, by omega, by decide, by decide, fun e H6 e0 e1' b6' k6 => ?_⟩
        obtain ⟨hd, hhd, hl5, hdA⟩ : ∃ z : Str, atI [V.str "all ", .str "root "] e = some (.str z) ∧ z.length ≤ 5 ∧ Asc z := by
          have hc : e = ((0 : Nat) : Int) ∨ e = ((1 : Nat) : Int) := by omega
          rcases hc with rfl | rfl
          · exact ⟨_, atI_nat (j := 0) rfl, by decide +kernel, by decide +kernel⟩
          · exact ⟨_, atI_nat (j := 1) rfl, by decide +kernel, by decide +kernel⟩
        refine ⟨l1, _, _, _, rfl, rfl, SqL.of ((k6 l1 (Ne.symm pl1)).trans e1), hhd, ?_⟩
        refine ⟨_, rfl, _, rfl, p, c, _, _, rfl, b6', (k6 c cp).trans ecj, cp, by rw [List.length_map, ly]; decide, by rw [List.length_map, ly]; decide, by omega, fun x H7 hx b7' k7 => ?_⟩
        obtain ⟨y, hy', rfl⟩ := List.mem_map.mp hx
        obtain ⟨y4, yA⟩ := hy y hy'
        refine ⟨_, _, rfl, rfl, (by rw [sizeLine_eq]; omega), ?_⟩
        have er7 := k7 D _ (Ne.symm pD) ((k6 D (Ne.symm pD)).trans er1)
        refine ⟨_, er7, by rw [List.length_map, lr, sizeLine_eq]; omega, ?_, fun b o n m e => (upd_ne m).trans (k7 b o n ((k6 b n).trans (kj1 b o n m e))), rs ++ [_], by rw [upd_same, List.map_append]; rfl, by rw [List.length_append, lr]; rfl, fun r hr' => ?_⟩
        · obtain ⟨c', sd, n, e, x⟩ := b7'.le (m' := 11 + 60 * i + 2 * (j + 1)) (by omega)
          exact ⟨c', sd, n, by rw [upd_ne pD]; exact e, x⟩
        · rcases List.mem_append.mp hr' with h | h
          · exact gr r h
          · rw [List.mem_singleton.mp h]
            exact ⟨by rw [len_app]; omega, app_asc hdA yA⟩
      · obtain ⟨bj, kj, rs, er, lr, gr⟩ := P
        have hwt : ∀ us : List Str, (∀ r ∈ us, OkS 9 r) → wt us ≤ 10 * us.length := by
          intro us
          induction us with
          | nil => intro _; exact Nat.le_refl _
          | cons u us ih =>
            intro h
            have h1 := (h u (List.mem_cons_self ..)).1
            have h2 := ih fun x hx => h x (List.mem_cons_of_mem _ hx)
            rw [show u :: us = [u] ++ us from rfl, wt_app, wt_one, List.length_append]
            simp only [List.length_cons, List.length_nil]
            omega
        have hw := hwt rs gr
        have hjl := njoin_le rs
        refine ⟨⟨_, rfl⟩, _, rfl, _, D, rs, rfl, rfl, .inl (SqL.of er), njoin_fits (by omega), ?_⟩
        rw [ntjoin]
        have hz0 : (PySem.Str.join "\n" rs).length ≤ 60 := by omega
        have hA0 : Asc (PySem.Str.join "\n" rs) := njoin_asc fun y hy => (gr y hy).2
        generalize PySem.Str.join "\n" rs = z0 at *
        -- how often it is spoilt
        refine ⟨_, rfl, p, 3, _, rfl, bj, by omega, by decide, by decide, fun d H5 d0 d1 b5' k5 => ?_⟩
        obtain ⟨em, rfl⟩ : ∃ em : Nat, d = (em : Int) := ⟨d.toNat, by omega⟩
        have KS : ∀ b o, b ≠ p → b ≠ M → H3 b = some o → H5 b = some o := fun b o n m e => (k5 b n).trans (kj b o n (ne_of_none ((k4 b n).trans (ki b o n m e)) nD) ((k4 b n).trans (ki b o n m e)))
        have eM5 : H5 M = some (.lst (zs.map V.str)) := by
          have h1 := (k4 M (Ne.symm pM)).trans eMi
          exact (k5 M (Ne.symm pM)).trans (kj M _ (Ne.symm pM) (ne_of_none h1 nD) h1)
        refine ⟨_, rfl, by omega, by omega, ?_⟩
        rw [Int.toNat_natCast]
        refine for_range (lo := 0) (n := em) (fun j σ Hj => BoxAt Hj p (30 + 60 * i + 10 * j) ∧ Kp p H5 Hj ∧ ∃ (z : Str) (b5 b6 b8 b9 b10 b11 b12 b13 b14 : Option V), (j = 0 → z.length ≤ 60) ∧ (j = 1 → z.length ≤ 140) ∧ z.length ≤ 300 ∧ Asc z ∧ σ = [some (.ref l), some (.int (0 + (k : Nat))), some (.ref p), some (.ref c), some (.ref M), b5, b6, some (.str z), b8, b9, b10, b11, b12, b13, b14])
          ⟨b5'.le (by omega), fun _ _ _ e => e, z0, _, _, _, _, _, _, _, _, _, fun _ => hz0, fun h => absurd h (by decide), by omega, hA0, rfl⟩ (fun j σ Hj hj P => ?_) (fun σ Hj P => ?_)
        · obtain ⟨bj', kj', z, b5, b6, b8, b9, b10, b11, b12, b13, b14, hz1, hz2, hz3, hA, rfl⟩ := P
          refine ⟨_, rfl, _, rfl, _, rfl, p, c, z, ys, _, rfl, bj', kj' c _ cp (KS c _ cp cM ec3), cp, ly, hy, by omega, by omega, hA, fun z' H6 hz' hA' b6' k6 => ?_⟩
          refine ⟨b6'.le (by omega), kj'.trans k6, z', _, _, _, _, _, _, _, _, _, fun h => absurd h (by omega), fun h => ?_, ?_, hA', rfl⟩
          · have := hz1 (by omega)
            omega
          · rcases (by omega : j = 0 ∨ j = 1) with h | h
            · have := hz1 h
              omega
            · have := hz2 h
              omega
        · obtain ⟨bj', kj', z, b5, b6, b8, b9, b10, b11, b12, b13, b14, _, _, hz3, hA, rfl⟩ := P
          have hz1000 : z.length ≤ 1000 := by omega
          -- read and due
          have neq : ∀ d : PyData, (!decide (V.str d.shown = V.str d.shown)) = false := fun d => by
            rw [decide_eq_true rfl]
            rfl
          refine ⟨_, rfl, z, rfl, hz1000, hA, fun t1 H6 s6 u1 => ?_⟩
          obtain ⟨dd, hd1, hd2⟩ := dueR_dp (K := K) u1
          have sh := dueR_sh hd1 hz1000 hA
          have shk : dd.depth ≤ 60 := Nat.le_trans sh.k (by decide)
          have shl := Nat.le_trans sh.l big
          refine ⟨t1, dd, rfl, hd2, sh.s, sh.n, shk, shl, ?_⟩
          refine ⟨_, rfl, z, rfl, hz1000, hA, fun t2 H7 s7 u2 => ?_⟩
          obtain ⟨dd2, he1, he2⟩ := dueR_dp (K := K) u2
          obtain rfl := dueRD_one hd1 he1
          refine ⟨t2, dd, rfl, he2, sh.s, sh.n, shk, shl, rfl, _, rfl, ?_⟩
          rw [neq]
          refine iteF ?_
          refine ⟨_, rfl, z, rfl, hz1000, hA, fun t3 H8 s8 u3 => ?_⟩
          obtain ⟨dd3, hf1, hf2⟩ := dueR_dp (K := K) u3
          obtain rfl := dueRD_one hd1 hf1
          refine ⟨t3, dd, rfl, hf2, sh.s, sh.n, shk, shl, ?_⟩
          refine ⟨_, rfl, z, rfl, hz1000, hA, fun t4 H9 s9 u4 => ?_⟩
          obtain ⟨dd4, hg1, hg2⟩ := dueR_dp (K := K) u4
          obtain rfl := dueRD_one hd1 hg1
          refine ⟨t4, dd, rfl, hg2, sh.s, sh.n, shk, shl, rfl, _, rfl, ?_⟩
          rw [neq]
          refine iteF ?_
          have s59 : Same Hj H9 := ((s6.trans s7).trans s8).trans s9
          have eM9 := s59 _ _ (kj' M _ (Ne.symm pM) eM5)
          have KS9 : ∀ b o, b ≠ p → b ≠ M → H3 b = some o → H9 b = some o := fun b o n m e => s59 _ _ (kj' b o n (KS b o n m e))
          have b9' := bj'.mono s59
          -- made.extend
          refine ⟨_, rfl, .inl ⟨rfl, _, SqL.of eM9⟩, ?_⟩
          refine ⟨_, rfl, (by show 1 ≤ sizeLine; decide), fun l1 nl1 => ?_⟩
          have T1 := new_same (o := .lst [.str z]) nl1
          refine ⟨_, rfl, z, rfl, hz1000, hA, fun t5 H10 s10 u5 => ?_⟩
          have el1 := s10 l1 _ upd_same
          have T2 := T1.trans s10
          obtain ⟨w0, x0, ew, hgood⟩ : ∃ (w0 : Str) (x0 : V), H10 t5 = some (.tup [.str w0, x0]) ∧ (w0 = "text" → GoodT z) := by
            rcases u5 with ⟨j, h, e⟩ | ⟨h, g, e⟩ | ⟨h, g, e⟩
            · exact ⟨_, _, e, fun h => absurd h (by decide +kernel)⟩
            · exact ⟨_, _, e, fun h => absurd h (by decide +kernel)⟩
            · exact ⟨_, _, e, fun _ => ⟨h, g, hz1000, hA⟩⟩
          refine ⟨t5, _, _, _, rfl, rfl, SqT.of ew, atI_nat (j := 0) rfl, rfl, .inr ⟨_, rfl, ?_⟩⟩
          by_cases hw0 : w0 = "text"
          · rw [decide_eq_true (congrArg V.str hw0)]
            refine ⟨l1, _, _, rfl, rfl, el1, by decide, by decide, (by show 1 ≤ sizeLine; decide), fun l2 nl2 => ?_⟩
            have T3 := T2.trans (new_same (o := .lst (List.replicate (Int.toNat 1) [V.str z]).flatten) nl2)
            have eM11 := T3 _ _ eM9
            have b11' := b9'.mono T3
            refine ⟨M, l2, _, _, rfl, rfl, eM11, upd_same, (by show _ + 1 ≤ sizeLine; rw [List.length_map, sizeLine_eq]; omega), ?_⟩
            refine ⟨?_, fun b o n m e => (upd_ne m).trans (T3 _ _ (KS9 b o n m e)), ⟨zs ++ [z], by rw [upd_same, List.map_append]; rfl, by rw [List.length_append]; exact Nat.add_le_add_right lzs 1, fun y hy' => ?_⟩, _, _, _, _, _, _, _, _, _, _, rfl⟩
            · obtain ⟨c', sd, n, e, x⟩ := b11'.le (m' := 10 + 60 * (i + 1)) (by omega)
              exact ⟨c', sd, n, by rw [upd_ne pM]; exact e, x⟩
            · rcases List.mem_append.mp hy' with h | h
              · exact gzs y h
              · rw [List.mem_singleton.mp h]
                exact hgood hw0
          · rw [decide_eq_false (fun e => hw0 (V.str.inj e))]
            refine ⟨l1, _, _, rfl, rfl, el1, by decide, by decide, (by show 1 * 0 ≤ sizeLine; exact Nat.zero_le _), fun l2 nl2 => ?_⟩
            have T3 := T2.trans (new_same (o := .lst (List.replicate (Int.toNat 0) [V.str z]).flatten) nl2)
            have eM11 := T3 _ _ eM9
            have b11' := b9'.mono T3
            refine ⟨M, l2, _, _, rfl, rfl, eM11, upd_same, (by show _ + 0 ≤ sizeLine; rw [List.length_map, sizeLine_eq]; omega), ?_⟩
            refine ⟨?_, fun b o n m e => (upd_ne m).trans (T3 _ _ (KS9 b o n m e)), ⟨zs, by rw [upd_same]; show some (HO.lst (_ ++ [])) = _; rw [List.append_nil], by omega, gzs⟩, _, _, _, _, _, _, _, _, _, _, rfl⟩
            obtain ⟨c', sd, n, e, x⟩ := b11'.le (m' := 10 + 60 * (i + 1)) (by omega)
            exact ⟨c', sd, n, by rw [upd_ne pM]; exact e, x⟩
    · obtain ⟨bi, ki, ⟨zs, eMi, lzs, gzs⟩, b5, b6, b7, b8, b9, b10, b11, b12, b13, b14, rfl⟩ := P
      have SH : Same H Hi := fun b o e => by
        have h1 := s1 _ _ e
        have bp : b ≠ p := ne_of_none e np
        have bM : b ≠ M := ne_of_none e nM0
        exact ki b o bp bM (K3 b o bp h1)
      -- the rules read
      refine ⟨_, rfl, (by show 2 ≤ sizeLine; decide), fun l1 nl1 => ?_⟩
      have T1 := new_same (o := .lst [.str "", .str "all K"]) nl1
      have Ml1 : M ≠ l1 := ne_of_none eMi nl1
      refine ⟨M, l1, _, _, rfl, rfl, (upd_ne Ml1).trans eMi, upd_same, (by show _ + 2 ≤ sizeLine; rw [List.length_map, sizeLine_eq]; omega), fun L nL => ?_⟩
      have T2 := T1.trans (new_same (o := .lst (zs.map V.str ++ [.str "", .str "all K"])) nL)
      have eL : upd (upd Hi l1 (.lst [.str "", .str "all K"])) L (.lst (zs.map V.str ++ [.str "", .str "all K"])) L = some (.lst ((zs ++ (["", "all K"] : List Str)).map V.str)) := by rw [upd_same, List.map_append]; rfl
      have gus : ∀ z ∈ zs ++ (["", "all K"] : List Str), GoodT z := fun z hz => by
        rcases List.mem_append.mp hz with h | h
        · exact gzs z h
        · rcases List.mem_cons.mp h with rfl | h
          · exact good_empty
          · rw [List.mem_singleton.mp h]
            exact good_allK
      have lus : (zs ++ (["", "all K"] : List Str)).length ≤ 12 := by
        rw [List.length_append]
        show _ + 2 ≤ 12
        omega
      generalize zs ++ (["", "all K"] : List Str) = us at *
      generalize upd (upd Hi l1 (.lst [.str "", .str "all K"])) L (.lst (zs.map V.str ++ [.str "", .str "all K"])) = H5 at *
      have S5 := SH.trans T2
      refine ⟨L, rfl, ⟨_, SqL.of eL⟩, fun D nD => ?_⟩
      have LD : L ≠ D := ne_of_none eL nD
      refine lc_list (K := K) (a := L) (xs := us.map V.str) (fun i Hj => (∀ b o, b ≠ D → H5 b = some o → Hj b = some o) ∧ ∃ vs', Hj D = some (.lst vs') ∧ SomeAt C Hj vs' (us.take i))
        ⟨fun b o x e => (upd_ne x).trans e, [], upd_same, .nil⟩ (fun i Hj _ P => SqL.of (P.1 _ _ LD eL)) (fun i x Hj hx P => ?_) (fun Hj P => ?_)
      · obtain ⟨kj, vs', eD, hsm⟩ := P
        rw [List.getElem?_map] at hx
        obtain ⟨y, hy', rfl⟩ := Option.map_eq_some_iff.mp hx
        have hmem := List.mem_of_getElem? hy'
        obtain ⟨g1, g2, g3, g4⟩ := gus y hmem
        have hiu : i < us.length := (List.getElem?_eq_some_iff.mp hy').1
        refine ⟨rfl, keep1' ?_⟩
        refine ⟨_, rfl, rfl, _, rfl, y, rfl, g3, g4, fun a H6 s6 na _ _ hat => ?_, fun j d H6 _ hb _ => (bad_ok hb g1).elim, fun d H6 _ _ hgt _ => absurd g2 (by omega)⟩
        refine ⟨(by show 2 ≤ sizeLine; decide), fun t nt => ?_⟩
        have T6 := s6.trans (new_same (o := .tup [.str y, .ref a]) nt)
        have et6 : upd H6 t (.tup [.str y, .ref a]) t = some (.tup [.str y, .ref a]) := upd_same
        have hat6 : RuleAt C (upd H6 t (.tup [.str y, .ref a])) a y := hat.mono fun b o _ e => new_same nt _ _ e
        generalize upd H6 t (.tup [.str y, .ref a]) = H7 at *
        have eD7 := T6 _ _ eD
        have kD : ∀ b o, (∀ xs, o ≠ HO.lst xs) → H7 b = some o → upd H7 D (.lst (vs' ++ [.ref t])) b = some o := fun b o no e => (upd_ne (fun h => by
          rw [h, eD7] at e
          cases e
          exact no _ rfl)).trans e
        refine ⟨vs', eD7, by rw [hsm.len, List.length_take, sizeLine_eq]; omega, fun b o x e => (upd_ne x).trans (T6 _ _ (kj b o x e)), vs' ++ [.ref t], upd_same, ?_⟩
        rw [take_snoc hy']
        exact ((hsm.mono fun b o _ e => T6 _ _ e).snoc et6 hat6).mono kD
      · obtain ⟨kj, vs', eD, hsm⟩ := P
        rw [List.length_map, List.take_length] at hsm
        have SHj : Same H Hj := fun b o e => kj b o (ne_of_none (S5 _ _ e) nD) (S5 _ _ e)
        refine ⟨_, rfl, D, rfl, ⟨_, SqL.of eD⟩, ?_⟩
        refine for_list (K := K) (a := D) (xs := vs') (fun i σ Hx => Same Hj Hx ∧ ∃ b5 b6 b7 b8 b10 b11 b12 b13 b14 : Option V, σ = [some (.ref l), some (.int (0 + (k : Nat))), some (.ref p), some (.ref c), some (.ref M), b5, b6, b7, b8, some (.ref D), b10, b11, b12, b13, b14])
          ⟨Same.refl _, _, _, _, _, _, _, _, _, _, rfl⟩ (fun i σ Hx _ P => SqL.of (P.1 _ _ eD)) (fun i x σ Hx hx P => ?_) (fun σ Hx P => ?_)
        · obtain ⟨sx, b5, b6, b7, b8, b10, b11, b12, b13, b14, rfl⟩ := P
          obtain ⟨z, t, a, hzi, rfl, et', hat⟩ := hsm.get hx
          refine ⟨t, _, rfl, SqT.of (sx _ _ et'), rfl, _, _, rfl, _, _, rfl, rfl, ?_⟩
          refine ⟨_, rfl, D, rfl, ⟨_, SqL.of (sx _ _ eD)⟩, ?_⟩
          refine for_list (K := K) (a := D) (xs := vs') (fun j σ Hy => Same Hx Hy ∧ ∃ b5 b6 b8 b11 b12 b13 b14 : Option V, σ = [some (.ref l), some (.int (0 + (k : Nat))), some (.ref p), some (.ref c), some (.ref M), b5, b6, some (.str z), b8, some (.ref D), some (.ref a), b11, b12, b13, b14])
            ⟨Same.refl _, _, _, _, _, _, _, _, rfl⟩ (fun j σ Hy _ P => SqL.of (P.1 _ _ (sx _ _ eD))) (fun j x σ Hy hx2 P => ?_) (fun σ Hy P => ?_)
          · obtain ⟨sy, b5, b6, b8, b11, b12, b13, b14, rfl⟩ := P
            obtain ⟨z2, t2, a2, hzi2, rfl, et2, hat2⟩ := hsm.get hx2
            have sxy := sx.trans sy
            have hA1 : RuleAt C Hy a z := hat.mono fun b o _ e => sxy _ _ e
            have hA2 : RuleAt C Hy a2 z2 := hat2.mono fun b o _ e => sxy _ _ e
            obtain ⟨dx1, r1, ea1⟩ := id hA1
            obtain ⟨dx2, r2, ea2⟩ := id hA2
            refine ⟨t2, _, rfl, SqT.of (sxy _ _ et2), rfl, _, _, rfl, _, _, rfl, rfl, ?_⟩
            refine ⟨_, rfl, _, rfl, a, dx1, _, .ref C, rfl, ea1, .base (.ins ea2 TW.cl TW.ha TW.hn TW.htk TW.hm), TE.f4, a, z, _, rfl, hA1, .inl ⟨a2, z2, rfl, hA2, _, rfl, ?_⟩⟩
            refine ⟨_, rfl, _, rfl, a, dx1, _, .ref C, rfl, ea1, .base (.ins ea2 TW.cl TW.ha TW.hn TW.htk TW.hm), TE.f4, a, z, _, rfl, hA1, .inl ⟨a2, z2, rfl, hA2, _, rfl, (by show 2 ≤ sizeLine; decide), fun q1 nq1 => ?_⟩⟩
            have U1 := new_same (o := .lst [.bl (decide (z = z2)), .bl (!decide (z = z2))]) nq1
            refine ⟨_, rfl, _, rfl, rfl, _, rfl, _, rfl, rfl, (by show 2 ≤ sizeLine; decide), fun q2 nq2 => ?_⟩
            rw [show decide (V.str z = V.str z2) = decide (z = z2) from decide_eq_decide.mpr ⟨V.str.inj, congrArg V.str⟩]
            have U2 := new_same (o := .lst [.bl (decide (z = z2)), .bl (!decide (z = z2))]) nq2
            refine ⟨.list [.bool (decide (z = z2)), .bool (!decide (z = z2))], .list [.bool (decide (z = z2)), .bool (!decide (z = z2))], .lst (SqL.of (U2 _ _ upd_same)) (.cons (.bl _) (.cons (.bl _) .nil)), .lst (SqL.of upd_same) (.cons (.bl _) (.cons (.bl _) .nil)), two_sh _, two_sh _, _, rfl, ?_⟩
            rw [two_eq]
            refine iteF ?_
            exact ⟨sy.trans (U1.trans U2), _, _, _, _, _, _, _, rfl⟩
          · obtain ⟨sy, b5, b6, b8, b11, b12, b13, b14, rfl⟩ := P
            have sxy := sx.trans sy
            have hA1 : RuleAt C Hy a z := hat.mono fun b o _ e => sxy _ _ e
            obtain ⟨dx1, r1, ea1⟩ := id hA1
            -- what is no rules
            refine ⟨_, rfl, _, rfl, (by show 1 ≤ sizeLine; decide), fun v1 nv1 => ⟨(by show 4 ≤ sizeLine; decide), fun v2 nv2 => ?_⟩⟩
            have U1 := new_same (o := .tup [.str z]) nv1
            have ev1 : upd Hy v1 (.tup [.str z]) v1 = some (.tup [.str z]) := upd_same
            have U2 := new_same (o := .tup [.non, .int 0, .str z, .ref v1]) nv2
            have ev12 := U2 _ _ ev1
            have ev2 : upd (upd Hy v1 (.tup [.str z])) v2 (.tup [.non, .int 0, .str z, .ref v1]) v2 = some (.tup [.non, .int 0, .str z, .ref v1]) := upd_same
            have U := U1.trans U2
            generalize upd (upd Hy v1 (.tup [.str z])) v2 (.tup [.non, .int 0, .str z, .ref v1]) = Hz at *
            refine ⟨v2, rfl, ⟨_, SqT.of ev2⟩, fun W nW => ?_⟩
            have v2W : v2 ≠ W := ne_of_none ev2 nW
            refine lc_tup (K := K) (a := v2) (xs := [.non, .int 0, .str z, .ref v1]) (fun i Hw => Hw W = some (.lst []) ∧ ∀ b o, b ≠ W → Hz b = some o → Hw b = some o)
              ⟨upd_same, fun b o n e => (upd_ne n).trans e⟩ (fun i Hw _ P => SqT.of (P.2 _ _ v2W ev2)) (fun i x Hw hx3 P => ?_) (fun Hw P => ?_)
            · obtain ⟨eW, kw⟩ := P
              have ea3 := kw a _ (ne_of_none (U _ _ ea1) nW) (U _ _ ea1)
              have hA3 : RuleAt C Hw a z := ⟨dx1, r1, ea3⟩
              obtain ⟨ty, hty, hk0, hf0⟩ : ∃ ty, TyX K Hw x ty ∧ PySem.W.kitOne K ty (.ref C) = some false ∧ PySem.W.notFirst K C ty = true := by
                match i, hx3 with
                | 0, h => cases h; exact ⟨_, .base .non, TE.k0, TE.f0⟩
                | 1, h => cases h; exact ⟨_, .base (.int 0), TE.k1, TE.f1⟩
                | 2, h => cases h; exact ⟨_, .base (.str z), TE.k2, TE.f2⟩
                | 3, h => cases h; exact ⟨_, .base (.tup (kw v1 _ (ne_of_none ev12 nW) ev12)), TE.k3, TE.f3⟩
                | n + 4, h => cases h
              refine ⟨rfl, ?_⟩
              refine ⟨_, rfl, _, rfl, a, dx1, _, ty, rfl, ea3, hty, hf0, a, z, _, rfl, hA3, .inr ⟨ty, hty, hk0, false, rfl, _, rfl, iteF ?_⟩⟩
              exact ⟨_, rfl, _, rfl, a, dx1, _, ty, rfl, ea3, hty, hf0, a, z, _, rfl, hA3, .inr ⟨ty, hty, hk0, false, rfl, _, rfl, iteF ⟨eW, kw⟩⟩⟩
            · obtain ⟨eW, kw⟩ := P
              refine ⟨Nat.zero_le _, fun W2 nW2 => ?_⟩
              have V2 := new_same (o := .lst []) nW2
              refine ⟨.list [], .list [], .lst (SqL.of (V2 _ _ eW)) .nil, .lst (SqL.of upd_same) .nil, rfl, rfl, _, rfl, iteF ?_⟩
              refine ⟨sxy.trans fun b o e => V2 _ _ (kw b o (ne_of_none (U _ _ e) nW) (U _ _ e)), _, _, _, _, _, _, _, _, _, rfl⟩
        · obtain ⟨sx, b5, b6, b7, b8, b10, b11, b12, b13, b14, rfl⟩ := P
          exact ⟨(SHj.trans sx).seq hl, _, _, _, _, _, _, _, _, _, _, _, _, _, _, rfl⟩
end
end R4

set_option linter.all false
set_option maxRecDepth 100000
set_option maxHeartbeats 16000000
namespace R4
open PySem PySem.Spec PyProof.Rows L2 Gx
/-! ### what the top has written -/
abbrev Lw : PySem.W.OpenLaw := PySem.Challenge.rw_keptnomore_k16_rules_read_and_shown
def clsB (K : PySem.W.Frag) (C : Addr) (B i : String) : Bool :=
  decide (PySem.W.findIn K (.ref C) "__setattr__" = some (some (.builtin "object.__setattr__"))) && (decide (PySem.W.subIn K (.ref C) (.type "BaseException") = some true) && (decide (PySem.W.typeIn K (.ref C) = some (.type "type")) && (PySem.W.keepIn K (.ref C)
  && (decide (PySem.W.findIn K (.ref C) "__getattribute__" = some (some (.builtin "BaseException.__getattribute__"))) && (decide (PySem.W.findIn K (.ref C) "__getattr__" = some none) && (PySem.W.hasDictIn K C
  && (decide (PySem.W.findIn K (.ref C) "__class__" = some (some (.builtin "object.__class__"))) && (decide (PySem.W.mroIn K C (.type "object") = some true) && (decide (PySem.W.ks_superIn K C C "__init__" = some (some (.builtin i)))
  && (decide (PySem.W.subIn K (.ref C) (.type B) = some true) && decide (PySem.W.mroIn K C (.ref C) = some true)))))))))))
structure ClsF (K : PySem.W.Frag) (C : Addr) (B i : String) : Prop where
  sa : PySem.W.findIn K (.ref C) "__setattr__" = some (some (.builtin "object.__setattr__"))
  exC : PySem.W.subIn K (.ref C) (.type "BaseException") = some true
  tyC : PySem.W.typeIn K (.ref C) = some (.type "type")
  kC : PySem.W.keepIn K (.ref C) = true
  ga : PySem.W.findIn K (.ref C) "__getattribute__" = some (some (.builtin "BaseException.__getattribute__"))
  gg : PySem.W.findIn K (.ref C) "__getattr__" = some none
  hd : PySem.W.hasDictIn K C = true
  ha : PySem.W.findIn K (.ref C) "__class__" = some (some (.builtin "object.__class__"))
  ho : PySem.W.mroIn K C (.type "object") = some true
  al : PySem.W.ks_superIn K C C "__init__" = some (some (.builtin i))
  sB : PySem.W.subIn K (.ref C) (.type B) = some true
  mC : PySem.W.mroIn K C (.ref C) = some true
theorem clsB_ok {K : PySem.W.Frag} {C : Addr} {B i : String} (h : clsB K C B i = true) : ClsF K C B i := by
  unfold clsB at h
  simp only [Bool.and_eq_true, decide_eq_true_eq] at h
  obtain ⟨h1, h2, h3, h4, h5, h6, h7, h8, h9, h10, h11, h12⟩ := h
  exact ⟨h1, h2, h3, h4, h5, h6, h7, h8, h9, h10, h11, h12⟩
theorem ClsF.exc {K : PySem.W.Frag} {C : Addr} {B i : String} (h : ClsF K C B i) (hn : PySem.W.specialIn K (.builtin "object.__class__") "__get__" = some (some (.builtin "getset_descriptor.__get__")))
    (ht : PySem.W.takesIn K (.builtin "object.__class__") = some true) : ExcC K C := ⟨h.ga, h.gg, h.exC, h.hd, h.ha, hn, ht, h.ho⟩
theorem ClsF.xf {K : PySem.W.Frag} {C : Addr} {B i : String} (h : ClsF K C B i) : XfC K C := ⟨h.ga, h.gg, h.exC, h.hd⟩
theorem refs16 (a : Addr) : PySem.HandSPX.refsVE [.ref a, .type "ValueError", .type "Exception", .type "BaseException", .type "object"] = true := by
  show PySem.HandSPX.refsVE [.type "ValueError", .type "Exception", .type "BaseException", .type "object"] = true
  decide +kernel
def tabB (K : PySem.W.Frag) (A B D S R : Addr) : Bool := decide (PySem.W.exmOne K (.ref A) (.ref A) = some true) && decide (PySem.W.exmOne K (.ref B) (.ref A) = some false) && decide (PySem.W.exmOne K (.ref B) (.ref B) = some true) && decide (PySem.W.kitAny K (.ref A) [.ref S, .ref B] = some false) && decide (PySem.W.kitOne K (.ref B) (.ref D) = some true) && decide (PySem.W.kitOne K (.ref B) (.type "ValueError") = some true) && decide (PySem.W.kitOne K (.ref R) (.ref R) = some true) && decide (PySem.W.findIn K (.ref R) "__ne__" = some (some (.builtin "object.__ne__"))) && decide (PySem.W.kitOne K (.type "NoneType") (.ref R) = some false) && decide (PySem.W.kitOne K (.type "int") (.ref R) = some false) && decide (PySem.W.kitOne K (.type "str") (.ref R) = some false) && decide (PySem.W.kitOne K (.type "tuple") (.ref R) = some false) && decide (PySem.W.notFirst K R (.type "NoneType") = true) && decide (PySem.W.notFirst K R (.type "int") = true) && decide (PySem.W.notFirst K R (.type "str") = true) && decide (PySem.W.notFirst K R (.type "tuple") = true) && decide (PySem.W.notFirst K R (.ref R) = true)
structure TabF (K : PySem.W.Frag) (A B D S R : Addr) : Prop where
  e_nn : PySem.W.exmOne K (.ref A) (.ref A) = some true
  e_tn : PySem.W.exmOne K (.ref B) (.ref A) = some false
  e_tt : PySem.W.exmOne K (.ref B) (.ref B) = some true
  k_nn : PySem.W.kitAny K (.ref A) [.ref S, .ref B] = some false
  k_tk : PySem.W.kitOne K (.ref B) (.ref D) = some true
  k_tv : PySem.W.kitOne K (.ref B) (.type "ValueError") = some true
  kit : PySem.W.kitOne K (.ref R) (.ref R) = some true
  ne : PySem.W.findIn K (.ref R) "__ne__" = some (some (.builtin "object.__ne__"))
  k0 : PySem.W.kitOne K (.type "NoneType") (.ref R) = some false
  k1 : PySem.W.kitOne K (.type "int") (.ref R) = some false
  k2 : PySem.W.kitOne K (.type "str") (.ref R) = some false
  k3 : PySem.W.kitOne K (.type "tuple") (.ref R) = some false
  f0 : PySem.W.notFirst K R (.type "NoneType") = true
  f1 : PySem.W.notFirst K R (.type "int") = true
  f2 : PySem.W.notFirst K R (.type "str") = true
  f3 : PySem.W.notFirst K R (.type "tuple") = true
  f4 : PySem.W.notFirst K R (.ref R) = true
theorem tabB_ok {K : PySem.W.Frag} {A B D S R : Addr} (h : tabB K A B D S R = true) : TabF K A B D S R := by
  unfold tabB at h
  simp only [Bool.and_eq_true, decide_eq_true_eq] at h
  obtain ⟨⟨⟨⟨⟨⟨⟨⟨⟨⟨⟨⟨⟨⟨⟨⟨h0, h1⟩, h2⟩, h3⟩, h4⟩, h5⟩, h6⟩, h7⟩, h8⟩, h9⟩, h10⟩, h11⟩, h12⟩, h13⟩, h14⟩, h15⟩, h16⟩ := h
  exact ⟨h0, h1, h2, h3, h4, h5, h6, h7, h8, h9, h10, h11, h12, h13, h14, h15, h16⟩
theorem all_mk {w : World} {K : PySem.W.Frag} {h : Heap} {mg : Str → Option Value} {fa : Addr} (X : K.In h) (G : h.Ns mainGlobals mg) (hfa : mg "law" = some (.ref fa))
    {a0 f0 cc0 cda0 N0 a1 f1 cc1 cda1 N1 ak fF_own fF_rows_in fF_words_in fF_consists fF_is_kind_name fF_box fF_take fF_mixed fF_pick fF_caps fF_is_kind fF_due fF_read fF_spoilt fF_law C fF_rinit rec_rread fF_rread fF_rstr fF_req : Addr}
    {od0 an0 dd0 cld0 cdd0 od1 an1 dd1 cld1 cdd1 odF_own anF_own odF_rows_in anF_rows_in odF_words_in anF_words_in odF_consists anF_consists odF_is_kind_name anF_is_kind_name odF_box anF_box odF_take anF_take odF_mixed anF_mixed odF_pick anF_pick odF_caps anF_caps odF_is_kind anF_is_kind odF_due anF_due odF_read anF_read odF_spoilt anF_spoilt odF_law anF_law odF_rinit anF_rinit odF_rread anF_rread odF_rstr anF_rstr odF_req anF_req : Option Addr}
    {oc0 dc0 pm0 ct0 cl0 ccl0 oc1 dc1 pm1 ct1 cl1 ccl1 ocF_own kVF_own dcF_own pmF_own cdF_own ctF_own ocF_rows_in kVF_rows_in dcF_rows_in pmF_rows_in cdF_rows_in ctF_rows_in ocF_words_in kVF_words_in dcF_words_in pmF_words_in cdF_words_in ctF_words_in ocF_consists kVF_consists dcF_consists pmF_consists cdF_consists ctF_consists ocF_is_kind_name kVF_is_kind_name dcF_is_kind_name pmF_is_kind_name cdF_is_kind_name ctF_is_kind_name ocF_box kVF_box dcF_box pmF_box cdF_box ctF_box ocF_take kVF_take dcF_take pmF_take cdF_take ctF_take ocF_mixed kVF_mixed dcF_mixed pmF_mixed cdF_mixed ctF_mixed ocF_pick kVF_pick dcF_pick pmF_pick cdF_pick ctF_pick ocF_caps kVF_caps dcF_caps pmF_caps cdF_caps ctF_caps ocF_is_kind kVF_is_kind dcF_is_kind pmF_is_kind cdF_is_kind ctF_is_kind ocF_due kVF_due dcF_due pmF_due cdF_due ctF_due ocF_read kVF_read dcF_read pmF_read cdF_read ctF_read ocF_spoilt kVF_spoilt dcF_spoilt pmF_spoilt cdF_spoilt ctF_spoilt ocF_law kVF_law dcF_law pmF_law cdF_law ctF_law ocF_rinit kVF_rinit dcF_rinit pmF_rinit cdF_rinit ctF_rinit ocF_rread kVF_rread dcF_rread pmF_rread cdF_rread ctF_rread ocF_rstr kVF_rstr dcF_rstr pmF_rstr cdF_rstr ctF_rstr ocF_req kVF_req dcF_req pmF_req cdF_req ctF_req : Value}
    {osl0 csl0 ccs0 osl1 csl1 ccs1 slF_own slF_rows_in slF_words_in slF_consists slF_is_kind_name slF_box slF_take slF_mixed slF_pick slF_caps slF_is_kind slF_due slF_read slF_spoilt slF_law slF_rinit slF_rread slF_rstr slF_req : Array (Option Value)}
    {nm0 q0 file0 nm1 q1 file1 : Str} {bs0 sub0 bs1 sub1 : List Value} {sn0 sn1 : List Str} {ab0 ab1 : Bool} {col0 col1 : Option Bool}
    {k0_0 k1_0 k2_0 k3_0 k5_0 k0_1 k1_1 k2_1 k3_1 k5_1 : Option Value}
    {vs0 vs1 : Array Value} {tf0 tf1 : Tok}
    {rest_rread : List Value}
    {cNK : Addr}
    (g0 : PySem.W.nsIn K mainGlobals "NoRules" = some (some (.ref a0)))
    (g1 : PySem.W.nsIn K mainGlobals "TooMany" = some (some (.ref a1)))
    (gk : PySem.W.nsIn K mainGlobals "KeptError" = some (some (.ref ak)))
    (x0 : K.lookup a0 = some (excClassObj nm0 q0 a0 N0 bs0 [.ref ak, .type "ValueError", .type "Exception", .type "BaseException", .type "object"] true sn0 sub0 ab0 col0 dd0 k0_0 k1_0 k2_0 k3_0 k5_0 "ValueError.__new__"))
    (i0 : PySem.W.findIn K (.ref a0) "__init__" = some (some (.ref f0)))
    (t0 : PySem.W.typeIn K (.ref f0) = some (.type "function"))
    (l0 : K.lookup f0 = some ⟨oc0, od0, .func (PySem.W.fnX "__init__" "NoRules.__init__" (defArgs s_NoRules) (defBody s_NoRules) (defScope s_NoRules) [("__class__", cc0)] .none .none dc0 pm0 an0 (.ref cda0) ct0), osl0⟩)
    (c0 : PySem.W.codeIn K (.ref cda0) "NoRules.__init__" = true)
    (u0 : K.lookup cc0 = some ⟨cl0, cld0, .cell (some (.ref a0)), csl0⟩)
    (w0 : K.lookup cda0 = some ⟨ccl0, cdd0, .fields vs0, ccs0⟩)
    (y0 : vs0[2]? = some (.str file0 tf0))
    (z0 : ((Lw.prog.main.file : Str) == file0) = true)
    (b0 : clsB K a0 "ValueError" "ValueError.__init__" = true)
    (n0row : PySem.W.findIn K (.ref a0) "row" = some none)
    (x1 : K.lookup a1 = some (excClassObj nm1 q1 a1 N1 bs1 [.ref ak, .type "ValueError", .type "Exception", .type "BaseException", .type "object"] true sn1 sub1 ab1 col1 dd1 k0_1 k1_1 k2_1 k3_1 k5_1 "ValueError.__new__"))
    (i1 : PySem.W.findIn K (.ref a1) "__init__" = some (some (.ref f1)))
    (t1 : PySem.W.typeIn K (.ref f1) = some (.type "function"))
    (l1 : K.lookup f1 = some ⟨oc1, od1, .func (PySem.W.fnX "__init__" "TooMany.__init__" (defArgs s_TooMany) (defBody s_TooMany) (defScope s_TooMany) [("__class__", cc1)] .none .none dc1 pm1 an1 (.ref cda1) ct1), osl1⟩)
    (c1 : PySem.W.codeIn K (.ref cda1) "TooMany.__init__" = true)
    (u1 : K.lookup cc1 = some ⟨cl1, cld1, .cell (some (.ref a1)), csl1⟩)
    (w1 : K.lookup cda1 = some ⟨ccl1, cdd1, .fields vs1, ccs1⟩)
    (y1 : vs1[2]? = some (.str file1 tf1))
    (z1 : ((Lw.prog.main.file : Str) == file1) = true)
    (b1 : clsB K a1 "ValueError" "ValueError.__init__" = true)
    (n1word : PySem.W.findIn K (.ref a1) "word" = some none)
    (hn : PySem.W.specialIn K (.builtin "object.__class__") "__get__" = some (some (.builtin "getset_descriptor.__get__")))
    (ht : PySem.W.takesIn K (.builtin "object.__class__") = some true)
    (th : PySem.W.nsIn K PySem.cStatics "thirdparty.any" = some none)
    (htop : (Lw.prog.main.scope.names.lookup ("super" : Str)).isSome = false)
    (aF_own : PySem.W.nsIn K mainGlobals "own_copy" = some (some (.ref fF_own)))
    (lF_own : K.lookup fF_own = some ⟨ocF_own, odF_own, .func (PySem.W.fnOf "own_copy" "own_copy" (defArgs s_own) (defBody s_own) (defScope s_own) .none kVF_own dcF_own pmF_own anF_own cdF_own ctF_own), slF_own⟩)
    (cF_own : PySem.W.codeIn K cdF_own "own_copy" = true)
    (kF_own : PySem.W.keepIn K (.ref fF_own) = true)
    (aF_rows_in : PySem.W.nsIn K mainGlobals "rows_in" = some (some (.ref fF_rows_in)))
    (lF_rows_in : K.lookup fF_rows_in = some ⟨ocF_rows_in, odF_rows_in, .func (PySem.W.fnOf "rows_in" "rows_in" (defArgs s_rows_in) (defBody s_rows_in) (defScope s_rows_in) .none kVF_rows_in dcF_rows_in pmF_rows_in anF_rows_in cdF_rows_in ctF_rows_in), slF_rows_in⟩)
    (cF_rows_in : PySem.W.codeIn K cdF_rows_in "rows_in" = true)
    (kF_rows_in : PySem.W.keepIn K (.ref fF_rows_in) = true)
    (aF_words_in : PySem.W.nsIn K mainGlobals "words_in" = some (some (.ref fF_words_in)))
    (lF_words_in : K.lookup fF_words_in = some ⟨ocF_words_in, odF_words_in, .func (PySem.W.fnOf "words_in" "words_in" (defArgs s_words_in) (defBody s_words_in) (defScope s_words_in) .none kVF_words_in dcF_words_in pmF_words_in anF_words_in cdF_words_in ctF_words_in), slF_words_in⟩)
    (cF_words_in : PySem.W.codeIn K cdF_words_in "words_in" = true)
    (kF_words_in : PySem.W.keepIn K (.ref fF_words_in) = true)
    (aF_consists : PySem.W.nsIn K mainGlobals "consists_of" = some (some (.ref fF_consists)))
    (lF_consists : K.lookup fF_consists = some ⟨ocF_consists, odF_consists, .func (PySem.W.fnOf "consists_of" "consists_of" (defArgs s_consists) (defBody s_consists) (defScope s_consists) .none kVF_consists dcF_consists pmF_consists anF_consists cdF_consists ctF_consists), slF_consists⟩)
    (cF_consists : PySem.W.codeIn K cdF_consists "consists_of" = true)
    (kF_consists : PySem.W.keepIn K (.ref fF_consists) = true)
    (aF_is_kind_name : PySem.W.nsIn K mainGlobals "is_kind_name" = some (some (.ref fF_is_kind_name)))
    (lF_is_kind_name : K.lookup fF_is_kind_name = some ⟨ocF_is_kind_name, odF_is_kind_name, .func (PySem.W.fnOf "is_kind_name" "is_kind_name" (defArgs s_is_kind_name) (defBody s_is_kind_name) (defScope s_is_kind_name) .none kVF_is_kind_name dcF_is_kind_name pmF_is_kind_name anF_is_kind_name cdF_is_kind_name ctF_is_kind_name), slF_is_kind_name⟩)
    (cF_is_kind_name : PySem.W.codeIn K cdF_is_kind_name "is_kind_name" = true)
    (kF_is_kind_name : PySem.W.keepIn K (.ref fF_is_kind_name) = true)
    (aF_box : PySem.W.nsIn K mainGlobals "_law_box" = some (some (.ref fF_box)))
    (lF_box : K.lookup fF_box = some ⟨ocF_box, odF_box, .func (PySem.W.fnOf "_law_box" "_law_box" (defArgs s_box) (defBody s_box) (defScope s_box) .none kVF_box dcF_box pmF_box anF_box cdF_box ctF_box), slF_box⟩)
    (cF_box : PySem.W.codeIn K cdF_box "_law_box" = true)
    (kF_box : PySem.W.keepIn K (.ref fF_box) = true)
    (aF_take : PySem.W.nsIn K mainGlobals "_law_take" = some (some (.ref fF_take)))
    (lF_take : K.lookup fF_take = some ⟨ocF_take, odF_take, .func (PySem.W.fnOf "_law_take" "_law_take" (defArgs s_take) (defBody s_take) (defScope s_take) .none kVF_take dcF_take pmF_take anF_take cdF_take ctF_take), slF_take⟩)
    (cF_take : PySem.W.codeIn K cdF_take "_law_take" = true)
    (kF_take : PySem.W.keepIn K (.ref fF_take) = true)
    (aF_mixed : PySem.W.nsIn K mainGlobals "_law_mixed" = some (some (.ref fF_mixed)))
    (lF_mixed : K.lookup fF_mixed = some ⟨ocF_mixed, odF_mixed, .func (PySem.W.fnOf "_law_mixed" "_law_mixed" (defArgs s_mixed) (defBody s_mixed) (defScope s_mixed) .none kVF_mixed dcF_mixed pmF_mixed anF_mixed cdF_mixed ctF_mixed), slF_mixed⟩)
    (cF_mixed : PySem.W.codeIn K cdF_mixed "_law_mixed" = true)
    (kF_mixed : PySem.W.keepIn K (.ref fF_mixed) = true)
    (aF_pick : PySem.W.nsIn K mainGlobals "_law_pick" = some (some (.ref fF_pick)))
    (lF_pick : K.lookup fF_pick = some ⟨ocF_pick, odF_pick, .func (PySem.W.fnOf "_law_pick" "_law_pick" (defArgs s_pick) (defBody s_pick) (defScope s_pick) .none kVF_pick dcF_pick pmF_pick anF_pick cdF_pick ctF_pick), slF_pick⟩)
    (cF_pick : PySem.W.codeIn K cdF_pick "_law_pick" = true)
    (kF_pick : PySem.W.keepIn K (.ref fF_pick) = true)
    (aF_caps : PySem.W.nsIn K mainGlobals "_law_caps" = some (some (.ref fF_caps)))
    (lF_caps : K.lookup fF_caps = some ⟨ocF_caps, odF_caps, .func (PySem.W.fnOf "_law_caps" "_law_caps" (defArgs s_caps) (defBody s_caps) (defScope s_caps) .none kVF_caps dcF_caps pmF_caps anF_caps cdF_caps ctF_caps), slF_caps⟩)
    (cF_caps : PySem.W.codeIn K cdF_caps "_law_caps" = true)
    (kF_caps : PySem.W.keepIn K (.ref fF_caps) = true)
    (aF_is_kind : PySem.W.nsIn K mainGlobals "_law_is_kind" = some (some (.ref fF_is_kind)))
    (lF_is_kind : K.lookup fF_is_kind = some ⟨ocF_is_kind, odF_is_kind, .func (PySem.W.fnOf "_law_is_kind" "_law_is_kind" (defArgs s_is_kind) (defBody s_is_kind) (defScope s_is_kind) .none kVF_is_kind dcF_is_kind pmF_is_kind anF_is_kind cdF_is_kind ctF_is_kind), slF_is_kind⟩)
    (cF_is_kind : PySem.W.codeIn K cdF_is_kind "_law_is_kind" = true)
    (kF_is_kind : PySem.W.keepIn K (.ref fF_is_kind) = true)
    (aF_due : PySem.W.nsIn K mainGlobals "_law_due" = some (some (.ref fF_due)))
    (lF_due : K.lookup fF_due = some ⟨ocF_due, odF_due, .func (PySem.W.fnOf "_law_due" "_law_due" (defArgs s_due) (defBody s_due) (defScope s_due) .none kVF_due dcF_due pmF_due anF_due cdF_due ctF_due), slF_due⟩)
    (cF_due : PySem.W.codeIn K cdF_due "_law_due" = true)
    (kF_due : PySem.W.keepIn K (.ref fF_due) = true)
    (aF_read : PySem.W.nsIn K mainGlobals "_law_read" = some (some (.ref fF_read)))
    (lF_read : K.lookup fF_read = some ⟨ocF_read, odF_read, .func (PySem.W.fnOf "_law_read" "_law_read" (defArgs s_read) (defBody s_read) (defScope s_read) .none kVF_read dcF_read pmF_read anF_read cdF_read ctF_read), slF_read⟩)
    (cF_read : PySem.W.codeIn K cdF_read "_law_read" = true)
    (kF_read : PySem.W.keepIn K (.ref fF_read) = true)
    (aF_spoilt : PySem.W.nsIn K mainGlobals "_law_spoilt" = some (some (.ref fF_spoilt)))
    (lF_spoilt : K.lookup fF_spoilt = some ⟨ocF_spoilt, odF_spoilt, .func (PySem.W.fnOf "_law_spoilt" "_law_spoilt" (defArgs s_spoilt) (defBody s_spoilt) (defScope s_spoilt) .none kVF_spoilt dcF_spoilt pmF_spoilt anF_spoilt cdF_spoilt ctF_spoilt), slF_spoilt⟩)
    (cF_spoilt : PySem.W.codeIn K cdF_spoilt "_law_spoilt" = true)
    (kF_spoilt : PySem.W.keepIn K (.ref fF_spoilt) = true)
    (aF_law : PySem.W.nsIn K mainGlobals "law" = some (some (.ref fF_law)))
    (lF_law : K.lookup fF_law = some ⟨ocF_law, odF_law, .func (PySem.W.fnOf "law" "law" (defArgs s_law) (defBody s_law) (defScope s_law) .none kVF_law dcF_law pmF_law anF_law cdF_law ctF_law), slF_law⟩)
    (cF_law : PySem.W.codeIn K cdF_law "law" = true)
    (kF_law : PySem.W.keepIn K (.ref fF_law) = true)
    (g_C : PySem.W.nsIn K mainGlobals "Rules" = some (some (.ref C)))
    (pg_C : PySem.W.plainGet K C Str.empty = true)
    (hd_C : PySem.W.hasDictIn K C = true)
    (po_C : PySem.W.plainOver K C = true)
    (sa_C : PySem.W.findIn K (.ref C) "__setattr__" = some (some (.builtin "object.__setattr__")))
    (mk_C : PySem.W.makesIn K C = true)
    (kc_C : PySem.W.keepIn K (.ref C) = true)
    (ha_C : PySem.W.findIn K (.ref C) "__class__" = some (some (.builtin "object.__class__")))
    (hm_C : PySem.W.mroIn K C (.type "object") = some true)
    (na_C_rows : PySem.W.findIn K (.ref C) "rows" = some none)
    (na_C__text : PySem.W.findIn K (.ref C) "_text" = some none)
    (aF_rinit : PySem.W.findIn K (.ref C) "__init__" = some (some (.ref fF_rinit)))
    (iF_rinit : PySem.W.isFn K (.ref fF_rinit) = true)
    (lF_rinit : K.lookup fF_rinit = some ⟨ocF_rinit, odF_rinit, .func (PySem.W.fnOf "__init__" "Rules.__init__" (defArgs s_rinit) (defBody s_rinit) (defScope s_rinit) .none kVF_rinit dcF_rinit pmF_rinit anF_rinit cdF_rinit ctF_rinit), slF_rinit⟩)
    (cF_rinit : PySem.W.codeIn K cdF_rinit "Rules.__init__" = true)
    (kF_rinit : PySem.W.keepIn K (.ref fF_rinit) = true)
    (aF_rread : PySem.W.findCls K (.ref C) (.type "type") "read" = some (.get (.builtin "staticmethod.__get__") (.ref rec_rread) .none (.ref C)))
    (rF_rread : PySem.W.recIn K rec_rread "staticmethod" = some (.ref fF_rread :: rest_rread))
    (lF_rread : K.lookup fF_rread = some ⟨ocF_rread, odF_rread, .func (PySem.W.fnOf "read" "Rules.read" (defArgs s_rread) (defBody s_rread) (defScope s_rread) .none kVF_rread dcF_rread pmF_rread anF_rread cdF_rread ctF_rread), slF_rread⟩)
    (cF_rread : PySem.W.codeIn K cdF_rread "Rules.read" = true)
    (kF_rread : PySem.W.keepIn K (.ref fF_rread) = true)
    (aF_rstr : PySem.W.findIn K (.ref C) "__str__" = some (some (.ref fF_rstr)))
    (iF_rstr : PySem.W.isFn K (.ref fF_rstr) = true)
    (lF_rstr : K.lookup fF_rstr = some ⟨ocF_rstr, odF_rstr, .func (PySem.W.fnOf "__str__" "Rules.__str__" (defArgs s_rstr) (defBody s_rstr) (defScope s_rstr) .none kVF_rstr dcF_rstr pmF_rstr anF_rstr cdF_rstr ctF_rstr), slF_rstr⟩)
    (cF_rstr : PySem.W.codeIn K cdF_rstr "Rules.__str__" = true)
    (kF_rstr : PySem.W.keepIn K (.ref fF_rstr) = true)
    (aF_req : PySem.W.findIn K (.ref C) "__eq__" = some (some (.ref fF_req)))
    (iF_req : PySem.W.isFn K (.ref fF_req) = true)
    (lF_req : K.lookup fF_req = some ⟨ocF_req, odF_req, .func (PySem.W.fnOf "__eq__" "Rules.__eq__" (defArgs s_req) (defBody s_req) (defScope s_req) .none kVF_req dcF_req pmF_req anF_req cdF_req ctF_req), slF_req⟩)
    (cF_req : PySem.W.codeIn K cdF_req "Rules.__eq__" = true)
    (kF_req : PySem.W.keepIn K (.ref fF_req) = true)
    (rd_C : PySem.W.readsIn K C (.type "type") = true)
    (ga_C : PySem.W.specialIn K (.ref C) "__getattribute__" = some (some (.builtin "type.__getattribute__")))
    (n_len : PySem.W.nsIn K mainGlobals "len" = some none)
    (n_abs : PySem.W.nsIn K mainGlobals "abs" = some none)
    (n_int : PySem.W.nsIn K mainGlobals "int" = some none)
    (n_isinstance : PySem.W.nsIn K mainGlobals "isinstance" = some none)
    (n_list : PySem.W.nsIn K mainGlobals "list" = some none)
    (n_tuple : PySem.W.nsIn K mainGlobals "tuple" = some none)
    (n_dict : PySem.W.nsIn K mainGlobals "dict" = some none)
    (n_repr : PySem.W.nsIn K mainGlobals "repr" = some none)
    (n_range : PySem.W.nsIn K mainGlobals "range" = some none)
    (n_max : PySem.W.nsIn K mainGlobals "max" = some none)
    (n_min : PySem.W.nsIn K mainGlobals "min" = some none)
    (n_enumerate : PySem.W.nsIn K mainGlobals "enumerate" = some none)
    (n_super : PySem.W.nsIn K mainGlobals "super" = some none)
    (n_all : PySem.W.nsIn K mainGlobals "all" = some none)
    (n_str : PySem.W.nsIn K mainGlobals "str" = some none)
    (n_ValueError : PySem.W.nsIn K mainGlobals "ValueError" = some none)
    (tab : tabB K a0 a1 ak cNK C = true)
    (gNK : PySem.W.nsIn K mainGlobals "NoKinds" = some (some (.ref cNK))) :
    ∃ fd : FuncData, (∀ (s : Shared) (v : Value), BindsTo s fd ⟨[v], []⟩ [("_law_script", v)]) ∧ ∀ base : Heap, K.In base → base.Ns mainGlobals mg → Rg.FnG Lw.prog w K mg base CX0 11 fa fd ["_law_script"] (spLaw K) := by
  have e := hfa.symm.trans (PySem.W.mg_of X G aF_law)
  cases e
  have m_len := PySem.W.mg_none_of X G n_len
  have m_abs := PySem.W.mg_none_of X G n_abs
  have m_int := PySem.W.mg_none_of X G n_int
  have m_isinstance := PySem.W.mg_none_of X G n_isinstance
  have m_list := PySem.W.mg_none_of X G n_list
  have m_tuple := PySem.W.mg_none_of X G n_tuple
  have m_dict := PySem.W.mg_none_of X G n_dict
  have m_repr := PySem.W.mg_none_of X G n_repr
  have m_range := PySem.W.mg_none_of X G n_range
  have m_max := PySem.W.mg_none_of X G n_max
  have m_min := PySem.W.mg_none_of X G n_min
  have m_enumerate := PySem.W.mg_none_of X G n_enumerate
  have m_super := PySem.W.mg_none_of X G n_super
  have m_all := PySem.W.mg_none_of X G n_all
  have m_str := PySem.W.mg_none_of X G n_str
  have m_ValueError := PySem.W.mg_none_of X G n_ValueError
  have TT := tabB_ok tab
  have F_own := fun_mk (st := s_own) lF_own cF_own kF_own
  have m_own := PySem.W.mg_of X G aF_own
  have B_own := F_own.binds (ps := ["value"]) fun _ _ _ _ _ _ us hl => match us, hl with | [_], _ => rfl
  have F_rows_in := fun_mk (st := s_rows_in) lF_rows_in cF_rows_in kF_rows_in
  have m_rows_in := PySem.W.mg_of X G aF_rows_in
  have B_rows_in := F_rows_in.binds (ps := ["text"]) fun _ _ _ _ _ _ us hl => match us, hl with | [_], _ => rfl
  have F_words_in := fun_mk (st := s_words_in) lF_words_in cF_words_in kF_words_in
  have m_words_in := PySem.W.mg_of X G aF_words_in
  have B_words_in := F_words_in.binds (ps := ["row"]) fun _ _ _ _ _ _ us hl => match us, hl with | [_], _ => rfl
  have F_consists := fun_mk (st := s_consists) lF_consists cF_consists kF_consists
  have m_consists := PySem.W.mg_of X G aF_consists
  have B_consists := F_consists.binds (ps := ["word", "low", "high", "most"]) fun _ _ _ _ _ _ us hl => match us, hl with | [_, _, _, _], _ => rfl
  have F_is_kind_name := fun_mk (st := s_is_kind_name) lF_is_kind_name cF_is_kind_name kF_is_kind_name
  have m_is_kind_name := PySem.W.mg_of X G aF_is_kind_name
  have B_is_kind_name := F_is_kind_name.binds (ps := ["word"]) fun _ _ _ _ _ _ us hl => match us, hl with | [_], _ => rfl
  have F_box := fun_mk (st := s_box) lF_box cF_box kF_box
  have m_box := PySem.W.mg_of X G aF_box
  have B_box := F_box.binds (ps := ["_law_script", "_law_k", "_law_own"]) fun _ _ _ _ _ _ us hl => match us, hl with | [_, _, _], _ => rfl
  have F_take := fun_mk (st := s_take) lF_take cF_take kF_take
  have m_take := PySem.W.mg_of X G aF_take
  have B_take := F_take.binds (ps := ["_law_box_here", "_law_many"]) fun _ _ _ _ _ _ us hl => match us, hl with | [_, _], _ => rfl
  have F_mixed := fun_mk (st := s_mixed) lF_mixed cF_mixed kF_mixed
  have m_mixed := PySem.W.mg_of X G aF_mixed
  have B_mixed := F_mixed.binds (ps := ["_law_box_here", "_law_items"]) fun _ _ _ _ _ _ us hl => match us, hl with | [_, _], _ => rfl
  have F_pick := fun_mk (st := s_pick) lF_pick cF_pick kF_pick
  have m_pick := PySem.W.mg_of X G aF_pick
  have B_pick := F_pick.binds (ps := ["_law_box_here", "_law_items"]) fun _ _ _ _ _ _ us hl => match us, hl with | [_, _], _ => rfl
  have F_caps := fun_mk (st := s_caps) lF_caps cF_caps kF_caps
  have m_caps := PySem.W.mg_of X G aF_caps
  have B_caps := F_caps.binds (ps := ["_law_box_here", "_law_many"]) fun _ _ _ _ _ _ us hl => match us, hl with | [_, _], _ => rfl
  have F_is_kind := fun_mk (st := s_is_kind) lF_is_kind cF_is_kind kF_is_kind
  have m_is_kind := PySem.W.mg_of X G aF_is_kind
  have B_is_kind := F_is_kind.binds (ps := ["_law_word"]) fun _ _ _ _ _ _ us hl => match us, hl with | [_], _ => rfl
  have F_due := fun_mk (st := s_due) lF_due cF_due kF_due
  have m_due := PySem.W.mg_of X G aF_due
  have B_due := F_due.binds (ps := ["_law_text"]) fun _ _ _ _ _ _ us hl => match us, hl with | [_], _ => rfl
  have F_read := fun_mk (st := s_read) lF_read cF_read kF_read
  have m_read := PySem.W.mg_of X G aF_read
  have B_read := F_read.binds (ps := ["_law_text"]) fun _ _ _ _ _ _ us hl => match us, hl with | [_], _ => rfl
  have F_spoilt := fun_mk (st := s_spoilt) lF_spoilt cF_spoilt kF_spoilt
  have m_spoilt := PySem.W.mg_of X G aF_spoilt
  have B_spoilt := F_spoilt.binds (ps := ["_law_box_here", "_law_text", "_law_caps_here"]) fun _ _ _ _ _ _ us hl => match us, hl with | [_, _, _], _ => rfl
  have F_law := fun_mk (st := s_law) lF_law cF_law kF_law
  have m_law := PySem.W.mg_of X G aF_law
  have cl_C : Cls K C := ⟨pg_C, hd_C, po_C, sa_C⟩
  have m_C := PySem.W.mg_of X G g_C
  have F_rinit := fun_mk (st := s_rinit) lF_rinit cF_rinit kF_rinit
  have B_rinit := F_rinit.binds (ps := ["self", "rows"]) fun _ _ _ _ _ _ us hl => match us, hl with | [_, _], _ => rfl
  have F_rread := fun_mk (st := s_rread) lF_rread cF_rread kF_rread
  have B_rread := F_rread.binds (ps := ["text"]) fun _ _ _ _ _ _ us hl => match us, hl with | [_], _ => rfl
  have cs_rread : Wc.CSta K C (.type "type") "read" rec_rread fF_rread := ⟨aF_rread, ⟨_, rF_rread⟩, kF_rread⟩
  have F_rstr := fun_mk (st := s_rstr) lF_rstr cF_rstr kF_rstr
  have B_rstr := F_rstr.binds (ps := ["self"]) fun _ _ _ _ _ _ us hl => match us, hl with | [_], _ => rfl
  have F_req := fun_mk (st := s_req) lF_req cF_req kF_req
  have B_req := F_req.binds (ps := ["self", "other"]) fun _ _ _ _ _ _ us hl => match us, hl with | [_, _], _ => rfl
  have cr_C : ClX.CRead K C (.type "type") := ⟨rd_C, ga_C⟩
  refine ⟨PySem.W.fnOf "law" "law" (defArgs s_law) (defBody s_law) (defScope s_law) .none kVF_law dcF_law pmF_law anF_law cdF_law ctF_law, fun s v => .of_eq rfl, fun base hKb hNb => ?_⟩
  have mk_ := PySem.W.mg_of X G gk
  have nO : NmO mg K fF_own := ⟨m_own, kF_own, m_isinstance, m_list, m_tuple, m_dict⟩
  have G_own := ok_own (P := Lw.prog) (w := w) (base := base) F_own nO
  have C0 := clsB_ok b0
  have ma0 := PySem.W.mg_of X G g0
  have O0 : OexC K a0 := ⟨⟨_, _, _, _, _, _, _, _, _, _, _, _, _, _, _, x0, refs16 _⟩, C0.sa, C0.exC, C0.tyC, C0.kC⟩
  have mw0 := Sup.mwOk_ve O0
  have mk0 := Exv.mkOk_ve (prog := Lw.prog) (w := w) O0 i0 t0
  have ec0 := Exg.ecC_ve O0
  have D0 : Sup.SupF Lw.prog K "ValueError" "ValueError.__init__" a0 cc0 cda0 := ⟨PySem.W.kxs_ValueError, mw0, ⟨_, _, _, _, _, _, _, _, _, _, _, _, _, _, _, _, x0⟩, C0.al, C0.sB, C0.mC, ⟨_, _, _, u0⟩, ⟨_, _, _, _, _, _, w0, y0, z0⟩, th⟩
  have I0 := ok_NoRules (w := w) (base := base) l0 c0 D0 ec0 n0row m_super htop nO G_own B_own
  have bi0 : Binds K (PySem.W.fnX "__init__" "NoRules.__init__" (defArgs s_NoRules) (defBody s_NoRules) (defScope s_NoRules) [("__class__", cc0)] .none .none dc0 pm0 an0 (.ref cda0) ct0) ["self", "row"] [] := .all fun us hl => match us, hl with | [_, _], _ => rfl
  have C1 := clsB_ok b1
  have ma1 := PySem.W.mg_of X G g1
  have O1 : OexC K a1 := ⟨⟨_, _, _, _, _, _, _, _, _, _, _, _, _, _, _, x1, refs16 _⟩, C1.sa, C1.exC, C1.tyC, C1.kC⟩
  have mw1 := Sup.mwOk_ve O1
  have mk1 := Exv.mkOk_ve (prog := Lw.prog) (w := w) O1 i1 t1
  have ec1 := Exg.ecC_ve O1
  have D1 : Sup.SupF Lw.prog K "ValueError" "ValueError.__init__" a1 cc1 cda1 := ⟨PySem.W.kxs_ValueError, mw1, ⟨_, _, _, _, _, _, _, _, _, _, _, _, _, _, _, _, x1⟩, C1.al, C1.sB, C1.mC, ⟨_, _, _, u1⟩, ⟨_, _, _, _, _, _, w1, y1, z1⟩, th⟩
  have I1 := ok_TooMany (w := w) (base := base) l1 c1 D1 ec1 n1word m_super htop nO G_own B_own
  have bi1 : Binds K (PySem.W.fnX "__init__" "TooMany.__init__" (defArgs s_TooMany) (defBody s_TooMany) (defScope s_TooMany) [("__class__", cc1)] .none .none dc1 pm1 an1 (.ref cda1) ct1) ["self", "word"] [] := .all fun us hl => match us, hl with | [_, _], _ => rfl
  have mNK := PySem.W.mg_of X G gNK
  have TW : NmW Lw.prog w K mg fF_rows_in fF_words_in fF_consists fF_is_kind_name C a0 a1 f0 f1 := ⟨m_rows_in, kF_rows_in, m_words_in, kF_words_in, m_consists, kF_consists, m_is_kind_name, kF_is_kind_name, m_C, cl_C, na_C_rows, na_C__text, ha_C, hn, ht, hm_C, TT.kit, ma0, C0.kC, C0.exC, C0.tyC, mk0, ma1, C1.kC, C1.exC, C1.tyC, mk1, m_len, m_enumerate, m_tuple, m_isinstance⟩
  have TR : NmR mg K C a0 a1 ak cNK (.type "type") rec_rread fF_rstr fF_rread := ⟨mk_, mNK, cr_C, cs_rread, aF_rstr, iF_rstr, TT.e_nn, TT.e_tn, TT.e_tt, C0.exc hn ht, C1.exc hn ht, C0.xf, C1.xf, n0row, n1word, TT.k_nn, TT.k_tk, TT.k_tv, m_str, m_ValueError⟩
  have TE : NmEq K C fF_req := ⟨aF_req, TT.ne, iF_req, TT.k0, TT.k1, TT.k2, TT.k3, TT.f0, TT.f1, TT.f2, TT.f3, TT.f4⟩
  have MC : Mk K C fF_rinit := ⟨mk_C, aF_rinit, iF_rinit, kc_C⟩
  have G_box := ok_box (P := Lw.prog) (w := w) (mg := mg) (base := base) F_box ⟨m_len, m_abs, m_int⟩
  have G_take := ok_take (P := Lw.prog) (w := w) (mg := mg) (base := base) F_take
  have TM : NmM mg K fF_take fF_mixed := ⟨m_take, kF_take, m_mixed, kF_mixed, m_list, m_len, m_range⟩
  have G_mixed := ok_mixed (P := Lw.prog) (w := w) (mg := mg) (base := base) F_mixed TM G_take B_take
  have G_pick := ok_pick (P := Lw.prog) (w := w) (mg := mg) (base := base) F_pick TM G_take B_take
  have G_caps := ok_caps (P := Lw.prog) (w := w) (mg := mg) (base := base) F_caps TM (G_take.mono (by decide)) B_take G_mixed B_mixed
  have G_rows_in := ok_rows_in (P := Lw.prog) (w := w) (mg := mg) (base := base) F_rows_in
  have G_words_in := ok_words_in (P := Lw.prog) (w := w) (mg := mg) (base := base) F_words_in
  have G_consists := ok_consists (P := Lw.prog) (w := w) (mg := mg) (base := base) F_consists ⟨m_len, m_all⟩
  have G_is_kind_name := ok_is_kind_name (P := Lw.prog) (w := w) (mg := mg) (base := base) F_is_kind_name TW G_consists B_consists
  have G_rinit := ok_rinit (P := Lw.prog) (w := w) (mg := mg) (base := base) F_rinit TW
  have G_rstr := ok_rstr (P := Lw.prog) (w := w) (mg := mg) (base := base) F_rstr TW
  have G_req := ok_req (P := Lw.prog) (w := w) (mg := mg) (base := base) F_req TW
  have G_rread := ok_rread (P := Lw.prog) (w := w) (mg := mg) (base := base) F_rread TW G_rows_in B_rows_in G_words_in B_words_in G_is_kind_name B_is_kind_name MC G_rinit B_rinit I0 bi0 I1 bi1
  have G_is_kind := ok_is_kind (P := Lw.prog) (w := w) (mg := mg) (base := base) F_is_kind m_len
  have G_due := ok_due (P := Lw.prog) (w := w) (mg := mg) (base := base) F_due ⟨m_is_kind, kF_is_kind, m_len, m_enumerate⟩ G_is_kind B_is_kind
  have G_read := ok_read (P := Lw.prog) (w := w) (mg := mg) (base := base) F_read TW TR G_rread B_rread G_rstr B_rstr
  have G_spoilt := ok_spoilt (P := Lw.prog) (w := w) (mg := mg) (base := base) F_spoilt ⟨m_take, kF_take, m_pick, kF_pick, m_len⟩ (G_take.mono (by decide)) B_take G_pick B_pick
  exact ok_law F_law ⟨m_box, kF_box, m_take, kF_take, m_caps, kF_caps, m_pick, kF_pick, m_spoilt, kF_spoilt, m_read, kF_read, m_due, kF_due, m_repr, m_range, m_max, m_min, m_len, m_int⟩ TW TR TE (G_box.mono (by decide)) B_box (G_take.mono (by decide)) B_take (G_caps.mono (by decide)) B_caps (G_pick.mono (by decide)) B_pick (G_spoilt.mono (by decide)) B_spoilt (G_read.mono (by decide)) B_read (G_due.mono (by decide)) B_due G_rread B_rread G_req B_req
end R4

set_option linter.all false
open PySem PySem.W PyProof.Rows
set_option maxRecDepth 100000 in
set_option maxHeartbeats 0 in
theorem PySem.Challenge.cw_keptnomore_k16_rules_read_and_shown_holds : PySem.Challenge.rw_keptnomore_k16_rules_read_and_shown.Holds := by
  w_on; o_law; k_head; (case hw => w_witness2)
  k_fill
  refine Rg.walkG (l := PySem.Challenge.rw_keptnomore_k16_rules_read_and_shown) (n := 63) (k := 11) (x := "_law_script") (CX := fun _ => L2.CX0) (sp := fun w => R4.spLaw _) rfl (by decide) rfl ⟨rfl, by decide, by decide⟩ (fun w h Y => PySem.W.kIn_of Y) ?F
    (fun _ _ a ns hl _ _ hS => ⟨a, ns, rfl, hS, Nat.le_trans hl (by decide), fun _ => rfl⟩) (fun _ _ _ _ _ z => z)
  case F =>
    intro w mg fa h KX G hmg
    refine' R4.all_mk KX G hmg ?kk_g0 ?kk_g1 ?kk_gk ?kk_x0 ?kk_i0 ?kk_t0 ?kk_l0 ?kk_c0 ?kk_u0 ?kk_w0 ?kk_y0 ?kk_z0 ?kk_b0 ?kk_n0row ?kk_x1 ?kk_i1 ?kk_t1 ?kk_l1 ?kk_c1 ?kk_u1 ?kk_w1 ?kk_y1 ?kk_z1 ?kk_b1 ?kk_n1word ?kk_hn ?kk_ht ?kk_th ?kk_htop ?kk_aF_own ?kk_lF_own ?kk_cF_own ?kk_kF_own ?kk_aF_rows_in ?kk_lF_rows_in ?kk_cF_rows_in ?kk_kF_rows_in ?kk_aF_words_in ?kk_lF_words_in ?kk_cF_words_in ?kk_kF_words_in ?kk_aF_consists ?kk_lF_consists ?kk_cF_consists ?kk_kF_consists ?kk_aF_is_kind_name ?kk_lF_is_kind_name ?kk_cF_is_kind_name ?kk_kF_is_kind_name ?kk_aF_box ?kk_lF_box ?kk_cF_box ?kk_kF_box ?kk_aF_take ?kk_lF_take ?kk_cF_take ?kk_kF_take ?kk_aF_mixed ?kk_lF_mixed ?kk_cF_mixed ?kk_kF_mixed ?kk_aF_pick ?kk_lF_pick ?kk_cF_pick ?kk_kF_pick ?kk_aF_caps ?kk_lF_caps ?kk_cF_caps ?kk_kF_caps ?kk_aF_is_kind ?kk_lF_is_kind ?kk_cF_is_kind ?kk_kF_is_kind ?kk_aF_due ?kk_lF_due ?kk_cF_due ?kk_kF_due ?kk_aF_read ?kk_lF_read ?kk_cF_read ?kk_kF_read ?kk_aF_spoilt ?kk_lF_spoilt ?kk_cF_spoilt ?kk_kF_spoilt ?kk_aF_law ?kk_lF_law ?kk_cF_law ?kk_kF_law ?kk_g_C ?kk_pg_C ?kk_hd_C ?kk_po_C ?kk_sa_C ?kk_mk_C ?kk_kc_C ?kk_ha_C ?kk_hm_C ?kk_na_C_rows ?kk_na_C__text ?kk_aF_rinit ?kk_iF_rinit ?kk_lF_rinit ?kk_cF_rinit ?kk_kF_rinit ?kk_aF_rread ?kk_rF_rread ?kk_lF_rread ?kk_cF_rread ?kk_kF_rread ?kk_aF_rstr ?kk_iF_rstr ?kk_lF_rstr ?kk_cF_rstr ?kk_kF_rstr ?kk_aF_req ?kk_iF_req ?kk_lF_req ?kk_cF_req ?kk_kF_req ?kk_rd_C ?kk_ga_C ?kk_n_len ?kk_n_abs ?kk_n_int ?kk_n_isinstance ?kk_n_list ?kk_n_tuple ?kk_n_dict ?kk_n_repr ?kk_n_range ?kk_n_max ?kk_n_min ?kk_n_enumerate ?kk_n_super ?kk_n_all ?kk_n_str ?kk_n_ValueError ?kk_tab ?kk_gNK
    (case kk_g0 => k_is)
    (case kk_g1 => k_is)
    (case kk_gk => k_is)
    (case kk_x0 => k_is)
    (case kk_i0 => k_is)
    (case kk_t0 => k_is)
    (case kk_l0 => k_is)
    (case kk_c0 => k_is)
    (case kk_u0 => k_is)
    (case kk_w0 => k_is)
    (case kk_y0 => exact rfl)
    (case kk_z0 => decide +kernel)
    (case kk_b0 => kernel_rfl)
    (case kk_n0row => k_is)
    (case kk_x1 => k_is)
    (case kk_i1 => k_is)
    (case kk_t1 => k_is)
    (case kk_l1 => k_is)
    (case kk_c1 => k_is)
    (case kk_u1 => k_is)
    (case kk_w1 => k_is)
    (case kk_y1 => exact rfl)
    (case kk_z1 => decide +kernel)
    (case kk_b1 => kernel_rfl)
    (case kk_n1word => k_is)
    (case kk_hn => k_is)
    (case kk_ht => k_is)
    (case kk_th => k_is)
    (case kk_htop => decide +kernel)
    (case kk_aF_own => k_is)
    (case kk_lF_own => k_is)
    (case kk_cF_own => k_is)
    (case kk_kF_own => k_is)
    (case kk_aF_rows_in => k_is)
    (case kk_lF_rows_in => k_is)
    (case kk_cF_rows_in => k_is)
    (case kk_kF_rows_in => k_is)
    (case kk_aF_words_in => k_is)
    (case kk_lF_words_in => k_is)
    (case kk_cF_words_in => k_is)
    (case kk_kF_words_in => k_is)
    (case kk_aF_consists => k_is)
    (case kk_lF_consists => k_is)
    (case kk_cF_consists => k_is)
    (case kk_kF_consists => k_is)
    (case kk_aF_is_kind_name => k_is)
    (case kk_lF_is_kind_name => k_is)
    (case kk_cF_is_kind_name => k_is)
    (case kk_kF_is_kind_name => k_is)
    (case kk_aF_box => k_is)
    (case kk_lF_box => k_is)
    (case kk_cF_box => k_is)
    (case kk_kF_box => k_is)
    (case kk_aF_take => k_is)
    (case kk_lF_take => k_is)
    (case kk_cF_take => k_is)
    (case kk_kF_take => k_is)
    (case kk_aF_mixed => k_is)
    (case kk_lF_mixed => k_is)
    (case kk_cF_mixed => k_is)
    (case kk_kF_mixed => k_is)
    (case kk_aF_pick => k_is)
    (case kk_lF_pick => k_is)
    (case kk_cF_pick => k_is)
    (case kk_kF_pick => k_is)
    (case kk_aF_caps => k_is)
    (case kk_lF_caps => k_is)
    (case kk_cF_caps => k_is)
    (case kk_kF_caps => k_is)
    (case kk_aF_is_kind => k_is)
    (case kk_lF_is_kind => k_is)
    (case kk_cF_is_kind => k_is)
    (case kk_kF_is_kind => k_is)
    (case kk_aF_due => k_is)
    (case kk_lF_due => k_is)
    (case kk_cF_due => k_is)
    (case kk_kF_due => k_is)
    (case kk_aF_read => k_is)
    (case kk_lF_read => k_is)
    (case kk_cF_read => k_is)
    (case kk_kF_read => k_is)
    (case kk_aF_spoilt => k_is)
    (case kk_lF_spoilt => k_is)
    (case kk_cF_spoilt => k_is)
    (case kk_kF_spoilt => k_is)
    (case kk_aF_law => k_is)
    (case kk_lF_law => k_is)
    (case kk_cF_law => k_is)
    (case kk_kF_law => k_is)
    (case kk_g_C => k_is)
    (case kk_pg_C => k_is)
    (case kk_hd_C => k_is)
    (case kk_po_C => k_is)
    (case kk_sa_C => k_is)
    (case kk_mk_C => k_is)
    (case kk_kc_C => k_is)
    (case kk_ha_C => k_is)
    (case kk_hm_C => k_is)
    (case kk_na_C_rows => k_is)
    (case kk_na_C__text => k_is)
    (case kk_aF_rinit => k_is)
    (case kk_iF_rinit => k_is)
    (case kk_lF_rinit => k_is)
    (case kk_cF_rinit => k_is)
    (case kk_kF_rinit => k_is)
    (case kk_aF_rread => k_is)
    (case kk_rF_rread => k_is)
    (case kk_lF_rread => k_is)
    (case kk_cF_rread => k_is)
    (case kk_kF_rread => k_is)
    (case kk_aF_rstr => k_is)
    (case kk_iF_rstr => k_is)
    (case kk_lF_rstr => k_is)
    (case kk_cF_rstr => k_is)
    (case kk_kF_rstr => k_is)
    (case kk_aF_req => k_is)
    (case kk_iF_req => k_is)
    (case kk_lF_req => k_is)
    (case kk_cF_req => k_is)
    (case kk_kF_req => k_is)
    (case kk_rd_C => k_is)
    (case kk_ga_C => k_is)
    (case kk_n_len => k_is)
    (case kk_n_abs => k_is)
    (case kk_n_int => k_is)
    (case kk_n_isinstance => k_is)
    (case kk_n_list => k_is)
    (case kk_n_tuple => k_is)
    (case kk_n_dict => k_is)
    (case kk_n_repr => k_is)
    (case kk_n_range => k_is)
    (case kk_n_max => k_is)
    (case kk_n_min => k_is)
    (case kk_n_enumerate => k_is)
    (case kk_n_super => k_is)
    (case kk_n_all => k_is)
    (case kk_n_str => k_is)
    (case kk_n_ValueError => k_is)
    (case kk_tab => kernel_rfl)
    (case kk_gNK => k_is)


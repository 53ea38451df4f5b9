import PyProof.Rows.All
import Wide.All
import OpenK.AllK
import Wide.FinOn
import PyProof.ReprRoads
import HandS.ForMost
import HandS.EndBits
import HandS.ExcInit
import HandS.ExcField
import HandS.ExcIs
import HandS.Nested
import KE.KExcSuper
import KE.KExcIs
import HandS.Exc
import HandS.TryMany
import HandS.Codes
import HandS.IsInst
import HandS.ClsMeth
import HandS.SlotsOwn
import KE.KCallOwn
import PyProof.InstNe
import HandS.ExcOwn
import HandS.ExcSuper
import PyProof.StrOps2
import HandS.Style
import HandS.Walk
import HandS.Deep
import HandS.FStr
import HandS.WordsExc
import PySem.Challenge.RW_keptnomore_k20_questions_too_great
import HandS.Strs
import HandS.SetKeys
import HandS.OwnIter
import HandS.IterVal
import KE.KOwnIter
import HandS.Zip
import KE.GoesZip
import KE.GoesMore
import KE.KTurns
import HandS.TupAny
import KE.KOpsOwn
import HandS.Comp
import HandS.Replace
import HandS.ReplaceLit
import HandS.StrSplit
import PyProof.ToksMono
import HandS.TryOnly
set_option Elab.async false
set_option linter.all false
set_option maxRecDepth 100000
set_option maxHeartbeats 4000000
/-! repr of data; promises of defs that say repr: they stand where no repr is under way -/
namespace Rg
open PySem PySem.Spec PyProof.Rows L2
/-- a promise that is kept where no repr is under way -/
structure FnG (P : Program) (w : World) (K : PySem.W.Frag) (mg : Str → Option Value) (base : Heap) (CX : CXT) (k : Nat) (f : Addr) (fd : FuncData) (ps : List Str) (sp : Sp) : Prop where
  len : ∀ vs H Q E, sp vs H Q E → vs.length = ps.length
  run : ∀ (A : Around) (outer : List Env) (s : Shared) (H : Hp) (args : Args) (us : List Value) (vs : List V) (Q : VK) (E : XK), A.guards = some [] → Room k A → Env0 P w K mg base A outer s H → BindsTo s fd args (ps.zip us) → Vals vs us → sp vs H Q E →
    codeAny (model P w) A (.call (.ref f) args) (CR CX outer P w H s Q E) s
theorem FnG.of {P : Program} {w : World} {K : PySem.W.Frag} {mg : Str → Option Value} {base : Heap} {CX : CXT} {k : Nat} {f : Addr} {fd : FuncData} {ps : List Str} {sp : Sp} (F : FnOk P w K mg base CX k f fd ps sp) : FnG P w K mg base CX k f fd ps sp :=
  ⟨F.len, fun A outer s H args us vs Q E _ => F.run A outer s H args us vs Q E⟩
theorem FnG.mono {P : Program} {w : World} {K : PySem.W.Frag} {mg : Str → Option Value} {base : Heap} {CX : CXT} {j k : Nat} {f : Addr} {fd : FuncData} {ps : List Str} {sp : Sp} (F : FnG P w K mg base CX j f fd ps sp) (h : j ≤ k) : FnG P w K mg base CX k f fd ps sp :=
  ⟨F.len, fun A outer s H args us vs Q E g hr => F.run A outer s H args us vs Q E g (hr.mono h)⟩
/-- THE RULE for such a def -/
theorem okG {P : Program} {w : World} {K : PySem.W.Frag} {mg : Str → Option Value} {base : Heap} {CX : CXT} {x qual : Str} {st : Stmt} {f : Addr} {fd : FuncData} {N ps : List Str} {k : Nat} {sp : Sp} (F : Fun K x qual st f fd) (S : FnScope N ps (defScope st))
    (len : ∀ vs H Q E, sp vs H Q E → vs.length = ps.length)
    (hbody : ∀ (cdv : Value) (A : Around) (outer : List Env) (s : Shared) (H : Hp) (vs : List V) (Q : VK) (E : XK), A.guards = some [] → Room k (A.deeper (envOfC qual (defScope st) s.heap.objs.size f cdv)) → sp vs H Q E →
      ∃ t, PSs (cxOf CX P w K mg base N qual (defScope st) f cdv A outer s H E) (defBody st) t ∧ t { nx := fun _ H' => Q .non H', rt := Q } (start N vs) H) : FnG P w K mg base CX (k + 1) f fd ps sp := by
  obtain ⟨oc, od, kV, doc, pm, an, cdv, ct, osl, rfl, lk, hcd⟩ := F.ex
  refine ⟨len, fun A outer s H args us vs Q E g hr e0 hb r hsp => ?_⟩
  have hl : vs.length = ps.length := len _ _ _ _ hsp
  have KS : K.In s.heap := e0.mod.kin.keeps fun b o e => (e0.bs b o e).1
  have NL : s.heap.NoLimit := e0.mod.nolimit.keeps fun b o e => (e0.bs b o e).1
  have kinds : ∀ y ∈ ps.zip us, (defScope st).names.lookup y.1 = some .local ∨ ((defScope st).names.lookup y.1 = some .cell ∧ ((cellsFrom (s.heap.objs.size + 1) (defScope st).names []).lookup y.1).isSome = true) := fun ⟨n, v⟩ hy => by
    rcases S.par n (List.of_mem_zip hy).1 with z | z
    · exact .inl z
    · exact .inr ⟨z, PySem.W.cellsFrom_some _ _ _ (.inl z)⟩
  refine codeAny_call_function hr.depth (KS _ _ lk) rfl S.co S.gen rfl (PySem.W.codeRec_of KS hcd) (hb _ _ _ _ (wpAny_newFunctionEnv_cells S.kind kinds fun env he s1 x => ?_))
  subst he
  refine ⟨NL.keeps x.toInCall.keep, codeAny_func ?_⟩
  obtain ⟨t, ht, hq⟩ := hbody cdv A outer s H vs Q E g (hr.deeper _) hsp
  have I : Inv (cxOf CX P w K mg base N qual (defScope st) f cdv A outer s H E) [] (start N vs) H s1 := inv_start S hr.hd e0 hl r x
  refine wpAny_mono (ht.run [] s1 (start N vs) H _ I hq) (fun fl s' hs => ?_) fun _ _ z => z
  match fl, hs with
  | .ret u, ⟨v, σ', H', J, rv, q⟩ => exact ⟨v, H', J.os, J.bare, J.base, J.hok, rv, q⟩
  | .next, ⟨σ', H', J, q⟩ => exact ⟨.non, H', J.os, J.bare, J.base, J.hok, rfl, q⟩
  | .brk, ⟨_, _, _, q⟩ => exact False.elim q
  | .cont, ⟨_, _, _, q⟩ => exact False.elim q
section
variable {X : Cx} {CX : CXT} {k : Nat} {f : Addr} {fd : FuncData} {ps : List Str} {sp : Sp} {E : XK} {x : Str} {p pos : Pos} {e : Expr} {es : List Expr} {t : TA}
theorem run_fnG {pins : List (Addr × Obj)} {σ : L2.St} {H : Hp} {s : Shared} {Q : VK} {us : List Value} {vs : List V} (F : FnG X.prog X.w X.K X.mg X.base CX k f fd ps sp) (hg : X.A.guards = some []) (hr : Room k X.A) (hb : Binds X.K fd ps []) (hx : Passes CX X E)
    (I : Inv X pins σ H s) (r : Vals vs us) (h : sp vs H Q E) : wpAny (model X.prog X.w) X.A (call (.ref f) us) (EP X pins σ Q) X.xe s := by
  have hl : us.length = ps.length := by
    rw [← r.length]
    exact F.len _ _ _ _ h
  have hbb := hb s us I.kIn (by rw [List.append_nil]; exact hl)
  rw [List.append_nil] at hbb
  refine wpAny_call (codeAny_mono (F.run X.A X.stack s H ⟨us, []⟩ us vs Q E hg hr I.env0 hbb r h) fun r s' hq => ?_)
  match r, hq with
  | .error e, hq => exact hx pins σ H s e s' I hq
  | .ok (.ret u), hq => exact I.after hq
  | .ok .next, hq => exact False.elim hq
  | .ok .brk, hq => exact False.elim hq
  | .ok .cont, hq => exact False.elim hq
/-- f(e, ..) -/
theorem pe_callG (F : FnG X.prog X.w X.K X.mg X.base CX k f fd ps sp) (hgu : X.A.guards = some []) (hr : Room k X.A) (hg : Gl X x) (hm : X.mg x = some (.ref f)) (hk : PySem.W.keepIn X.K (.ref f) = true) (hb : Binds X.K fd ps []) (hx : Passes CX X E)
    (ha : PA X (e :: es) t) (hdb : (x == ("__debug__" : Str)) = false := by decide) (he : starEach (e :: es) X.env = (false, eval e X.env) :: starEach es X.env := by rfl) (hpl : (backTo pos (starEach es X.env)).any (·.1) = false := by rfl) :
    PE X (.Call (.Name x p) (e :: es) [] pos) (tCall sp [] E t) := by
  refine ⟨fun pins s σ H Q I h => wpAny_Call_Name_kw (ld_glob I hg hm ?_ hdb)⟩
  refine PySem.W.callWith_K (h₀ := X.base) I.ok.mod.kin hk (thn (ha.run pos pins s σ H _ I h) fun us s1 hh => ?_) he hpl
  obtain ⟨vs, H1, I1, r, q⟩ := hh
  have q' : sp (vs ++ []) H1 Q E := q
  rw [List.append_nil] at q'
  exact ⟨I1.kIn, run_fnG F hgu hr hb hx I1 r q'⟩
/-- repr(e), e a list or a tuple of data -/
def rRepr (K : PySem.W.Frag) : List V → Hp → VK → Prop := fun xs H Q => ∃ (a : Addr) (d : PyData), xs = [.ref a] ∧ Dp K H (.ref a) d ∧ d.showable = true ∧ d.hasDict = false ∧ d.depth ≤ 60 ∧ d.shown.length ≤ sizeLine ∧ Q (.str d.shown) H
theorem call_repr (hg : X.A.guards = some []) (hu : X.A.units + 64 < cLine) : CallR X (.builtin "repr") (rRepr X.K) := by
  intro pins s σ H xs us Q I r h
  obtain ⟨a, d, rfl, hd, hs, hn, hdp, hz, q⟩ := h
  cases r with
  | cons rx rr =>
    cases rr
    cases rx
    obtain ⟨as, hread⟩ := Dp.reads I d _ _ hd rfl
    refine repr_of_reads' hread hs (fun z => absurd (hn.symm.trans z) (by decide)) hg (by omega) (fun _ _ z => z) (fun h' u tk k => ?_) hz
    exact ⟨.str d.shown, H, I.kept (t' := tk) k, ⟨u, rfl⟩, q⟩
end
end Rg

set_option linter.all false
set_option maxRecDepth 100000
set_option maxHeartbeats 4000000
/-! the end of a law whose own def says repr -/
namespace Rg
open PySem PySem.Spec PyProof.Rows L2
theorem lawG {P : Program} {w : World} {K : PySem.W.Frag} {mg mb : Str → Option Value} {CX : CXT} {k : Nat} {fa a : Addr} {fd : FuncData} {x : Str} {sp : Sp} {s1 : Shared} {vs : List Value} {ns : List Int}
    (KI : K.In s1.heap) (hns : s1.heap.Ns mainGlobals mg) (hb : s1.heap.Ns builtinsNs mb) (hbb : ∀ x : Str, x ≠ "__name__" → mb x = bootBuiltins x) (hlim : s1.heap.NoLimit) (hg : s1.gens = #[])
    (ha : s1.heap.get? a = some { cls := .type "list", data := .seq vs.toArray }) (hi : IntsAre vs ns) (hl : ns.length ≤ sizeLine) (hr : Room k callerA)
    (F : ∀ base : Heap, K.In base → base.Ns mainGlobals mg → FnG P w K mg base CX k fa fd [x] sp) (hbind : ∀ (s : Shared) (u : Value), BindsTo s fd ⟨[u], []⟩ [(x, u)])
    (hsp : ∀ H : Hp, Only H → SqL K H a (ns.map V.int) → sp [.ref a] H (fun v _ => v = .bl true) fun _ _ _ => False)
    (hCX : ∀ H e s', CX [] H s1 (fun _ _ _ => False) e s' → False) :
    codeAny (model P w) callerA (.call (.ref fa) ⟨[.ref a], []⟩) (fun r s' => r = .ok (.ret (.bool true)) ∧ OldK s1.heap s'.heap ∧ s'.os = s1.os ∧ AllBare s'.gens) s1 := by
  have rv := vals_ints hi
  have lenV := hi.length
  have core : ∀ H : Hp, Only H → SqL K H a (ns.map V.int) → HOk P w H s1.heap → (∀ b, H b ≠ none → b = a) → (H a ≠ none → K.lookup a = none) →
      codeAny (model P w) callerA (.call (.ref fa) ⟨[.ref a], []⟩) (fun r s' => r = .ok (.ret (.bool true)) ∧ OldK s1.heap s'.heap ∧ s'.os = s1.os ∧ AllBare s'.gens) s1 := by
    intro H hO hS hok hA hK
    have under : ∀ {b : Addr} {o : Obj}, s1.heap.get? b = some o → H b = none → (hidT s1.heap H).get? b = some o := fun e n => hidT_get e n
    have only : ∀ {b : Addr}, H b ≠ none → b = a := fun {b} z => hA b z
    have dictFree : ∀ {b : Addr} {o : Obj} {es : Array DictEntry} {ep : Nat}, s1.heap.get? b = some o → o.data = .dict es ep → H b = none := fun {b o es ep} e d => by
      cases z : H b with
      | none => rfl
      | some u =>
        obtain rfl : b = a := only (by rw [z]; simp)
        rw [ha] at e
        cases e
        have d' : Data.seq vs.toArray _ = Data.dict es ep := d
        cases d'
    have nsUnder : ∀ {b : Addr} {m : Str → Option Value}, s1.heap.Ns b m → (hidT s1.heap H).Ns b m := fun {b m} ⟨o, es, ep, e, d, r⟩ => ⟨o, es, ep, under e (dictFree e d), d, r⟩
    have kUnder : K.In (hidT s1.heap H) := fun b o e => under (KI b o e) (by
      cases z : H b with
      | none => rfl
      | some u =>
        obtain rfl : b = a := only (by rw [z]; simp)
        have n := hK (by rw [z]; simp)
        rw [n] at e
        cases e)
    have md : Mod K mg (hidT s1.heap H) := ⟨kUnder, nsUnder hns, ⟨mb, nsUnder hb, hbb⟩, let ⟨mc, h1, h2⟩ := hlim; ⟨mc, nsUnder h1, h2⟩⟩
    have e0 : Env0 P w K mg (hidT s1.heap H) callerA [] s1 H := ⟨rfl, md, fun b o e => of_hidT e, Nat.le_of_eq (hidT_size _ _), trivial, fun b hb => absurd (show b ∈ ([] : List Addr) from hb) (by simp), hok, .of_eq hg⟩
    refine codeAny_mono ((F _ kUnder (nsUnder hns)).run callerA [] s1 H ⟨[.ref a], []⟩ [.ref a] [.ref a] _ _ rfl hr e0 (hbind s1 (.ref a)) (.cons rfl .nil) (hsp H hO hS)) fun r s' h => ?_
    match r, h with
    | .error e, h => exact (hCX H e s' h).elim
    | .ok .next, h => exact False.elim h
    | .ok .brk, h => exact False.elim h
    | .ok .cont, h => exact False.elim h
    | .ok (.ret u), ⟨v, H', os, bare, un, hok', r', q⟩ =>
      obtain rfl : v = .bl true := q
      obtain rfl : u = Value.bool true := r'
      refine ⟨rfl, OldK.of_keep fun b o e => ?_, os, bare⟩
      cases z : H b with
      | none => exact un.keep b o e z (by intro y; exact absurd (show b ∈ ([] : List Addr) from y) (by simp)) (by simp)
      | some u =>
        rcases hO b with y | ⟨ob, xs, y⟩
        · rw [z] at y
          cases y
        · obtain ⟨e1, _⟩ := hok b _ y
          obtain ⟨e2, _⟩ := hok' b _ (un.frzs b ob _ y)
          rw [e] at e1
          cases e1
          exact e2
  cases hk : K.lookup a with
  | some o =>
    have e := KI a o hk
    rw [ha] at e
    cases e
    exact core (fun _ => none) (fun _ => .inl rfl) (.inr ⟨_, vs.toArray, _, hk, rfl, rfl, rfl, by rw [List.size_toArray, lenV]; exact hl, by simpa using rv⟩)
      (fun b u z => by have z' : (none : Option HO) = some u := z; cases z') (fun b z => absurd rfl z) fun z => absurd rfl z
  | none =>
    refine core (fun b => if b = a then some (.frz { cls := .type "list", data := .seq vs.toArray } (.lst (ns.map V.int))) else none) (fun b => ?_)
      (.inl (.inr ⟨{ cls := .type "list", data := .seq vs.toArray }, if_pos rfl⟩)) (fun b u z => ?_) (fun b z => ?_) fun _ => hk
    · by_cases hb : b = a
      · exact .inr ⟨_, _, if_pos hb⟩
      · exact .inl (if_neg hb)
    · by_cases hb : b = a
      · have y := (if_pos hb).symm.trans z
        cases y
        subst hb
        exact ⟨ha, by rw [List.length_map]; exact hl, vs, _, rv, ha⟩
      · have y := (if_neg hb).symm.trans z
        cases y
    · by_cases hb : b = a
      · exact hb
      · exact absurd (if_neg hb) z
theorem walkG {l : PySem.W.OpenLaw} {n k : Nat} {q : Program} {loose : List Str} {XP : (Str → Option Value) → Heap → Prop} {YP : World → Heap → Prop} {d : DefRec} {K : Params → PySem.W.Frag} {CX : World → CXT} {sp : World → Sp} {x : Str}
    (hn : l.most = some n) (hn2 : n ≤ sizeLine) (hdf : d.params.defaults = []) (hr : Room k callerA) (hY : ∀ (w : World) (h : Heap), YP w h → (K w.params).In h)
    (F : ∀ (w : World) (mg : Str → Option Value) (fa : Addr) (h : Heap), (K w.params).In h → h.Ns mainGlobals mg → mg d.name = some (.ref fa) →
      ∃ fd : FuncData, (∀ (s : Shared) (u : Value), BindsTo s fd ⟨[u], []⟩ [(x, u)]) ∧
        ∀ base : Heap, (K w.params).In base → base.Ns mainGlobals mg → FnG l.prog w (K w.params) mg base (CX w) k fa fd [x] (sp w))
    (hsp : ∀ (w : World) (H : Hp) (a : Addr) (ns : List Int), ns.length ≤ n → (∀ z ∈ ns, Builtin.Int.intBits z ≤ 1048576) → Only H → SqL (K w.params) H a (ns.map V.int) → sp w [.ref a] H (fun v _ => v = .bl true) fun _ _ _ => False)
    (hCX : ∀ (w : World) (H : Hp) (s : Shared) (e : Value) (s' : Shared), CX w [] H s (fun _ _ _ => False) e s' → False) :
    PySem.W.WalkO q loose XP YP l.row.toRowW d [] (fun f vs => PySem.call f vs) := by
  refine Att.attach_callB hn hdf fun w s0 s1 mg mb fa o pm cd doc a vs ns G Y ho hd hcd hmg hobj hints hlen hbits hg => ?_
  have KI := hY w _ Y
  obtain ⟨fd, hb, hF⟩ := F w mg fa _ KI G.T.g hmg
  exact lawG KI G.T.g G.T.b G.T.builtins G.T.nolimit hg hobj hints (Nat.le_trans hlen hn2) hr hF hb (fun H hO hS => hsp w H a ns hlen hbits hO hS) fun H e s' => hCX w H s1 e s'
end Rg

set_option linter.all false
set_option maxRecDepth 100000
set_option maxHeartbeats 4000000
/-! exceptions of own classes with an own __init__, held as values -/
namespace Exv
open PySem PySem.Spec PyProof.Rows L2
/-- the class at C, called, makes an exception and hands it to its __init__ at fI -/
def MkOk (prog : Program) (w : World) (K : PySem.W.Frag) (C fI : Addr) : Prop :=
  ∀ (A : Around) (R : Result → Shared → Prop) (h : Heap) (g : Array GenState) (d : Drawn) (t : Nat) (os : OsState) (rest : List Value), K.In h → rest.length ≤ sizeLine →
    codeAny (model prog w) (A.under (.builtin "type.__call__" ⟨.ref C :: rest, []⟩)) (.call (.ref fI) ⟨.ref (h.objs.size + 1) :: rest, []⟩) (PySem.W.InitBack (h.objs.size + 1) R)
      ⟨(h.push (PySem.W.kdv_tup rest)).push (PySem.HandSPX.excO C h.objs.size), g, d, t, os⟩ →
    codeAny (model prog w) A (.call (.ref C) ⟨rest, []⟩) R ⟨h, g, d, t, os⟩
theorem mkOk_ve {prog : Program} {w : World} {K : PySem.W.Frag} {C fI : Addr} (T : OexC K C) (iC : PySem.W.findIn K (.ref C) "__init__" = some (some (.ref fI)))
    (tI : PySem.W.typeIn K (.ref fI) = some (.type "function")) : MkOk prog w K C fI := fun A R h g d t os rest KX hr q => by
  obtain ⟨nm, qq, N, bs, bm, sn, sub, ab, col, dd, k0, k1, k2, k3, k5, hC, hbm⟩ := T.cls
  exact PySem.HandSPX.call_own PySem.F.excBase_ValueError (fun Y => PySem.HandSPX.refsVE_contains Y bm hbm) (KX _ _ hC) (PySem.W.looks_findIn KX iC) (fun self => PySem.W.bind_fn KX self tI) hr q
/-- C(e, ..), C's own __init__ keeping sp: the exception as a value -/
def tMkV (C : Addr) (sp : Sp) (ta : TA) : TE := fun σ H Q => ta σ H fun vs H1 => vs.length ≤ 1000 ∧ ∀ a, H1 a = none →
  sp (.ref a :: vs) (upd H1 a (exo a C none)) (fun v H2 => v = .non ∧ Q (.ref a) H2) (fun _ _ _ => False)
section
variable {X : Cx}
theorem mkv_run {CX : CXT} {C fI : Addr} {k : Nat} {fd : FuncData} {ps : List Str} {sp : Sp} (MK : MkOk X.prog X.w X.K C fI)
    (F1 : FnOk X.prog X.w X.K X.mg X.base CX k fI fd ps sp) (hr : Room (k + 1) X.A) (hb : Binds X.K fd ps []) (hx : Passes CX X (fun _ _ _ => False))
    {pins : List (Addr × Obj)} {σ : L2.St} {H1 : Hp} {s1 : Shared} {vs : List V} {us : List Value} {Q : VK} (I1 : Inv X pins σ H1 s1) (r1 : Vals vs us) (hz : vs.length ≤ 1000)
    (q1 : ∀ a, H1 a = none → sp (.ref a :: vs) (upd H1 a (exo a C none)) (fun v H2 => v = .non ∧ Q (.ref a) H2) (fun _ _ _ => False)) :
    wpAny (model X.prog X.w) X.A (call (.ref C) us) (EP X pins σ Q) X.xe s1 := by
  obtain ⟨hp, g, dr, tk, os⟩ := s1
  have up1 : hp.objs.size ≤ hp.objs.size + 1 := Nat.le_succ _
  have hq := q1 (hp.objs.size + 1) (I1.hok.fresh up1)
  have kk : ∀ b o, hp.get? b = some o → ((hp.push (PySem.W.kdv_tup us)).push (PySem.HandSPX.excO C hp.objs.size)).get? b = some o := fun b o z =>
    Heap.get?_push_of_some _ (Heap.get?_push_of_some _ z)
  have hat : ((hp.push (PySem.W.kdv_tup us)).push (PySem.HandSPX.excO C hp.objs.size)).get? (hp.objs.size + 1) = some (PySem.HandSPX.excO C hp.objs.size) := by heap_get
  have I2 : Inv X pins σ (upd H1 (hp.objs.size + 1) (exo (hp.objs.size + 1) C none)) ⟨(hp.push (PySem.W.kdv_tup us)).push (PySem.HandSPX.excO C hp.objs.size), g, dr, tk, os⟩ :=
    I1.laid (t' := tk) (a := hp.objs.size + 1) (o := exo (hp.objs.size + 1) C none) (h' := (hp.push (PySem.W.kdv_tup us)).push (PySem.HandSPX.excO C hp.objs.size)) kk up1 (exo_ok hat)
  have r2 : Vals (V.ref (hp.objs.size + 1) :: vs) (Value.ref (hp.objs.size + 1) :: us) := .cons rfl r1
  have hl : (Value.ref (hp.objs.size + 1) :: us).length = ps.length := by
    rw [← r2.length]
    exact F1.len _ _ _ _ hq
  have hus : us.length ≤ sizeLine := by
    rw [← Paired.length r1, sizeLine_eq]
    omega
  refine wpAny_call (MK _ _ hp g dr tk os us I1.kIn hus (codeAny_mono (F1.run _ X.stack _ _ ⟨Value.ref (hp.objs.size + 1) :: us, []⟩ (Value.ref (hp.objs.size + 1) :: us) _ _ (fun _ _ _ => False)
    (hr.make C us []) (I2.env0.make C us []) (by have z := hb _ (Value.ref (hp.objs.size + 1) :: us) I2.kIn (by rw [List.append_nil]; exact hl); rw [List.append_nil] at z; exact z) r2 hq) fun r s' hq' => ?_))
  cases r with
  | error er => exact hx pins σ _ _ er s' I2 hq'
  | ok fl =>
    cases fl with
    | ret u =>
      obtain ⟨v, H2, J, rv, ev, q2⟩ := I2.after hq'
      subst ev
      exact ⟨rv, .ref (hp.objs.size + 1), H2, J, rfl, q2⟩
    | next => exact False.elim hq'
    | brk => exact False.elim hq'
    | cont => exact False.elim hq'
theorem pe_mkv {CX : CXT} {x : Str} {C fI : Addr} {k : Nat} {fd : FuncData} {ps : List Str} {sp : Sp} {e : Expr} {es : List Expr} {ta : TA} {p pos : Pos} (MK : MkOk X.prog X.w X.K C fI) (kC : PySem.W.keepIn X.K (.ref C) = true)
    (F1 : FnOk X.prog X.w X.K X.mg X.base CX k fI fd ps sp) (hr : Room (k + 1) X.A) (hb : Binds X.K fd ps []) (hx : Passes CX X (fun _ _ _ => False)) (hg : Gl X x) (hm : X.mg x = some (.ref C)) (ha : PA X (e :: es) ta)
    (hdb : (x == ("__debug__" : Str)) = false := by decide) (he : starEach (e :: es) X.env = (false, eval e X.env) :: starEach es X.env := by rfl) (hpl : (backTo pos (starEach es X.env)).any (·.1) = false := by rfl) :
    PE X (.Call (.Name x p) (e :: es) [] pos) (tMkV C sp ta) := by
  refine ⟨fun pins s σ H Q I h => wpAny_Call_Name_kw (ld_glob I hg hm ?_ hdb)⟩
  refine PySem.W.callWith_K (h₀ := X.base) I.ok.mod.kin kC (thn (ha.run pos pins s σ H _ I h) fun us s1 hh => ?_) he hpl
  obtain ⟨vs, H1, I1, r1, hz, q1⟩ := hh
  exact ⟨I1.kIn, mkv_run MK F1 hr hb hx I1 r1 hz q1⟩
theorem pe_mkv0 {CX : CXT} {x : Str} {C fI : Addr} {k : Nat} {fd : FuncData} {ps : List Str} {sp : Sp} {p pos : Pos} (MK : MkOk X.prog X.w X.K C fI) (kC : PySem.W.keepIn X.K (.ref C) = true)
    (F1 : FnOk X.prog X.w X.K X.mg X.base CX k fI fd ps sp) (hr : Room (k + 1) X.A) (hb : Binds X.K fd ps []) (hx : Passes CX X (fun _ _ _ => False)) (hg : Gl X x) (hm : X.mg x = some (.ref C))
    (hdb : (x == ("__debug__" : Str)) = false := by decide) :
    PE X (.Call (.Name x p) [] [] pos) (tMkV C sp tNil) := by
  refine ⟨fun pins s σ H Q I h => wpAny_Call_Name_kw (ld_glob I hg hm ?_ hdb)⟩
  exact PySem.W.callWith_K0 I.kIn kC (mkv_run (us := []) MK F1 hr hb hx I .nil h.1 h.2)
/-- e.f, e such an exception -/
def tAtt (C : Addr) (f : Str) (te : TE) : TE := fun σ H Q => te σ H fun x H1 => ∃ (a d : Addr) (fs : List (Str × V)) (v : V), x = .ref a ∧ H1 a = some (exo a C (some d)) ∧ H1 d = some (exd d fs) ∧ fs.lookup f = some v ∧ Q v H1
theorem pe_att {C : Addr} {f : Str} {e : Expr} {te : TE} {pos : Pos} (T : XfC X.K C) (hno : PySem.W.findIn X.K (.ref C) f = some none) (he : PE X e te)
    (hb : attributeBase e f X.env (eval e X.env) = eval e X.env := by rfl) : PE X (.Attribute e f pos) (tAtt C f te) := by
  refine ⟨fun pins s σ H Q I h => attr_of hb (thn (he.run pins s σ H _ I h) fun u s1 hh => ?_)⟩
  obtain ⟨x, H1, I1, rx, a, d, fs, v, ex, ea, ed, l, q⟩ := hh
  subst ex
  obtain rfl : u = Value.ref a := rx
  obtain ⟨t1, ha⟩ := exo_at I1.hok ea
  obtain ⟨mA, hns, hr⟩ := exd_at I1.hok ed
  obtain ⟨od, ho, hl⟩ := lookIn_ns hns
  obtain ⟨u, hu, ru⟩ := RelO.some_of (v := v) (o := mA f) (by rw [← l]; exact hr f)
  have J : PySem.W.InstAt s1.heap a _ C (some od) := ⟨ha, rfl, rfl, ho⟩
  exact PySem.HandSPX.exc_get I1.kIn J T.ga T.gg T.exC (PySem.W.findObj_own T.hdC hno rfl (by rw [hl, hu])) (handed_of ru) ⟨v, H1, I1.tok _, ru, q⟩
/-- isinstance(e, c), e such an exception -/
def rIsX (K : PySem.W.Frag) : List V → Hp → VK → Prop := fun xs H Q => ∃ (a C : Addr) (dd : Option Addr) (c : V) (cv : Value) (b : Bool), xs = [.ref a, c] ∧ H a = some (exo a C dd) ∧
  (dd = none ∨ ∃ d fs, dd = some d ∧ H d = some (exd d fs)) ∧ ExcC K C ∧ (∀ u, RelV c u → u = cv) ∧ PySem.W.kitOne K (.ref C) cv = some b ∧ Q (.bl b) H
theorem call_isX : CallR X (.builtin "isinstance") (rIsX X.K) := by
  intro pins s σ H xs us Q I r h
  obtain ⟨a, C, dd, c, cv, b, rfl, ea, hd, T, hcv, e, q⟩ := h
  cases r with
  | cons rx rr =>
    cases rr with
    | cons rt rr =>
      cases rr
      cases rx
      obtain rfl := hcv _ rt
      obtain ⟨t1, ha⟩ := exo_at I.hok ea
      have hcl : (PySem.W.clsIn X.K C).isSome = true := by
        obtain ⟨cd, hc, _⟩ := PySem.W.any_some T.hd
        rw [hc] <;> rfl
      rcases hd with rfl | ⟨d, fs, rfl, ed⟩
      · have J : PySem.W.InstAt s.heap a _ C none := ⟨ha, rfl, rfl, trivial⟩
        exact PySem.W.kia_one (PySem.W.kitx_exc hcl T.hg T.hk T.hs T.ha T.hn T.ht T.hm) I.kIn J e (fun z => nomatch z) fun tk => ⟨.bl b, H, I.kept (t' := tk) fun _ _ z => z, rfl, q⟩
      · obtain ⟨mA, ⟨o, es, ep, ho, hr⟩, _⟩ := exd_at I.hok ed
        have J : PySem.W.InstAt s.heap a _ C (some o) := ⟨ha, rfl, rfl, ho⟩
        exact PySem.W.kia_one (PySem.W.kitx_exc hcl T.hg T.hk T.hs T.ha T.hn T.ht T.hm) I.kIn J e (fun z => nomatch z) fun tk => ⟨.bl b, H, I.kept (t' := tk) fun _ _ z => z, rfl, q⟩
end
end Exv

set_option linter.all false
set_option maxRecDepth 100000
set_option maxHeartbeats 4000000
/-! several except clauses, with names and without -/
namespace Tr
open PySem PySem.Spec PyProof.Rows L2
abbrev Cl := Value × Option Nat × (Addr → Value → Option Addr → TS)
/-- the ends behind a suite whose name stood in slot i -/
def ends (D : Ends) : Option Nat → Ends
  | none => D
  | some i => { nx := fun σ' H' => D.nx (σ'.set i none) H', rt := D.rt, bk := fun σ' H' => D.bk (σ'.set i none) H', ct := fun σ' H' => D.ct (σ'.set i none) H' }
def named (σ : L2.St) (a : Addr) : Option Nat → L2.St
  | none => σ
  | some i => σ.set i (some (.ref a))
def wMix (K : PySem.W.Frag) (Wout : WX) (D : Ends) : List Cl → WX
  | [] => Wout
  | (c, n, ts) :: r => fun cls d σ H => ∃ b, PySem.W.exmOne K cls c = some b ∧ (b = true → ∀ a, H a = none → ts a cls d (ends D n) (named σ a n) H) ∧ (b = false → wMix K Wout D r cls d σ H)
inductive HdX (X : Cx) : List ExceptHandler → List Cl → Prop
  | nil : HdX X [] []
  | plain {x : Str} {c : Value} {ts : Addr → Value → Option Addr → TS} {b0 : Stmt} {suite : List Stmt} {np pos' : Pos} {hds : List ExceptHandler} {l : List Cl} (hc : Names X x c)
      (hsu : ∀ (a : Addr) (oe : Obj) (cls : Value) (d : Option Addr) (pn : List (Addr × Obj)), Zc cls d oe → (∃ vs, oe.data = .fields vs) → PSs (X.suite a ((a, oe) :: pn)) (b0 :: suite) (ts a cls d)) (r : HdX X hds l) :
      HdX X (.ExceptHandler (some (.Name x np)) none (b0 :: suite) pos' :: hds) ((c, none, ts) :: l)
  | as {x n : Str} {i : Nat} {c : Value} {ts : Addr → Value → Option Addr → TS} {b0 : Stmt} {suite : List Stmt} {np pos' : Pos} {hds : List ExceptHandler} {l : List Cl} (hN : X.N.Nodup) (hi : X.N[i]? = some n) (hln : X.env.kindOf n = some .local) (hc : Names X x c)
      (hsu : ∀ (a : Addr) (oe : Obj) (cls : Value) (d : Option Addr) (pn : List (Addr × Obj)), Zc cls d oe → (∃ vs, oe.data = .fields vs) → PSs (X.suite a ((a, oe) :: pn)) (b0 :: suite) (ts a cls d)) (r : HdX X hds l) :
      HdX X (.ExceptHandler (some (.Name x np)) (some n) (b0 :: suite) pos' :: hds) ((c, some i, ts) :: l)
section
variable {X : Cx} {body : List Stmt} {h0 : ExceptHandler} {hds : List ExceptHandler} {l : List Cl} {pos : Pos} {tb : WX → TS} {Wout : WX}
theorem ps_try_mix (hs : X.stack = X.env :: X.outer) (hf : X.env.frame = some X.env.locals) (tk : Takes X Wout)
    (hb : ∀ (W : WX) (pn : List (Addr × Obj)) (xe : Value → Shared → Prop), Takes (X.tr pn xe) W → PassesOwn (model X.prog X.w) X.A X.env xe → PSs (X.tr pn xe) body (tb W))
    (hh : HdX X (h0 :: hds) l) : PS X (.Try body (h0 :: hds) [] [] pos) (fun D σ H => tb (wMix X.K Wout D l) D σ H) := by
  refine ⟨fun pins s σ H D I h => wpAny_Try_except ?_⟩
  have ok := I.ok
  have hfr : X.A.frames = some (X.env :: X.outer) := by rw [ok.frames, hs]
  refine wpAny_mono ((hb (wMix X.K Wout D l) (X.pn ++ pins) (fun e t1 => wpAny (model X.prog X.w) X.A (noteFrame e X.env) (fun _ t2 => wpAny (model X.prog X.w) X.A (setFlight e none) (fun _ t3 =>
    wpAny (model X.prog X.w) X.A (handleBy e X.env (h0 :: hds)) (SP X pins D) X.xe t3) X.xe t2) X.xe t1) (fun u s' xx => ?_) PassesOwn.looking).run [] s σ H D (I.toTry _) h) (fun f s1 hsp => ?_) (fun _ _ he => he)
  · obtain ⟨a, B, sI, pins', σ', H', cls, d, rfl, J', nb, up, sky, na, os, ag, w⟩ := xx
    have J : Inv X pins σ' H' sI := J'.ofTry ok
    have sky2 : Sky B (X.env :: X.outer) a (Zc cls d) X.env.locals s'.heap := by
      rw [← hs]
      exact sky
    show wpAny (model X.prog X.w) X.A (noteFrame (.ref a) X.env) _ _ _
    refine Sky.land Zc.steady hfr hf sky2 fun h3 fl3 up3 => ?_
    have J3 : Inv X pins σ' H' { s' with heap := h3 } := J.landed nb fl3.1 (up.trans up3) os ag
    obtain ⟨oe3, vs3, he3, hz3, hd3⟩ := fl3.there
    have off : a ∉ frs (X.env :: X.outer) := fun hm => by
      obtain ⟨_, o', e', hnf⟩ := fl3.2.2.1.mem hm
      rw [he3] at e'
      cases e'
      exact hnf _ hd3
    have nL : a ≠ X.env.locals := fun z => off (List.mem_filterMap.mpr ⟨X.env, List.mem_cons_self, by rw [hf, z]⟩)
    have nF : a ∉ X.fs := fun hm => by
      obtain ⟨e, he, q⟩ := List.mem_filterMap.mp hm
      exact off (List.mem_filterMap.mpr ⟨e, List.mem_cons_of_mem _ he, q⟩)
    have S3 := J3.suite he3 hd3 na nL nF
    have LT : PySem.W.Looks (model X.prog X.w) h3 (typeOf (.ref a)) cls := fun A Q E s k q => wpAny_typeOf_ref (k _ _ he3) (by rw [hz3.1]; exact q)
    have look : ∀ {x : Str} {c : Value} {np : Pos}, Names X x c → ∀ {Q : Value → Shared → Prop} {E : Value → Shared → Prop}, Q c { s' with heap := h3 } →
        wpAny (model X.prog X.w) (X.A.mark (some (.ref a))) (eval (.Name x np) X.env) Q E { s' with heap := h3 } := fun {x c np} hc {Q E} q => by
      obtain ⟨hg, hdbg, hm | ⟨hm, hv, hnn⟩⟩ := hc
      · exact ld_glob (X := X.suite a ((a, oe3) :: (X.pn ++ pins))) S3 hg hm q hdbg
      · exact ld_blt (X := X.suite a ((a, oe3) :: (X.pn ++ pins))) S3 hg hm hv q hnn hdbg
    have go : ∀ {hds' : List ExceptHandler} {l' : List Cl}, HdX X hds' l' → wMix X.K Wout D l' cls d σ' H' →
        wpAny (model X.prog X.w) X.A (handleBy (.ref a) X.env hds') (SP X pins D) X.xe { s' with heap := h3 } := by
      intro hds' l' hk
      induction hk with
      | nil =>
        intro w
        refine wpAny_handleBy_nil ?_
        obtain ⟨k1, k2, k3, oe, vs, T, oT, ts', he, hz, hd, h1, hr⟩ := id fl3
        unfold PySem.passOn
        refine wpAny_bind (wpAny_field he hd h1 ?_)
        rw [if_neg (show ¬ ((Value.ref T == Value.none) = true) from by simp)]
        have fin : wpAny (model X.prog X.w) X.A (setFlight (.ref a) X.env.frame) (fun _ s4 => wpAny (model X.prog X.w) X.A (throw (.ref a) : Sem Flow) (SP X pins D) X.xe s4) X.xe { s' with heap := h3 } := by
          rw [hf]
          refine HandSPX.setFlight_upZ fl3 fun h4 hh4 up4 => wpAny_throw (tk _ _ ?_)
          exact ⟨a, B, sI, pins, σ', H', cls, d, rfl, J, nb, (up.trans up3).trans up4, .inr (.inr (by rw [hs]; exact hh4)), na, os, ag, w⟩
        first
          | exact wpAny_bind (wpAny_pure (wpAny_bind fin))
          | exact wpAny_bind fin
      | @plain x c ts b0 suite np pos' hds2 l2 hc hsu r ih =>
        intro w
        obtain ⟨b, hb1, hyes, hno⟩ := w
        refine wpAny_handleBy_cons (codeAny_handlers_test (look hc ((PySem.W.exm_one (M := model X.prog X.w) J3.kIn LT hb1).here ?_))) (by intro q; cases q)
        cases b with
        | true =>
          refine codeAny_handlers_suite (HandSPX.lands_againZ fl3 fun h4 fl4 up4 => ?_)
          have J4 : Inv X pins σ' H' { s' with heap := h4 } := J.landed nb fl4.1 ((up.trans up3).trans up4) os ag
          obtain ⟨oe4, vs4, he4, hz4, hd4⟩ := fl4.there
          refine wpAny_mono ((hsu a oe4 cls d (X.pn ++ pins) hz4 ⟨_, hd4⟩).run [] _ _ H' _ (J4.suite he4 hd4 na nL nF) (hyes rfl a na)) (fun f s6 hsp => ?_) (fun _ _ z => False.elim z)
          match f, hsp with
          | .next, ⟨σ6, H6, S6, q6⟩ => exact ⟨_, _, S6.unsuite ok, q6⟩
          | .brk, ⟨σ6, H6, S6, q6⟩ => exact ⟨_, _, S6.unsuite ok, q6⟩
          | .cont, ⟨σ6, H6, S6, q6⟩ => exact ⟨_, _, S6.unsuite ok, q6⟩
          | .ret u, ⟨v6, σ6, H6, S6, r6, q6⟩ => exact ⟨_, _, _, S6.unsuite ok, r6, q6⟩
        | false =>
          show wpAny _ X.A (handleBy (.ref a) X.env hds2) _ _ _
          exact ih (hno rfl)
      | @as x n i c ts b0 suite np pos' hds2 l2 hN hi hln hc hsu r ih =>
        intro w
        obtain ⟨b, hb1, hyes, hno⟩ := w
        refine wpAny_handleBy_cons (codeAny_handlers_test (look hc ((PySem.W.exm_one (M := model X.prog X.w) J3.kIn LT hb1).here ?_))) (by intro q; cases q)
        cases b with
        | true =>
          refine codeAny_handlers_suite_as (HandSPX.lands_againZ fl3 fun h4 fl4 up4 => ?_)
          have J4 : Inv X pins σ' H' { s' with heap := h4 } := J.landed nb fl4.1 ((up.trans up3).trans up4) os ag
          obtain ⟨oe4, vs4, he4, hz4, hd4⟩ := fl4.there
          refine store_ok (X := X.suite a ((a, oe4) :: (X.pn ++ pins))) (v := .ref a) (J4.suite he4 hd4 na nL nF) hN hi (.inl hln) rfl (fun s5 S5 => ?_) (.inr hln)
          refine wpAny_mono ((hsu a oe4 cls d (X.pn ++ pins) hz4 ⟨_, hd4⟩).run [] s5 _ H' _ S5 (hyes rfl a na)) (fun f s6 hsp => ?_) (fun _ _ z => False.elim z)
          have over : ∀ {σ6 : L2.St} {H6 : Hp} {Q : Shared → Prop}, Inv (X.suite a ((a, oe4) :: (X.pn ++ pins))) [] σ6 H6 s6 → (∀ s7, Inv X pins (σ6.set i none) H6 s7 → Q s7) →
              wpAny (model X.prog X.w) X.A (do bindName X.env n .none; unbindBehindTheSuite X.env n pos') (fun _ s7 => Q s7) X.xe s6 := fun {σ6 H6 Q} S6 hq => gone_ok (S6.unsuite ok) hN hi hln hq
          match f, hsp with
          | .next, ⟨σ6, H6, S6, q6⟩ => exact over S6 fun s7 J7 => ⟨_, _, J7, q6⟩
          | .brk, ⟨σ6, H6, S6, q6⟩ => exact over S6 fun s7 J7 => ⟨_, _, J7, q6⟩
          | .cont, ⟨σ6, H6, S6, q6⟩ => exact over S6 fun s7 J7 => ⟨_, _, J7, q6⟩
          | .ret u, ⟨v6, σ6, H6, S6, r6, q6⟩ => exact over S6 fun s7 J7 => ⟨_, _, _, J7, r6, q6⟩
        | false =>
          show wpAny _ X.A (handleBy (.ref a) X.env hds2) _ _ _
          exact ih (hno rfl)
    exact go hh w
  · match f, hsp with
    | .next, ⟨σ', H', J', q⟩ => exact wpAny_execs_nil ⟨σ', H', J'.ofTry ok, q⟩
    | .brk, ⟨σ', H', J', q⟩ => exact ⟨σ', H', J'.ofTry ok, q⟩
    | .cont, ⟨σ', H', J', q⟩ => exact ⟨σ', H', J'.ofTry ok, q⟩
    | .ret u, ⟨v, σ', H', J', r, q⟩ => exact ⟨v, σ', H', J'.ofTry ok, r, q⟩
end
section
variable {X : Cx}
theorem pmk_of {CX : CXT} {x : Str} {C fI : Addr} {k : Nat} {fd : FuncData} {ps : List Str} {sp : Sp} {e : Expr} {es : List Expr} {ta : TA} {p pos : Pos} (MK : Exv.MkOk X.prog X.w X.K C fI) (kC : PySem.W.keepIn X.K (.ref C) = true) (R : Raises X (.ref C))
    (F1 : FnOk X.prog X.w X.K X.mg X.base CX k fI fd ps sp) (hr : Room (k + 1) X.A) (hb : Binds X.K fd ps []) (hx : Passes CX X (fun _ _ _ => False)) (hg : Gl X x) (hm : X.mg x = some (.ref C)) (ha : PA X (e :: es) ta)
    (hdb : (x == ("__debug__" : Str)) = false := by decide) (he : starEach (e :: es) X.env = (false, eval e X.env) :: starEach es X.env := by rfl) (hpl : (backTo pos (starEach es X.env)).any (·.1) = false := by rfl) :
    PMk X (.Call (.Name x p) (e :: es) [] pos) (tMkO C sp [] ta) := by
  intro pins s σ H Q I h
  refine wpAny_Call_Name_kw (ld_glob I hg hm ?_ hdb)
  refine PySem.W.callWith_K (h₀ := X.base) I.ok.mod.kin kC (thn (ha.run pos pins s σ H _ I h) fun us s1 hh => ?_) he hpl
  obtain ⟨vs, H1, I1, r1, hz, q1⟩ := hh
  refine ⟨I1.kIn, ?_⟩
  show wpAny _ _ (call (.ref C) us) _ _ _
  obtain ⟨hp, g, dr, tk, os⟩ := s1
  have up1 : hp.objs.size ≤ hp.objs.size + 1 := Nat.le_succ _
  have hq0 := q1 (hp.objs.size + 1) (I1.hok.fresh up1)
  rw [List.append_nil] at hq0
  have kk : ∀ b o, hp.get? b = some o → ((hp.push (PySem.W.kdv_tup us)).push (PySem.HandSPX.excO C hp.objs.size)).get? b = some o := fun b o z =>
    Heap.get?_push_of_some _ (Heap.get?_push_of_some _ z)
  have hat : ((hp.push (PySem.W.kdv_tup us)).push (PySem.HandSPX.excO C hp.objs.size)).get? (hp.objs.size + 1) = some (PySem.HandSPX.excO C hp.objs.size) := by heap_get
  have I2 : Inv X pins σ (upd H1 (hp.objs.size + 1) (exo (hp.objs.size + 1) C none)) ⟨(hp.push (PySem.W.kdv_tup us)).push (PySem.HandSPX.excO C hp.objs.size), g, dr, tk, os⟩ := I1.laid (t' := tk) (a := hp.objs.size + 1) (o := exo (hp.objs.size + 1) C none)
    (h' := (hp.push (PySem.W.kdv_tup us)).push (PySem.HandSPX.excO C hp.objs.size)) kk up1 (exo_ok hat)
  have r2 : Vals (V.ref (hp.objs.size + 1) :: vs) (Value.ref (hp.objs.size + 1) :: us) :=
    .cons rfl r1
  have hl : (Value.ref (hp.objs.size + 1) :: us).length = ps.length := by
    rw [← r2.length]
    exact F1.len _ _ _ _ hq0
  have hus : us.length ≤ sizeLine := Nat.le_trans (Nat.le_of_eq (Paired.length r1).symm) (Nat.le_trans hz (by rw [sizeLine_eq]; decide))
  refine wpAny_call (MK _ _ hp g dr tk os us I1.kIn hus (codeAny_mono (F1.run _ X.stack _ _ ⟨Value.ref (hp.objs.size + 1) :: us, []⟩ (Value.ref (hp.objs.size + 1) :: us) _ _ (fun _ _ _ => False)
    (hr.make C us []) (I2.env0.make C us []) (by have z := hb _ (Value.ref (hp.objs.size + 1) :: us) I2.kIn (by rw [List.append_nil]; exact hl); rw [List.append_nil] at z; exact z) r2 hq0) fun r s' hq' => ?_))
  match r, hq' with
  | .error er, hq' => exact hx pins σ _ _ er s' I2 hq'
  | .ok (.ret u), ⟨v, H2, os2, bare2, un2, hok2, rv, ev, d, fs, ea, ed, hd1, q2⟩ =>
    subst ev
    obtain ⟨h2, g2, d2, t2, os'⟩ := s'
    exact ⟨rv, mk_end R I1 up1 kk un2 hok2 os2 bare2 ea ed hd1 q2⟩
  | .ok .next, hq' => exact False.elim hq'
  | .ok .brk, hq' => exact False.elim hq'
  | .ok .cont, hq' => exact False.elim hq'
end
end Tr

set_option linter.all false
set_option maxRecDepth 100000
set_option maxHeartbeats 4000000
/-! own classes: static methods, str, ==, != by the text's own defs -/
namespace Wc
open PySem PySem.Spec PyProof.Rows L2
/-- C.m is a static method: its record at p, its def at g -/
structure CSta (K : PySem.W.Frag) (C : Addr) (mc : Value) (m : Str) (p g : Addr) : Prop where
  at_ : PySem.W.findCls K (.ref C) mc m = some (.get (.builtin "staticmethod.__get__") (.ref p) .none (.ref C))
  rc : ∃ rest, PySem.W.recIn K p "staticmethod" = some (.ref g :: rest)
  kp : PySem.W.keepIn K (.ref g) = true
def tStat (C : Addr) (sp : Sp) (E : XK) (ta : TE) (t : TA) : TE := fun σ H Q => ta σ H fun x H1 => x = .ref C ∧ t σ H1 fun vs H2 => sp vs H2 Q E
section
variable {X : Cx} {CX : CXT} {k : Nat} {C p g : Addr} {mc : Value} {fd : FuncData} {ps : List Str} {sp : Sp} {E : XK} {o e : Expr} {es : List Expr} {m : Str} {pos apos : Pos} {ta : TE} {t : TA} {pl : Sem Bool}
theorem pe_stat (he : PE X o ta) (r : ClX.CRead X.K C mc) (c : CSta X.K C mc m p g) (F : FnOk X.prog X.w X.K X.mg X.base CX k g fd ps sp) (hr : Room k X.A) (hb : Binds X.K fd ps []) (hx : Passes CX X E) (ha : PA X (e :: es) t)
    (hst : starEach (e :: es) X.env = (false, eval e X.env) :: starEach es X.env := by rfl) (hpl : (backTo pos (starEach es X.env)).any (·.1) = false := by rfl)
    (ht : eval (.Call (.Attribute o m apos) (e :: es) [] pos) X.env = (do
      let ov ← eval o X.env
      standAt apos.atName
      let (f, first) ← holding [ov] (getMethod ov m pl)
      callWith pos f first (backTo pos (starEach (e :: es) X.env)) (backToKw pos (keywordEach [] X.env))) := by rfl) :
    PE X (.Call (.Attribute o m apos) (e :: es) [] pos) (tStat C sp E ta t) := by
  constructor
  intro pins s σ H Q I h
  apply PySem.W.methodCall_KW (pl := pl) _ ht
  apply thn (he.run pins s σ H _ I h)
  rintro u s1 ⟨x, H1, J, rx, rfl, q⟩
  obtain rfl : u = Value.ref C := rx
  obtain ⟨rest, hp⟩ := c.rc
  apply PySem.W.method_cls J.kIn r.ga
  apply PySem.W.cls_bind J.kIn r.rd c.at_
  have J1 : Inv X pins σ H1 { s1 with toks := s1.toks + 1 } := J.tok _
  apply wpAny_call
  apply PySem.W.sm_get J1.kIn hp
  apply PySem.W.handed_on rfl
  refine PySem.W.callWith_K (h₀ := X.base) J1.ok.mod.kin c.kp (thn (ha.run pos pins _ σ H1 _ J1 q) fun us s2 hh => ?_) hst hpl
  obtain ⟨vs, H2, J2, rv, q2⟩ := hh
  have q2' : sp (vs ++ []) H2 Q E := by
    rw [List.append_nil]
    exact q2
  exact ⟨J2.kIn, run_fn F hr hb .nil hx J2 rv q2'⟩
/-- the callee below the running body -/
theorem run_below {pins : List (Addr × Obj)} {σ : L2.St} {H : Hp} {s : Shared} {A : Around} {Q : VK} {us : List Value} {ws : List V} (F : FnOk X.prog X.w X.K X.mg X.base CX k g fd ps sp) (hr : Room k A) (e0 : Env0 X.prog X.w X.K X.mg X.base A X.stack s H)
    (hb : Binds X.K fd ps []) (hx : Passes CX X E) (I : Inv X pins σ H s) (r : Vals ws us) (h : sp ws H Q E) : wpAny (model X.prog X.w) A (call (.ref g) us) (EP X pins σ Q) X.xe s := by
  have hl : us.length = ps.length := by
    rw [← r.length]
    exact F.len _ _ _ _ h
  have z := hb s us I.kIn (by rw [List.append_nil]; exact hl)
  rw [List.append_nil] at z
  apply wpAny_call
  refine codeAny_mono (F.run A X.stack s H ⟨us, []⟩ us ws Q E hr e0 z r h) fun r s' hq => ?_
  match r, hq with
  | .error e, hq => exact hx pins σ H s e s' I hq
  | .ok (.ret u), hq => exact I.after hq
  | .ok .next, hq => exact hq.elim
  | .ok .brk, hq => exact hq.elim
  | .ok .cont, hq => exact hq.elim
end
section
variable {X : Cx} {CX : CXT} {n : Nat} {C g : Addr} {fd : FuncData} {ps : List Str} {sp : Sp} {E : XK}
/-- str(o), o an instance of the class at C -/
def rStrO (C : Addr) (sp : Sp) (E : XK) : List V → Hp → VK → Prop := fun xs H Q => ∃ a dx fs, xs = [V.ref a] ∧ H a = some (.ins C dx fs) ∧ sp [.ref a] H (fun z G => ∃ y, z = .str y ∧ Q z G) E
theorem call_strO (hs : PySem.W.findIn X.K (.ref C) "__str__" = some (some (.ref g))) (hf : PySem.W.isFn X.K (.ref g) = true) (F : FnOk X.prog X.w X.K X.mg X.base CX n g fd ps sp) (hr : Room (n + 2) X.A) (hb : Binds X.K fd ps []) (hx : Passes CX X E) : CallR X (.type "str") (rStrO C sp E) := by
  intro pins s σ H xs us Q I r h
  obtain ⟨a, dx, fs, rfl, ha, q⟩ := h
  obtain ⟨u, rfl, ru⟩ := r.one
  cases (show u = Value.ref a from ru)
  obtain ⟨mA, O, _⟩ := ins_get I.hok ha
  obtain ⟨od, J, _⟩ := O.look
  have hr2 : Room n X.A.in1.in1 := (show Room (n + 1) X.A.in1 from Room.in1 hr).in1
  apply PySem.W.kso_call hr2.units0 I.kIn J hs hf
  apply wpAny_mono (run_below (us := [.ref a]) (ws := [.ref a]) F hr2 I.env0.in1.in1 hb hx I (.cons rfl .nil) q) _ fun _ _ z => z
  rintro w s' ⟨z, G, J', rz, y, rfl, qz⟩
  obtain ⟨t, rfl⟩ := (show ∃ t, w = Value.str y t from rz)
  exact ⟨.str y, G, J', ⟨t, rfl⟩, qz⟩
/-- a comparison whose def is the class's own -/
def rCmpO (K : PySem.W.Frag) (C : Addr) (sp : Sp) (E : XK) : R2 := fun x y H Q => ∃ a dx fs t, x = .ref a ∧ H a = some (.ins C dx fs) ∧ TyX K H y t ∧ PySem.W.notFirst K C t = true ∧ sp [x, y] H (fun z G => ∃ b, z = .bl b ∧ Q z G) E
theorem op_eqO (hs : PySem.W.findIn X.K (.ref C) "__eq__" = some (some (.ref g))) (hf : PySem.W.isFn X.K (.ref g) = true) (F : FnOk X.prog X.w X.K X.mg X.base CX n g fd ps sp) (hr : Room n X.A) (hb : Binds X.K fd ps []) (hx : Passes CX X E) : OpR X (compareOp .Eq) (rCmpO X.K C sp E) := by
  intro pins s σ H x y v u Q I rx ry h
  obtain ⟨a, dx, fs, t, rfl, ha, ty, hn, q⟩ := h
  cases (show v = Value.ref a from rx)
  obtain ⟨mA, O, _⟩ := ins_get I.hok ha
  obtain ⟨od, J, _⟩ := O.look
  obtain ⟨P, Z, p, _⟩ := kit_of I ry ty
  obtain ⟨m, hF⟩ := I.fr
  show wpAny _ _ (richCompare .Eq _ _) _ _ _
  refine PySem.W.cmp_K (op := .Eq) (tb := t) hr.units0 hF I.ok.mod.kin J (Z.ty _ _ I.kIn p) hn hs hf ?_
  apply wpAny_mono (run_below (us := [.ref a, u]) (ws := [.ref a, y]) F hr I.env0 hb hx I (.cons rfl (.cons ry .nil)) q) _ fun _ _ z => z
  rintro w s' ⟨z, G, J', rz, b, rfl, qz⟩
  cases (show w = Value.bool b from rz)
  exact ⟨.bl b, G, J', rfl, qz⟩
end
section
open PySem.W
variable {prog : Program} {w : World} {A : Around} {E : Value → Shared → Prop} {s : Shared} {K : PySem.W.Frag} {x C f : Addr} {ox : Obj} {od : Option Obj} {b tb : Value}
/-- a special method that is a built-in's slot, if bound -/
theorem bound_slot {M : Model} {id : String} {name : Str} {args : List Value} {Q : Option Value → Shared → Prop} (KX : K.In s.heap) (I : InstAt s.heap x ox C od) (hs : findIn K (.ref C) name = some (some (.builtin id)))
    (hb : ∀ self, bindSpecial (.builtin id) self = pure (.builtin id, [self])) (h : wpAny M A (call (.builtin id) (.ref x :: args)) (fun v => Q (some v)) E s) : wpAny M A (callSpecialIfBound? (.ref x) name args) Q E s := by
  simp only [callSpecialIfBound?, bindSpecialIfBound?]
  apply wpAny_holding
  apply wpAny_bind
  apply wpAny_bind
  apply wpAny_bind
  refine I.type.here ((looks_findIn KX hs).here ?_)
  apply wpAny_bind
  refine wpAny_askSetting (wpAny_ite ?_)
  have go : wpAny M A (call (.builtin id) ([.ref x] ++ args) >>= fun v => pure (some v)) Q E s := wpAny_bind (wpAny_mono h (fun _ _ z => wpAny_pure z) fun _ _ z => z)
  split
  · exact wpAny_bind ((Looks.of_pure (hb _)).here (wpAny_pure (by exact go)))
  · exact wpAny_tryCatch (wpAny_bind ((Looks.of_pure (hb _)).here (wpAny_pure (by exact go))))
theorem ne_K {Q : Value → Shared → Prop} (hu : A.units < cLine) (hu1 : A.in1.units < cLine) (KX : K.In s.heap) (I : InstAt s.heap x ox C od) (hb : Looks (model prog w) s.heap (typeOf b) tb) (hn : notFirst K C tb = true)
    (hne : findIn K (.ref C) "__ne__" = some (some (.builtin "object.__ne__"))) (hm : mroIn K C (.type "object") = some true) (hs : findIn K (.ref C) "__eq__" = some (some (.ref f))) (hf : isFn K (.ref f) = true)
    (h : wpAny (model prog w) A.in1 (call (.ref f) [.ref x, b]) (fun v s' => ∃ k, v = .bool k ∧ Q (.bool (!k)) s') E s) : wpAny (model prog w) A (richCompare .NotEq (.ref x) b) Q E s := by
  have inner : wpAny (model prog w) A (call (.builtin "object.__ne__") [.ref x, b]) (fun v s' => ∃ k, v = .bool (!k) ∧ Q (.bool (!k)) s') E s := by
    refine wpAny_call (codeAny_call_builtin PySem.F.cmp_object.ne.plain PySem.F.cmpEntry_ne (check_slot (i := "object.__ne__") (owner := "object") (n := "__ne__") (by decide +kernel) (by decide +kernel) (I.type.andThen (looks_mroIn KX hm)) (PySem.F.cmpArgs_ne _ _) ?_))
    delta Builtin.«object.__ne__»
    repeat (first
      | with_reducible refine wpAny_cRoomFor hu1 ?_
      | (refine wpAny_bind (m := callSpecialIfBound? (.ref x) (Str.ofString "__eq__") [b]) (ifBound_K KX I hs hf (wpAny_mono h (fun r s' hr => by
          obtain ⟨k, rfl, hq⟩ := hr
          repeat (first | exact ⟨k, rfl, hq⟩ | exact wpAny_pure ⟨k, rfl, hq⟩ | exact wpAny_truthy_bool ⟨k, rfl, hq⟩ | (refine wpAny_bind (m := truthy (.bool _)) (wpAny_truthy_bool ?_)) | wp_step)) fun _ _ z => z)))
      | wp_step)
  have one : wpAny (model prog w) A (tryCompare (.ref x) "__ne__" b) (fun r s' => ∃ v, r = some v ∧ Q v s') E s := by
    delta tryCompare
    apply wpAny_bind
    apply bound_slot KX I hne PySem.F.cmp_object.ne.bind
    apply wpAny_mono inner _ fun _ _ z => z
    rintro v s' ⟨k, rfl, hq⟩
    exact wpAny_pure ⟨_, rfl, hq⟩
  delta richCompare
  simp only [oneThing_ref]
  apply wpAny_holding
  apply wpAny_bind
  apply wpAny_cRoomFor hu
  rw [PySem.cmpInfo_NotEq]
  refine wpAny_bind (I.type.here (wpAny_bind (hb.here ?_)))
  split
  · rename_i q
    have e : subIn K tb (.ref C) = some false := by
      rcases Bool.or_eq_true_iff.mp hn with e | e
      · rw [beq_iff_eq.mp e] at q
        simp at q
      · exact beq_iff_eq.mp e
    refine wpAny_bind ((looks_subIn KX e).here ?_)
    simp only [Bool.false_eq_true, if_false]
    apply wpAny_bind
    apply wpAny_mono one _ fun _ _ z => z
    rintro r s' ⟨v, rfl, hq⟩
    exact wpAny_pure hq
  · apply wpAny_bind
    apply wpAny_pure
    simp only [Bool.false_eq_true, if_false]
    apply wpAny_bind
    apply wpAny_mono one _ fun _ _ z => z
    rintro r s' ⟨v, rfl, hq⟩
    exact wpAny_pure hq
end
section
variable {X : Cx} {CX : CXT} {n : Nat} {C g : Addr} {fd : FuncData} {ps : List Str} {sp : Sp} {E : XK}
/-- x != y where the class has an own == alone -/
def rNeO (K : PySem.W.Frag) (C : Addr) (sp : Sp) (E : XK) : R2 := fun x y H Q => ∃ a dx fs t, x = .ref a ∧ H a = some (.ins C dx fs) ∧ TyX K H y t ∧ PySem.W.notFirst K C t = true ∧ sp [x, y] H (fun z G => ∃ b, z = .bl b ∧ Q (.bl (!b)) G) E
theorem op_neO (hne : PySem.W.findIn X.K (.ref C) "__ne__" = some (some (.builtin "object.__ne__"))) (hm : PySem.W.mroIn X.K C (.type "object") = some true) (hs : PySem.W.findIn X.K (.ref C) "__eq__" = some (some (.ref g))) (hf : PySem.W.isFn X.K (.ref g) = true)
    (F : FnOk X.prog X.w X.K X.mg X.base CX n g fd ps sp) (hr : Room (n + 1) X.A) (hb : Binds X.K fd ps []) (hx : Passes CX X E) : OpR X (compareOp .NotEq) (rNeO X.K C sp E) := by
  intro pins s σ H x y v u Q I rx ry h
  obtain ⟨a, dx, fs, t, rfl, ha, ty, hn, q⟩ := h
  cases (show v = Value.ref a from rx)
  obtain ⟨mA, O, _⟩ := ins_get I.hok ha
  obtain ⟨od, J, _⟩ := O.look
  obtain ⟨P, Z, p, _⟩ := kit_of I ry ty
  have hr1 : Room n X.A.in1 := Room.in1 hr
  show wpAny _ _ (richCompare .NotEq _ _) _ _ _
  refine ne_K (tb := t) hr.units0 hr1.units0 I.kIn J (Z.ty _ _ I.kIn p) hn hne hm hs hf ?_
  apply wpAny_mono (run_below (us := [.ref a, u]) (ws := [.ref a, y]) F hr1 I.env0.in1 hb hx I (.cons rfl (.cons ry .nil)) q) _ fun _ _ z => z
  rintro w s' ⟨z, G, J', rz, b, rfl, qz⟩
  cases (show w = Value.bool b from rz)
  exact ⟨b, rfl, .bl (!b), G, J', rfl, qz⟩
end
end Wc

set_option linter.all false
set_option maxRecDepth 100000
set_option maxHeartbeats 4000000
/-! static methods that may raise, within a try; isinstance of a caught error against some classes -/
namespace Wc
open PySem PySem.Spec PyProof.Rows L2
def tStatS (C : Addr) (sp : Sp) (E : L2.St → XK) (ta : TE) (t : TA) : TE := fun σ H Q => ta σ H fun x H1 => x = .ref C ∧ t σ H1 fun vs H2 => sp vs H2 Q (E σ)
section
variable {X : Cx} {CX : CXT} {k : Nat} {C p g : Addr} {mc : Value} {fd : FuncData} {ps : List Str} {sp : Sp} {E : L2.St → XK} {o e : Expr} {es : List Expr} {m : Str} {pos apos : Pos} {ta : TE} {t : TA} {pl : Sem Bool}
theorem pe_statS (he : PE X o ta) (r : ClX.CRead X.K C mc) (c : CSta X.K C mc m p g) (F : FnOk X.prog X.w X.K X.mg X.base CX k g fd ps sp) (hr : Room k X.A) (hb : Binds X.K fd ps []) (hx : ∀ σ, PassesAt CX X σ (E σ)) (ha : PA X (e :: es) t)
    (hst : starEach (e :: es) X.env = (false, eval e X.env) :: starEach es X.env := by rfl) (hpl : (backTo pos (starEach es X.env)).any (·.1) = false := by rfl)
    (ht : eval (.Call (.Attribute o m apos) (e :: es) [] pos) X.env = (do
      let ov ← eval o X.env
      standAt apos.atName
      let (f, first) ← holding [ov] (getMethod ov m pl)
      callWith pos f first (backTo pos (starEach (e :: es) X.env)) (backToKw pos (keywordEach [] X.env))) := by rfl) :
    PE X (.Call (.Attribute o m apos) (e :: es) [] pos) (tStatS C sp E ta t) := by
  constructor
  intro pins s σ H Q I h
  apply PySem.W.methodCall_KW (pl := pl) _ ht
  apply thn (he.run pins s σ H _ I h)
  rintro u s1 ⟨x, H1, J, rx, rfl, q⟩
  obtain rfl : u = Value.ref C := rx
  obtain ⟨rest, hp⟩ := c.rc
  apply PySem.W.method_cls J.kIn r.ga
  apply PySem.W.cls_bind J.kIn r.rd c.at_
  have J1 : Inv X pins σ H1 { s1 with toks := s1.toks + 1 } := J.tok _
  apply wpAny_call
  apply PySem.W.sm_get J1.kIn hp
  apply PySem.W.handed_on rfl
  refine PySem.W.callWith_K (h₀ := X.base) J1.ok.mod.kin c.kp (thn (ha.run pos pins _ σ H1 _ J1 q) fun us s2 hh => ?_) hst hpl
  obtain ⟨vs, H2, J2, rv, q2⟩ := hh
  exact ⟨J2.kIn, run_fnS F hr hb (hx σ) J2 rv q2⟩
end
def rIsDT (K : PySem.W.Frag) (a : Addr) (cls : Value) (d : Option Addr) : List V → Hp → VK → Prop := fun xs H Q => ∃ (D dd tp : Addr) (fs : List (Str × V)) (cs : List V) (us : List Value) (b : Bool), xs = [.ref a, .ref tp] ∧ cls = .ref D ∧ d = some dd ∧ H dd = some (.xd fs) ∧ ExcC K D ∧ H tp = some (.tup cs) ∧ Paired ClsV cs us ∧ PySem.W.kitAny K (.ref D) us = some b ∧ Q (.bl b) H
theorem call_isDT {X : Cx} {a : Addr} {cls : Value} {d : Option Addr} {oe : Obj} {pn : List (Addr × Obj)} (hz : Zc cls d oe) (hf : ∃ vs, oe.data = .fields vs) : CallR (X.suite a ((a, oe) :: pn)) (.builtin "isinstance") (rIsDT X.K a cls d) := by
  intro pins s σ H xs us Q I r h
  obtain ⟨D, dd, tp, fs, cs, ws, b, rfl, rfl, rfl, ed, T, hT, k, e, q⟩ := h
  cases r with
  | cons rx rr =>
    cases rr with
    | cons rt rr =>
      cases rr
      cases rx
      cases rt
      have hcl : (PySem.W.clsIn X.K D).isSome = true := by
        obtain ⟨cd, hc, _⟩ := PySem.W.any_some T.hd
        rw [hc] <;> rfl
      obtain ⟨hget, _⟩ := I.pin (a, oe) (List.mem_append.mpr (.inl List.mem_cons_self))
      obtain ⟨vs, hv⟩ := hf
      have hx : ObjOk X.prog X.w H s.heap dd (.xd fs) := I.hok dd _ ed
      obtain ⟨mA, ⟨o, es, ep, ho, hr⟩, _⟩ := hx
      have J : PySem.W.InstAt s.heap a oe D (some o) := ⟨hget, hz.1, by unfold PySem.W.notCls; rw [hv] <;> rfl, by rw [hz.2]; exact ho⟩
      obtain ⟨_, its, rv, ob, h1, h2, n, h3⟩ := (show ObjOk X.prog X.w H s.heap tp (.tup cs) from I.hok tp _ hT)
      have e3 := ClsV.all k rv
      subst e3
      obtain ⟨oc, od, dt, sl⟩ := ob
      simp only at h2 h3
      subst h2 h3
      exact PySem.W.kia_tup (PySem.W.kitx_exc hcl T.hg T.hk T.hs T.ha T.hn T.ht T.hm) I.kIn J h1 e (fun z => nomatch z) fun tk => ⟨.bl b, H, I.kept (t' := tk) fun _ _ z => z, rfl, q⟩
end Wc

set_option linter.all false
set_option maxRecDepth 100000
set_option maxHeartbeats 4000000
/-! stores on exceptions of own classes, whatever built-in class they are over -/
namespace Exg
open PySem PySem.Spec PyProof.Rows L2
open Builtin Builtin.ObjectAttr
/-- what is asked of the class at C for a store on its instances -/
structure EcC (K : PySem.W.Frag) (C : Addr) : Prop where
  cls : ∃ nm q N bs bm sn sub ab col dd k0 k1 k2 k3 k5 newId, K.lookup C = some (excClassObj nm q C N bs bm true sn sub ab col dd k0 k1 k2 k3 k5 newId) ∧
    (∀ self : Value, refuseLoop self "__setattr__" (.ref C :: bm) = pure ()) ∧ (Value.ref C :: bm).contains (.type "object") = true
  sa : PySem.W.findIn K (.ref C) "__setattr__" = some (some (.builtin "object.__setattr__"))
theorem ecC_ve {K : PySem.W.Frag} {C : Addr} (T : OexC K C) : EcC K C := by
  obtain ⟨nm, q, N, bs, bm, sn, sub, ab, col, dd, k0, k1, k2, k3, k5, hC, hbm⟩ := T.cls
  exact ⟨⟨nm, q, N, bs, bm, sn, sub, ab, col, dd, k0, k1, k2, k3, k5, _, hC, fun self => PySem.HandSPX.refsVE_pass self _ (show PySem.HandSPX.refsVE (.ref C :: bm) = true from hbm),
    (PySem.HandSPX.refsVE_contains "object" _ (show PySem.HandSPX.refsVE (.ref C :: bm) = true from hbm)).trans (by decide +kernel)⟩, T.sa⟩
section
variable {prog : Program} {w : World} {A : Around} {E : Value → Shared → Prop} {R : Result → Shared → Prop} {hp : Heap} {g : Array GenState} {d : Drawn} {t : Nat} {os : OsState}
/-- object.__setattr__ on it, down to the own dict -/
theorem to_dict {K : PySem.W.Frag} {name : Str} {tk : Tok} {v : Value} {x C : Addr} {ox : Obj} {od : Option Obj} {cd : ClassData} (KI : K.In hp) (I : PySem.W.InstAt hp x ox C od) (hcd : PySem.W.clsIn K C = some cd)
    (pass : ∀ self : Value, refuseLoop self "__setattr__" cd.mro = pure ()) (hob : cd.mro.contains (.type "object") = true) (ha : PySem.W.findIn K (.ref C) name = some none)
    (fin : wpAny (model prog w) A.in1 (storeInOwnDict (.ref x) (.ref C) (.str name tk) name v false)
      (fun f s' => match f with | .done r => R (.ok r) s' | .again c => c.quiet = true ∧ codeAny (model prog w) A c R s') (fun e s' => R (.error e) s') ⟨hp, g, d, t, os⟩) :
    codeAny (model prog w) A (.call (.builtin "object.__setattr__") ⟨[.ref x, .str name tk, v], []⟩) R ⟨hp, g, d, t, os⟩ := by
  have ne : cd.mro.isEmpty = false := by
    cases e : cd.mro with
    | nil =>
      rw [e] at hob
      cases hob
    | cons _ _ => rfl
  have isO : PySem.W.Looks (model prog w) hp (isInstance (.ref x) (.type "object")) true :=
    I.type.andThen (PySem.W.looks_mroIn KI (by unfold PySem.W.mroIn; rw [hcd, Option.bind_some, if_neg (by rw [ne]; decide), hob]))
  have lm : PySem.W.Looks (model prog w) hp (mroOf (.ref C)) cd.mro := (PySem.W.looks_clsIn KI hcd).andThen .now
  have ls : PySem.W.Looks (model prog w) hp (storeTaker? none) none := .now
  refine codeAny_call_builtin PySem.F.store_object.slot.plain PySem.F.store_object.entry
    (@PySem.W.check_slot (model prog w) _ _ ⟨hp, g, d, t, os⟩ "object.__setattr__" "object" "__setattr__" (.ref x) [.str name tk, v] [] _ PySem.F.store_object.kind PySem.F.store_object.split isO
      (PySem.F.store_object.args (.ref x) (.str name tk) v) ?_)
  rw [PySem.W.osa_eq, refuse_eq]
  refine wpAny_bind (wpAny_bind (I.type.at (wpAny_bind (lm.at ?_))))
  rw [pass]
  exact wpAny_pure (wpAny_bind (I.type.at (wpAny_bind ((PySem.W.looks_findIn KI ha).at (wpAny_bind (ls.at fin))))))
theorem set_first {K : PySem.W.Frag} {name : Str} {tk : Tok} {v : Value} {x C : Addr} {fv : Array Value} {cd : ClassData} (KI : K.In hp) (hx : hp.get? x = some { cls := .ref C, data := .fields fv }) (hcd : PySem.W.clsIn K C = some cd)
    (pass : ∀ self : Value, refuseLoop self "__setattr__" cd.mro = pure ()) (hob : cd.mro.contains (.type "object") = true) (hh : cd.hasDict = true) (ha : PySem.W.findIn K (.ref C) name = some none)
    (fin : ∀ h' tk' dx, (∀ b o, b ≠ x → hp.get? b = some o → h'.get? b = some o) → hp.objs.size ≤ dx → dx ≠ x → h'.get? x = some { cls := .ref C, dict := some dx, data := .fields fv } →
      h'.Ns1 dx (fun y => if y = name then some v else none) → R (.ok (.ret .none)) ⟨h', g, d, tk', os⟩) :
    codeAny (model prog w) A (.call (.builtin "object.__setattr__") ⟨[.ref x, .str name tk, v], []⟩) R ⟨hp, g, d, t, os⟩ := by
  have far : x ≠ hp.objs.size := Nat.ne_of_lt (Heap.lt_size hx)
  have lc : PySem.W.Looks (model prog w) hp (classData C) cd := PySem.W.looks_clsIn KI hcd
  refine to_dict KI (ox := { cls := .ref C, data := .fields fv }) (od := none) ⟨hx, rfl, rfl, trivial⟩ hcd pass hob ha ?_
  obtain ⟨c1, c2, c3, c4, c5, c6, c7, c8, c9, c10, c11⟩ := cd
  dsimp only at hh
  subst hh
  unfold storeInOwnDict ownDictForStores
  repeat (first | with_reducible refine PySem.HandSPX.store_in_new ?_ ?_ | with_reducible refine wpAny_loadPart_at hx ?_ | with_reducible refine lc.at ?_ | wp_step)
  · exact ⟨_, #[], _, (Heap.get?_update_ne _ _ _ _ far.symm).trans (Heap.get?_push_at rfl rfl), rfl, fun e he => absurd he (by simp), fun _ => rfl⟩
  · intro h' tk' hn' hs
    have hx1 : (hp.push { cls := .type "dict", data := .dict #[] }).get? x = some { cls := .ref C, data := .fields fv } := Heap.get?_push_of_some _ hx
    exact fin h' tk' hp.objs.size (fun b o hb ho => (hs.2 b (Nat.ne_of_lt (Heap.lt_size ho))).trans ((Heap.get?_update_ne _ _ _ _ hb).trans (Heap.get?_push_of_some _ ho))) (Nat.le_refl _) far.symm
      ((hs.2 x far).trans (Heap.get?_update_self _ hx1 rfl)) hn'
theorem set_next {K : PySem.W.Frag} {name : Str} {tk : Tok} {v : Value} {x C dx : Addr} {fv : Array Value} {cd : ClassData} {m0 : Str → Option Value} {nl : List Str} (KI : K.In hp)
    (hx : hp.get? x = some { cls := .ref C, dict := some dx, data := .fields fv }) (hns : hp.Ns1 dx m0) (hw : Within m0 nl) (hz : nl.length ≤ 1000) (hcd : PySem.W.clsIn K C = some cd)
    (pass : ∀ self : Value, refuseLoop self "__setattr__" cd.mro = pure ()) (hob : cd.mro.contains (.type "object") = true) (hh : cd.hasDict = true) (ha : PySem.W.findIn K (.ref C) name = some none)
    (fin : ∀ h' tk', (∀ b o, b ≠ dx → hp.get? b = some o → h'.get? b = some o) → h'.Ns1 dx (fun y => if y = name then some v else m0 y) → R (.ok (.ret .none)) ⟨h', g, d, tk', os⟩) :
    codeAny (model prog w) A (.call (.builtin "object.__setattr__") ⟨[.ref x, .str name tk, v], []⟩) R ⟨hp, g, d, t, os⟩ := by
  obtain ⟨oD, _, _, hoD, _, _⟩ := hns.count hw
  have lc : PySem.W.Looks (model prog w) hp (classData C) cd := PySem.W.looks_clsIn KI hcd
  refine to_dict KI (ox := { cls := .ref C, dict := some dx, data := .fields fv }) (od := some oD) ⟨hx, rfl, rfl, hoD⟩ hcd pass hob ha ?_
  obtain ⟨c1, c2, c3, c4, c5, c6, c7, c8, c9, c10, c11⟩ := cd
  dsimp only at hh
  subst hh
  unfold storeInOwnDict ownDictForStores
  repeat (first | with_reducible refine PySem.OEX.store_in_old hns hw hz ?_ | with_reducible refine wpAny_loadPart_at hx ?_ | with_reducible refine lc.at ?_ | wp_step)
  intro h' tk' hn' hs
  exact fin h' tk' (fun b o hb ho => (hs.2 b hb).trans ho) hn'
end
section
variable {X : Cx} {pins : List (Addr × Obj)} {σ : L2.St} {H : Hp} {s : Shared} {a C dx : Addr} {f : Str} {y : V} {u : Value} {fs : List (Str × V)} {Q : Unit → Shared → Prop} {E : Value → Shared → Prop} {A : Around}
/-- self.f = y, the first one -/
theorem st_first (T : EcC X.K C) (I : Inv X pins σ H s) (e : H a = some (exo a C none)) (hno : PySem.W.findIn X.K (.ref C) f = some none) (ry : RelV y u)
    (h : ∀ dx s', H dx = none → dx ≠ a → Inv X pins σ (upd (upd H dx (exd dx [(f, y)])) a (exo a C (some dx))) s' → Q () s') : wpAny (model X.prog X.w) A (setAttr (.ref a) f u) Q E s := by
  obtain ⟨nm, q, N, bs, bm, sn, sub, ab, col, dd, k0, k1, k2, k3, k5, newId, hC, pass, hob⟩ := T.cls
  have hcl : PySem.W.clsIn X.K C = some { name := nm, bases := bs, mro := .ref C :: bm, ns := N, qualname := q, hasDict := true, slotNames := sn, subclasses := sub, abstract := ab, collection := col, hasDel := false } := by
    unfold PySem.W.clsIn; rw [hC] <;> rfl
  obtain ⟨t1, ho⟩ := exo_at I.hok e
  obtain ⟨hp, g, d, t, os⟩ := s
  refine PySem.W.set_plain I.kIn (ox := { cls := .ref C, dict := none, data := .fields #[.ref t1, .none, .none, .none, .bool false, .none] }) (od := none) ⟨ho, rfl, rfl, trivial⟩ T.sa ?_
  refine set_first I.kIn ho hcl pass hob rfl hno (fun h' tk' dx k dn dne hx hn => ?_)
  have fresh : H dx = none := I.hok.fresh dn
  have nd : ∀ {b : Addr} {o : Obj}, hp.get? b = some o → b ≠ dx := fun {b o} z => Nat.ne_of_lt (Nat.lt_of_lt_of_le (Heap.lt_size z) dn)
  have na : ∀ {b : Addr}, H b = none → b ≠ a := fun {b} n z => by
    subst z
    rw [e] at n
    cases n
  have U : Un X.fs [] H (upd (upd H dx (exd dx [(f, y)])) a (exo a C (some dx))) hp h' := {
    keep := fun b o z n _ _ => k b o (na n) z
    slot := fun b o z n _ _ => ⟨o.slots, k b o (na n) z⟩
    free := fun b o z n _ => by
      rw [upd_ne (na n), upd_ne (nd z)]
      exact n
    there := fun b o z _ => by
      by_cases hb : b = a
      · subst hb
        exact ⟨_, hx⟩
      · exact ⟨o, k b o hb z⟩
    tups := fun b xs z => by
      rw [upd_ne (at_ne e z exo_tup), upd_ne (ne_of_none z fresh)]
      exact z
    frzs := fun b o v z => by
      rw [upd_ne (at_ne e z exo_frz), upd_ne (ne_of_none z fresh)]
      exact z
    tbls := fun b ps z => ⟨#[], by rw [upd_ne (at_ne e z exo_tbl), upd_ne (ne_of_none z fresh), z]; simp⟩ }
  refine h dx _ fresh dne (I.un (t' := tk') U fun b o z => ?_)
  by_cases hb : b = a
  · subst hb
    rw [upd_same] at z
    cases z
    exact exo_ok hx
  · rw [upd_ne hb] at z
    by_cases hd : b = dx
    · subst hd
      rw [upd_same] at z
      cases z
      exact exd_ok hn (relO_put (fs := []) ry fun g => True.intro)
    · rw [upd_ne hd] at z
      refine (I.hok b o z).stay (fun c v hc r => k c v ?_ r) (fun c hc => ?_) (fun c xs hc => ?_)
      · rcases hc with hc | hc
        · rw [hc]
          exact hb
        · exact at_ne e hc exo_own
      · rw [upd_ne (at_ne e hc exo_own), upd_ne (ne_of_none hc fresh)]
        exact hc
      · rw [upd_ne (at_ne e hc exo_tup), upd_ne (ne_of_none hc fresh)]
        exact hc
/-- self.f = y, a further one -/
theorem st_next (T : EcC X.K C) (I : Inv X pins σ H s) (e : H a = some (exo a C (some dx))) (ed : H dx = some (exd dx fs)) (hl : fs.length ≤ 900) (hno : PySem.W.findIn X.K (.ref C) f = some none) (ry : RelV y u)
    (h : ∀ s', Inv X pins σ (upd H dx (exd dx ((f, y) :: fs))) s' → Q () s') : wpAny (model X.prog X.w) A (setAttr (.ref a) f u) Q E s := by
  obtain ⟨nm, q, N, bs, bm, sn, sub, ab, col, dd, k0, k1, k2, k3, k5, newId, hC, pass, hob⟩ := T.cls
  have hcl : PySem.W.clsIn X.K C = some { name := nm, bases := bs, mro := .ref C :: bm, ns := N, qualname := q, hasDict := true, slotNames := sn, subclasses := sub, abstract := ab, collection := col, hasDel := false } := by
    unfold PySem.W.clsIn; rw [hC] <;> rfl
  obtain ⟨t1, ho⟩ := exo_at I.hok e
  obtain ⟨mA, hns, rel⟩ := exd_at I.hok ed
  have hw := within_of rel
  obtain ⟨hp, g, d, t, os⟩ := s
  obtain ⟨oD, _, _, hoD, _, _⟩ := hns.count hw
  refine PySem.W.set_plain I.kIn (ox := { cls := .ref C, dict := some dx, data := .fields #[.ref t1, .none, .none, .none, .bool false, .none] }) (od := some oD) ⟨ho, rfl, rfl, hoD⟩ T.sa ?_
  refine set_next I.kIn ho hns hw (by rw [List.length_map]; omega) hcl pass hob rfl hno (fun h' tk' k hn => ?_)
  obtain ⟨oN, esN, epN, eN, rN⟩ := id hn
  exact h _ (I.write (t' := tk') (x := dx) (e := dx) (o := exd dx ((f, y) :: fs)) (by rw [ed]; exact True.intro) (.inl rfl) k ⟨oN, eN⟩ (exd_ok hn (relO_put ry rel)))
/-- self.f = e -/
def tSt (K : PySem.W.Frag) (f : Str) (to te : TE) : TS := fun D σ H => te σ H fun y H1 => to σ H1 fun x H2 => ∃ a C : Addr, x = .ref a ∧ EcC K C ∧ PySem.W.findIn K (.ref C) f = some none ∧
  ((H2 a = some (exo a C none) ∧ ∀ dx, H2 dx = none → dx ≠ a → D.nx σ (upd (upd H2 dx (exd dx [(f, y)])) a (exo a C (some dx)))) ∨
    ∃ (dx : Addr) (fs : List (Str × V)), H2 a = some (exo a C (some dx)) ∧ H2 dx = some (exd dx fs) ∧ fs.length ≤ 900 ∧ D.nx σ (upd H2 dx (exd dx ((f, y) :: fs))))
theorem ps_st {o e : Expr} {to te : TE} {p' pos : Pos} (ho : PE X o to) (he : PE X e te) (hs : swapsWith e (some (.Attribute o f p')) pos.line X.env = pure false := by rfl) :
    PS X (.Assign [.Attribute o f p'] e pos) (tSt X.K f to te) := by
  refine ⟨fun pins s σ H D I h => plainObj_wpAny_Assign_Attribute (thn (he.run pins s σ H _ I h) fun v s1 hh => ?_) hs⟩
  obtain ⟨y, H1, I1, r1, q1⟩ := hh
  refine thn (ho.run pins s1 σ H1 _ I1 q1) fun u s2 hh => ?_
  obtain ⟨x, H2, I2, r2, a, C, ex, T, hno, q⟩ := hh
  subst ex
  obtain rfl : u = Value.ref a := r2
  rcases q with ⟨ea, q⟩ | ⟨dx, fs, ea, ed, hl, q⟩
  · exact st_first T I2 ea hno r1 fun dx s' n ne J => ⟨σ, _, J, q dx n ne⟩
  · exact st_next T I2 ea ed hl hno r1 fun s' J => ⟨σ, _, J, q⟩
end
end Exg

set_option linter.all false
set_option maxRecDepth 100000
set_option maxHeartbeats 4000000
/-! an own exception class over KeyError: made, its built-in __init__ called -/
namespace Ky
open PySem PySem.Calls PySem.Spec PyProof.Rows L2 Exv Exg
open PySem.W (KxsFacts)
abbrev keTail : List Value := [.type "KeyError", .type "LookupError", .type "Exception", .type "BaseException", .type "object"]
theorem initRow : Manifest.signature? "KeyError.__init__" = some ⟨.positional, "*", "KeyError", .self, [⟨"args", .varPos, false⟩]⟩ := by kernel_rfl
theorem initKind : builtinKind "KeyError.__init__" = some .slot := by kernel_rfl
theorem initSlot : Slot "KeyError" "__init__" "KeyError.__init__" := .of (owner := "KeyError") (n := "__init__")
    (by rw [typeLookup_type, builtinLookup_eq_fast]; kernel_rfl) (by decide +kernel) (by decide +kernel) (by decide +kernel)
    (by first | exact .inr (by decide +kernel) | exact .inl (by decide +kernel)) (by rw [isSubtype_type]; kernel_rfl)
theorem initEntry : entryFor table "KeyError.__init__" = some Builtin.«BaseException.__init__» :=
  entryFor_alias (id' := "BaseException.__init__") (by rw [fastTable_eq_tree]; kernel_rfl) (by first | rfl | decide +kernel) (by decide +kernel) (by rw [fastTable_eq_tree]; kernel_rfl)
theorem keyPass (self : Value) : refuseLoop self "__setattr__" keTail = pure () := by kernel_rfl
theorem keySup : KxsFacts "KeyError" "KeyError.__init__" :=
  ⟨by show builtinType _ = _; rw [builtinType_eq_fast]; kernel_rfl, by first | kernel_rfl | rfl⟩
section
variable {M : Model} {prog : Program} {w : World} {A : Around} {E : Value → Shared → Prop} {R : Result → Shared → Prop} {h : Heap} {g : Array GenState} {d : Drawn} {t : Nat} {os : OsState}
variable {nm q : Str} {C N : Addr} {bs : List Value} {hdct : Bool} {sn : List Str} {sub : List Value} {ab : Bool} {col : Option Bool} {dd : Option Addr} {k0 k1 k2 k3 k5 : Option Value}
theorem chk_bound {e : Addr} {oe : Obj} {rest bm : List Value} {newId : String} {Q : Unit → Shared → Prop}
    (hC : h.get? C = some (excClassObj nm q C N bs bm hdct sn sub ab col dd k0 k1 k2 k3 k5 newId)) (he : h.get? e = some oe) (hcls : oe.cls = .ref C) (hq : Q () ⟨h, g, d, t, os⟩) :
    wpAny M A (checkBoundCall "KeyError.__init__" ⟨.ref e :: rest, []⟩) Q E ⟨h, g, d, t, os⟩ := by
  have noStar : (("KeyError" : String) != "*") = true := by decide
  simp only [checkBoundCall, initKind, initRow]
  repeat (first | (with_reducible refine wpAny_loadPart_at he ?_; rw [hcls]) | with_reducible refine wpAny_loadPart_at hC ?_ | wp_step)
  refine wpAny_onRaise ?_
  rw [show ∀ (a b : String) (n : Nat), Bind.check ⟨.positional, "*", "KeyError", .self, [⟨"args", .varPos, false⟩]⟩ a b n (List.map (fun x => x.fst) ({ pos := Value.ref e :: rest } : Args).kw) = pure () from
    fun a b n => check_star_args _ _ _ _ _ _]
  exact wpAny_pure hq
abbrev newK : String := "LookupError.__new__"
theorem chk_new {rest : List Value} {Q : Unit → Shared → Prop} (hC : h.get? C = some (excClassObj nm q C N bs keTail hdct sn sub ab col dd k0 k1 k2 k3 k5 newK)) (hq : Q () ⟨h, g, d, t, os⟩) :
    wpAny M A (checkBuiltinCall newK ⟨.ref C :: rest, []⟩) Q E ⟨h, g, d, t, os⟩ := by
  have hB : (Value.ref C :: keTail).contains (.type "LookupError") = true := by rw [List.contains_cons, show keTail.contains (.type "LookupError") = true by decide +kernel, Bool.or_true]
  have noStar := PySem.F.excBase_LookupError.noStar
  simp only [checkBuiltinCall, PySem.F.excBase_LookupError.newKind, PySem.F.excBase_LookupError.newSplit, PySem.F.excBase_LookupError.newRow]
  repeat (first | refine wpAny_loadPart_at hC ?_ | (refine wpAny_isSubtype_exc hC ?_; rw [hB]) | refine wpAny_staticBase_exc hC ?_ | refine wpAny_madeBy_exc hC ?_ | simp only [bne_self_eq_false, Bool.false_eq_true, if_false] | wp_step)
  exact hq
theorem new_key {rest : List Value} (hC : h.get? C = some (excClassObj nm q C N bs keTail hdct sn sub ab col dd k0 k1 k2 k3 k5 newK)) (hrest : rest.length ≤ sizeLine)
    (hq : R (.ok (.ret (.ref (h.objs.size + 1)))) ⟨(h.push (PySem.W.kdv_tup rest)).push (PySem.HandSPX.excO C h.objs.size), g, d, t, os⟩) :
    codeAny (model prog w) A (.builtin newK ⟨.ref C :: rest, []⟩) R ⟨h, g, d, t, os⟩ := by
  have ends := PySem.F.excBase_LookupError.ends
  have hB : (Value.ref C :: keTail).contains (.type "LookupError") = true := by rw [List.contains_cons, show keTail.contains (.type "LookupError") = true by decide +kernel, Bool.or_true]
  have hA : (Value.ref C :: keTail).contains (.type "AttributeError") = false := by rw [List.contains_cons, show keTail.contains (.type "AttributeError") = false by decide +kernel]; rfl
  have hN : (Value.ref C :: keTail).contains (.type "NameError") = false := by rw [List.contains_cons, show keTail.contains (.type "NameError") = false by decide +kernel]; rfl
  refine codeAny_builtinAt PySem.F.excBase_LookupError.entry ?_
  unfold Builtin.«BaseException.__new__»
  refine PySem.wpAt_bind ?_
  show _root_.PySem.wpAt _ _ _ (stack >>= _) _ _ _
  refine PySem.wpAt_bind (PySem.wpAt_stack fun p below => PySem.wpAt_of_wpAny ?_)
  wp_walk
  refine PySem.wpAt_of_wpAny ?_
  rw [PySem.F.excBase_LookupError.owner]
  repeat (first | with_reducible refine wpAny_madeHere_exc PySem.F.excBase_LookupError.canon hC ?_ | with_reducible refine wpAny_loadPart_at hC ?_ |
    (with_reducible refine wpAny_isSubtype_exc hC ?_; first | rw [hB] | rw [hA] | rw [hN]) | wp_step)
  show R _ _
  rw [Heap.size_push]
  exact hq
theorem type_call_key {rest : List Value} {fI : Addr} {Q : Fin → Shared → Prop} (hC : h.get? C = some (excClassObj nm q C N bs keTail hdct sn sub ab col dd k0 k1 k2 k3 k5 newK))
    (hi : PySem.W.Looks (model prog w) h (typeLookup (.ref C) "__init__") (some (.ref fI))) (hb : ∀ self, PySem.W.Looks (model prog w) h (bindSpecial (.ref fI) self) (.ref fI, [self])) (hrest : rest.length ≤ sizeLine)
    (hq : codeAny (model prog w) A (.call (.ref fI) ⟨.ref (h.objs.size + 1) :: rest, []⟩)
      (fun r s' => match r with | .ok (.ret v) => v = .none ∧ Q (.done (.ret (.ref (h.objs.size + 1)))) s' | .ok _ => False | .error e => E e s')
      ⟨(h.push (PySem.W.kdv_tup rest)).push (PySem.HandSPX.excO C h.objs.size), g, d, t, os⟩) :
    wpAny (model prog w) A (Builtin.«type.__call__» ⟨.ref C :: rest, []⟩) Q E ⟨h, g, d, t, os⟩ := by
  repeat (first | with_reducible refine wpAny_loadPart_at hC ?_ | with_reducible refine wpAny_madeBy_exc hC ?_ | wp_step)
  refine codeAny_call_builtin_code (Code.quiet_builtin _ PySem.F.excBase_LookupError.quiet) (chk_new hC (new_key hC hrest ?_))
  show wpAny _ _ _ _ _ _
  have k : ∀ b o, h.get? b = some o → ((h.push (PySem.W.kdv_tup rest)).push (PySem.HandSPX.excO C h.objs.size)).get? b = some o := fun b o e =>
    Heap.get?_push_of_some _ (Heap.get?_push_of_some _ e)
  have hC1 := k _ _ hC
  have hat : ((h.push (PySem.W.kdv_tup rest)).push (PySem.HandSPX.excO C h.objs.size)).get? (h.objs.size + 1) = some (PySem.HandSPX.excO C h.objs.size) := by heap_get
  have hself : (Value.ref C :: keTail).contains (.ref C) = true := by simp
  have i1 := hi.keeps k
  have b1 := (hb (.ref (h.objs.size + 1))).keeps k
  unfold isInstance
  repeat (first | with_reducible refine wpAny_loadPart_at hat ?_ | (with_reducible refine wpAny_isSubtype_exc hC1 ?_; rw [hself]) | wp_step)
  show wpAny _ _ (typeLookup (.ref C) _) _ _ _
  refine i1.at (wpAny_holding (wpAny_bind (b1.at ?_)))
  refine wpAny_bind (wpAny_call (codeAny_mono hq fun r s' z => ?_))
  rcases r with e | (v | _ | _ | _) <;> first | exact z | exact z.elim | skip
  obtain ⟨rfl, z⟩ := z
  first
    | exact wpAny_pure (wpAny_pure z)
    | (wp_walk; exact z)
end
theorem mkOk_key {prog : Program} {w : World} {K : PySem.W.Frag} {C fI : Addr}
    (cls : ∃ nm q N bs sn sub ab col dd k0 k1 k2 k3 k5, K.lookup C = some (excClassObj nm q C N bs keTail true sn sub ab col dd k0 k1 k2 k3 k5 newK))
    (iC : PySem.W.findIn K (.ref C) "__init__" = some (some (.ref fI))) (tI : PySem.W.typeIn K (.ref fI) = some (.type "function")) : MkOk prog w K C fI := fun A R h g d t os rest KX hr q => by
  obtain ⟨nm, qq, N, bs, sn, sub, ab, col, dd, k0, k1, k2, k3, k5, hC0⟩ := cls
  have hC := KX _ _ hC0
  have f1 := PySem.tc_lookup
  have f2 := PySem.tc_bind (.ref C)
  have hTy : (⟨h, g, d, t, os⟩ : Shared).TypeIs (.ref C) "type" := ⟨_, hC, rfl⟩
  refine codeAny_of_tree ?_
  show wpAny _ _ (callAny (.ref C) _) _ _ _
  repeat (any_goals (first | assumption | with_reducible refine wpAny_loadPart_at hC ?_ | wp_step))
  refine ⟨rfl, ?_⟩
  refine codeAny_call_builtin_at (Code.quiet_builtin _ (by decide +kernel)) entry_typeCall (wpAny_check_type_call_sub hC (type_call_key hC (PySem.W.looks_findIn KX iC) (fun self => PySem.W.bind_fn KX self tI) hr ?_))
  refine codeAny_mono q fun r s' z => ?_
  rcases r with e | (v | _ | _ | _) <;> exact z
end Ky

set_option linter.all false
set_option maxRecDepth 100000
set_option maxHeartbeats 4000000
/-! an own exception class over ValueError whose __init__ begins with super().__init__('..') -/
namespace Sup
open PySem PySem.Spec PyProof.Rows L2 NdefX
open PySem.W (kxs_mw)
section
variable {X : Cx} {pins : List (Addr × Obj)} {σ : L2.St} {H : Hp} {s : Shared} {a C u : Addr} {A : Around} {E : Value → Shared → Prop}
theorem upd_id {o : HO} (e : H a = some o) : upd H a o = H := by
  funext b
  by_cases hb : b = a
  · subst hb
    rw [upd_same]
    exact e.symm
  · exact upd_ne hb
/-- the built-in __init__ i, bound to an exception of the class at C, is called -/
def MwOk (K : PySem.W.Frag) (C : Addr) (i : String) : Prop := ∀ (prog : Program) (w : World) (A : Around) (E : Value → Shared → Prop) (h : Heap) (g : Array GenState) (d : Drawn) (t : Nat) (os : OsState) (u e t0 : Addr) (us : List Value) (Q : Value → Shared → Prop),
  K.In h → h.get? e = some (PySem.HandSPX.excO C t0) → h.get? u = some (kxs_mw i e) → us.length ≤ sizeLine →
  (∀ h' t1, (∀ b o, b ≠ e → h.get? b = some o → h'.get? b = some o) → h'.get? e = some (PySem.HandSPX.excO C t1) → Q .none ⟨h', g, d, t, os⟩) →
  wpAny (model prog w) A (call (.ref u) us) Q E ⟨h, g, d, t, os⟩
theorem mwOk_ve {K : PySem.W.Frag} (T : OexC K C) : MwOk K C "ValueError.__init__" := fun prog w A E h g d t os u e t0 us Q KX he hu hl hq => by
  obtain ⟨nm, qq, N, bs, bm, sn, sub, ab, col, dd, k0, k1, k2, k3, k5, hC, hbm⟩ := T.cls
  refine wpAny_call (codeAny_of_tree ?_)
  show wpAny _ A.in1 (callAny (.ref u) ⟨us, []⟩) _ _ _
  simp only [callAny]
  refine wpAny_bind (wpAny_load hu ?_)
  simp only [kxs_mw, show (Value.type "method-wrapper" == Value.type "method" || Value.type "method-wrapper" == Value.type "builtin_function_or_method"
    || Value.type "method-wrapper" == Value.type "method-wrapper") = true by decide, if_true]
  refine PySem.W.KFB.if_so (by decide) (wpAny_bind (ESX.check_bound PySem.F.excBase_ValueError (KX _ _ hC) he rfl (wpAny_bind (wpAny_pure (wpAny_pure ?_)))))
  refine ⟨plainId_quiet PySem.F.excBase_ValueError.init.plain _, codeAny_builtin PySem.F.excBase_ValueError.initEntry ?_⟩
  exact PySem.W.exc_init_tree (cls := .ref C) (t0 := t0) (dv := none) (c2 := .none) (c3 := .none) (b4 := .bool false) he hl (fun h' k hx _ => hq h' _ k hx)
theorem mwOk_key {K : PySem.W.Frag} (cls : ∃ nm q N bs sn sub ab col dd k0 k1 k2 k3 k5, K.lookup C = some (excClassObj nm q C N bs Ky.keTail true sn sub ab col dd k0 k1 k2 k3 k5 Ky.newK)) : MwOk K C "KeyError.__init__" :=
  fun prog w A E h g d t os u e t0 us Q KX he hu hl hq => by
  obtain ⟨nm, qq, N, bs, sn, sub, ab, col, dd, k0, k1, k2, k3, k5, hC⟩ := cls
  refine wpAny_call (codeAny_of_tree ?_)
  show wpAny _ A.in1 (callAny (.ref u) ⟨us, []⟩) _ _ _
  simp only [callAny]
  refine wpAny_bind (wpAny_load hu ?_)
  simp only [kxs_mw, show (Value.type "method-wrapper" == Value.type "method" || Value.type "method-wrapper" == Value.type "builtin_function_or_method"
    || Value.type "method-wrapper" == Value.type "method-wrapper") = true by decide, if_true]
  refine PySem.W.KFB.if_so (by decide) (wpAny_bind (Ky.chk_bound (KX _ _ hC) he rfl (wpAny_bind (wpAny_pure (wpAny_pure ?_)))))
  refine ⟨plainId_quiet Ky.initSlot.plain _, codeAny_builtin Ky.initEntry ?_⟩
  exact PySem.W.exc_init_tree (cls := .ref C) (t0 := t0) (dv := none) (c2 := .none) (c3 := .none) (b4 := .bool false) he hl (fun h' k hx _ => hq h' _ k hx)
/-- .. over the abstract heap: nothing of it is told -/
theorem call_mw {i : String} {us : List Value} {Q : Value → Shared → Prop} (M : MwOk X.K C i) (I : Inv X pins σ H s) (e : H a = some (exo a C none))
    (hu : s.heap.get? u = some (kxs_mw i a)) (hl : us.length ≤ sizeLine) (h : ∀ s', Inv X pins σ H s' → Q .none s') :
    wpAny (model X.prog X.w) A (call (.ref u) us) Q E s := by
  obtain ⟨t1, ho⟩ := exo_at I.hok e
  have KX := I.kIn
  obtain ⟨hp, g, d, t, os⟩ := s
  refine M _ _ A E hp g d t os u a t1 us Q KX ho hu hl (fun h' t2 k hx => ?_)
  have J := I.write (t' := t) (x := a) (e := a) (o := exo a C none) (by rw [e]; exact True.intro) (.inl rfl) k ⟨_, hx⟩ (exo_ok hx)
  rw [upd_id e] at J
  exact h _ J
end

/-- what the written part says of such a class at C: its cell __class__ at cc, its __init__'s code at cda -/
structure SupF (P : Program) (K : PySem.W.Frag) (B i : String) (C cc cda : Addr) : Prop where
  KF : PySem.W.KxsFacts B i
  mw : MwOk K C i
  cls : ∃ nm q N bs bm sn sub ab col dd k0 k1 k2 k3 k5 newId, K.lookup C = some (excClassObj nm q C N bs bm true sn sub ab col dd k0 k1 k2 k3 k5 newId)
  along : PySem.W.ks_superIn K C C "__init__" = some (some (.builtin i))
  subV : PySem.W.subIn K (.ref C) (.type B) = some true
  subC : PySem.W.mroIn K C (.ref C) = some true
  cell : ∃ cl cld csl, K.lookup cc = some ⟨cl, cld, .cell (some (.ref C)), csl⟩
  code : ∃ ccl cdd vs ccs file tf, K.lookup cda = some ⟨ccl, cdd, .fields vs, ccs⟩ ∧ vs[2]? = some (.str file tf) ∧ ((P.main.file : Str) == file) = true
  third : PySem.W.nsIn K PySem.cStatics "thirdparty.any" = some none
/-- super().__init__('..') -/
abbrev stSup (p0 p1 p2 p3 p4 p5 : Pos) (j : Nat) (msg : Str) : Stmt :=
  .Expr (.Call (.Attribute (.Call (.Name "super" p0) [] [] p1) "__init__" p2) [.Constant (.str msg) j p3] [] p4) p5
section
variable {CX : CXT} {P : Program} {w : World} {K : PySem.W.Frag} {mg : Str → Option Value} {base : Heap} {N ps : List Str} {F : NF} {f C cc : Addr} {A : Around} {outer : List Env} {s0 s : Shared} {H0 H : Hp} {E : XK} {σ : L2.St} {a : Addr}
theorem sup_stmt {p0 p1 p2 p3 p4 p5 : Pos} {j : Nat} {msg : Str} {body : List Stmt} {ar : Arg} {oc : Value} {od : Option Addr} {osl : Array (Option Value)} {dV kV doc pm ct : Value} {an : Option Addr}
    {B i : String} (D : SupF P K B i C cc F.c) (hcl : F.cl = [(("__class__" : Str), cc)])
    (lk : K.lookup f = some ⟨oc, od, .func (PySem.W.fnX F.name F.qual F.params F.body F.scope F.cl dV kV doc pm an (.ref F.c) ct), osl⟩)
    (hk : F.scope.kind = .function)
    (hks : F.scope.names.lookup ("super" : Str) = some .globalImplicit) (hkc : F.scope.names.lookup ("__class__" : Str) = some .free)
    (hp : (F.params.posonlyargs ++ F.params.args).head? = some ar) (h0 : N[0]? = some ar.arg) (hka : F.scope.names.lookup ar.arg = some .local)
    {pl : Sem Bool} (hev : eval (.Call (.Attribute (.Call (.Name "super" p0) [] [] p1) "__init__" p2) [.Constant (.str msg) j p3] [] p4) (envF F f s0.heap.objs.size) = (do
      let ov ← attributeBase (.Call (.Name "super" p0) [] [] p1) "__init__" (envF F f s0.heap.objs.size) (eval (.Call (.Name "super" p0) [] [] p1) (envF F f s0.heap.objs.size))
      standAt p2.atName
      let (g, first) ← holding [ov] (getMethod ov "__init__" pl)
      callWith p4 g first (backTo p4 (starEach [.Constant (.str msg) j p3] (envF F f s0.heap.objs.size))) []))
    (hsup : mg "super" = none) (htop : (P.main.scope.names.lookup ("super" : Str)).isSome = false)
    (I : Inv (ncx CX P w K mg base N F f A outer s0 H0 E) [] σ H s) (hσ : σ[0]? = some (some (.ref a))) (hH : H a = some (exo a C none)) :
    _root_.PySem.wpAt (model P w) (A.deeper (envF F f s0.heap.objs.size)) (.func body (envF F f s0.heap.objs.size)) (exec (stSup p0 p1 p2 p3 p4 p5 j msg) (envF F f s0.heap.objs.size))
      (fun fl s' => fl = .next ∧ Inv (ncx CX P w K mg base N F f A outer s0 H0 E) [] σ H s') (ncx CX P w K mg base N F f A outer s0 H0 E).xe s := by
  obtain ⟨sh, sg, sd, st, so⟩ := s
  have KX : K.In sh := I.kIn
  obtain ⟨nm, q, Nn, bs, bm, sn, sub, ab, col, dd, k0, k1, k2, k3, k5, newId, hC⟩ := D.cls
  obtain ⟨cl, cld, csl, hcell⟩ := D.cell
  obtain ⟨ccl, cdd, vs, ccs, file, tf, hcode, hvs, hfile⟩ := D.code
  obtain ⟨mb, hb1, hb2⟩ := I.mod.blt
  obtain ⟨t1, ho⟩ := exo_at I.hok hH
  obtain ⟨m, hns, hloc⟩ := I.loc
  obtain ⟨u, ru, hu⟩ := hloc 0 ar.arg (.ref a) h0 hσ (.inl hka)
  obtain rfl : u = Value.ref a := ru
  have hm : m ar.arg = some (.ref a) := by
    rcases hu with ⟨_, z⟩ | ⟨z, _⟩
    · exact z
    · have z' : F.scope.names.lookup ar.arg = some .cell ∨ F.scope.names.lookup ar.arg = some .free := z
      rw [hka] at z'
      rcases z' with z' | z' <;> cases z'
  have hclsI : PySem.W.clsIn K C = some { name := nm, bases := bs, mro := .ref C :: bm, ns := Nn, qualname := q, hasDict := true, slotNames := sn, subclasses := sub, abstract := ab, collection := col, hasDel := false } := by
    unfold PySem.W.clsIn; rw [hC] <;> rfl
  have hi : interactive (envF F f s0.heap.objs.size) = false := by
    unfold interactive
    show (F.scope.kind == _ && _) = false
    rw [hk]
    rfl
  refine PySem.ks_wpAt_Expr_any (hi := hi) (PySem.ks_wpAt_MethodCall (pl := pl) ?_ hev)
  refine PySem.ks_wpAt_super_base (env := envF F f s0.heap.objs.size) hks hkc (by decide) rfl (KX _ _ lk) rfl hp rfl (KX _ _ hcode) rfl hvs hfile htop ?_
  refine PySem.W.ks_loadName_global hk hks (PySem.Calls.loadGlobal_builtin (env := envF F f s0.heap.objs.size) (I.mod.glob.keeps I.bk) hsup (hb1.keeps I.bk)
    ((hb2 "super" (by decide)).trans (by decide +kernel : bootBuiltins "super" = some (.type "super"))) ⟨rfl, ?_⟩)
  refine wpAny_loadName_free hk hkc (show F.cl.lookup ("__class__" : Str) = some cc by rw [hcl]; rfl) ⟨_, KX _ _ hcell, rfl⟩ ?_
  refine wpAny_loadName_local hk hka hns hm ?_
  refine PySem.ks_wpAny_isType_cls (KX _ _ hC) rfl ⟨rfl, ?_⟩
  refine PySem.ks_wpAny_call_super (KX _ _ hC) rfl ho rfl (fun c e => by cases e) (PySem.W.looks_mroIn KX D.subC) (fun h' e k => ?_)
  have X' : K.In h' := KX.keeps k
  have I1 : Inv (ncx CX P w K mg base N F f A outer s0 H0 E) [] σ H ⟨h', sg, sd, st, so⟩ := I.kept k
  have hcl2 : PySem.W.clsIn K C = some { name := nm, bases := bs, mro := .ref C :: bm, ns := Nn, qualname := q, hasDict := true, slotNames := sn, subclasses := sub, abstract := ab, collection := col, hasDel := false } := hclsI
  have al := D.along
  unfold PySem.W.ks_superIn at al
  rw [hcl2] at al
  have ho' := k _ _ ho
  have It : PySem.W.InstAt h' a { cls := .ref C, dict := none, data := .fields #[.ref t1, .none, .none, .none, .bool false, .none] } C none := ⟨ho', rfl, rfl, trivial⟩
  refine PySem.W.kxs_getMethod D.KF e (PySem.W.looks_opaque X' D.third) (l₀ := .ref C :: bm)
    (fun A Q E s k q => wpAny_bind ((PySem.W.looks_clsIn X' hcl2) A _ E s k (wpAny_pure q))) rfl X' al (It.type.andThen (PySem.W.looks_subIn X' D.subV)) (PySem.W.ks_ne X' It hcl2) (by decide) ?_
  have I2 : Inv (ncx CX P w K mg base N F f A outer s0 H0 E) [] σ H ⟨h'.push (kxs_mw i a), sg, sd, st + 1, so⟩ := I1.kept (t' := st + 1) fun b o z => Heap.get?_push_of_some _ z
  have hmw : (h'.push (kxs_mw i a)).get? h'.objs.size = some (kxs_mw i a) := Heap.get?_push_at rfl rfl
  have hargs : PA (ncx CX P w K mg base N F f A outer s0 H0 E) [.Constant (.str msg) j p3] (tCons (tC (.str msg)) tNil) := pa_cons pe_str pa_nil
  have I3 : Inv (ncx CX P w K mg base N F f A outer s0 H0 E) [(h'.objs.size, kxs_mw i a)] σ H ⟨h'.push (kxs_mw i a), sg, sd, st + 1, so⟩ :=
    I2.pins_of fun p hp => by
      obtain rfl := List.mem_singleton.mp hp
      exact ⟨hmw, I1.hok.fresh (Nat.le_refl _), Nat.ne_of_gt I1.lt, I1.nofs (Nat.le_refl _), fun v z => by cases z⟩
  have hrun := hargs.run p4 [(h'.objs.size, kxs_mw i a)] ⟨h'.push (kxs_mw i a), sg, sd, st + 1, so⟩ σ H (fun vs H1 => vs = [.str msg] ∧ H1 = H) I3 ⟨rfl, rfl⟩
  show wpAny _ _ (callWith p4 (.ref h'.objs.size) [] (backTo p4 ((false, _) :: [])) []) _ _ _
  refine PySem.W.kxs_callWith (i := i) (x := a) rfl (PySem.Calls.evalArgs_plain (wpAny_mono hrun (fun us s1 hh => ?_) fun _ _ z => z))
  obtain ⟨vs, H1, J, r, rfl, rfl⟩ := hh
  have pin := (J.pin (h'.objs.size, kxs_mw i a) (by simp)).1
  refine ⟨pin, ?_⟩
  refine call_mw (X := ncx CX P w K mg base N F f A outer s0 H0 E) (u := h'.objs.size) D.mw J hH pin ?_ fun s' J' => ⟨rfl, J'.pins_of fun p hp => absurd hp (by simp)⟩
  show us.length ≤ sizeLine
  rw [← r.length, sizeLine_eq]
  show 1 ≤ 16777216
  decide
/-- THE RULE: such an __init__, by what stands behind its first row -/
theorem ok_sup {sp : Sp} {k : Nat} {p0 p1 p2 p3 p4 p5 : Pos} {j : Nat} {msg : Str} {rest : List Stmt} {ar : Arg} {oc : Value} {od : Option Addr} {osl : Array (Option Value)} {dV kV doc pm ct : Value} {an : Option Addr}
    {B i : String} (D : SupF P K B i C cc F.c) (hcl : F.cl = [(("__class__" : Str), cc)]) (hbd : F.body = stSup p0 p1 p2 p3 p4 p5 j msg :: rest)
    (lk : K.lookup f = some ⟨oc, od, .func (PySem.W.fnX F.name F.qual F.params F.body F.scope F.cl dV kV doc pm an (.ref F.c) ct), osl⟩)
    (hcd : PySem.W.codeIn K (.ref F.c) F.qual = true) (S : NdefX.NScope N ps ["__class__"] F.scope)
    (hks : F.scope.names.lookup ("super" : Str) = some .globalImplicit)
    (hp : (F.params.posonlyargs ++ F.params.args).head? = some ar) (h0 : N[0]? = some ar.arg) (hka : F.scope.names.lookup ar.arg = some .local)
    (hev : ∀ L : Addr, ∃ pl : Sem Bool, eval (.Call (.Attribute (.Call (.Name "super" p0) [] [] p1) "__init__" p2) [.Constant (.str msg) j p3] [] p4) (envF F f L) = (do
      let ov ← attributeBase (.Call (.Name "super" p0) [] [] p1) "__init__" (envF F f L) (eval (.Call (.Name "super" p0) [] [] p1) (envF F f L))
      standAt p2.atName
      let (g, first) ← holding [ov] (getMethod ov "__init__" pl)
      callWith p4 g first (backTo p4 (starEach [.Constant (.str msg) j p3] (envF F f L))) []))
    (hsup : mg "super" = none) (htop : (P.main.scope.names.lookup ("super" : Str)).isSome = false)
    (len : ∀ vs H Q E, sp vs H Q E → vs.length = ps.length)
    (self : ∀ vs H Q E, sp vs H Q E → ∃ a r, vs = .ref a :: r ∧ H a = some (exo a C none))
    (hbody : ∀ (A : Around) (outer : List Env) (s : Shared) (H : Hp) (vs : List V) (Q : VK) (E : XK), Room k (A.deeper (envF F f s.heap.objs.size)) → sp vs H Q E →
      ∃ t, PSs (ncx CX P w K mg base N F f A outer s H E) rest t ∧ t { nx := fun _ H' => Q .non H', rt := Q } (startF N vs [none]) H) :
    FnOk P w K mg base CX (k + 1) f (PySem.W.fnX F.name F.qual F.params F.body F.scope F.cl dV kV doc pm an (.ref F.c) ct) ps sp := by
  refine ⟨len, fun A outer s H args us vs Q E hr e0 hb r hsp => ?_⟩
  have hl := len _ _ _ _ hsp
  have KX : K.In s.heap := e0.mod.kin.keeps fun b o e => (e0.bs b o e).1
  have lim : s.heap.NoLimit := e0.mod.nolimit.keeps fun b o e => (e0.bs b o e).1
  obtain ⟨cl, cld, csl, hcell⟩ := D.cell
  have hcn : H cc = none := (e0.bs _ _ (e0.mod.kin _ _ hcell)).2
  have CA : NdefX.CellsAt F.cl ["__class__"] [none] s.heap H := by
    rw [hcl]
    have one : ∀ y c, List.lookup y [(("__class__" : Str), cc)] = some c → y = ("__class__" : Str) ∧ c = cc := fun y c h => by
      have z := PySem.mem_of_lookup h
      have z' := List.mem_singleton.mp z
      exact ⟨congrArg Prod.fst z', congrArg Prod.snd z'⟩
    refine ⟨rfl, fun y c h => ?_, fun x y c h1 h2 => (one _ _ h1).1.trans (one _ _ h2).1.symm, fun i y h => ?_⟩
    · obtain ⟨_, rfl⟩ := one _ _ h
      exact ⟨hcn, some (.ref C), _, KX _ _ hcell, rfl⟩
    · match i, h with
      | 0, h =>
        obtain rfl : ("__class__" : Str) = y := Option.some.inj h
        exact ⟨cc, rfl, fun v z => by cases z⟩
  obtain ⟨t, ht, hq⟩ := hbody A outer s H vs Q E (hr.deeper _) hsp
  obtain ⟨a, rr, hva, hHa⟩ := self _ _ _ _ hsp
  obtain ⟨pl, hpl⟩ := hev s.heap.objs.size
  refine PySem.ks_codeAny_call_defAt (fd := PySem.W.fnX F.name F.qual F.params F.body F.scope F.cl dV kV doc pm an (.ref F.c) ct) (body := F.body) (binds := ps.zip us)
    hr.depth (KX _ _ lk) rfl lim (PySem.W.codeRec_of KX hcd) rfl hb S.nocell (fun ⟨n, _⟩ hy => S.par n (List.of_mem_zip hy).1) (fun h₁ hns kp => ?_) S.co S.gen S.kind
  have I : Inv (ncx CX P w K mg base N F f A outer s H E) [] (startF N vs [none]) H { s with heap := h₁, toks := s.toks + (ps.zip us).length } := inv_startN S hr.hd e0 hl r CA hns kp
  rw [hbd]
  have first := sup_stmt (p5 := p5) (body := stSup p0 p1 p2 p3 p4 p5 j msg :: rest) (CX := CX) (outer := outer) (E := E) D hcl lk S.kind hks (S.frk _ (by simp)) hp h0 hka hpl hsup htop I (a := a) (by rw [hva]; rfl) hHa
  refine PySem.ks_wpAt_execs_cons (PySem.ks_wpAt_mono first (fun fl s' hh => ?_) fun _ _ z => z)
  obtain ⟨rfl, J⟩ := hh
  refine wpAt_of_wpAny ?_
  refine wpAny_mono (ht.run [] s' (startF N vs [none]) H _ J hq) (fun fl s' hs => ?_) fun e s' hs => hs
  have fin : ∀ {σ' : L2.St} {H' : Hp} {v : V} {u : Value}, Inv (ncx CX P w K mg base N F f A outer s H E) [] σ' H' s' → L2.RelV v u → Q v H' → CE outer P w H s Q u s' :=
    fun {σ' H' v u} J rv q => ⟨v, H', J.os, J.bare, J.base, J.hok, rv, q⟩
  cases fl with
  | ret u =>
    obtain ⟨v, σ', H', J, rv, q⟩ := hs
    exact fin J rv q
  | next =>
    obtain ⟨σ', H', J, q⟩ := hs
    exact fin (v := V.non) (u := Value.none) J rfl q
  | brk =>
    obtain ⟨_, _, _, q⟩ := hs
    exact False.elim q
  | cont =>
    obtain ⟨_, _, _, q⟩ := hs
    exact False.elim q
end
end Sup

set_option linter.all false
set_option maxRecDepth 100000
set_option maxHeartbeats 8000000
namespace Gx
open PySem PySem.Spec PyProof.Rows L2
/-! what hangs on no program's top: texts, words, events, boxes, promises -/
structure Nm (mg : Str → Option Value) : Prop where
  n_len : mg "len" = none
  n_abs : mg "abs" = none
  n_int : mg "int" = none
def BoxAt (H : Hp) (p : Addr) (m : Nat) : Prop := ∃ c sd n : Int, H p = some (.lst [.int c, .int sd, .int n]) ∧ 0 ≤ c ∧ 0 < sd ∧ sd ≤ 2147483629 ∧ 0 ≤ n ∧ n ≤ m
def spTake : Sp := fun vs H Q _ => ∃ (p : Addr) (many : Int) (m : Nat), vs = [.ref p, .int many] ∧ BoxAt H p m ∧ m ≤ 1000000 ∧ 0 < many ∧ many < 1073741824 ∧
  ∀ (d : Int) (H' : Hp), 0 ≤ d → d < many → BoxAt H' p (m + 1) → (∀ b, b ≠ p → H' b = H b) → Q (.int d) H'
def spBox (K : PySem.W.Frag) : Sp := fun vs H Q _ => ∃ (l : Addr) (ns : List Int) (k own : Nat), vs = [.ref l, .int (k : Int), .int (own : Int)] ∧ SqL K H l (ns.map V.int) ∧ k ≤ 1000 ∧ own ≤ 1000 ∧
  ∀ (p : Addr) (H' : Hp), H p = none → Same H H' → BoxAt H' p 0 → Q (.ref p) H'
theorem atInt {ns : List Int} {j : Nat} (h : j < ns.length) : atI (ns.map V.int) (j : Int) = some (.int ns[j]) := by
  apply atI_nat
  rw [List.getElem?_map, List.getElem?_eq_getElem h]
  rfl
theorem abs_nn (i : Int) : 0 ≤ (if i < 0 then -i else i) := by split <;> omega
theorem new_same {H : Hp} {p : Addr} {o : HO} (h : H p = none) : Same H (upd H p o) := fun b x e => by
  rw [upd_ne (ne_of_none e h)]
  exact e
theorem sIx {i : Int} {n : Nat} (h0 : 0 ≤ i) (h1 : i < (n : Nat)) : seqIndex? i n = some i.toNat := by
  unfold seqIndex?
  have h : ¬ i < 0 := by omega
  simp only [h, if_false]
  rw [if_pos (by rw [Bool.and_eq_true]; exact ⟨decide_eq_true h0, decide_eq_true h1⟩)]
structure NmM (mg : Str → Option Value) (K : PySem.W.Frag) (ft : Addr) : Prop where
  g__law_take : mg "_law_take" = some (.ref ft)
  k__law_take : PySem.W.keepIn K (.ref ft) = true
  n_list : mg "list" = none
  n_range : mg "range" = none
  n_len : mg "len" = none
def spMixed (K : PySem.W.Frag) : Sp := fun vs H Q _ => ∃ (p l : Addr) (xs : List V) (m : Nat), vs = [.ref p, .ref l] ∧ BoxAt H p m ∧ SqL K H l xs ∧ xs.length ≤ 100 ∧ m ≤ 10000 ∧
  ∀ (r : Addr) (ys : List V) (H' : Hp), H r = none → H' r = some (.lst ys) → ys.length = xs.length → (∀ y ∈ ys, y ∈ xs) → BoxAt H' p (m + xs.length) → (∀ b o, b ≠ p → H b = some o → H' b = some o) → Q (.ref r) H'
def repS (c n : Nat) : Str := ⟨(List.replicate n c).toArray⟩
theorem fold_rep (c : Nat) : ∀ (n : Nat) (a : Array Nat), (List.replicate n #[c]).foldl (· ++ ·) a = a ++ (List.replicate n c).toArray
  | 0, a => by simp
  | n + 1, a => by
    rw [List.replicate_succ, List.foldl_cons, fold_rep c n, List.replicate_succ]
    apply Array.ext'
    simp
def rRepS : R2 := fun x y H Q => ∃ (c n : Nat), x = .str ⟨#[c]⟩ ∧ y = .int (n : Nat) ∧ 1 ≤ n ∧ n ≤ 1000 ∧ Q (.str (repS c n)) H
theorem op_repS {X : Cx} : OpR X (binaryOp .Mult) rRepS := by
  intro pins s σ H x y v u Q I rx ry h
  obtain ⟨c, n, rfl, rfl, h1, h2, q⟩ := h
  obtain ⟨t, rfl⟩ := rx
  obtain ⟨t', rfl⟩ := ry
  have hl : (⟨#[c]⟩ : Str).length = 1 := rfl
  refine PySem.P.mul_str ?_ ?_ ?_ ?_
  · rw [decide_eq_false (by omega), decide_eq_false (by omega)]
    rfl
  · intro _ _
    rw [hl]
    have : (0 : Int) < (n : Nat) := by omega
    intro hh
    have h3 : ((2 : Int) ^ 63 - 1) / (n : Nat) < 1 := by exact hh
    have h4 : ((2 : Int) ^ 63 - 1) < 1 * (n : Nat) := (Int.ediv_lt_iff_lt_mul this).mp h3
    omega
  · intro _ _
    rw [hl, Int.toNat_natCast, Nat.one_mul]
    unfold PySem.Builtin.Str.tooLong
    exact decide_eq_false (by rw [sizeLine_eq]; omega)
  · rw [if_neg (by omega)]
    split
    · rename_i hc
      have e1 : n = 1 := by
        simp [hl] at hc
        omega
      subst e1
      exact ⟨.str (repS c 1), H, I.tok _, ⟨_, rfl⟩, q⟩
    · rw [Int.toNat_natCast, show (List.replicate n (⟨#[c]⟩ : Str).cps).foldl (· ++ ·) #[] = (List.replicate n c).toArray from by rw [fold_rep]; simp]
      exact ⟨by show (List.replicate n c).toArray.size ≤ sizeLine; rw [List.size_toArray, List.length_replicate, sizeLine_eq]; omega, .str (repS c n), H, I.tok _, ⟨_, rfl⟩, q⟩
def nameB (z : Str) : Bool := decide (0 < z.cps.size) && (decide (z.cps.size < 9) && (z.cps.toList.all (fun c => decide (97 ≤ c) && decide (c ≤ 122)) && (!decide (z = "any") && (!decide (z = "other") && !decide (z = "where")))))
theorem repS_size (c n : Nat) : (repS c n).cps.size = n := by
  show (List.replicate n c).toArray.size = n
  rw [List.size_toArray, List.length_replicate]
theorem repS_ne {c n : Nat} {z : Str} {i j a b : Nat} (hi : z.cps[i]? = some a) (hj : z.cps[j]? = some b) (hab : a ≠ b) : repS c n ≠ z := fun e => by
  subst e
  have h1 : (List.replicate n c)[i]? = some a := by rw [← List.getElem?_toArray]; exact hi
  have h2 : (List.replicate n c)[j]? = some b := by rw [← List.getElem?_toArray]; exact hj
  have e1 := List.eq_of_mem_replicate (List.mem_of_getElem? h1)
  have e2 := List.eq_of_mem_replicate (List.mem_of_getElem? h2)
  exact hab (e1.trans e2.symm)
theorem nameB_rep {c n : Nat} (h0 : 97 ≤ c) (h1 : c ≤ 122) (h2 : 1 ≤ n) (h3 : n ≤ 8) : nameB (repS c n) = true := by
  unfold nameB
  rw [repS_size]
  simp only [Bool.and_eq_true, decide_eq_true_eq, Bool.not_eq_true', decide_eq_false_iff_not]
  refine ⟨by omega, by omega, ?_, ?_, ?_, ?_⟩
  · rw [List.all_eq_true]
    intro x hx
    have e : x = c := List.eq_of_mem_replicate (show x ∈ List.replicate n c from hx)
    rw [e, Bool.and_eq_true]
    exact ⟨decide_eq_true h0, decide_eq_true h1⟩
  · exact repS_ne (i := 0) (j := 1) (a := 97) (b := 110) (by decide +kernel) (by decide +kernel) (by decide)
  · exact repS_ne (i := 0) (j := 1) (a := 111) (b := 116) (by decide +kernel) (by decide +kernel) (by decide)
  · exact repS_ne (i := 0) (j := 1) (a := 119) (b := 104) (by decide +kernel) (by decide +kernel) (by decide)
theorem BoxAt.le {H : Hp} {p : Addr} {m m' : Nat} (h : BoxAt H p m) (k : m ≤ m') : BoxAt H p m' := by
  obtain ⟨c, sd, n, e, a, b, d, f, g⟩ := h
  exact ⟨c, sd, n, e, a, b, d, f, by omega⟩
theorem BoxAt.mono {H H' : Hp} {p : Addr} {m : Nat} (h : BoxAt H p m) (s : Same H H') : BoxAt H' p m := by
  obtain ⟨c, sd, n, e, a⟩ := h
  exact ⟨c, sd, n, s _ _ e, a⟩
theorem BoxAt.ne {H : Hp} {p q : Addr} {m : Nat} (h : BoxAt H p m) (n : H q = none) : p ≠ q := fun z => by
  obtain ⟨_, _, _, e, _⟩ := h
  rw [z, n] at e
  cases e
theorem letters_at : ∀ i, i < 26 → ("abcdefghijklmnopqrstuvwxyz" : Str).cps.toList[i]? = some (97 + i) := by decide +kernel
theorem keep1' {σ : L2.St} {H : Hp} {A B : Hp → Prop} (h : A H) : tYes σ H (fun b H3 => if b = true then A H3 else B H3) := by
  show (if true = true then A H else B H)
  rw [if_pos rfl]
  exact h
structure NmN (mg : Str → Option Value) (K : PySem.W.Frag) (ft fx : Addr) : Prop where
  g__law_take : mg "_law_take" = some (.ref ft)
  k__law_take : PySem.W.keepIn K (.ref ft) = true
  g__law_mixed : mg "_law_mixed" = some (.ref fx)
  k__law_mixed : PySem.W.keepIn K (.ref fx) = true
  n_int : mg "int" = none
  n_range : mg "range" = none
def spNames : Sp := fun vs H Q _ => ∃ (p : Addr) (many m : Nat), vs = [.ref p, .int (many : Nat)] ∧ BoxAt H p m ∧ m ≤ 1000 ∧ 1 ≤ many ∧ many ≤ 8 ∧
  ∀ (r : Addr) (zs : List Str) (H' : Hp), H r = none → H' r = some (.lst (zs.map V.str)) → zs.length = many → (∀ z ∈ zs, nameB z = true) → BoxAt H' p (m + 20) → (∀ b o, b ≠ p → H b = some o → H' b = some o) → Q (.ref r) H'
abbrev Ev := Option (Str × Nat)
def evV : Ev → List V
  | none => [.str "close"]
  | some (z, m) => [.str "open", .str z, .int (m : Nat)]
def evD : Ev → PyData
  | none => .tuple [.str "close"]
  | some (z, m) => .tuple [.str "open", .str z, .int (m : Nat)]
def EvOk : Ev → Prop
  | none => True
  | some (z, m) => nameB z = true ∧ m < 10 ^ 9
def EvAt (H : Hp) (v : V) (e : Ev) : Prop := ∃ a, v = .ref a ∧ H a = some (.tup (evV e))
inductive EvsAt (H : Hp) : List V → List Ev → Prop
  | nil : EvsAt H [] []
  | cons {v : V} {vs : List V} {e : Ev} {es : List Ev} : EvAt H v e → EvsAt H vs es → EvsAt H (v :: vs) (e :: es)
theorem EvAt.mono {H H' : Hp} {v : V} {e : Ev} (h : EvAt H v e) (s : ∀ a xs, H a = some (.tup xs) → H' a = some (.tup xs)) : EvAt H' v e := by
  obtain ⟨a, rfl, ha⟩ := h
  exact ⟨a, rfl, s _ _ ha⟩
theorem EvsAt.mono {H H' : Hp} {vs : List V} {es : List Ev} (h : EvsAt H vs es) (s : ∀ a xs, H a = some (.tup xs) → H' a = some (.tup xs)) : EvsAt H' vs es := by
  induction h with
  | nil => exact .nil
  | cons a _ ih => exact .cons (a.mono s) ih
theorem EvsAt.snoc {H : Hp} {vs : List V} {es : List Ev} {v : V} {e : Ev} (h : EvsAt H vs es) (k : EvAt H v e) : EvsAt H (vs ++ [v]) (es ++ [e]) := by
  induction h with
  | nil => exact .cons k .nil
  | cons a _ ih => exact .cons a ih
theorem EvsAt.length {H : Hp} {vs : List V} {es : List Ev} (h : EvsAt H vs es) : vs.length = es.length := by
  induction h with
  | nil => rfl
  | cons _ _ ih => rw [List.length_cons, List.length_cons, ih]
theorem EvsAt.get {H : Hp} {vs : List V} {es : List Ev} (h : EvsAt H vs es) : ∀ {i : Nat} {v : V}, vs[i]? = some v → ∃ e, es[i]? = some e ∧ EvAt H v e := by
  induction h with
  | nil => intro i v hv; simp at hv
  | cons a _ ih =>
    intro i v hv
    cases i with
    | zero =>
      have z := Option.some.inj hv
      exact ⟨_, rfl, by rw [← z]; exact a⟩
    | succ i => exact ih hv
theorem keepT {H H' : Hp} {p : Addr} {m : Nat} (hb : BoxAt H p m) (k : ∀ b o, b ≠ p → H b = some o → H' b = some o) : ∀ a xs, H a = some (.tup xs) → H' a = some (.tup xs) := fun a xs e => k a _ (fun z => by
  obtain ⟨_, _, _, e2, _⟩ := hb
  rw [z, e2] at e
  cases e) e
structure NmR (mg : Str → Option Value) (K : PySem.W.Frag) (ft : Addr) : Prop where
  g__law_take : mg "_law_take" = some (.ref ft)
  k__law_take : PySem.W.keepIn K (.ref ft) = true
  n_range : mg "range" = none
  n_len : mg "len" = none
def spRow : Sp := fun vs H Q _ => ∃ (p l : Addr) (zs : List Str) (m : Nat), vs = [.ref p, .ref l] ∧ BoxAt H p m ∧ H l = some (.lst (zs.map V.str)) ∧ 1 ≤ zs.length ∧ zs.length ≤ 100 ∧ (∀ z ∈ zs, nameB z = true) ∧ m ≤ 10000 ∧
  ∀ (r : Addr) (vs' : List V) (es : List Ev) (H' : Hp), H r = none → H' r = some (.lst vs') → EvsAt H' vs' es → es.length ≤ 20 → (∀ e ∈ es, EvOk e) → BoxAt H' p (m + 100) → (∀ b o, b ≠ p → H b = some o → H' b = some o) → Q (.ref r) H'
def wordS : Ev → Str
  | none => "/"
  | some (z, m) => z ++ ":" ++ (toString ((m : Nat) : Int) : String)
def textS (es : List Ev) : Str := Txt.join " " (es.map wordS)
theorem num_len {m : Nat} (h : m < 10 ^ 9) : ((toString ((m : Nat) : Int) : String) : Str).length ≤ 9 := by
  have e := TL.numL_len (n := m) (k := 9) (by decide) h
  rw [← TL.tl_num] at e
  exact e
theorem name_len {z : Str} (h : nameB z = true) : z.length ≤ 8 := by
  unfold nameB at h
  simp only [Bool.and_eq_true, decide_eq_true_eq] at h
  have := h.2.1
  show z.cps.size ≤ 8
  omega
theorem len_app (x y : Str) : (x ++ y).length = x.length + y.length := by
  show (x.cps ++ y.cps).size = _
  rw [Array.size_append]
  rfl
theorem word_len {e : Ev} (h : EvOk e) : (wordS e).length ≤ 18 := by
  match e, h with
  | none, _ => exact (by decide +kernel : ("/" : Str).length ≤ 18)
  | some (z, m), h =>
    have h1 := name_len h.1
    have h2 := num_len h.2
    have h3 : (":" : Str).length = 1 := by decide +kernel
    show (z ++ ":" ++ _).length ≤ 18
    rw [len_app, len_app]
    omega
theorem words_len : ∀ {es : List Ev}, (∀ e ∈ es, EvOk e) → ((es.map wordS).map (·.length)).sum ≤ 18 * es.length
  | [], _ => Nat.zero_le _
  | e :: es, h => by
    have h1 := word_len (h e (List.mem_cons_self ..))
    have h2 := words_len (es := es) fun x hx => h x (List.mem_cons_of_mem _ hx)
    rw [List.map_cons, List.map_cons, List.sum_cons, List.length_cons]
    omega
theorem take_snoc {α : Type} {l : List α} {i : Nat} {x : α} (h : l[i]? = some x) : l.take (i + 1) = l.take i ++ [x] := by
  rw [List.take_add_one, h]
  rfl
structure NmT (mg : Str → Option Value) : Prop where
  n_len : mg "len" = none
  n_str : mg "str" = none
def rLenK (K : PySem.W.Frag) : List V → Hp → VK → Prop := fun xs H Q => ∃ p ys, xs = [.ref p] ∧ (SqL K H p ys ∨ SqT K H p ys) ∧ Q (.int ys.length) H
def rAddStr : R2 := fun x y H Q => ∃ i j, x = .str i ∧ y = .str j ∧ i.length + j.length ≤ sizeLine ∧ Q (.str (i ++ j)) H
def rStrI : List V → Hp → VK → Prop := fun xs H Q => ∃ i, xs = [.int i] ∧ i.natAbs.log2 < 1920 ∧ Q (.str (toString i)) H
def teText (K : PySem.W.Frag) : TE := tIf (tTest (tOp (rI0 fun i j => .bl (decide (j < i))) (tCB (rLenK K) (tCons (tVar 1) tNil)) (tC (.int 1)))) (tOp rAddStr (tOp rAddStr (tOp (rIxT K) (tVar 1) (tC (.int 1))) (tC (.str ":"))) (tCB rStrI (tCons (tOp (rIxT K) (tVar 1) (tC (.int 2))) tNil))) (tC (.str "/"))
def spText : Sp := fun vs H Q _ => ∃ (r : Addr) (vs' : List V) (es : List Ev), vs = [.ref r] ∧ H r = some (.lst vs') ∧ EvsAt H vs' es ∧ es.length ≤ 1000 ∧ (∀ e ∈ es, EvOk e) ∧ ∀ H' : Hp, Same H H' → Q (.str (textS es)) H'
def Asc (z : Str) : Prop := ∀ c ∈ z.cps.toList, c < 256
theorem in3 (z a b c : Str) : inV (.str z) [.str a, .str b, .str c] = (decide (a = z) || (decide (b = z) || decide (c = z))) := by
  show ((a == z) || ((b == z) || ((c == z) || false))) = _
  rw [Bool.or_false]
  rfl
theorem depth_strs : ∀ ss : List Str, PyData.depthAll (ss.map PyData.str) = 0
  | [] => rfl
  | x :: ss => by
    rw [List.map_cons]
    unfold PyData.depthAll
    rw [depth_strs ss]
    rfl
theorem shaped_strs {ss : List Str} (h : ∀ z ∈ ss, Asc z) : SeqAt.shaped (.list (ss.map PyData.str)) = true := by
  unfold SeqAt.shaped
  rw [Bool.and_eq_true]
  refine ⟨?_, decide_eq_true ?_⟩
  · show PyData.canLayAll0 _ = true
    rw [canLayAll_strs', List.all_eq_true]
    intro z hz
    show z.cps.all _ = true
    rw [← Array.all_toList, List.all_eq_true]
    intro c hc
    have := h z hz c hc
    exact decide_eq_true (by omega)
  · unfold PyData.depth
    rw [depth_strs]
    decide
theorem dp_strs {K : PySem.W.Frag} {H : Hp} : ∀ ss : List Str, DpAll K H (ss.map V.str) (ss.map PyData.str)
  | [] => .nil
  | x :: ss => .cons (.str x) (dp_strs ss)
theorem eqv_nil (ss : List Str) : PyData.eqv (.list (ss.map PyData.str)) (.list []) = ss.isEmpty := by
  cases ss with
  | nil => rfl
  | cons x ss => rfl
def signs (L : List Nat) : List Str := L.map fun c => ⟨#[c]⟩
theorem nameB_eq (z : Str) : nameB z = (!(decide ("any" = z) || (decide ("other" = z) || decide ("where" = z))) && (decide (0 < z.length) && (decide (z.length < 9) && z.cps.toList.all fun c => decide (97 ≤ c) && decide (c ≤ 122)))) := by
  unfold nameB
  have e1 : decide (z = "any") = decide ("any" = z) := decide_eq_decide.mpr eq_comm
  have e2 : decide (z = "other") = decide ("other" = z) := decide_eq_decide.mpr eq_comm
  have e3 : decide (z = "where") = decide ("where" = z) := decide_eq_decide.mpr eq_comm
  rw [e1, e2, e3]
  show (decide (0 < z.length) && (decide (z.length < 9) && _)) = _
  generalize decide (0 < z.length) = a
  generalize decide (z.length < 9) = b
  generalize (z.cps.toList.all fun c => decide (97 ≤ c) && decide (c ≤ 122)) = c
  generalize decide ("any" = z) = x
  generalize decide ("other" = z) = y
  generalize decide ("where" = z) = u
  cases a <;> cases b <;> cases c <;> cases x <;> cases y <;> cases u <;> rfl
theorem letters_mem (c : Nat) : (c ∈ ("abcdefghijklmnopqrstuvwxyz" : Str).cps.toList) ↔ 97 ≤ c ∧ c ≤ 122 := by
  constructor
  · intro h
    exact (by decide +kernel : ∀ x ∈ ("abcdefghijklmnopqrstuvwxyz" : Str).cps.toList, 97 ≤ x ∧ x ≤ 122) c h
  · intro ⟨h1, h2⟩
    have h := letters_at (c - 97) (by omega)
    rw [show 97 + (c - 97) = c from by omega] at h
    exact List.mem_of_getElem? h
theorem filter_nil {L : List Nat} {p q : Nat → Bool} (h : ∀ c ∈ L, p c = !q c) : (signs (L.filter p)).isEmpty = L.all q := by
  induction L with
  | nil => rfl
  | cons c L ih =>
    rw [List.filter_cons, List.all_cons]
    have hc := h c (List.mem_cons_self ..)
    have := ih fun x hx => h x (List.mem_cons_of_mem _ hx)
    cases hq : q c with
    | true =>
      rw [hq] at hc
      rw [hc]
      exact this
    | false =>
      rw [hq] at hc
      rw [hc]
      rfl
def spIs (B : Str → Bool) : Sp := fun vs H Q _ => ∃ z : Str, vs = [.str z] ∧ z.length ≤ 1000 ∧ Asc z ∧ ∀ H' : Hp, Same H H' → Q (.bl (B z)) H'
def ttNot (j : Nat) : TT := tTest (tOp (fun x y H Q => ∃ (c : Nat) (z : Str), x = .str ⟨#[c]⟩ ∧ y = .str z ∧ Q (.bl (!decide (c ∈ z.cps.toList))) H) (tVar 2) (tVar 1))
def figB (z : Str) : Bool := decide (0 < z.length) && (decide (z.length < 13) && ((z.cps.toList.all fun c => decide (48 ≤ c) && decide (c ≤ 57)) && (decide (z = "0") || !decide (z.cps.toList[0]? = some 48))))
theorem digits_mem (c : Nat) : (c ∈ ("0123456789" : Str).cps.toList) ↔ 48 ≤ c ∧ c ≤ 57 := by
  constructor
  · intro h
    exact (by decide +kernel : ∀ x ∈ ("0123456789" : Str).cps.toList, 48 ≤ x ∧ x ≤ 57) c h
  · intro ⟨h1, h2⟩
    have h := (by decide +kernel : ∀ i, i < 10 → ("0123456789" : Str).cps.toList[i]? = some (48 + i)) (c - 48) (by omega)
    rw [show 48 + (c - 48) = c from by omega] at h
    exact List.mem_of_getElem? h
def ttDig : TT := tTest (tOp (fun x y H Q => ∃ (c : Nat) (z : Str), x = .str ⟨#[c]⟩ ∧ y = .str z ∧ Q (.bl (!decide (c ∈ z.cps.toList))) H) (tVar 1) (tC (.str "0123456789")))
def mkS (L : List Nat) : Str := ⟨L.toArray⟩
def cut : List Nat → Option (List Nat × List Nat)
  | [] => none
  | c :: r => if c = 58 then some ([], r) else (cut r).map fun p => (c :: p.1, p.2)
theorem cut_some : ∀ {L a b : List Nat}, cut L = some (a, b) → L = a ++ 58 :: b ∧ 58 ∉ a
  | [], _, _, h => by cases h
  | c :: r, a, b, h => by
    unfold cut at h
    by_cases hc : c = 58
    · rw [if_pos hc] at h
      cases h
      exact ⟨by rw [hc]; rfl, by simp⟩
    · rw [if_neg hc] at h
      obtain ⟨p, hp, e⟩ := Option.map_eq_some_iff.mp h
      cases e
      obtain ⟨h1, h2⟩ := cut_some (L := r) (a := p.1) (b := p.2) hp
      refine ⟨by rw [h1]; rfl, fun hm => ?_⟩
      rcases List.mem_cons.mp hm with hm | hm
      · exact hc hm.symm
      · exact h2 hm
theorem cut_none : ∀ {L : List Nat}, cut L = none → 58 ∉ L
  | [], _ => by simp
  | c :: r, h => by
    unfold cut at h
    by_cases hc : c = 58
    · rw [if_pos hc] at h
      cases h
    · rw [if_neg hc] at h
      have h1 := cut_none (L := r) (Option.map_eq_none_iff.mp h)
      intro hm
      rcases List.mem_cons.mp hm with hm | hm
      · exact hc hm.symm
      · exact h1 hm
theorem colon : (":" : Str) = ⟨#[58]⟩ := by decide +kernel
theorem find_cut (z : Str) : (cut z.cps.toList = none ∧ Txt.find z ":" = -1) ∨ ∃ a b, cut z.cps.toList = some (a, b) ∧ Txt.find z ":" = (a.length : Nat) := by
  rw [colon]
  unfold Txt.find
  have at_iff : ∀ i, PySem.StrLaws.At z ⟨#[58]⟩ z.length i ↔ z.cps.toList[i]? = some 58 := fun i => PySem.StrLaws.subAt_one z 58 i
  rcases PySem.StrLaws.occ_head z ⟨#[58]⟩ 1 (by decide) with ⟨h0, hn⟩ | ⟨i, r, h0, hi, hk⟩
  · rw [h0]
    refine .inl ⟨?_, rfl⟩
    cases hc : cut z.cps.toList with
    | none => rfl
    | some p =>
      obtain ⟨h1, _⟩ := cut_some (a := p.1) (b := p.2) hc
      exact absurd ((at_iff p.1.length).mpr (by rw [h1]; simp)) (hn _)
  · rw [h0]
    have hi' := (at_iff i).mp hi
    cases hc : cut z.cps.toList with
    | none => exact absurd (List.mem_of_getElem? hi') (cut_none hc)
    | some p =>
      obtain ⟨h1, h2⟩ := cut_some (a := p.1) (b := p.2) hc
      refine .inr ⟨p.1, p.2, rfl, ?_⟩
      show ((i : Nat) : Int) = _
      have e : i = p.1.length := by
        rcases Nat.lt_trichotomy i p.1.length with h | h | h
        · rw [h1, List.getElem?_append_left h] at hi'
          exact absurd (List.mem_of_getElem? hi') h2
        · exact h
        · exact absurd ((at_iff p.1.length).mpr (by rw [h1]; simp)) (hk _ h)
      rw [e]
def evOf (z : Str) : Option Ev := if z = "/" then some none else match cut z.cps.toList with
  | none => none
  | some (a, b) => if (nameB (mkS a) && figB (mkS b)) = true then some (some (mkS a, NumText.digitsVal b)) else none
def OptAt (H : Hp) (v : V) : Option Ev → Prop
  | none => v = .non
  | some e => EvAt H v e
def spEvent : Sp := fun vs H Q _ => ∃ z : Str, vs = [.str z] ∧ z.length ≤ 1000 ∧ Asc z ∧ ∀ (v : V) (H' : Hp), Same H H' → OptAt H' v (evOf z) → Q v H'
theorem mkS_len (L : List Nat) : (mkS L).length = L.length := rfl
theorem cut_lo {z : Str} {a b : List Nat} (h : z.cps.toList = a ++ 58 :: b) : cutS z none (some ((a.length : Nat) : Int)) = mkS a := by
  unfold cutS mkS
  rw [HT.sIx_none, HT.sIx_nat, List.drop_zero, Nat.sub_zero]
  have hl : z.length = a.length + (b.length + 1) := by
    show z.cps.toList.length = _
    rw [h, List.length_append, List.length_cons]
  rw [hl, Nat.min_eq_left (by omega), h, List.take_left' rfl]
theorem cut_hi {z : Str} {a b : List Nat} (h : z.cps.toList = a ++ 58 :: b) : cutS z (some (((a.length : Nat) : Int) + 1)) none = mkS b := by
  unfold cutS mkS
  have hl : z.length = a.length + (b.length + 1) := by
    show z.cps.toList.length = _
    rw [h, List.length_append, List.length_cons]
  rw [show ((a.length : Nat) : Int) + 1 = ((a.length + 1 : Nat) : Int) from by omega, HT.sIx_none, HT.sIx_nat, hl, Nat.min_eq_left (by omega), h]
  have e1 : (a ++ 58 :: b).drop (a.length + 1) = b := by
    rw [show a ++ 58 :: b = (a ++ [58]) ++ b from by simp]
    exact List.drop_left' (by simp)
  rw [e1, List.take_of_length_le (by omega)]
theorem fig_int {b : List Nat} (h : figB (mkS b) = true) : PySem.intText? (mkS b) = some ((NumText.digitsVal b : Nat) : Int) ∧ b.length ≤ 640 := by
  unfold figB at h
  simp only [Bool.and_eq_true, decide_eq_true_eq] at h
  obtain ⟨h1, h2, h3, _⟩ := h
  rw [mkS_len] at h1 h2
  exact ⟨SX.int_S (a := b) h3 (fun e => by rw [e] at h1; exact absurd h1 (by decide)) (by omega), by omega⟩
theorem evOf_none {z : Str} (h0 : ¬ z = "/") (hc : cut z.cps.toList = none) : evOf z = none := by
  unfold evOf
  rw [if_neg h0, hc]
theorem evOf_some {z : Str} {a b : List Nat} (h0 : ¬ z = "/") (hc : cut z.cps.toList = some (a, b)) : evOf z = if (nameB (mkS a) && figB (mkS b)) = true then some (some (mkS a, NumText.digitsVal b)) else none := by
  unfold evOf
  rw [if_neg h0, hc]
structure NmE (mg : Str → Option Value) (K : PySem.W.Frag) (fn ff : Addr) : Prop where
  g__law_is_name : mg "_law_is_name" = some (.ref fn)
  k__law_is_name : PySem.W.keepIn K (.ref fn) = true
  g__law_is_figure : mg "_law_is_figure" = some (.ref ff)
  k__law_is_figure : PySem.W.keepIn K (.ref ff) = true
  n_int : mg "int" = none
theorem mem_join {y : Str} : ∀ {ps : List Str} {p : Str}, p ∈ ps → ∀ c ∈ p.cps.toList, c ∈ (PySem.Str.join y ps).cps.toList
  | [], _, h => absurd h (by simp)
  | [a], p, h => by
    rw [List.mem_singleton.mp h]
    exact fun c hc => hc
  | a :: b :: r, p, h => by
    intro c hc
    show c ∈ TL.tl (a ++ y ++ PySem.Str.join y (b :: r))
    rw [TL.tl_append, TL.tl_append]
    rcases List.mem_cons.mp h with h | h
    · rw [h] at hc
      exact List.mem_append_left _ (List.mem_append_left _ hc)
    · exact List.mem_append_right _ (mem_join h c hc)
theorem split_asc {z w : Str} (hA : Asc z) (h : w ∈ Txt.split z " ") : Asc w := fun c hc => hA c (by
  have h1 := mem_join (y := " ") h c hc
  rw [PySem.StrLaws.join_split] at h1
  exact h1)
theorem le_sum : ∀ {l : List Nat} {n : Nat}, n ∈ l → n ≤ l.sum
  | [], _, h => absurd h (by simp)
  | a :: l, n, h => by
    rw [List.sum_cons]
    rcases List.mem_cons.mp h with h | h
    · omega
    · have := le_sum h
      omega
theorem split_lens {z w : Str} (h : w ∈ Txt.split z " ") : w.length ≤ z.length := by
  have h1 := split_weight z " " (by decide +kernel)
  have h2 : w.length ≤ ((Txt.split z " ").map (·.length)).sum := le_sum (List.mem_map_of_mem h)
  have h3 := split_pos z " "
  omega
def wordsL (z : Str) : List Str := if z = "" then [] else Txt.split z " "
theorem wordsL_of {z : Str} (h : ¬ z = "") : wordsL z = Txt.split z " " := if_neg h
theorem first_none : ∀ os : List (Option Ev), (∃ es : List Ev, os = es.map some) ∨ ∃ j : Nat, os[j]? = some none ∧ ∀ m : Nat, m < j → ∃ e, os[m]? = some (some e)
  | [] => .inl ⟨[], rfl⟩
  | none :: os => .inr ⟨0, rfl, fun m hm => absurd hm (Nat.not_lt_zero _)⟩
  | some e :: os => by
    rcases first_none os with ⟨es, h⟩ | ⟨j, hj, hm⟩
    · exact .inl ⟨e :: es, by rw [h]; rfl⟩
    · refine .inr ⟨j + 1, hj, fun m h => ?_⟩
      cases m with
      | zero => exact ⟨e, rfl⟩
      | succ m => exact hm m (by omega)
inductive OptsAt (H : Hp) : List V → List (Option Ev) → Prop
  | nil : OptsAt H [] []
  | cons {v : V} {vs : List V} {o : Option Ev} {os : List (Option Ev)} : OptAt H v o → OptsAt H vs os → OptsAt H (v :: vs) (o :: os)
theorem OptAt.mono {H H' : Hp} {v : V} {o : Option Ev} (h : OptAt H v o) (s : ∀ a xs, H a = some (.tup xs) → H' a = some (.tup xs)) : OptAt H' v o := by
  cases o with
  | none => exact h
  | some e => exact EvAt.mono h s
theorem OptsAt.mono {H H' : Hp} {vs : List V} {os : List (Option Ev)} (h : OptsAt H vs os) (s : ∀ a xs, H a = some (.tup xs) → H' a = some (.tup xs)) : OptsAt H' vs os := by
  induction h with
  | nil => exact .nil
  | cons a _ ih => exact .cons (a.mono s) ih
theorem OptsAt.snoc {H : Hp} {vs : List V} {os : List (Option Ev)} {v : V} {o : Option Ev} (h : OptsAt H vs os) (k : OptAt H v o) : OptsAt H (vs ++ [v]) (os ++ [o]) := by
  induction h with
  | nil => exact .cons k .nil
  | cons a _ ih => exact .cons a ih
theorem OptsAt.len {H : Hp} {vs : List V} {os : List (Option Ev)} (h : OptsAt H vs os) : vs.length = os.length := by
  induction h with
  | nil => rfl
  | cons _ _ ih => rw [List.length_cons, List.length_cons, ih]
theorem OptsAt.all {H : Hp} : ∀ {vs : List V} {es : List Ev}, OptsAt H vs (es.map some) → EvsAt H vs es
  | _, [], .nil => .nil
  | _, _ :: _, .cons a b => .cons a (OptsAt.all b)
def odD : Option Ev → PyData
  | none => .none
  | some e => evD e
theorem ev_dp {K : PySem.W.Frag} {H : Hp} {v : V} {e : Ev} (h : EvAt H v e) : Dp K H v (evD e) := by
  obtain ⟨a, rfl, ha⟩ := h
  match e, ha with
  | none, ha => exact .tup (SqT.of ha) (.cons (.str _) .nil)
  | some (z, m), ha => exact .tup (SqT.of ha) (.cons (.str _) (.cons (.str _) (.cons (.int _) .nil)))
theorem opt_dp {K : PySem.W.Frag} {H : Hp} {v : V} {o : Option Ev} (h : OptAt H v o) : Dp K H v (odD o) := by
  cases o with
  | none =>
    rw [show v = .non from h]
    exact .non
  | some e => exact ev_dp h
theorem opts_dp {K : PySem.W.Frag} {H : Hp} {vs : List V} {os : List (Option Ev)} (h : OptsAt H vs os) : DpAll K H vs (os.map odD) := by
  induction h with
  | nil => exact .nil
  | cons a _ ih => exact .cons (opt_dp a) ih
theorem nameB_str {z : Str} (h : nameB z = true) : PyData.canLay0 (.str z) = true := by
  rw [nameB_eq] at h
  simp only [Bool.and_eq_true] at h
  obtain ⟨_, _, _, h⟩ := h
  show z.cps.all _ = true
  rw [← Array.all_toList, List.all_eq_true]
  intro c hc
  have := List.all_eq_true.mp h c hc
  simp only [Bool.and_eq_true, decide_eq_true_eq] at this
  exact decide_eq_true (by omega)
theorem evOf_name {z y : Str} {n : Nat} (h : evOf z = some (some (y, n))) : nameB y = true := by
  unfold evOf at h
  by_cases h0 : z = "/"
  · rw [if_pos h0] at h
    cases h
  · rw [if_neg h0] at h
    cases hc : cut z.cps.toList with
    | none =>
      rw [hc] at h
      cases h
    | some p =>
      rw [hc] at h
      by_cases hb : (nameB (mkS p.1) && figB (mkS p.2)) = true
      · have h' : (if (nameB (mkS p.1) && figB (mkS p.2)) = true then some (some (mkS p.1, NumText.digitsVal p.2)) else none) = some (some (y, n)) := h
        rw [if_pos hb] at h'
        cases h'
        exact (Bool.and_eq_true_iff.mp hb).1
      · have h' : (if (nameB (mkS p.1) && figB (mkS p.2)) = true then some (some (mkS p.1, NumText.digitsVal p.2)) else none) = some (some (y, n)) := h
        rw [if_neg hb] at h'
        cases h'
def OdOk : Option Ev → Prop
  | some (some (z, _)) => nameB z = true
  | _ => True
theorem evOf_ok (z : Str) : OdOk (evOf z) := by
  cases h : evOf z with
  | none => trivial
  | some e => cases e with
    | none => trivial
    | some p => exact evOf_name (y := p.1) (n := p.2) h
theorem od_lay {o : Option Ev} (h : OdOk o) : PyData.canLay0 (odD o) = true ∧ (odD o).depth ≤ 1 := by
  match o, h with
  | none, _ => exact ⟨rfl, by decide⟩
  | some none, _ => exact ⟨by decide +kernel, by decide +kernel⟩
  | some (some (z, m)), h =>
    refine ⟨?_, ?_⟩
    · show PyData.canLayAll0 [.str "open", .str z, .int _] = true
      have e1 : PyData.canLay0 (.str "open") = true := by decide +kernel
      rw [PyData.canLayAll0, PyData.canLayAll0, PyData.canLayAll0, PyData.canLayAll0, e1, nameB_str h]
      rfl
    · simp only [odD, evD, PyData.depth, PyData.depthAll]
      omega
theorem ods_lay : ∀ {os : List (Option Ev)}, (∀ o ∈ os, OdOk o) → PyData.canLayAll0 (os.map odD) = true ∧ PyData.depthAll (os.map odD) ≤ 1
  | [], _ => ⟨rfl, by decide⟩
  | o :: os, h => by
    obtain ⟨h1, h2⟩ := od_lay (h o (List.mem_cons_self ..))
    obtain ⟨h3, h4⟩ := ods_lay fun o ho => h o (List.mem_cons_of_mem _ ho)
    rw [List.map_cons]
    refine ⟨?_, ?_⟩
    · simp only [PyData.canLayAll0, h1, h3, Bool.and_self]
    · simp only [PyData.depthAll]
      omega
theorem ods_shaped {os : List (Option Ev)} (h : ∀ o ∈ os, OdOk o) : SeqAt.shaped (.list (os.map odD)) = true := by
  obtain ⟨h1, h2⟩ := ods_lay h
  unfold SeqAt.shaped
  rw [Bool.and_eq_true]
  refine ⟨h1, decide_eq_true ?_⟩
  simp only [PyData.depth]
  omega
theorem eqv_ev (e : Ev) : PyData.eqv (evD e) .none = false := by
  match e with
  | none => rfl
  | some (z, m) => rfl
theorem any_none (es : List Ev) : ((es.map some).map odD).any (fun z => PyData.eqv z .none) = false := by
  induction es with
  | nil => rfl
  | cons e es ih =>
    rw [List.map_cons, List.map_cons, List.any_cons, ih, Bool.or_false]
    exact eqv_ev e
theorem any_some {os : List (Option Ev)} {j : Nat} (h : os[j]? = some none) : (os.map odD).any (fun z => PyData.eqv z .none) = true := by
  rw [List.any_eq_true]
  exact ⟨.none, List.mem_map.mpr ⟨none, List.mem_of_getElem? h, rfl⟩, rfl⟩
def DueAt (H : Hp) (ws : List Str) (t : Addr) : Prop :=
  (∃ j : Nat, (ws.map evOf)[j]? = some none ∧ (∀ m, m < j → ∃ e, (ws.map evOf)[m]? = some (some e)) ∧ H t = some (.tup [.str "at", .int (j : Nat)])) ∨
  (∃ (l : Addr) (vs : List V) (es : List Ev), ws.map evOf = es.map some ∧ H t = some (.tup [.str "events", .ref l]) ∧ H l = some (.lst vs) ∧ EvsAt H vs es)
def spDue : Sp := fun vs H Q _ => ∃ z : Str, vs = [.str z] ∧ z.length ≤ 1000 ∧ Asc z ∧ ∀ (t : Addr) (H' : Hp), Same H H' → DueAt H' (wordsL z) t → Q (.ref t) H'
structure NmD (mg : Str → Option Value) (K : PySem.W.Frag) (fe : Addr) : Prop where
  g__law_event : mg "_law_event" = some (.ref fe)
  k__law_event : PySem.W.keepIn K (.ref fe) = true
theorem cut_asc {z : Str} {lo hi : Option Int} (h : Asc z) : Asc (cutS z lo hi) := fun c hc => h c (List.mem_of_mem_drop (List.mem_of_mem_take hc))
structure NmG (mg : Str → Option Value) (K : PySem.W.Frag) (ff : Addr) : Prop where
  g__law_is_figure : mg "_law_is_figure" = some (.ref ff)
  k__law_is_figure : PySem.W.keepIn K (.ref ff) = true
  n_len : mg "len" = none
theorem lt_one (a b : Nat) : decide (([a] : List Nat) < [b]) = decide (a < b) := decide_eq_decide.mpr (by
  rw [List.cons_lt_cons_iff]
  constructor
  · rintro (h | ⟨_, h⟩)
    · exact h
    · exact absurd h (by simp)
  · exact .inl)
def consB (l h most : Nat) (z : Str) : Bool := decide (0 < z.length) && (decide (z.length ≤ most) && z.cps.toList.all fun c => decide (l ≤ c) && decide (c ≤ h))
def spWords : Sp := fun vs H Q _ => ∃ z : Str, vs = [.str z] ∧ z.length ≤ 1000 ∧ ∀ (a : Addr) (H' : Hp), Same H H' → H a = none → H' a = some (.lst ((wordsL z).map V.str)) → Q (.ref a) H'
structure NmC (mg : Str → Option Value) : Prop where
  n_len : mg "len" = none
  n_all : mg "all" = none
def spCons : Sp := fun vs H Q _ => ∃ (z lo hi : Str) (l h most : Nat), vs = [.str z, .str lo, .str hi, .int (most : Nat)] ∧ z.length ≤ 1000 ∧ lo.cps.toList = [l] ∧ hi.cps.toList = [h] ∧ ∀ H' : Hp, Same H H' → Q (.bl (consB l h most z)) H'
theorem cons_name (z : Str) : (consB 97 122 8 z && !inV (V.str z) [.str "any", .str "other", .str "where"]) = nameB z := by
  rw [nameB_eq, ← in3]
  unfold consB
  rw [show decide (z.length < 9) = decide (z.length ≤ 8) from decide_eq_decide.mpr (by omega), Bool.and_comm]
theorem cons_fig (z : Str) : (consB 48 57 12 z && (decide (V.str z = V.str "0") || !Txt.startswith z "0")) = figB z := by
  unfold consB figB
  rw [show decide (z.length < 13) = decide (z.length ≤ 12) from decide_eq_decide.mpr (by omega), Bool.and_assoc, Bool.and_assoc]
  have e1 : decide (V.str z = V.str "0") = decide (z = "0") := decide_eq_decide.mpr ⟨V.str.inj, congrArg V.str⟩
  rw [e1]
  by_cases h : 0 < z.length
  · obtain ⟨c, hc⟩ : ∃ c, z.cps.toList[0]? = some c := ⟨_, List.getElem?_eq_getElem (show 0 < z.cps.toList.length from h)⟩
    have e2 : Txt.startswith z "0" = decide (z.cps.toList[0]? = some 48) := by
      have e0 : ("0" : Str) = ⟨#[48]⟩ := by decide +kernel
      have e3 := PySem.StrLaws.subAt_one z 48 0
      rw [e0]
      unfold Txt.startswith
      rw [Bool.eq_iff_iff, Bool.and_eq_true, decide_eq_true_iff, decide_eq_true_iff]
      exact e3
    rw [e2]
  · rw [decide_eq_false h]
    rfl
def iLT (K : PySem.W.Frag) (te : TE) : TI := fun σ H R => te σ H fun x G => ∃ p, x = .ref p ∧ (((∃ ys, SqL K G p ys) ∧ R (Itl K p) G) ∨ ((∃ ys, SqT K G p ys) ∧ R (Itt K p) G))
theorem pi_lt {X : Cx} {g e : Expr} {te : TE} (he : PE X e te) : PI X g e (iLT X.K te) := by
  constructor
  intro pins s σ H R I h
  apply thn (he.run pins s σ H _ I h)
  rintro v s1 ⟨x, G, J, r, p, rfl, q⟩
  cases r
  have fp : ∀ (o : Obj) (b : Addr), b ∈ [s1.heap.objs.size] → FpOk X pins G b := fun o b hb => by
    rw [List.mem_singleton.mp hb]
    exact J.fpOk (Nat.le_refl _) (J.hok.fresh (Nat.le_refl _))
  have kp : ∀ o : Obj, Inv X pins σ G { s1 with heap := s1.heap.push o } := fun o => J.kept (t' := s1.toks) fun _ _ z => Heap.get?_push_of_some _ z
  rcases q with ⟨⟨ys, hy⟩, q⟩ | ⟨⟨ys, hy⟩, q⟩
  · obtain ⟨us, _, pl, _⟩ := J.list hy
    apply wpAny_pyIter_list pl.isList
    exact ⟨_, [s1.heap.objs.size], _, _, G, rfl, kp _, turn_list p _, ⟨_, Heap.get?_push_size _ rfl, rfl, rfl⟩, fp ⟨.none, none, .fields #[], #[]⟩, q⟩
  · obtain ⟨us, _, pl, _⟩ := J.tuple hy
    apply wpAny_pyIter_tuple (show s1.heap.IsTuple p us.toArray from pl)
    exact ⟨_, [s1.heap.objs.size], _, _, G, rfl, kp _, turn_tuple p _, ⟨_, Heap.get?_push_size _ rfl, rfl, rfl⟩, fp ⟨.none, none, .fields #[], #[]⟩, q⟩
structure NmP (mg : Str → Option Value) (K : PySem.W.Frag) (fc fn ff fw an : Addr) : Prop where
  g_consists_of : mg "consists_of" = some (.ref fc)
  k_consists_of : PySem.W.keepIn K (.ref fc) = true
  g_is_name : mg "is_name" = some (.ref fn)
  k_is_name : PySem.W.keepIn K (.ref fn) = true
  g_is_figure : mg "is_figure" = some (.ref ff)
  k_is_figure : PySem.W.keepIn K (.ref ff) = true
  g_word_of : mg "word_of" = some (.ref fw)
  k_word_of : PySem.W.keepIn K (.ref fw) = true
  g_NO_NAMES : mg "NO_NAMES" = some (.ref an)
  t_NO_NAMES : ∀ H : Hp, SqT K H an [.str "any", .str "other", .str "where"]
  n_len : mg "len" = none
  n_int : mg "int" = none
def spWordOf : Sp := fun vs H Q _ => ∃ (v : V) (e : Ev), vs = [v] ∧ EvAt H v e ∧ EvOk e ∧ Q (.str (wordS e)) H
def spWordsOf (K : PySem.W.Frag) : Sp := fun vs H Q _ => ∃ (r : Addr) (vs' : List V) (es : List Ev), vs = [.ref r] ∧ (H r = some (.lst vs') ∨ H r = some (.tup vs')) ∧ EvsAt H vs' es ∧ es.length ≤ 1000 ∧ (∀ e ∈ es, EvOk e) ∧ ∀ H' : Hp, Same H H' → Q (.str (textS es)) H'
theorem empty_app (z : Str) : Str.empty ++ z = z := by
  show (⟨#[] ++ z.cps⟩ : Str) = z
  rw [Array.empty_append]
theorem num_log {m : Nat} (h : m < 10 ^ 9) : ((m : Nat) : Int).natAbs.log2 < 1920 := by
  rw [Int.natAbs_natCast]
  by_cases hm : m = 0
  · rw [hm]
    decide
  · exact Nat.lt_of_lt_of_le ((Nat.log2_lt hm).mpr (Nat.lt_of_lt_of_le h (by decide : 10 ^ 9 ≤ 2 ^ 30))) (by decide)
def rIsD (K : PySem.W.Frag) (a : Addr) (cls : Value) (d : Option Addr) : List V → Hp → VK → Prop := fun xs H Q => ∃ (D dd : Addr) (fs : List (Str × V)) (c : V) (cv : Value) (b : Bool), xs = [.ref a, c] ∧ cls = .ref D ∧ d = some dd ∧ H dd = some (.xd fs) ∧ ExcC K D ∧ (∀ u, RelV c u → u = cv) ∧ PySem.W.kitOne K (.ref D) cv = some b ∧ Q (.bl b) H
theorem call_isD {X : Cx} {a : Addr} {cls : Value} {d : Option Addr} {oe : Obj} {pn : List (Addr × Obj)} (hz : Zc cls d oe) (hf : ∃ vs, oe.data = .fields vs) : CallR (X.suite a ((a, oe) :: pn)) (.builtin "isinstance") (rIsD X.K a cls d) := by
  intro pins s σ H xs us Q I r h
  obtain ⟨D, dd, fs, c, cv, b, rfl, rfl, rfl, ed, T, hcv, e, q⟩ := h
  cases r with
  | cons rx rr =>
    cases rr with
    | cons rt rr =>
      cases rr
      cases rx
      obtain rfl := hcv _ rt
      have hcl : (PySem.W.clsIn X.K D).isSome = true := by
        obtain ⟨cd, hc, _⟩ := PySem.W.any_some T.hd
        rw [hc] <;> rfl
      obtain ⟨hget, _⟩ := I.pin (a, oe) (List.mem_append.mpr (.inl List.mem_cons_self))
      obtain ⟨vs, hv⟩ := hf
      have hx : ObjOk X.prog X.w H s.heap dd (.xd fs) := I.hok dd _ ed
      obtain ⟨mA, ⟨o, es, ep, ho, hr⟩, _⟩ := hx
      have J : PySem.W.InstAt s.heap a oe D (some o) := ⟨hget, hz.1, by unfold PySem.W.notCls; rw [hv] <;> rfl, by rw [hz.2]; exact ho⟩
      exact PySem.W.kia_one (PySem.W.kitx_exc hcl T.hg T.hk T.hs T.ha T.hn T.ht T.hm) I.kIn J e (fun z => nomatch z) fun tk => ⟨.bl b, H, I.kept (t' := tk) fun _ _ z => z, rfl, q⟩
def OwnF (v : V) : Prop := (∃ i, v = .int i) ∨ ∃ z, v = .str z
def spOwnF : Sp := fun vs H Q _ => ∃ v : V, vs = [v] ∧ OwnF v ∧ Q v H
structure NmO (mg : Str → Option Value) (K : PySem.W.Frag) (f : Addr) : Prop where
  g : mg "own_copy" = some (.ref f)
  k : PySem.W.keepIn K (.ref f) = true
  n_isinstance : mg "isinstance" = none
  n_list : mg "list" = none
  n_tuple : mg "tuple" = none
  n_dict : mg "dict" = none
def spI1 (C : Addr) (f : Str) : Sp := fun vs H Q _ => ∃ (a : Addr) (v : V), vs = [.ref a, v] ∧ H a = some (exo a C none) ∧ OwnF v ∧
  ∀ (dd : Addr) (H' : Hp), H dd = none → H' a = some (exo a C (some dd)) → H' dd = some (exd dd [(f, v)]) → (∀ b o, b ≠ a → H b = some o → H' b = some o) → Q .non H'
structure NmX (P : Program) (w : World) (K : PySem.W.Frag) (mg : Str → Option Value) (C fI Ck : Addr) : Prop where
  g_NoTree : mg "NoTree" = some (.ref C)
  k_NoTree : PySem.W.keepIn K (.ref C) = true
  b_NoTree : PySem.W.subIn K (.ref C) (.type "BaseException") = some true
  t_NoTree : PySem.W.typeIn K (.ref C) = some (.type "type")
  m_NoTree : Exv.MkOk P w K C fI
  g_KeptError : mg "KeptError" = some (.ref Ck)
  e_NoTree : PySem.W.exmOne K (.ref C) (.ref C) = some true
  x_NoTree : ExcC K C
  i_NoTree : PySem.W.kitOne K (.ref C) (.ref Ck) = some true
  f_NoTree : XfC K C
  no_NoTree : PySem.W.findIn K (.ref C) "at" = some none
structure NmQ (mg : Str → Option Value) (K : PySem.W.Frag) (fwi fev fes : Addr) : Prop where
  g_words_in : mg "words_in" = some (.ref fwi)
  k_words_in : PySem.W.keepIn K (.ref fwi) = true
  g_event_of : mg "event_of" = some (.ref fev)
  k_event_of : PySem.W.keepIn K (.ref fev) = true
  g_events_of : mg "events_of" = some (.ref fes)
  k_events_of : PySem.W.keepIn K (.ref fes) = true
  n_enumerate : mg "enumerate" = none
  n_isinstance : mg "isinstance" = none
theorem OptsAt.get {H : Hp} {vs : List V} {os : List (Option Ev)} (h : OptsAt H vs os) : ∀ {i : Nat} {v : V}, vs[i]? = some v → ∃ o, os[i]? = some o ∧ OptAt H v o := by
  induction h with
  | nil => intro i v hv; simp at hv
  | cons a _ ih =>
    intro i v hv
    cases i with
    | zero =>
      have z := Option.some.inj hv
      exact ⟨_, rfl, by rw [← z]; exact a⟩
    | succ i => exact ih hv
def FirstNone (ws : List Str) (j : Nat) : Prop := (ws.map evOf)[j]? = some none ∧ ∀ m, m < j → ∃ e, (ws.map evOf)[m]? = some (some e)
def spEvents (C : Addr) : Sp := fun vs H Q E => ∃ z : Str, vs = [.str z] ∧ z.length ≤ 1000 ∧ Asc z ∧
  (∀ (l : Addr) (vs' : List V) (es : List Ev) (H' : Hp), Same H H' → H l = none → (wordsL z).map evOf = es.map some → H' l = some (.lst vs') → EvsAt H' vs' es → Q (.ref l) H') ∧
  (∀ (j : Nat) (d : Addr) (H' : Hp), Same H H' → FirstNone (wordsL z) j → H' d = some (.xd [("at", .int (j : Nat))]) → E (.ref C) (some d) H')
theorem wordsL_len {z w : Str} (h : w ∈ wordsL z) : w.length ≤ z.length := by
  unfold wordsL at h
  by_cases e : z = ""
  · rw [if_pos e] at h
    cases h
  · rw [if_neg e] at h
    exact split_lens h
theorem wordsL_asc {z w : Str} (hA : Asc z) (h : w ∈ wordsL z) : Asc w := by
  unfold wordsL at h
  by_cases e : z = ""
  · rw [if_pos e] at h
    cases h
  · rw [if_neg e] at h
    exact split_asc hA h
theorem wordsL_count (z : Str) : (wordsL z).length ≤ z.length + 1 := by
  unfold wordsL
  by_cases e : z = ""
  · rw [if_pos e]
    exact Nat.zero_le _
  · rw [if_neg e]
    have := split_weight z " " (by decide +kernel)
    omega
def wt (ys : List Str) : Nat := (ys.map (·.length)).sum + ys.length
theorem wt_app (a b : List Str) : wt (a ++ b) = wt a + wt b := by
  unfold wt
  rw [List.map_append, List.sum_append, List.length_append]
  omega
theorem wt_one (y : Str) : wt [y] = y.length + 1 := by
  unfold wt
  simp
theorem wt_part (ys : List Str) (i : Nat) : wt (ys.take i) + wt (ys.drop i) = wt ys := by
  rw [← wt_app, List.take_append_drop]
theorem join_le : ∀ ys : List Str, (PySem.Str.join " " ys).length ≤ wt ys - 1
  | [] => by
    show 0 ≤ _
    omega
  | [a] => by
    rw [wt_one]
    show a.length ≤ _
    omega
  | a :: b :: r => by
    have h := join_le (b :: r)
    show (a ++ " " ++ PySem.Str.join " " (b :: r)).length ≤ _
    rw [len_app, len_app, show (" " : Str).length = 1 from by decide +kernel, show a :: b :: r = [a] ++ (b :: r) from rfl, wt_app, wt_one]
    have h2 : 1 ≤ wt (b :: r) := by
      unfold wt
      rw [List.length_cons]
      omega
    omega
theorem join_asc : ∀ {ys : List Str}, (∀ y ∈ ys, Asc y) → Asc (PySem.Str.join " " ys)
  | [], _ => fun c hc => absurd hc (List.not_mem_nil)
  | [a], h => h a (List.mem_singleton.mpr rfl)
  | a :: b :: r, h => fun c hc => by
    have hc' : c ∈ TL.tl (a ++ " " ++ PySem.Str.join " " (b :: r)) := hc
    rw [TL.tl_append, TL.tl_append] at hc'
    rcases List.mem_append.mp hc' with h1 | h1
    · rcases List.mem_append.mp h1 with h1 | h1
      · exact h a (List.mem_cons_self ..) c h1
      · have : TL.tl " " = [32] := by decide +kernel
        rw [this, List.mem_singleton] at h1
        omega
    · exact join_asc (fun y hy => h y (List.mem_cons_of_mem _ hy)) c h1
theorem join_fits {ys : List Str} (h : wt ys ≤ 2000) : (ys.map (·.length)).sum + ys.length * (" " : Str).length ≤ 16777216 := by
  rw [show (" " : Str).length = 1 from by decide +kernel, Nat.mul_one]
  unfold wt at h
  omega
theorem cutV_lo (ws : List Str) (i : Nat) : cutV (ws.map V.str) none (some (i : Int)) = (ws.take i).map V.str := by
  unfold cutV
  rw [HT.sIx_none, HT.sIx_nat, List.drop_zero, Nat.sub_zero, List.length_map, List.map_take]
  by_cases h : i ≤ ws.length
  · rw [Nat.min_eq_left h]
  · rw [Nat.min_eq_right (by omega), List.take_of_length_le (by rw [List.length_map]; omega), List.take_of_length_le (by rw [List.length_map]; omega)]
theorem cutV_hi (ws : List Str) (i : Nat) : cutV (ws.map V.str) (some (i : Int)) none = (ws.drop i).map V.str := by
  unfold cutV
  rw [HT.sIx_none, HT.sIx_nat, List.length_map, List.map_drop]
  by_cases h : i ≤ ws.length
  · rw [Nat.min_eq_left h, List.take_of_length_le (by rw [List.length_drop, List.length_map]; omega)]
  · rw [Nat.min_eq_right (by omega), Nat.sub_self, List.take_zero, List.drop_of_length_le (by rw [List.length_map]; omega)]
theorem cutS_lo_len (z : Str) (i : Nat) : (cutS z none (some (i : Int))).length ≤ i := by
  unfold cutS
  rw [HT.sIx_none, HT.sIx_nat]
  show (List.toArray _).size ≤ _
  rw [List.size_toArray, List.length_take]
  omega
theorem cutS_hi_len (z : Str) (i : Nat) : (cutS z (some (i : Int)) none).length ≤ z.length - i := by
  unfold cutS
  rw [HT.sIx_none, HT.sIx_nat]
  show (List.toArray _).size ≤ _
  rw [List.size_toArray, List.length_take]
  omega
theorem app_asc {x y : Str} (hx : Asc x) (hy : Asc y) : Asc (x ++ y) := fun c hc => by
  have hc' : c ∈ TL.tl (x ++ y) := hc
  rw [TL.tl_append] at hc'
  exact (List.mem_append.mp hc').elim (hx c) (hy c)
theorem tjoin (ys : List Str) : Txt.join " " ys = PySem.Str.join " " ys := TL.join_eq _ _
theorem tjoin_asc {ys : List Str} (h : ∀ y ∈ ys, Asc y) : Asc (Txt.join " " ys) := by
  rw [tjoin]
  exact join_asc h
def Kp (p : Addr) (H H' : Hp) : Prop := ∀ b o, b ≠ p → H b = some o → H' b = some o
theorem Kp.trans {p : Addr} {H H' H'' : Hp} (h : Kp p H H') (k : Kp p H' H'') : Kp p H H'' := fun b o n e => k b o n (h b o n e)
theorem Kp.of {p : Addr} {H H' : Hp} (h : Same H H') : Kp p H H' := fun b o _ e => h b o e
theorem Kp.eq {p : Addr} {H H' : Hp} (h : ∀ b, b ≠ p → H' b = H b) : Kp p H H' := fun b o n e => (h b n).trans e
instance (z : Str) : Decidable (Asc z) := inferInstanceAs (Decidable (∀ c ∈ z.cps.toList, c < 256))
theorem from_le : ∀ (ts : List Str) (k : Nat) (acc : Str), (textFrom k acc ts).length ≤ acc.length + piled ts
  | [], k, acc => Nat.le_add_right _ _
  | t :: r, k, acc => by
    have h := from_le r (k + 1) (acc ++ (if k > 0 then ", " else "" : String) ++ t)
    have e : (acc ++ (if k > 0 then ", " else "" : String) ++ t).length ≤ acc.length + 2 + t.length := by
      rw [strLen_append, strLen_append]
      by_cases hk : k > 0
      · rw [if_pos hk]
        have : (Str.ofString ", ").length = 2 := rfl
        omega
      · rw [if_neg hk]
        have : (Str.ofString "").length = 0 := rfl
        omega
    have p : piled (t :: r) = t.length + 2 + piled r := by simp [piled]
    show (textFrom (k + 1) _ r).length ≤ _
    omega
theorem list_le (ts : List Str) : (listText ts).length ≤ piled ts + 2 := by
  have h := from_le ts 0 "["
  have e1 : (Str.ofString "[").length = 1 := rfl
  have e2 : (Str.ofString "]").length = 1 := rfl
  show (textFrom 0 "[" ts ++ "]").length ≤ _
  rw [strLen_append]
  omega
theorem tuple_le (ts : List Str) : (tupleText ts).length ≤ piled ts + 3 := by
  unfold tupleText
  rw [strLen_append, strLen_append]
  have e1 : (Str.ofString "(").length = 1 := rfl
  have e2 : ((if ts.length == 1 then ",)" else ")" : String) : Str).length ≤ 2 := by
    split
    · exact Nat.le_refl 2
    · exact (by decide : 1 ≤ 2)
  have e3 : (Str.join ", " ts).length ≤ piled ts := by
    cases ts with
    | nil => exact Nat.zero_le _
    | cons x r =>
      have := join_length_add (x :: r) (by simp)
      omega
  omega
theorem piled_le {L : Nat} : ∀ {ds : List PyData}, (∀ d ∈ ds, d.shown.length ≤ L) → piled (PyData.shownAll ds) ≤ ds.length * (L + 2)
  | [], _ => Nat.zero_le _
  | d :: r, h => by
    have ih := piled_le (ds := r) fun x hx => h x (List.mem_cons_of_mem _ hx)
    have h1 := h d (List.mem_cons_self ..)
    have p : piled (PyData.shownAll (d :: r)) = d.shown.length + 2 + piled (PyData.shownAll r) := by
      show piled (d.shown :: PyData.shownAll r) = _
      exact piled_cons _ _
    rw [p, List.length_cons, Nat.succ_mul]
    omega
structure Sh (k L : Nat) (d : PyData) : Prop where
  s : d.showable = true
  n : d.hasDict = false
  k : d.depth ≤ k
  l : d.shown.length ≤ L
theorem all_show : ∀ {ds : List PyData}, (∀ d ∈ ds, d.showable = true) → PyData.showableAll ds = true
  | [], _ => rfl
  | d :: r, h => by
    unfold PyData.showableAll
    rw [h d (List.mem_cons_self ..), all_show fun x hx => h x (List.mem_cons_of_mem _ hx)]
    rfl
theorem all_noDict : ∀ {ds : List PyData}, (∀ d ∈ ds, d.hasDict = false) → PyData.hasDictAll ds = false
  | [], _ => rfl
  | d :: r, h => by
    unfold PyData.hasDictAll
    rw [h d (List.mem_cons_self ..), all_noDict fun x hx => h x (List.mem_cons_of_mem _ hx)]
    rfl
theorem all_depth {k : Nat} : ∀ {ds : List PyData}, (∀ d ∈ ds, d.depth ≤ k) → PyData.depthAll ds ≤ k
  | [], _ => Nat.zero_le _
  | d :: r, h => by
    unfold PyData.depthAll
    have h1 := h d (List.mem_cons_self ..)
    have h2 := all_depth (ds := r) fun x hx => h x (List.mem_cons_of_mem _ hx)
    omega
theorem Sh.list {k L n : Nat} {ds : List PyData} (h : ∀ d ∈ ds, Sh k L d) (hn : ds.length ≤ n) : Sh (k + 1) (n * (L + 2) + 3) (.list ds) := by
  refine ⟨?_, ?_, ?_, ?_⟩
  · unfold PyData.showable
    exact all_show fun d hd => (h d hd).s
  · unfold PyData.hasDict
    exact all_noDict fun d hd => (h d hd).n
  · unfold PyData.depth
    have := all_depth fun d hd => (h d hd).k
    omega
  · unfold PyData.shown
    have h1 := list_le (PyData.shownAll ds)
    have h2 := piled_le fun d hd => (h d hd).l
    have h3 := Nat.mul_le_mul_right (L + 2) hn
    omega
theorem Sh.tuple {k L n : Nat} {ds : List PyData} (h : ∀ d ∈ ds, Sh k L d) (hn : ds.length ≤ n) : Sh (k + 1) (n * (L + 2) + 3) (.tuple ds) := by
  refine ⟨?_, ?_, ?_, ?_⟩
  · unfold PyData.showable
    exact all_show fun d hd => (h d hd).s
  · unfold PyData.hasDict
    exact all_noDict fun d hd => (h d hd).n
  · unfold PyData.depth
    have := all_depth fun d hd => (h d hd).k
    omega
  · unfold PyData.shown
    have h1 := tuple_le (PyData.shownAll ds)
    have h2 := piled_le fun d hd => (h d hd).l
    have h3 := Nat.mul_le_mul_right (L + 2) hn
    omega
theorem Sh.int {i : Int} (h0 : 0 ≤ i) (h : i < 10 ^ 12) : Sh 0 20 (.int i) := by
  have hn : i.natAbs < 10 ^ 12 := by
    have e : (10 : Int) ^ 12 = 1000000000000 := by decide
    have e2 : (10 : Nat) ^ 12 = 1000000000000 := by decide
    omega
  refine ⟨decide_eq_true ?_, rfl, Nat.zero_le _, ?_⟩
  · by_cases z : i.natAbs = 0
    · rw [z]
      decide
    · exact Nat.lt_of_lt_of_le ((Nat.log2_lt z).mpr (Nat.lt_of_lt_of_le hn (by decide : 10 ^ 12 ≤ 2 ^ 40))) (by decide)
  · show (Str.ofString (toString i)).length ≤ 20
    exact Nat.le_trans (toString_length_le h0 (k := 12) (by decide) h) (by decide)
theorem Sh.up {k k' L L' : Nat} {d : PyData} (h : Sh k L d) (hk : k ≤ k') (hl : L ≤ L') : Sh k' L' d := ⟨h.s, h.n, Nat.le_trans h.k hk, Nat.le_trans h.l hl⟩
theorem Sh.str {z : Str} {n : Nat} (h : Asc z) (hn : z.length ≤ n) : Sh 0 (10 * n + 2) (.str z) := by
  refine ⟨rfl, rfl, Nat.zero_le _, ?_⟩
  have := PySem.StrLaws.reprText_len z fun c hc => Nat.lt_of_lt_of_le (h c hc) (by decide)
  show (reprText z).length ≤ _
  omega
theorem name_chars {z : Str} (h : nameB z = true) : ∀ c ∈ z.cps.toList, 97 ≤ c ∧ c ≤ 122 := fun c hc => by
  rw [nameB_eq] at h
  simp only [Bool.and_eq_true] at h
  have := List.all_eq_true.mp h.2.2.2 c hc
  rw [Bool.and_eq_true, decide_eq_true_eq, decide_eq_true_eq] at this
  exact this
theorem name_asc {z : Str} (h : nameB z = true) : Asc z := fun c hc => by
  have := name_chars h c hc
  omega
theorem tl_word (z : Str) (m : Nat) : TL.tl (wordS (some (z, m))) = z.cps.toList ++ 58 :: TL.numL m := by
  show TL.tl (z ++ ":" ++ (toString ((m : Nat) : Int) : String)) = _
  rw [TL.tl_append, TL.tl_append, TL.tl_num, show TL.tl ":" = [58] from by decide +kernel, List.append_assoc]
  rfl
theorem word_chars {e : Ev} (h : EvOk e) : ∀ c ∈ TL.tl (wordS e), c ≠ 32 ∧ c < 256 := by
  match e, h with
  | none, _ => exact (by decide +kernel : ∀ c ∈ TL.tl ("/" : Str), c ≠ 32 ∧ c < 256)
  | some (z, m), h =>
    intro c hc
    rw [tl_word] at hc
    rcases List.mem_append.mp hc with h1 | h1
    · have := name_chars h.1 c h1
      omega
    · rcases List.mem_cons.mp h1 with h1 | h1
      · omega
      · have := TL.numL_digits m c h1
        omega
theorem word_asc {e : Ev} (h : EvOk e) : Asc (wordS e) := fun c hc => (word_chars h c hc).2
theorem cut_mk : ∀ {a b : List Nat}, 58 ∉ a → cut (a ++ 58 :: b) = some (a, b)
  | [], b, _ => by
    show cut (58 :: b) = _
    unfold cut
    rw [if_pos rfl]
  | c :: a, b, h => by
    show cut (c :: (a ++ 58 :: b)) = _
    unfold cut
    rw [if_neg (fun e => h (by rw [e]; exact List.mem_cons_self ..)), cut_mk (a := a) (b := b) fun hm => h (List.mem_cons_of_mem _ hm)]
    rfl
theorem lead {m : Nat} (h : (TL.numL m)[0]? = some 48) : m = 0 := by
  induction m using Nat.strongRecOn with
  | _ m ih =>
    by_cases h10 : m < 10
    · rw [TL.numL_lt h10] at h
      have := Option.some.inj h
      omega
    · rw [TL.numL_step (by omega)] at h
      have hne := TL.numL_ne (m / 10)
      rw [List.getElem?_append_left (List.length_pos_iff.mpr hne)] at h
      have := ih (m / 10) (by omega) h
      omega
theorem mkS_tl (z : Str) : mkS z.cps.toList = z := by
  cases z
  rfl
theorem fig_num {m : Nat} (h : m < 10 ^ 9) : figB (mkS (TL.numL m)) = true := by
  have h1 := TL.numL_len (n := m) (k := 9) (by decide) h
  have h2 := List.length_pos_iff.mpr (TL.numL_ne m)
  unfold figB
  simp only [Bool.and_eq_true, Bool.or_eq_true, decide_eq_true_eq, Bool.not_eq_true', decide_eq_false_iff_not]
  refine ⟨by rw [mkS_len]; exact h2, by rw [mkS_len]; omega, ?_, ?_⟩
  · rw [List.all_eq_true]
    intro c hc
    have := TL.numL_digits m c hc
    rw [Bool.and_eq_true]
    exact ⟨decide_eq_true this.1, decide_eq_true this.2⟩
  · by_cases h0 : m = 0
    · left
      rw [h0]
      decide +kernel
    · exact .inr fun e => h0 (lead e)
theorem evOf_word {e : Ev} (h : EvOk e) : evOf (wordS e) = some e := by
  match e, h with
  | none, _ => exact if_pos rfl
  | some (z, m), h =>
    have ht : (wordS (some (z, m))).cps.toList = z.cps.toList ++ 58 :: TL.numL m := tl_word z m
    have h58 : 58 ∉ z.cps.toList := fun hm => by
      have := name_chars h.1 58 hm
      omega
    have hne : ¬ wordS (some (z, m)) = "/" := fun e => by
      have h1 : (58 : Nat) ∈ (wordS (some (z, m))).cps.toList := by
        rw [ht]
        exact List.mem_append_right _ (List.mem_cons_self ..)
      rw [e] at h1
      exact absurd h1 (by decide +kernel)
    have hc := cut_mk (b := TL.numL m) h58
    rw [← ht] at hc
    rw [evOf_some hne hc, mkS_tl, h.1, fig_num h.2, TL.numL_val]
    rfl
theorem word_pos {e : Ev} : 1 ≤ (wordS e).length := by
  match e with
  | none => exact (by decide +kernel : 1 ≤ ("/" : Str).length)
  | some (z, m) =>
    show 1 ≤ (z ++ ":" ++ _).length
    rw [len_app, len_app, show (":" : Str).length = 1 from by decide +kernel]
    omega
theorem join_ge : ∀ {ys : List Str} {y : Str}, y ∈ ys → y.length ≤ (PySem.Str.join " " ys).length
  | [], _, h => absurd h List.not_mem_nil
  | [a], y, h => by
    rw [List.mem_singleton.mp h]
    exact Nat.le_refl _
  | a :: b :: r, y, h => by
    show _ ≤ (a ++ " " ++ PySem.Str.join " " (b :: r)).length
    rw [len_app, len_app]
    rcases List.mem_cons.mp h with h | h
    · rw [h]
      omega
    · have := join_ge (ys := b :: r) h
      omega
theorem words_text {es : List Ev} (h : ∀ e ∈ es, EvOk e) : wordsL (textS es) = es.map wordS := by
  cases es with
  | nil => exact if_pos rfl
  | cons e es =>
    have hne : ¬ textS (e :: es) = "" := fun z => by
      have h1 := join_ge (ys := (e :: es).map wordS) (y := wordS e) (List.mem_map_of_mem (List.mem_cons_self ..))
      have h2 : textS (e :: es) = PySem.Str.join " " ((e :: es).map wordS) := tjoin _
      rw [← h2, z, show ("" : Str).length = 0 from by decide +kernel] at h1
      have := word_pos (e := e)
      omega
    rw [wordsL_of hne]
    refine TL.split_join (s := 32) (S := []) (by decide +kernel) (by decide +kernel) (by simp) fun p hp hm => ?_
    obtain ⟨x, hx, rfl⟩ := List.mem_map.mp hp
    exact (word_chars (h x hx) 32 hm).1 rfl
theorem text_asc {es : List Ev} (h : ∀ e ∈ es, EvOk e) : Asc (textS es) := tjoin_asc fun y hy => by
  obtain ⟨x, hx, rfl⟩ := List.mem_map.mp hy
  exact word_asc (h x hx)
theorem text_len {es : List Ev} (h : ∀ e ∈ es, EvOk e) (hn : es.length ≤ 20) : (textS es).length ≤ 400 := by
  have h1 := join_le (es.map wordS)
  have h2 := words_len h
  rw [show textS es = PySem.Str.join " " (es.map wordS) from tjoin _]
  unfold wt at h1
  rw [List.length_map] at h1
  omega
theorem map_evOf {es : List Ev} (h : ∀ e ∈ es, EvOk e) : (es.map wordS).map evOf = es.map some := by
  rw [List.map_map]
  exact List.map_congr_left fun e he => evOf_word (h e he)
theorem some_inj : ∀ {a b : List Ev}, a.map some = b.map some → a = b
  | [], [], _ => rfl
  | [], _ :: _, h => by cases h
  | _ :: _, [], h => by cases h
  | x :: a, y :: b, h => by
    rw [List.map_cons, List.map_cons] at h
    obtain ⟨h1, h2⟩ := List.cons.inj h
    rw [Option.some.inj h1, some_inj h2]
def DueD (ws : List Str) (d : PyData) : Prop :=
  (∃ j, FirstNone ws j ∧ d = .tuple [.str "at", .int (j : Nat)]) ∨ ∃ es : List Ev, ws.map evOf = es.map some ∧ d = .tuple [.str "events", .list (es.map evD)]
theorem dueD_one {ws : List Str} {d d' : PyData} (h : DueD ws d) (h' : DueD ws d') : d = d' := by
  have mix : ∀ {j : Nat} {es : List Ev}, FirstNone ws j → ws.map evOf = es.map some → False := fun {j es} h1 h2 => by
    have h3 := h1.1
    rw [h2, List.getElem?_map] at h3
    cases h4 : es[j]? with
    | none =>
      rw [h4] at h3
      cases h3
    | some e =>
      rw [h4] at h3
      cases h3
  have half : ∀ {i j : Nat}, FirstNone ws i → FirstNone ws j → ¬ i < j := fun {i j} h1 h2 hl => by
    obtain ⟨e, he⟩ := h2.2 i hl
    rw [h1.1] at he
    cases he
  rcases h with ⟨j, h, rfl⟩ | ⟨es, h, rfl⟩
  · rcases h' with ⟨i, h', rfl⟩ | ⟨es, h', rfl⟩
    · have h1 := half h h'
      have h2 := half h' h
      rw [show i = j from by omega]
    · exact (mix h h').elim
  · rcases h' with ⟨i, h', rfl⟩ | ⟨es', h', rfl⟩
    · exact (mix h' h).elim
    · rw [some_inj (h.symm.trans h')]
theorem evs_dp {K : PySem.W.Frag} {H : Hp} {vs : List V} {es : List Ev} (h : EvsAt H vs es) : DpAll K H vs (es.map evD) := by
  induction h with
  | nil => exact .nil
  | cons a _ ih => exact .cons (ev_dp a) ih
theorem due_dp {K : PySem.W.Frag} {H : Hp} {ws : List Str} {t : Addr} (h : DueAt H ws t) : ∃ d, DueD ws d ∧ Dp K H (.ref t) d := by
  rcases h with ⟨j, h1, h2, h3⟩ | ⟨l, vs, es, h1, h2, h3, h4⟩
  · exact ⟨_, .inl ⟨j, ⟨h1, h2⟩, rfl⟩, .tup (SqT.of h3) (.cons (.str _) (.cons (.int _) .nil))⟩
  · exact ⟨_, .inr ⟨es, h1, rfl⟩, .tup (SqT.of h2) (.cons (.str _) (.cons (.lst (SqL.of h3) (evs_dp h4)) .nil))⟩
def EvLay : Ev → Prop
  | none => True
  | some (z, m) => nameB z = true ∧ m < 10 ^ 12
theorem ev_sh {e : Ev} (h : EvLay e) : Sh 1 255 (evD e) := by
  match e, h with
  | none, _ => exact (Sh.tuple (k := 0) (L := 82) (n := 1) (ds := [.str "close"]) (fun d hd => by
      rw [List.mem_singleton.mp hd]
      exact (Sh.str (n := 8) (by decide +kernel) (by decide +kernel)).up (Nat.le_refl _) (by decide)) (by decide)).up (Nat.le_refl _) (by decide)
  | some (z, m), h =>
    refine Sh.tuple (k := 0) (L := 82) (n := 3) (ds := [.str "open", .str z, .int (m : Nat)]) (fun d hd => ?_) (by show 3 ≤ 3; decide)
    rcases List.mem_cons.mp hd with rfl | hd
    · exact (Sh.str (n := 8) (by decide +kernel) (by decide +kernel)).up (Nat.le_refl _) (by decide)
    · rcases List.mem_cons.mp hd with rfl | hd
      · exact (Sh.str (n := 8) (name_asc h.1) (name_len h.1)).up (Nat.le_refl _) (by decide)
      · rw [List.mem_singleton.mp hd]
        exact (Sh.int (by omega) (by have : m < 10 ^ 12 := h.2; omega)).up (Nat.le_refl _) (by decide)
theorem digits_lt : ∀ (k : Nat) (b : List Nat), (b.all fun c => decide (48 ≤ c) && decide (c ≤ 57)) = true → b.length ≤ k → NumText.digitsVal b < 10 ^ k
  | 0, b, _, h => by
    rw [List.length_eq_zero_iff.mp (Nat.le_zero.mp h)]
    decide
  | k + 1, b, hb, h => by
    have e10 : (10 : Nat) ^ (k + 1) = 10 ^ k * 10 := Nat.pow_succ ..
    rcases List.eq_nil_or_concat b with rfl | ⟨b', c, rfl⟩
    · show 0 < _
      have : 0 < 10 ^ k := Nat.pow_pos (by decide)
      omega
    · rw [List.concat_eq_append] at hb h ⊢
      rw [NumText.digitsVal_snoc]
      rw [List.all_append, Bool.and_eq_true] at hb
      rw [List.length_append, List.length_singleton] at h
      have h1 := digits_lt k b' hb.1 (by omega)
      have h2 := List.all_eq_true.mp hb.2 c (List.mem_singleton.mpr rfl)
      rw [Bool.and_eq_true, decide_eq_true_eq, decide_eq_true_eq] at h2
      omega
theorem evOf_lay {z : Str} {e : Ev} (h : evOf z = some e) : EvLay e := by
  unfold evOf at h
  by_cases h0 : z = "/"
  · rw [if_pos h0] at h
    cases h
    exact True.intro
  · rw [if_neg h0] at h
    cases hc : cut z.cps.toList with
    | none =>
      rw [hc] at h
      cases h
    | some p =>
      obtain ⟨a, b⟩ := p
      rw [hc] at h
      have h' : (if (nameB (mkS a) && figB (mkS b)) = true then some (some (mkS a, NumText.digitsVal b)) else none) = some e := h
      by_cases hb : (nameB (mkS a) && figB (mkS b)) = true
      · rw [if_pos hb] at h'
        cases h'
        obtain ⟨h1, h2⟩ := Bool.and_eq_true_iff.mp hb
        refine ⟨h1, ?_⟩
        unfold figB at h2
        simp only [Bool.and_eq_true, decide_eq_true_eq] at h2
        obtain ⟨_, h3, h4, _⟩ := h2
        rw [mkS_len] at h3
        exact digits_lt 12 b h4 (by omega)
      · rw [if_neg hb] at h'
        cases h'
theorem evs_sh {es : List Ev} {n : Nat} (h : ∀ e ∈ es, EvLay e) (hn : es.length ≤ n) : Sh 2 (n * 257 + 3) (.list (es.map evD)) :=
  Sh.list (k := 1) (L := 255) (fun d hd => by
    obtain ⟨e, he, rfl⟩ := List.mem_map.mp hd
    exact ev_sh (h e he)) (by rw [List.length_map]; exact hn)
theorem due_sh {ws : List Str} {d : PyData} (h : DueD ws d) (hn : ws.length ≤ 1000) : Sh 3 520000 d := by
  rcases h with ⟨j, h, rfl⟩ | ⟨es, h, rfl⟩
  · have hj : j < ws.length := by
      have := (List.getElem?_eq_some_iff.mp h.1).1
      rw [List.length_map] at this
      exact this
    refine (Sh.tuple (k := 0) (L := 82) (n := 2) (ds := [.str "at", .int (j : Nat)]) (fun d hd => ?_) (by show 2 ≤ 2; decide)).up (by decide) (by decide)
    rcases List.mem_cons.mp hd with rfl | hd
    · exact (Sh.str (n := 8) (by decide +kernel) (by decide +kernel)).up (Nat.le_refl _) (by decide)
    · rw [List.mem_singleton.mp hd]
      exact (Sh.int (by omega) (by omega)).up (Nat.le_refl _) (by decide)
  · have hes : ∀ e ∈ es, EvLay e := fun e he => by
      have h1 : some e ∈ ws.map evOf := by
        rw [h]
        exact List.mem_map_of_mem he
      obtain ⟨w, _, hw⟩ := List.mem_map.mp h1
      exact evOf_lay hw
    have hl : es.length ≤ 1000 := by
      have := congrArg List.length h
      rw [List.length_map, List.length_map] at this
      omega
    refine (Sh.tuple (k := 2) (L := 257003) (n := 2) (ds := [.str "events", .list (es.map evD)]) (fun d hd => ?_) (by show 2 ≤ 2; decide)).up (by decide) (by decide)
    rcases List.mem_cons.mp hd with rfl | hd
    · exact (Sh.str (n := 8) (by decide +kernel) (by decide +kernel)).up (by decide) (by decide)
    · rw [List.mem_singleton.mp hd]
      exact (evs_sh hes hl).up (Nat.le_refl _) (by decide)
theorem passN {P : Program} {w : World} {X : Cx} : Passes (L2.CX P w) X (fun _ _ _ => False) := fun _ _ _ _ _ _ _ ⟨_, _, _, _, _, _, _, _, _, _, _, _, h⟩ => h.elim
theorem same_kp {p : Addr} {H H1 H2 : Hp} (s : Same H H1) (n : H p = none) (k : Kp p H1 H2) : Same H H2 := fun b o e => k b o (ne_of_none e n) (s b o e)
end Gx

set_option linter.all false
set_option maxRecDepth 100000
set_option maxHeartbeats 8000000
namespace Q2
open PySem PySem.Spec PyProof.Rows L2 Gx
def topS (i : Nat) : Stmt := PySem.Challenge.pw_keptnomore_k20_questions_too_great.main.body.getD i (.Pass ⟨0, 0, 0, 0⟩)
abbrev s_words_in : Stmt := topS 2
abbrev n_words_in : List Str := ["row"]
theorem sc_words_in : FnScope n_words_in ["row"] (defScope s_words_in) := ⟨rfl, rfl, rfl, by decide +kernel, rfl, by decide +kernel, by decide +kernel⟩
abbrev s_consists : Stmt := topS 3
abbrev n_consists : List Str := ["word", "low", "high", "most", "sign"]
theorem sc_consists : FnScope n_consists ["word", "low", "high", "most"] (defScope s_consists) := ⟨rfl, rfl, rfl, by decide +kernel, rfl, by decide +kernel, by decide +kernel⟩
abbrev s_box : Stmt := topS 33
abbrev n_box : List Str := ["_law_script", "_law_k", "_law_own", "_law_cell", "_law_seed"]
theorem sc_box : FnScope n_box ["_law_script", "_law_k", "_law_own"] (defScope s_box) := ⟨rfl, rfl, rfl, by decide +kernel, rfl, by decide +kernel, by decide +kernel⟩
abbrev s_own : Stmt := topS 20
abbrev n_own : List Str := ["value", "item", "key"]
theorem sc_own : FnScope n_own ["value"] (defScope s_own) := ⟨rfl, rfl, rfl, by decide +kernel, rfl, by decide +kernel, by decide +kernel⟩
/-! the places of the texts: up to 4000 signs -/
theorem small1000 {n : Nat} (h : n ≤ 4000) : n < sizeLine := Nat.lt_of_le_of_lt h (by rw [sizeLine_eq]; decide)
def spIs (B : Str → Bool) : Sp := fun vs H Q _ => ∃ z : Str, vs = [.str z] ∧ z.length ≤ 4000 ∧ Asc z ∧ ∀ H' : Hp, Same H H' → Q (.bl (B z)) H'
def spWords : Sp := fun vs H Q _ => ∃ z : Str, vs = [.str z] ∧ z.length ≤ 4000 ∧ ∀ (a : Addr) (H' : Hp), Same H H' → H a = none → H' a = some (.lst ((wordsL z).map V.str)) → Q (.ref a) H'
def spCons : Sp := fun vs H Q _ => ∃ (z lo hi : Str) (l h most : Nat), vs = [.str z, .str lo, .str hi, .int (most : Nat)] ∧ z.length ≤ 4000 ∧ lo.cps.toList = [l] ∧ hi.cps.toList = [h] ∧ ∀ H' : Hp, Same H H' → Q (.bl (consB l h most z)) H'
section
variable {P : Program} {w : World} {K : PySem.W.Frag} {mg : Str → Option Value} {base : Heap}
theorem ok_words_in {f : Addr} {fd : FuncData} (F : Fun K "words_in" "words_in" s_words_in f fd) : FnOk P w K mg base CX0 1 f fd ["row"] spWords := by
  refine F.ok sc_words_in (fun vs H Q E h => ?_) (fun cdv A outer s H vs Q E hr h => ?_)
  · obtain ⟨z, rfl, _⟩ := h
    rfl
  · obtain ⟨z, rfl, hz, q⟩ := h
    refine ⟨_, (pss_cons (ps_if (pt_cmpR op_eq (pv 0) pe_str (nomark _)) (pss_one (ps_ret (pe_lst pa_nil))) pss_nil)
  (pss_one (ps_ret (pe_split (pv 0) pe_str)))), ?_⟩
    refine ⟨_, rfl, rfl, _, rfl, ite2 (fun h0 => ?_) (fun h0 => ?_)⟩
    · have e0 : z = "" := V.str.inj (of_decide_eq_true h0)
      refine ⟨Nat.zero_le _, fun a na => q a _ (new_same na) na ?_⟩
      rw [wordsL, if_pos e0]
      exact upd_same
    · have e0 : ¬ z = "" := fun h => h0 (decide_eq_true (congrArg V.str h))
      refine ⟨_, rfl, ⟨_, rfl⟩, _, _, rfl, rfl, by decide +kernel, (by rw [sizeLine_eq]; omega), fun L nL => ?_⟩
      refine q L _ (new_same nL) nL ?_
      rw [wordsL_of e0]
      exact upd_same
theorem ok_consists {f : Addr} {fd : FuncData} (F : Fun K "consists_of" "consists_of" s_consists f fd) (T : NmC mg) : FnOk P w K mg base CX0 1 f fd ["word", "low", "high", "most"] spCons := by
  refine F.ok sc_consists (fun vs H Q E h => ?_) (fun cdv A outer s H vs Q E hr h => ?_)
  · obtain ⟨z, lo, hi, l, h, most, rfl, _⟩ := h
    rfl
  · obtain ⟨z, lo, hi, l, h, most, rfl, hz, el, eh, q⟩ := h
    have hz' : z.length ≤ sizeLine := Nat.le_of_lt (small1000 hz)
    refine ⟨_, pss_one (ps_ret (pe_and (pe_chain op_le op_le pe_int (pe_callB call_len_str (by rfl) T.n_len (by decide +kernel) (pa_cons (pv 0) pa_nil)) (pv 3))
      (pe_one (pe_callB (cr_all rfl) (by rfl) T.n_all (by decide +kernel) (pa_cons (pe_lc (own := [("sign", 4)]) (g := gName 4) (tt := tYes) rfl sc_consists.nd (pi_str (pv 0)) (blkOk_by (own := [("sign", 4)]) (N := n_consists) (sc := defScope s_consists) (by decide +kernel)) (fun _ _ _ _ _ => (pg_name (i := 4) sc_consists.nd rfl (.inl rfl))) (fun _ _ _ _ _ => pts_nil) (fun _ _ _ _ _ => (pe_chain op_le_str op_le_str (pv 1) (pv 4) (pv 2)))) pa_nil))))), ?_⟩
    refine ⟨_, rfl, z, rfl, hz', _, _, rfl, rfl, _, rfl, ite2 (fun h0 => ?_) (fun h0 => ?_)⟩
    · have h0' : 0 < z.length := by
        have := of_decide_eq_true h0
        omega
      refine ⟨_, rfl, _, _, rfl, rfl, _, rfl, ite2 (fun h1 => ?_) (fun h1 => ?_)⟩
      · have h1' : z.length ≤ most := by
          have := of_decide_eq_true h1
          omega
        refine ⟨_, rfl, z, rfl, fun D nD => ?_⟩
        refine lc_it walk_str (fun i Hi => (∀ b o, b ≠ D → H b = some o → Hi b = some o) ∧ Hi D = some (.lst (((z.cps.toList.take i).map fun c => decide (l ≤ c) && decide (c ≤ h)).map V.bl)))
          ⟨fun b o x e => by rw [upd_ne x]; exact e, upd_same⟩ (fun _ _ _ _ => True.intro) (fun i x Hi Hj hil p y => ?_) (fun Hi p => ?_)
        · obtain ⟨rfl, c, hc, rfl⟩ := y
          have hcl : z.cps.toList[i]? = some c := by rw [Array.getElem?_toList]; exact hc
          have fin : ∀ k : Bool, k = (decide (l ≤ c) && decide (c ≤ h)) → ∃ acc, Hj D = some (.lst acc) ∧ acc.length < sizeLine ∧ (∀ b o, b ≠ D → H b = some o → upd Hj D (.lst (acc ++ [.bl k])) b = some o) ∧ upd Hj D (.lst (acc ++ [.bl k])) D = some (.lst (((z.cps.toList.take (i + 1)).map fun c => decide (l ≤ c) && decide (c ≤ h)).map V.bl)) := fun k hk => by
            refine ⟨_, p.2, ?_, fun b o x e => by rw [upd_ne x]; exact p.1 b o x e, ?_⟩
            · rw [List.length_map, List.length_map, List.length_take]
              exact small1000 (Nat.le_trans (Nat.min_le_right _ _) hz)
            · rw [upd_same, take_snoc hcl, List.map_append, List.map_append, hk]
              rfl
          refine ⟨rfl, keep1' ?_⟩
          refine ⟨_, rfl, _, rfl, _, _, rfl, rfl, _, rfl, ?_⟩
          have a1 : (!decide ((⟨#[c]⟩ : Str).cps.toList < lo.cps.toList)) = decide (l ≤ c) := by
            rw [el, show (⟨#[c]⟩ : Str).cps.toList = [c] from rfl, lt_one, ← decide_not]
            exact decide_eq_decide.mpr Nat.not_lt
          have a2 : (!decide (hi.cps.toList < (⟨#[c]⟩ : Str).cps.toList)) = decide (c ≤ h) := by
            rw [eh, show (⟨#[c]⟩ : Str).cps.toList = [c] from rfl, lt_one, ← decide_not]
            exact decide_eq_decide.mpr Nat.not_lt
          rw [a1]
          refine ite2 (fun b0 => ?_) (fun b0 => ?_)
          · refine ⟨_, rfl, _, _, rfl, rfl, ?_⟩
            rw [a2]
            exact fin _ (by rw [b0, Bool.true_and])
          · exact fin false (by rw [Bool.eq_false_iff.mpr b0, Bool.false_and])
        · have eD := p.2
          rw [show z.cps.size = z.cps.toList.length from rfl, List.take_length] at eD
          refine ⟨D, _, rfl, SqL.of eD, ?_⟩
          have e : (z.cps.toList.map fun c => decide (l ≤ c) && decide (c ≤ h)).all id = consB l h most z := by
            rw [List.all_map]
            unfold consB
            rw [decide_eq_true h0', decide_eq_true h1']
            rfl
          rw [e]
          exact q _ fun b o e => p.1 b o (ne_of_none e nD) e
      · have e : consB l h most z = false := by
          have h2 : ¬ z.length ≤ most := fun h3 => h1 (decide_eq_true (by omega))
          unfold consB
          rw [decide_eq_false h2, Bool.false_and, Bool.and_false]
        rw [e] at q
        exact q H (Same.refl H)
    · have e : consB l h most z = false := by
        have h2 : ¬ 0 < z.length := fun h3 => h0 (decide_eq_true (by omega))
        unfold consB
        rw [decide_eq_false h2, Bool.false_and]
      rw [e] at q
      exact ⟨_, rfl, iteF (q H (Same.refl H))⟩
theorem ok_box {f : Addr} {fd : FuncData} (F : Fun K "_law_box" "_law_box" s_box f fd) (T : Nm mg) : FnOk P w K mg base CX0 1 f fd ["_law_script", "_law_k", "_law_own"] (spBox K) := by
  refine F.ok sc_box (fun vs H Q E h => ?_) (fun cdv A outer s H vs Q E hr h => ?_)
  · obtain ⟨l, ns, k, own, rfl, _⟩ := h
    rfl
  · obtain ⟨l, ns, k, own, rfl, hl, hk, ho, q⟩ := h
    refine ⟨_, (pss_cons (ps_set (i := 3) sc_box.nd rfl (.inl rfl) (pe_op op_add (pe_op op_add (pe_op op_mul pe_int (pv 1)) (pe_op op_mul pe_int (pv 2))) pe_int))
  (C8.pss_cut (ps_if (pt_cmpR op_lt (pv 1) (pe_callB call_len_seq (by rfl) T.n_len (by decide +kernel) (pa_cons (pv 0) pa_nil)) (nomark _)) (pss_one (ps_set (i := 3) sc_box.nd rfl (.inl rfl) (pe_callB call_abs (by rfl) T.n_abs (by decide +kernel) (pa_cons (pe_ix ix_list (pv 0) (pv 1) (fun _ _ => rfl)) pa_nil)))) (pss_one (ps_if (pt_cmpR op_gt (pe_callB call_len_seq (by rfl) T.n_len (by decide +kernel) (pa_cons (pv 0) pa_nil)) pe_int (nomark _)) (pss_one (ps_set (i := 3) sc_box.nd rfl (.inl rfl) (pe_op op_add (pv 3) (pe_op op_mul (pe_op op_mod (pe_callB call_abs (by rfl) T.n_abs (by decide +kernel) (pa_cons (pe_ix ix_list (pv 0) (pe_op op_mod (pv 1) (pe_callB call_len_seq (by rfl) T.n_len (by decide +kernel) (pa_cons (pv 0) pa_nil))) (fun _ _ => rfl)) pa_nil)) pe_int) pe_int)))) pss_nil)))
  (pss_cons (ps_set (i := 4) sc_box.nd rfl (.inl rfl) (pe_op op_add (pe_op op_mod (pe_op op_add (pe_op op_mul (pe_op op_mod (pv 3) pe_int) pe_int) (pe_op op_mul pe_int (pe_op op_add (pv 1) (pe_op op_mul pe_int (pv 2))))) pe_int) pe_int))
  (pss_one (ps_ret (pe_lst (pa_cons (pe_ix ix_list (pe_lst (pa_cons pe_int (pa_cons (pv 3) pa_nil))) (pe_callTy call_int1 (by rfl) T.n_int (by decide +kernel) (pa_cons (pe_cmpR op_ge (pv 3) (pe_op op_pow pe_int pe_int) (nomark _)) pa_nil)) (fun _ _ => rfl)) (pa_cons (pv 4) (pa_cons pe_int pa_nil))))))))), ?_⟩
    refine ⟨_, rfl, _, _, rfl, rfl, .inl ⟨by decide, by decide⟩, ?_⟩
    refine ⟨_, rfl, _, _, rfl, rfl, .inl ⟨by decide, by decide⟩, _, _, rfl, rfl, _, _, rfl, rfl, ?_⟩
    refine ⟨fun σ' H' => ∃ c : Int, σ' = [some (.ref l), some (.int (k : Int)), some (.int (own : Int)), some (.int c), none] ∧ H' = H ∧ 0 ≤ c, ?_, ?_⟩
    · have hlen : (ns.map V.int).length = ns.length := List.length_map ..
      refine ⟨_, rfl, _, rfl, l, _, rfl, .inl hl, _, _, rfl, rfl, _, rfl, ?_⟩
      refine ite2 (fun ct => ?_) (fun cf => ?_)
      · have ct' := of_decide_eq_true ct
        have hkl : k < ns.length := by omega
        refine ⟨_, rfl, _, rfl, l, _, _, _, rfl, rfl, hl, atInt hkl, _, rfl, ?_⟩
        exact ⟨_, rfl, rfl, abs_nn _⟩
      · refine ⟨_, rfl, l, _, rfl, .inl hl, _, _, rfl, rfl, _, rfl, ?_⟩
        refine ite2 (fun dt => ?_) (fun df => ?_)
        · have dt' := of_decide_eq_true dt
          have hpos : 0 < ns.length := by omega
          have hm : (k : Int) % ((ns.map V.int).length : Int) = ((k % ns.length : Nat) : Int) := by rw [hlen]; rfl
          refine ⟨_, rfl, _, rfl, _, rfl, _, rfl, l, _, rfl, .inl hl, _, _, rfl, rfl, (by show (0 : Int) < _; omega), l, _, _, _, rfl, rfl, hl, (by rw [hm]; exact atInt (Nat.mod_lt _ hpos)), _, rfl, ?_⟩
          refine ⟨_, _, rfl, rfl, (by show (0 : Int) < 2147483629; decide), _, _, rfl, rfl, .inr ⟨by decide, by decide⟩, _, _, rfl, rfl, ?_⟩
          refine ⟨_, rfl, rfl, ?_⟩
          have := Int.emod_nonneg (if ns[k % ns.length]'(Nat.mod_lt _ hpos) < 0 then -ns[k % ns.length]'(Nat.mod_lt _ hpos) else ns[k % ns.length]'(Nat.mod_lt _ hpos)) (show (2147483629 : Int) ≠ 0 by decide)
          omega
        · exact ⟨_, rfl, rfl, by omega⟩
    · rintro σ' H' ⟨c, rfl, rfl, hc⟩
      -- the seed
      refine ⟨_, rfl, _, _, rfl, rfl, (by show (0 : Int) < 2147483629; decide), _, _, rfl, rfl, .inr ⟨by decide, by decide⟩, ?_⟩
      refine ⟨_, rfl, _, rfl, _, _, rfl, rfl, .inl ⟨by decide, by decide⟩, _, _, rfl, rfl, _, _, rfl, rfl, .inl ⟨by decide, by decide⟩, _, _, rfl, rfl, ?_⟩
      refine ⟨_, _, rfl, rfl, (by show (0 : Int) < 2147483629; decide), _, _, rfl, rfl, ?_⟩
      -- [0, cell]
      refine ⟨_, rfl, (by show 2 ≤ sizeLine; decide), fun z hz => ?_⟩
      refine ⟨_, rfl, _, _, rfl, rfl, ⟨by decide, by decide, by decide⟩, _, _, rfl, rfl, .inr ⟨_, rfl, ?_⟩⟩
      have s1 : Same H' (upd H' z (.lst [.int 0, .int c])) := fun b o e => by
        rw [upd_ne (ne_of_none e hz)]
        exact e
      by_cases big : (10 : Int) ^ (18 : Nat) ≤ c
      · have ed : decide ((10 : Int) ^ (Int.toNat 18) ≤ c) = true := decide_eq_true big
        refine ⟨z, _, _, .int c, rfl, rfl, SqL.of upd_same, (by rw [ed]; rfl), _, rfl, (by show 3 ≤ sizeLine; decide), fun p hp => ?_⟩
        refine q p _ (s1.free hp) (fun b o e => ?_) ⟨c, _, 0, upd_same, hc, ?_, ?_, by decide, by decide⟩
        · rw [upd_ne (ne_of_none (s1 b o e) hp)]
          exact s1 b o e
        · omega
        · omega
      · have ed : decide ((10 : Int) ^ (Int.toNat 18) ≤ c) = false := decide_eq_false big
        refine ⟨z, _, _, .int 0, rfl, rfl, SqL.of upd_same, (by rw [ed]; rfl), _, rfl, (by show 3 ≤ sizeLine; decide), fun p hp => ?_⟩
        refine q p _ (s1.free hp) (fun b o e => ?_) ⟨0, _, 0, upd_same, by decide, ?_, ?_, by decide, by decide⟩
        · rw [upd_ne (ne_of_none (s1 b o e) hp)]
          exact s1 b o e
        · omega
        · omega
theorem ok_own {f : Addr} {fd : FuncData} (F : Fun K "own_copy" "own_copy" s_own f fd) (T : NmO mg K f) : FnOk P w K mg base CX0 1 f fd ["value"] spOwnF := by
  refine F.ok sc_own (fun vs H Q E h => ?_) (fun cdv A outer s H vs Q E hr h => ?_)
  · obtain ⟨v, rfl, _⟩ := h
    rfl
  · obtain ⟨v, rfl, hv, q⟩ := h
    refine ⟨_, pss_cons (ps_if (pt_val (pe_callB call_isi (by rfl) T.n_isinstance (by decide +kernel) (pa_cons (pv 0) (pa_cons (pe_bltn (v := .ty "list") (by rfl) T.n_list (by decide +kernel) rfl) pa_nil)))) pss_never pss_nil)
      (pss_cons (ps_if (pt_val (pe_callB call_isi (by rfl) T.n_isinstance (by decide +kernel) (pa_cons (pv 0) (pa_cons (pe_bltn (v := .ty "tuple") (by rfl) T.n_tuple (by decide +kernel) rfl) pa_nil)))) pss_never pss_nil)
      (pss_cons (ps_if (pt_val (pe_callB call_isi (by rfl) T.n_isinstance (by decide +kernel) (pa_cons (pv 0) (pa_cons (pe_bltn (v := .ty "dict") (by rfl) T.n_dict (by decide +kernel) rfl) pa_nil)))) pss_never pss_nil)
      (pss_one (ps_ret (pv 0))))), ?_⟩
    rcases hv with ⟨i, rfl⟩ | ⟨x, rfl⟩
    · refine ⟨_, rfl, _, _, _, _, _, rfl, .ty _, .base (.int i), kit_ty (by decide +kernel), _, rfl, iteF ?_⟩
      refine ⟨_, rfl, _, _, _, _, _, rfl, .ty _, .base (.int i), kit_ty (by decide +kernel), _, rfl, iteF ?_⟩
      refine ⟨_, rfl, _, _, _, _, _, rfl, .ty _, .base (.int i), kit_ty (by decide +kernel), _, rfl, iteF ?_⟩
      exact ⟨_, rfl, q⟩
    · refine ⟨_, rfl, _, _, _, _, _, rfl, .ty _, .base (.str x), kit_ty (by decide +kernel), _, rfl, iteF ?_⟩
      refine ⟨_, rfl, _, _, _, _, _, rfl, .ty _, .base (.str x), kit_ty (by decide +kernel), _, rfl, iteF ?_⟩
      refine ⟨_, rfl, _, _, _, _, _, rfl, .ty _, .base (.str x), kit_ty (by decide +kernel), _, rfl, iteF ?_⟩
      exact ⟨_, rfl, q⟩
end
end Q2

set_option linter.all false
set_option maxRecDepth 100000
set_option maxHeartbeats 8000000
namespace Q2
open PySem PySem.Spec PyProof.Rows L2 Gx
/-! ### draws -/
abbrev s_take : Stmt := topS 34
abbrev n_take : List Str := ["_law_box_here", "_law_many", "_law_digit", "_law_raw"]
theorem sc_take : FnScope n_take ["_law_box_here", "_law_many"] (defScope s_take) := ⟨rfl, rfl, rfl, by decide +kernel, rfl, by decide +kernel, by decide +kernel⟩
abbrev s_mixed : Stmt := topS 35
abbrev n_mixed : List Str := ["_law_box_here", "_law_items", "_law_left", "_law_found"]
theorem sc_mixed : FnScope n_mixed ["_law_box_here", "_law_items"] (defScope s_mixed) := ⟨rfl, rfl, rfl, by decide +kernel, rfl, by decide +kernel, by decide +kernel⟩
abbrev s_pick : Stmt := topS 36
abbrev n_pick : List Str := ["_law_box_here", "_law_items"]
theorem sc_pick : FnScope n_pick ["_law_box_here", "_law_items"] (defScope s_pick) := ⟨rfl, rfl, rfl, by decide +kernel, rfl, by decide +kernel, by decide +kernel⟩
abbrev s_caps : Stmt := topS 37
abbrev n_caps : List Str := ["_law_box_here", "_law_many", "_law_letters", "_law_first", "_law_stem", "_law_k"]
theorem sc_caps : FnScope n_caps ["_law_box_here", "_law_many"] (defScope s_caps) := ⟨rfl, rfl, rfl, by decide +kernel, rfl, by decide +kernel, by decide +kernel⟩
def spMix : Sp := fun vs H Q _ => ∃ (p l : Addr) (zs : List Str) (m : Nat), vs = [.ref p, .ref l] ∧ BoxAt H p m ∧ H l = some (.lst (zs.map V.str)) ∧ (∀ z ∈ zs, Asc z) ∧ zs.length ≤ 100 ∧ m ≤ 10000 ∧
  ∀ (r : Addr) (ys : List Str) (H' : Hp), H r = none → H' r = some (.lst (ys.map V.str)) → ys.length = zs.length → ys.Perm zs → BoxAt H' p (m + zs.length) → Kp p H H' → Q (.ref r) H'
def spPick : Sp := fun vs H Q _ => ∃ (p l : Addr) (xs : List V) (m : Nat), vs = [.ref p, .ref l] ∧ BoxAt H p m ∧ H l = some (.lst xs) ∧ l ≠ p ∧ 1 ≤ xs.length ∧ xs.length ≤ 100 ∧ m ≤ 100000 ∧
  ∀ (x : V) (H' : Hp), x ∈ xs → BoxAt H' p (m + 1) → Kp p H H' → Q x H'
def CapOk (z : Str) : Prop := z.length ≤ 4 ∧ Asc z ∧ consB 65 90 4 z = true
def stems : List Str := ["", "ZQZ", "A"]
/-- all that are ever made -/
def capsAll : List Str := (["K", "KK", "KKK", "KKKK", "Q", "QK"] : List Str) ++ stems.flatMap fun s => (List.range 26).map fun i => s ++ ⟨#[65 + i]⟩
def CapX (z : Str) : Prop := CapOk z ∧ z ∈ capsAll
theorem caps_in {s : Str} {i : Nat} (h : s ∈ stems) (hi : i < 26) : s ++ ⟨#[65 + i]⟩ ∈ capsAll := List.mem_append_right _ (List.mem_flatMap.mpr ⟨s, h, List.mem_map.mpr ⟨i, List.mem_range.mpr hi, rfl⟩⟩)
def spCaps : Sp := fun vs H Q _ => ∃ (p : Addr) (m many : Nat), vs = [.ref p, .int (many : Nat)] ∧ BoxAt H p m ∧ m ≤ 100 ∧ many ≤ 6 ∧
  ∀ (r : Addr) (ys : List Str) (H' : Hp), H r = none → H' r = some (.lst (ys.map V.str)) → ys.length = many → (∀ y ∈ ys, CapX y) → BoxAt H' p (m + 10) → Kp p H H' → Q (.ref r) H'
structure NmM (mg : Str → Option Value) (K : PySem.W.Frag) (ft fx : Addr) : Prop where
  g__law_take : mg "_law_take" = some (.ref ft)
  k__law_take : PySem.W.keepIn K (.ref ft) = true
  g__law_mixed : mg "_law_mixed" = some (.ref fx)
  k__law_mixed : PySem.W.keepIn K (.ref fx) = true
  n_list : mg "list" = none
  n_len : mg "len" = none
  n_range : mg "range" = none
def lenAt (H : Hp) (a : Addr) : Nat := match H a with
  | some (.lst ls) => ls.length
  | _ => 0
theorem lenAt_of {H : Hp} {a : Addr} {ls : List V} (h : H a = some (.lst ls)) : lenAt H a = ls.length := by
  unfold lenAt
  rw [h]
theorem erase_map {α β : Type} (f : α → β) : ∀ (l : List α) (k : Nat), (l.map f).eraseIdx k = (l.eraseIdx k).map f
  | [], _ => rfl
  | _ :: _, 0 => rfl
  | a :: l, k + 1 => congrArg (f a :: ·) (erase_map f l k)
theorem caps_at : ∀ i, i < 26 → ("ABCDEFGHIJKLMNOPQRSTUVWXYZ" : Str).cps.toList[i]? = some (65 + i) := by decide +kernel
theorem cons_snoc {st : Str} {c : Nat} (h : ∀ x ∈ st.cps.toList, 65 ≤ x ∧ x ≤ 90) (hl : st.length ≤ 3) (h1 : 65 ≤ c) (h2 : c ≤ 90) : consB 65 90 4 (st ++ ⟨#[c]⟩) = true := by
  have hlen : (st ++ ⟨#[c]⟩ : Str).length = st.length + 1 := len_app _ _
  have hl2 : (st ++ ⟨#[c]⟩ : Str).cps.toList = st.cps.toList ++ [c] := by
    show (st.cps ++ #[c]).toList = _
    rw [Array.toList_append]
  unfold consB
  rw [hlen, hl2, decide_eq_true (by omega), decide_eq_true (by omega), List.all_append, Bool.true_and, Bool.true_and, Bool.and_eq_true]
  refine ⟨List.all_eq_true.mpr fun x hx => ?_, ?_⟩
  · have := h x hx
    rw [decide_eq_true this.1, decide_eq_true this.2]
    rfl
  · show ((decide (65 ≤ c) && decide (c ≤ 90)) && true) = true
    rw [decide_eq_true h1, decide_eq_true h2]
    rfl
theorem cut6 {many : Nat} (h : many ≤ 6) : cutV [.str "K", .str "KK", .str "KKK", .str "KKKK", .str "Q", .str "QK"] none (some ((many : Nat) : Int)) = ((["K", "KK", "KKK", "KKKK", "Q", "QK"] : List Str).take many).map V.str := by
  match many, h with
  | 0, _ => rfl
  | 1, _ => rfl
  | 2, _ => rfl
  | 3, _ => rfl
  | 4, _ => rfl
  | 5, _ => rfl
  | 6, _ => rfl
theorem caps6 : ∀ z ∈ (["K", "KK", "KKK", "KKKK", "Q", "QK"] : List Str), CapOk z := by
  unfold CapOk
  decide +kernel
section
variable {P : Program} {w : World} {K : PySem.W.Frag} {mg : Str → Option Value} {base : Heap}
theorem ok_take {f : Addr} {fd : FuncData} (F : Fun K "_law_take" "_law_take" s_take f fd) : FnOk P w K mg base CX0 1 f fd ["_law_box_here", "_law_many"] spTake := by
  refine F.ok sc_take (fun vs H Q E h => ?_) (fun cdv A outer s H vs Q E hr h => ?_)
  · obtain ⟨p, many, m, rfl, _⟩ := h
    rfl
  · obtain ⟨p, many, m, rfl, ⟨c, sd, n, hb, hc, hs0, hs1, hn0, hn1⟩, hm, h0, h1, k⟩ := h
    refine ⟨_, (pss_cons (ps_if (pt_cmpR op_gt (pe_ix ix_list (pv 0) pe_int (fun _ _ => rfl)) pe_int (nomark _)) (pss_cons (ps_set (i := 2) sc_take.nd rfl (.inl rfl) (pe_op op_mod (pe_ix ix_list (pv 0) pe_int (fun _ _ => rfl)) (pv 1)))
  (pss_cons (ps_asg (pe_op op_fdiv (pe_ix ix_list (pv 0) pe_int (fun _ _ => rfl)) (pv 1)) (pg_sub (pv 0) pe_int set_list))
  (pss_one (ps_ret (pv 2))))) pss_nil)
  (pss_cons (ps_asg (pe_op op_add (pe_ix ix_list (pv 0) pe_int (fun _ _ => rfl)) pe_int) (pg_sub (pv 0) pe_int set_list))
  (pss_cons (ps_set (i := 3) sc_take.nd rfl (.inl rfl) (pe_op op_mod (pe_op op_mul (pe_op op_add (pe_ix ix_list (pv 0) pe_int (fun _ _ => rfl)) (pe_op op_mul pe_int (pe_ix ix_list (pv 0) pe_int (fun _ _ => rfl)))) pe_int) pe_int))
  (pss_cons (ps_asg (pe_op op_add (pe_op op_mod (pe_op op_add (pe_op op_mul (pv 3) pe_int) pe_int) pe_int) pe_int) (pg_sub (pv 0) pe_int set_list))
  (pss_one (ps_ret (pe_op op_mod (pe_op op_fdiv (pe_op op_add (pe_op op_mul (pv 3) pe_int) (pe_ix ix_list (pv 0) pe_int (fun _ _ => rfl))) pe_int) (pv 1)))))))), ?_⟩
    refine ⟨_, rfl, p, _, _, _, rfl, rfl, SqL.of hb, rfl, _, _, rfl, rfl, _, rfl, ?_⟩
    refine ite2 (fun cpos => ?_) (fun cneg => ?_)
    · refine ⟨_, rfl, p, _, _, _, rfl, rfl, SqL.of hb, rfl, _, rfl, _, _, rfl, rfl, h0, ?_⟩
      refine ⟨_, rfl, p, _, _, _, rfl, rfl, SqL.of hb, rfl, _, rfl, _, _, rfl, rfl, ⟨h0, h1⟩, ?_⟩
      refine ⟨_, rfl, p, _, _, _, rfl, rfl, hb, rfl, ?_⟩
      refine ⟨_, rfl, ?_⟩
      refine k _ _ (Int.emod_nonneg _ (by omega)) (Int.emod_lt_of_pos _ h0) ⟨c / many, sd, n, upd_same, Int.ediv_nonneg hc (by omega), hs0, hs1, hn0, by omega⟩ fun b hb' => upd_ne hb'
    · refine ⟨_, rfl, p, _, _, _, rfl, rfl, SqL.of hb, rfl, _, _, rfl, rfl, ?_⟩
      refine ⟨_, rfl, p, _, _, _, rfl, rfl, hb, rfl, ?_⟩
      refine ⟨_, rfl, p, _, _, _, rfl, rfl, SqL.of upd_same, rfl, ?_⟩
      refine ⟨_, rfl, p, _, _, _, rfl, rfl, SqL.of upd_same, rfl, _, _, rfl, rfl, .inl ⟨by decide, by decide⟩, _, _, rfl, rfl, ?_⟩
      refine ⟨_, _, rfl, rfl, .inl ⟨by omega, by omega⟩, _, _, rfl, rfl, (by show (0 : Int) < 2147483647; decide), ?_⟩
      have hr0 := Int.emod_nonneg ((sd + 104729 * (n + 1)) * 69623) (show (2147483647 : Int) ≠ 0 by decide)
      have hr1 := Int.emod_lt_of_pos ((sd + 104729 * (n + 1)) * 69623) (show (0 : Int) < 2147483647 by decide)
      refine ⟨_, rfl, _, _, rfl, rfl, .inl ⟨by omega, by omega⟩, _, _, rfl, rfl, _, _, rfl, rfl, (by show (0 : Int) < 2147483629; decide), _, _, rfl, rfl, ?_⟩
      refine ⟨_, rfl, p, _, _, _, rfl, rfl, upd_same, rfl, ?_⟩
      refine ⟨_, rfl, _, _, rfl, rfl, .inl ⟨by omega, by omega⟩, ?_⟩
      refine ⟨_, rfl, p, _, _, _, rfl, rfl, SqL.of upd_same, rfl, _, _, rfl, rfl, _, _, rfl, rfl, ⟨by decide, by decide⟩, _, rfl, _, _, rfl, rfl, h0, ?_⟩
      refine k _ _ (Int.emod_nonneg _ (by omega)) (Int.emod_lt_of_pos _ h0) ⟨c, _, n + 1, upd_same, hc, by omega, by omega, by omega, by push_cast; omega⟩ fun b hb' => ?_
      rw [upd_ne hb', upd_ne hb']
theorem ok_pick {f ft fx : Addr} {fd fdt : FuncData} (F : Fun K "_law_pick" "_law_pick" s_pick f fd) (T : NmM mg K ft fx) (G__law_take : FnOk P w K mg base CX0 1 ft fdt ["_law_box_here", "_law_many"] spTake) (b__law_take : Binds K fdt ["_law_box_here", "_law_many"] []) :
    FnOk P w K mg base CX0 2 f fd ["_law_box_here", "_law_items"] spPick := by
  refine F.ok sc_pick (fun vs H Q E h => ?_) (fun cdv A outer s H vs Q E hr h => ?_)
  · obtain ⟨p, l, xs, m, rfl, _⟩ := h
    rfl
  · obtain ⟨p, l, xs, m, rfl, hb, hl, lp, h1, h2, hm, q⟩ := h
    refine ⟨_, (pss_one (ps_ret (pe_ix ix_list (pv 1) (pe_call G__law_take hr rfl T.g__law_take T.k__law_take b__law_take .nil pass0 (pa_cons (pv 0) (pa_cons (pe_callB call_len_seq (by rfl) T.n_len (by decide +kernel) (pa_cons (pv 1) pa_nil)) pa_nil))) (fun _ _ => rfl)))), ?_⟩
    refine ⟨_, rfl, _, rfl, _, rfl, l, _, rfl, .inl (SqL.of hl), p, _, m, rfl, hb, by omega, by omega, by omega, fun d H2 d0 d1 hb2 k2 => ?_⟩
    obtain ⟨k, rfl⟩ : ∃ k : Nat, d = (k : Int) := ⟨d.toNat, by omega⟩
    have hk : k < xs.length := by omega
    refine ⟨l, _, _, xs[k], rfl, rfl, SqL.of ((k2 l lp).trans hl), atI_nat (List.getElem?_eq_getElem hk), ?_⟩
    exact q _ _ (List.getElem_mem hk) hb2 (Kp.eq k2)
theorem pull : ∀ (ls : List Str) (k : Nat) (h : k < ls.length), (ls[k] :: ls.eraseIdx k).Perm ls
  | x :: ls, 0, _ => List.Perm.refl _
  | x :: ls, k + 1, h => by
    have ih := pull ls k (Nat.lt_of_succ_lt_succ h)
    exact (List.Perm.swap x (ls[k]'(Nat.lt_of_succ_lt_succ h)) (ls.eraseIdx k)).trans (ih.cons x)
theorem ok_mixed {f ft fx : Addr} {fd fdt : FuncData} (F : Fun K "_law_mixed" "_law_mixed" s_mixed f fd) (T : NmM mg K ft fx) (G__law_take : FnOk P w K mg base CX0 1 ft fdt ["_law_box_here", "_law_many"] spTake) (b__law_take : Binds K fdt ["_law_box_here", "_law_many"] []) :
    FnOk P w K mg base CX0 2 f fd ["_law_box_here", "_law_items"] spMix := by
  refine F.ok sc_mixed (fun vs H Q E h => ?_) (fun cdv A outer s H vs Q E hr h => ?_)
  · obtain ⟨p, l, zs, m, rfl, _⟩ := h
    rfl
  · obtain ⟨p, l, zs, m, rfl, hb, hl, hA, hn, hm, q⟩ := h
    have hu64 := hr.units
    refine ⟨_, (pss_cons (ps_par (i := 2) (j := 3) (by rfl) sc_mixed.nd rfl rfl (by decide) rfl rfl (pa_cons (pe_callTy call_list_of (by rfl) T.n_list (by decide +kernel) (pa_cons (pv 1) pa_nil)) (pa_cons (pe_lst pa_nil) pa_nil)) (by rfl))
  (pss_cons (ps_while PassesOwn.never (pt_cmpR (op_neD hu64) (pv 2) (pe_lst pa_nil) (nomark _))
  (pss_one (ps_expr (pe_bm PySem.F.plainAttrs_list PySem.F.slot_list_append PySem.F.type_list_append mt_append (pv 3) (pa_cons (pe_bm PySem.F.plainAttrs_list PySem.F.slot_list_pop PySem.F.type_list_pop mt_popAt (pv 2) (pa_cons (pe_call G__law_take hr rfl T.g__law_take T.k__law_take b__law_take .nil pass0 (pa_cons (pv 0) (pa_cons (pe_callB call_len_seq (by rfl) T.n_len (by decide +kernel) (pa_cons (pv 2) pa_nil)) pa_nil))) pa_nil)) pa_nil)))))
  (pss_one (ps_ret (pv 3))))), ?_⟩
    refine ⟨_, rfl, l, _, rfl, .inl (SqL.of hl), fun a na => ?_⟩
    refine ⟨Nat.zero_le _, fun r nr => ⟨_, _, rfl, ?_⟩⟩
    have ea := new_same (o := .lst []) nr a (.lst (zs.map V.str)) upd_same
    have er : upd (upd H a (.lst (zs.map V.str))) r (.lst []) r = some (.lst []) := upd_same
    have S := (new_same (o := .lst (zs.map V.str)) na).trans (new_same (o := .lst []) nr)
    have nra : r ≠ a := fun z => by rw [z, upd_same] at nr; cases nr
    have nr0 : H r = none := (new_same na).free nr
    have pa : p ≠ a := hb.ne na
    have pr : p ≠ r := hb.ne nr0
    have hb2 := hb.mono S
    generalize upd (upd H a (.lst (zs.map V.str))) r (.lst []) = H2 at *
    refine while_by (fun σ Hi => ∃ (i : Nat) (ls fs : List Str), BoxAt Hi p (m + i) ∧ Kp p H Hi ∧ Hi a = some (.lst (ls.map V.str)) ∧ Hi r = some (.lst (fs.map V.str)) ∧ ls.length + i = zs.length ∧ fs.length = i ∧ (∀ y ∈ ls, y ∈ zs) ∧ (fs ++ ls).Perm zs ∧ σ = [some (.ref p), some (.ref l), some (.ref a), some (.ref r)])
      (fun _ Hi => lenAt Hi a) ⟨0, zs, [], hb2, Kp.of S, ea, er, rfl, rfl, fun _ h => h, List.Perm.refl _, rfl⟩ (fun σ Hi P => ?_) (fun σ Hi Q1 Q2 hQ hc => ?_)
    · obtain ⟨i, ls, fs, hbi, ki, el, ef, hl1, hf1, hl2, hf2, rfl⟩ := P
      refine ⟨_, rfl, Nat.zero_le _, fun e0 n0 => ?_⟩
      have S0 := new_same (o := .lst []) n0
      refine ⟨.list (ls.map PyData.str), .list [], .lst (SqL.of (S0 _ _ el)) (dp_strs _), .lst (SqL.of upd_same) .nil, shaped_strs (fun z hz => hA z (hl2 z hz)), rfl, _, rfl, ?_⟩
      rw [eqv_nil]
      have hb0 := hbi.mono S0
      have k0 : Kp p H (upd Hi e0 (.lst [])) := ki.trans (Kp.of S0)
      have el0 := S0 _ _ el
      have ef0 := S0 _ _ ef
      have hμ : lenAt Hi a = ls.length := by rw [lenAt_of el, List.length_map]
      generalize upd Hi e0 (.lst []) = H0 at *
      cases ls with
      | nil => exact iteF ⟨_, rfl, q r fs H0 nr0 ef0 (by rw [List.length_nil] at hl1; omega) (by rw [List.append_nil] at hf2; exact hf2) (hb0.le (by rw [List.length_nil] at hl1; omega)) k0⟩
      | cons z0 ls0 =>
        refine iteT ?_
        generalize hLs : z0 :: ls0 = ls at *
        have hpos : 0 < ls.length := by rw [← hLs]; exact Nat.succ_pos _
        refine ⟨_, rfl, .inl ⟨rfl, _, SqL.of ef0⟩, ?_⟩
        refine ⟨_, rfl, .inl ⟨rfl, _, SqL.of el0⟩, ?_⟩
        refine ⟨_, rfl, _, rfl, a, _, rfl, .inl (SqL.of el0), ?_⟩
        rw [List.length_map]
        refine ⟨p, _, m + i, rfl, hb0, by omega, by omega, by omega, fun d H3 d0 d1 hb3 k3 => ?_⟩
        have el3 := (k3 a (Ne.symm pa)).trans el0
        have ef3 := (k3 r (Ne.symm pr)).trans ef0
        obtain ⟨k, rfl⟩ : ∃ k : Nat, d = (k : Int) := ⟨d.toNat, by omega⟩
        have hk : k < ls.length := by omega
        refine ⟨a, ls.map V.str, _, k, .str ls[k], rfl, rfl, el3, by omega, by omega, by rw [List.length_map, sIx (by omega) (by omega)]; rfl, by rw [List.getElem?_map, List.getElem?_eq_getElem hk]; rfl, ?_⟩
        refine ⟨r, fs.map V.str, _, rfl, rfl, (upd_ne nra).trans ef3, by rw [List.length_map, hf1]; exact small1000 (by omega), ?_⟩
        refine ⟨⟨i + 1, ls.eraseIdx k, fs ++ [ls[k]], ?_, fun b o bp e => ?_, ?_, ?_, ?_, ?_, fun y hy => hl2 y (List.mem_of_mem_eraseIdx hy), ?_, rfl⟩, ?_⟩
        · obtain ⟨c, sd, n, e, x⟩ := hb3
          exact ⟨c, sd, n, by rw [upd_ne pr, upd_ne pa]; exact e, x⟩
        · rw [upd_ne (ne_of_none e nr0)]
          have ba : b ≠ a := fun z => by
            rw [z, na] at e
            cases e
          rw [upd_ne ba, k3 b bp]
          exact k0 b o bp e
        · rw [upd_ne (Ne.symm nra), upd_same, erase_map]
        · rw [upd_same, List.map_append]
          rfl
        · rw [List.length_eraseIdx, if_pos hk]
          omega
        · rw [List.length_append, hf1]
          rfl
        · rw [List.append_assoc, List.singleton_append]
          exact ((pull ls k hk).append_left fs).trans hf2
        · show lenAt _ a < lenAt Hi a
          rw [hμ, lenAt_of (H := upd (upd H3 a _) r _) (ls := (ls.map V.str).eraseIdx k) (by rw [upd_ne (Ne.symm nra), upd_same]), List.length_eraseIdx, List.length_map, if_pos hk]
          omega
    · obtain ⟨v, hv, h0, h⟩ := hc
      refine ⟨v, hv, h0, fun p hp => ?_⟩
      obtain ⟨d, e, h1, h2, h3, h4, k, h5, h6⟩ := h p hp
      exact ⟨d, e, h1, h2, h3, h4, k, h5, hQ _ _ h6⟩
theorem ok_caps {f ft fx : Addr} {fd fdt fdx : FuncData} (F : Fun K "_law_caps" "_law_caps" s_caps f fd) (T : NmM mg K ft fx) (G__law_take : FnOk P w K mg base CX0 2 ft fdt ["_law_box_here", "_law_many"] spTake) (b__law_take : Binds K fdt ["_law_box_here", "_law_many"] [])
    (G__law_mixed : FnOk P w K mg base CX0 2 fx fdx ["_law_box_here", "_law_items"] spMix) (b__law_mixed : Binds K fdx ["_law_box_here", "_law_items"] []) : FnOk P w K mg base CX0 3 f fd ["_law_box_here", "_law_many"] spCaps := by
  refine F.ok sc_caps (fun vs H Q E h => ?_) (fun cdv A outer s H vs Q E hr h => ?_)
  · obtain ⟨p, m, many, rfl, _⟩ := h
    rfl
  · obtain ⟨p, m, many, rfl, hb, hm, hmany, q⟩ := h
    refine ⟨_, (pss_cons (ps_asg (pe_tup (pa_cons pe_str (pa_cons (pe_call G__law_take hr rfl T.g__law_take T.k__law_take b__law_take .nil pass0 (pa_cons (pv 0) (pa_cons pe_int pa_nil))) pa_nil))) (pg_tup rfl (pgs_cons (pg_name (i := 2) sc_caps.nd rfl (.inr rfl)) (pgs_cons (pg_name (i := 3) sc_caps.nd rfl (.inr rfl)) pgs_nil))))
  (pss_cons (ps_if (pt_cmpR op_eq (pe_call G__law_take hr rfl T.g__law_take T.k__law_take b__law_take .nil pass0 (pa_cons (pv 0) (pa_cons pe_int pa_nil))) pe_int (nomark _)) (pss_one (ps_ret (pe_call G__law_mixed hr rfl T.g__law_mixed T.k__law_mixed b__law_mixed .nil pass0 (pa_cons (pv 0) (pa_cons (pe_slice sl_list (pe_lst (pa_cons pe_str (pa_cons pe_str (pa_cons pe_str (pa_cons pe_str (pa_cons pe_str (pa_cons pe_str pa_nil))))))) po_none (po_some (pv 1))) pa_nil))))) pss_nil)
  (pss_cons (ps_set (i := 4) sc_caps.nd rfl (.inr rfl) (pe_ix ix_list (pe_lst (pa_cons pe_str (pa_cons pe_str (pa_cons pe_str (pa_cons pe_str pa_nil))))) (pe_call G__law_take hr rfl T.g__law_take T.k__law_take b__law_take .nil pass0 (pa_cons (pv 0) (pa_cons pe_int pa_nil))) (fun _ _ => rfl)))
  (pss_one (ps_ret (pe_call G__law_mixed hr rfl T.g__law_mixed T.k__law_mixed b__law_mixed .nil pass0 (pa_cons (pv 0) (pa_cons (pe_lc (own := [("_law_k", 5)]) (g := gName 5) (tt := tYes) rfl sc_caps.nd (pi_range1 (by rfl) T.n_range (pa_cons (pv 1) pa_nil)) (blkOk_by (own := [("_law_k", 5)]) (N := n_caps) (sc := defScope s_caps) (by decide +kernel)) (fun _ _ _ _ _ => (pg_name (i := 5) sc_caps.nd rfl (.inl rfl))) (fun _ _ _ _ _ => pts_nil) (fun _ _ _ _ _ => (pe_op op_add_str (pv 4) (pe_ix ix_str (pv 2) (pe_op op_mod (pe_op op_add (pv 3) (pe_op op_mul pe_int (pv 5))) pe_int) (fun _ _ => rfl))))) pa_nil)))))))), ?_⟩
    have fin : ∀ (l : Addr) (zs : List Str) (H' : Hp) (m' : Nat), BoxAt H' p m' → m' ≤ m + 3 → Kp p H H' → H' l = some (.lst (zs.map V.str)) → zs.length = many → (∀ z ∈ zs, CapX z) →
        spMix [.ref p, .ref l] H' Q E0 := fun l zs H' m' hb' hm' k' el hz hc =>
      ⟨p, l, zs, m', rfl, hb', el, fun z hz => (hc z hz).1.2.1, by omega, by omega, fun r ys H'' nr er ly my b'' k'' => q r ys H'' (by
        cases e : H r with
        | none => rfl
        | some o =>
          by_cases hp : r = p
          · exact absurd hp.symm (hb'.ne nr)
          · rw [k' r o hp e] at nr
            cases nr) er (by omega) (fun y hy => hc y (my.mem_iff.mp hy)) (b''.le (by omega)) (k'.trans k'')⟩
    refine ⟨_, rfl, p, 26, m, rfl, hb, by omega, by decide, by decide, fun d1 H1 d10 d11 hb1 k1 => ⟨(by show 2 ≤ sizeLine; decide), fun t nt => ?_⟩⟩
    have S1 := new_same (o := .tup [.str "ABCDEFGHIJKLMNOPQRSTUVWXYZ", .int d1]) nt
    have et : upd H1 t (.tup [.str "ABCDEFGHIJKLMNOPQRSTUVWXYZ", .int d1]) t = some (.tup [.str "ABCDEFGHIJKLMNOPQRSTUVWXYZ", .int d1]) := upd_same
    refine ⟨t, _, rfl, SqT.of et, rfl, _, _, rfl, _, _, rfl, rfl, ?_⟩
    have hb1' := hb1.mono S1
    have K1 : Kp p H (upd H1 t (.tup [.str "ABCDEFGHIJKLMNOPQRSTUVWXYZ", .int d1])) := (Kp.eq k1).trans (Kp.of S1)
    generalize upd H1 t (.tup [.str "ABCDEFGHIJKLMNOPQRSTUVWXYZ", .int d1]) = H2 at *
    refine ⟨_, rfl, p, 4, _, rfl, hb1', by omega, by decide, by decide, fun d2 H3 d20 d21 hb3 k3 => ⟨rfl, _, rfl, ?_⟩⟩
    have K3 := K1.trans (Kp.eq k3)
    refine ite2 (fun _ => ?_) (fun _ => ?_)
    · refine ⟨_, rfl, (by show 6 ≤ sizeLine; decide), fun l nl => ⟨_, rfl, _, rfl, l, _, rfl, SqL.of upd_same, fun l2 nl2 => ?_⟩⟩
      have S4 := (new_same (o := .lst [.str "K", .str "KK", .str "KKK", .str "KKKK", .str "Q", .str "QK"]) nl).trans (new_same (o := .lst (cutV [.str "K", .str "KK", .str "KKK", .str "KKKK", .str "Q", .str "QK"] none (some ((many : Nat) : Int)))) nl2)
      exact fin l2 ((["K", "KK", "KKK", "KKKK", "Q", "QK"] : List Str).take many) _ _ (hb3.mono S4) (by omega) (K3.trans (Kp.of S4)) (by rw [upd_same, cut6 hmany]) (by rw [List.length_take]; exact Nat.min_eq_left hmany) (fun z hz => ⟨caps6 z (List.mem_of_mem_take hz), List.mem_append_left _ (List.mem_of_mem_take hz)⟩)
    · refine ⟨(by show 4 ≤ sizeLine; decide), fun l nl => ?_⟩
      have S4 := new_same (o := .lst [.str "", .str "", .str "ZQZ", .str "A"]) nl
      have el4 : upd H3 l (.lst [.str "", .str "", .str "ZQZ", .str "A"]) l = some (.lst [.str "", .str "", .str "ZQZ", .str "A"]) := upd_same
      have hb4 := hb3.mono S4
      have K4 := K3.trans (Kp.of (p := p) S4)
      have pl := hb3.ne nl
      generalize upd H3 l (.lst [.str "", .str "", .str "ZQZ", .str "A"]) = H4 at *
      refine ⟨_, rfl, p, 4, _, rfl, hb4, by omega, by decide, by decide, fun d5 H5 d50 d51 hb5 k5 => ?_⟩
      have K5 := K4.trans (Kp.eq k5)
      obtain ⟨stem, hst, hs3, hsA, hsm, hs5⟩ : ∃ z : Str, atI [V.str "", .str "", .str "ZQZ", .str "A"] d5 = some (.str z) ∧ z.length ≤ 3 ∧ Asc z ∧ z ∈ stems ∧ ∀ x ∈ z.cps.toList, 65 ≤ x ∧ x ≤ 90 := by
        have hc : d5 = ((0 : Nat) : Int) ∨ d5 = ((1 : Nat) : Int) ∨ d5 = ((2 : Nat) : Int) ∨ d5 = ((3 : Nat) : Int) := by omega
        rcases hc with rfl | rfl | rfl | rfl
        · exact ⟨"", atI_nat (j := 0) rfl, by decide +kernel, by decide +kernel, by decide +kernel, by decide +kernel⟩
        · exact ⟨"", atI_nat (j := 1) rfl, by decide +kernel, by decide +kernel, by decide +kernel, by decide +kernel⟩
        · exact ⟨"ZQZ", atI_nat (j := 2) rfl, by decide +kernel, by decide +kernel, by decide +kernel, by decide +kernel⟩
        · exact ⟨"A", atI_nat (j := 3) rfl, by decide +kernel, by decide +kernel, by decide +kernel, by decide +kernel⟩
      refine ⟨l, _, _, _, rfl, rfl, SqL.of ((k5 l (Ne.symm pl)).trans el4), hst, ?_⟩
      refine ⟨_, rfl, _, rfl, (many : Nat), rfl, by omega, by omega, fun D nD => ?_⟩
      rw [Int.toNat_natCast]
      have pD := hb5.ne nD
      refine lc_range (lo := 0) (n := many) (fun i Hi => Same H5 Hi ∧ ∃ zs : List Str, Hi D = some (.lst (zs.map V.str)) ∧ zs.length = i ∧ ∀ z ∈ zs, CapX z)
        ⟨new_same nD, [], upd_same, rfl, fun _ h => absurd h List.not_mem_nil⟩ (fun i Hi hi p => ?_) (fun Hi p => ?_)
      · obtain ⟨s5, zs, ez, lz, hz⟩ := p
        obtain ⟨a, rfl⟩ : ∃ a : Nat, d1 = (a : Int) := ⟨d1.toNat, by omega⟩
        refine ⟨rfl, keep1' ?_⟩
        refine ⟨_, rfl, _, rfl, _, rfl, _, rfl, _, _, rfl, rfl, .inl ⟨by decide, by decide⟩, _, _, rfl, rfl, _, _, rfl, rfl, (by show (0 : Int) < 26; decide), ?_⟩
        have ei : ((a : Nat) + 5 * (0 + (i : Nat)) : Int) % 26 = (((a + 5 * i) % 26 : Nat) : Int) := by omega
        refine ⟨_, _, 65 + (a + 5 * i) % 26, rfl, rfl, (by rw [sizeLine_eq]; decide +kernel), (by rw [ei]; exact atI_nat (caps_at _ (Nat.mod_lt _ (by decide)))), _, _, rfl, rfl, (by show _ + 1 ≤ _; rw [sizeLine_eq]; omega), ?_⟩
        refine ⟨_, ez, by rw [List.length_map, lz, sizeLine_eq]; omega, fun b o e => (upd_ne (ne_of_none e nD)).trans (s5 _ _ e), zs ++ [_], by rw [upd_same, List.map_append]; rfl, by rw [List.length_append, lz]; rfl, fun z hz' => ?_⟩
        rcases List.mem_append.mp hz' with h | h
        · exact hz z h
        · rw [List.mem_singleton.mp h]
          refine ⟨⟨by rw [len_app]; show _ + 1 ≤ 4; omega, app_asc hsA fun c hc => ?_, cons_snoc hs5 hs3 (by omega) (by omega)⟩, caps_in hsm (Nat.mod_lt _ (by decide))⟩
          rw [List.mem_singleton.mp hc]
          omega
      · obtain ⟨s5, zs, ez, lz, hz⟩ := p
        exact fin D zs Hi _ (hb5.mono s5) (by omega) (K5.trans (Kp.of s5)) ez lz hz
end
end Q2

set_option linter.all false
set_option maxRecDepth 100000
set_option maxHeartbeats 4000000
/-! set(xs) of a list of texts; len of it -/
namespace Ws
open PySem PySem.Spec PyProof.Rows L2
/-- how many unlike texts -/
def unl : List Str → List Str
  | [] => []
  | z :: zs => if z ∈ zs then unl zs else z :: unl zs
def inS (zs : List Str) : Str → Bool := fun y => decide (y ∈ zs)
/-- the unlike ones, from the left -/
def met (zs : List Str) : Nat → Nat
  | 0 => 0
  | i + 1 => match zs[i]? with
    | none => met zs i
    | some z => if z ∈ zs.take i then met zs i else met zs i + 1
theorem met_le (zs : List Str) : ∀ i, met zs i ≤ i
  | 0 => Nat.le_refl _
  | i + 1 => by
    have := met_le zs i
    unfold met
    split
    · omega
    · split <;> omega
section
variable {prog : Program} {w : World} {A : Around} {R : Result → Shared → Prop} {I : Addr} {fp wr : List Addr} {G : Array GenState → Array GenState → Prop} {n : Nat} {Pv : Nat → Value → Prop} {St : Nat → Shared → Prop}
theorem loop_any (W : WalksS prog w A.in1 I fp wr G n Pv St) (a : Addr) (ha : a ∉ fp) (zs : List Str) (hz : zs.length = n) (hb : n + 1 < scanBound) (hv : ∀ i v, Pv i v → ∃ z t, zs[i]? = some z ∧ v = .str z t) :
    ∀ (m i : Nat) (s : Shared), n - i = m → i ≤ n → St i s → s.heap.SetOf (PySem.strKind prog w) a (inS (zs.take i)) (met zs i) →
      (∀ s', Moved (a :: wr) G s s' → s'.heap.SetOf (PySem.strKind prog w) a (inS zs) (met zs n) → R (.ok (.ret .none)) s') → codeAny (model prog w) A (.builtin "set.update.loop" ⟨[.ref a, .ref I], []⟩) R s := by
  have awr : a ∉ wr := fun q => ha (W.sub _ q)
  have more : ∀ b ∈ wr, b ∈ a :: wr := fun b q => List.mem_cons_of_mem _ q
  have at_ : ∀ {S : Str → Bool} {c : Nat} {h h' : Heap}, h.SetOf (PySem.strKind prog w) a S c → (∀ o, h.get? a = some o → h'.get? a = some o) → h'.SetOf (PySem.strKind prog w) a S c := fun q k => let ⟨o, es, ep, t, ho, r⟩ := q; ⟨o, es, ep, t, k o ho, r⟩
  intro m
  induction m with
  | zero =>
    intro i s hm hi st q fin
    obtain rfl : i = n := by omega
    refine codeAny_builtin PyProof.Rows.F.entry_set_update_loop ?_
    rw [Around.under_plainId PyProof.Rows.F.plain_set_update_loop _]
    refine wpAny_bind (W.done s _ _ st fun s' mv => ?_)
    rw [List.take_of_length_le (Nat.le_of_eq hz)] at q
    exact wpAny_pure (fin s' (mv.mono more) (at_ q fun o e => mv.heap a o awr e))
  | succ m ih =>
    intro i s hm hi st q fin
    have lt : i < n := by omega
    refine codeAny_builtin PyProof.Rows.F.entry_set_update_loop ?_
    rw [Around.under_plainId PyProof.Rows.F.plain_set_update_loop _]
    refine wpAny_bind (W.item i s _ _ lt st fun v s' pv st' mv => ?_)
    obtain ⟨z, t, ez, rfl⟩ := hv i v pv
    have q' := at_ q fun o e => mv.heap a o awr e
    refine wpAny_bind (wpAny_holding ?_)
    unfold setAdd
    refine wpAny_holding (wpAny_bind ((PySem.strKind prog w).pyHash (k := z) (strKind_is _ _ _ _) ?_))
    have ml := met_le zs i
    refine wpAny_setAddHashed_of (knd := PySem.strKind prog w) (s := { s' with toks := s'.toks + 1 }) (strKind_is _ _ _ _) rfl q' (by omega) fun h' sb q2 => ?_
    have nx : zs.take (i + 1) = zs.take i ++ [z] := by rw [List.take_add_one, ez]; rfl
    have q3 : h'.SetOf (PySem.strKind prog w) a (inS (zs.take (i + 1))) (met zs (i + 1)) := by
      refine SetOf_congr q2 (fun y => ?_) ?_
      · unfold inS
        rw [nx]
        by_cases e : y = z
        · rw [e]
          simp
        · simp [e]
      · unfold inS
        rw [met, ez]
        simp
    refine wpAny_pure ⟨plainId_quiet PyProof.Rows.F.plain_set_update_loop _, ih (i + 1) _ (by omega) lt (W.frame _ s' _ _ st' (Nat.le_succ _) fun b bf o e => ?_) q3 fun s2 mv2 q4 => ?_⟩
    · exact (sb.2 b fun r => ha (r ▸ bf)).trans e
    · refine fin s2 (Moved.trans W.gtrans ((mv.mono more).then_heap (Nat.le_succ _) fun b o nb e => ?_) mv2) q4
      exact (sb.2 b fun r => nb (r ▸ List.mem_cons_self ..)).trans e
end
section
variable {prog : Program} {w : World} {A : Around} {E : Value → Shared → Prop} {s : Shared}
def oSet (b : Bool) : Obj := { cls := .type "set", dict := none, data := .set #[] 0 (.fresh 0 0 b) }
theorem call_any {l : Addr} {items : Array Value} {zs : List Str} {Q : Value → Shared → Prop} (hh : A.handled = none) (hl : s.heap.IsList l items) (hi : PyProof.Rows.StrsAre items.toList zs) (hb : zs.length + 1 < scanBound)
    (h : ∀ (h' : Heap) (tk : Nat), h'.SetOf (PySem.strKind prog w) s.heap.objs.size (inS zs) (met zs zs.length) → (∀ b o, s.heap.get? b = some o → h'.get? b = some o) → Q (.ref s.heap.objs.size) { s with heap := h', toks := tk }) :
    wpAny (model prog w) A (call (.type "set") [.ref l]) Q E s := by
  have hn : zs.length = items.size := by rw [← StrsAre.len_eq hi, Array.length_toList]
  obtain ⟨c, tl, hmro⟩ := PySem.F.called_set.mro
  have m1 := PySem.F.called_set.made
  have m2 := PySem.F.called_set.sub
  have m3 := PySem.F.called_set.notType
  have m4 := PySem.F.called_set.canCreate
  have m5 := PySem.F.typeCall_set_1 (.ref l)
  refine wpAny_call (codeAny_of_tree (wpAny_pure ⟨Code.quiet_builtin _ (by decide +kernel), codeAny_builtin PySem.F.entry_type_call ?_⟩))
  rw [Around.under_plain (weight_type_call_type "set" [.ref l] []) rfl]
  repeat (any_goals (first | assumption | wp_step))
  refine codeAny_mono (code_set_new_1 (.ref l) (E := E) (Q₁ := fun ob s1 => ∃ b : Bool, ob = .ref s.heap.objs.size ∧ s1 = { s with heap := s.heap.push (oSet b) }) fun b => ⟨b, rfl, rfl⟩) fun r s1 q => ?_
  match r, q with
  | .error e, q => exact q
  | .ok .next, q => exact q.elim
  | .ok .brk, q => exact q.elim
  | .ok .cont, q => exact q.elim
  | .ok (.ret ob), q =>
    obtain ⟨b, rfl, rfl⟩ := q
    have g0 : (s.heap.push (oSet b)).get? s.heap.objs.size = some (oSet b) := Heap.get?_push_size _ rfl
    have t0 : Shared.TypeIs { s with heap := s.heap.push (oSet b) } (.ref s.heap.objs.size) "set" := ⟨_, g0, rfl⟩
    have i1 := PySem.F.called_set.init.lookup
    have i2 := PySem.F.called_set.init.bind (.ref s.heap.objs.size)
    repeat (any_goals (first | assumption | wp_step))
    refine codeAny_mono (codeAny_call_builtin (R := wants (fun r s2 => r = .none ∧ ∃ h' tk, s2 = { s with heap := h', toks := tk } ∧ h'.SetOf (PySem.strKind prog w) s.heap.objs.size (inS zs) (met zs zs.length) ∧ (∀ b o, s.heap.get? b = some o → h'.get? b = some o)) E)
      PySem.F.called_set.init.plain PySem.F.entry_set_init (check_set_init_1 t0 ?_)) fun r2 s2 q2 => ?_
    · have ll : l < s.heap.objs.size := by
        obtain ⟨o, e, _⟩ := hl
        exact Heap.lt_size e
      have hl1 : (s.heap.push (oSet b)).IsList l items := hl.push _
      obtain ⟨⟨oc, od, oo, os⟩, e1, e2, e3, e4⟩ := id hl1
      simp only at e2 e4
      subst e2 e4
      have k1 := PySem.F.sub_list_set
      have k2 := PySem.F.sub_list_frozenset
      have k3 : (Value.type "list" == Value.type "dict") = false := by decide
      unfold Builtin.«set.__init__» noKeywords Builtin.Frozenset.updateFrom
      generalize hp : pyIter = pI
      wp_walk
      subst hp
      refine wpAny_pyIter_list hl1 (wpAny_bind (wpAny_runValue ?_))
      have sz1 : (s.heap.push (oSet b)).objs.size = s.heap.objs.size + 1 := Heap.size_push ..
      have d1 : l ≠ (s.heap.push (oSet b)).objs.size := by rw [sz1]; exact Nat.ne_of_lt (Nat.lt_succ_of_lt ll)
      have d2 : s.heap.objs.size ∉ [(s.heap.push (oSet b)).objs.size, l] := by
        rw [sz1]
        simp only [List.mem_cons, List.not_mem_nil, or_false, not_or]
        exact ⟨Nat.ne_of_lt (Nat.lt_succ_self _), Nat.ne_of_gt ll⟩
      have hv : ∀ (i : Nat) (v : Value), items[i]? = some v → ∃ z t, zs[i]? = some z ∧ v = .str z t := fun i v e => by
        have hlt : i < zs.length := by rw [hn]; exact (Array.getElem?_eq_some_iff.mp e).1
        obtain ⟨t, q⟩ := SS.strs_at hi i v (by rw [Array.getElem?_toList]; exact e)
        refine ⟨zs[i], t, List.getElem?_eq_getElem hlt, ?_⟩
        rw [q, List.getD_eq_getElem?_getD, List.getElem?_eq_getElem hlt]
        rfl
      refine loop_any ((Walks.list (by simp [hh]) _ l d1 items).toS) s.heap.objs.size d2 zs hn (by rw [← hn]; exact hb) hv (items.size - 0) 0 _ (by omega) (Nat.zero_le _) ⟨⟨_, Heap.get?_push_size _ rfl, rfl, rfl⟩, hl1.push _⟩ ?c0 ?cR
      case c0 =>
        have g1 : ((s.heap.push (oSet b)).push { cls := .type "list_iterator", data := .fields #[.ref l, .int 0 0] }).get? s.heap.objs.size = some (oSet b) := Heap.get?_push_of_some _ g0
        exact SetOf_congr ((setObjOf_fresh (knd := PySem.strKind prog w) b).setOf g1 (by unfold scanBound; omega)) (fun _ => by simp [inS]) rfl
      case cR =>
        intro s3 mv q3
        obtain ⟨h3, g3, d3, t3, o3⟩ := s3
        obtain rfl : g3 = s.gens := mv.gens
        obtain rfl : d3 = s.drawn := mv.drawn
        obtain rfl : o3 = s.os := mv.os
        refine wpAny_pure (wpAny_pure ⟨rfl, h3, t3, rfl, by rw [hn]; exact q3, fun c o e => ?_⟩)
        have lc := Heap.lt_size e
        exact mv.heap c o (by
          rw [sz1]
          simp only [List.mem_cons, List.not_mem_nil, or_false, not_or]
          exact ⟨Nat.ne_of_lt lc, Nat.ne_of_lt (Nat.lt_succ_of_lt lc)⟩) (Heap.get?_push_of_some _ (Heap.get?_push_of_some _ e))
    · match r2, q2 with
      | .error e, q2 => exact q2
      | .ok .next, q2 => exact q2.elim
      | .ok .brk, q2 => exact q2.elim
      | .ok .cont, q2 => exact q2.elim
      | .ok (.ret r), q2 =>
        obtain ⟨rfl, h', tk, rfl, q3, q4⟩ := q2
        repeat (any_goals (first | assumption | wp_step))
        exact h _ _ q3 q4
end
def tLenZ (K : PySem.W.Frag) (ta : TE) : TE := fun σ H Q => ta σ H fun x G => ∃ (l : Addr) (zs : List Str), x = .ref l ∧ SqL K G l (zs.map V.str) ∧ zs.length ≤ 4000 ∧ Q (.int (met zs zs.length : Nat)) G
/-- len(set(xs)), xs a list of texts -/
theorem pe_lenZ {X : Cx} {e : Expr} {ta : TE} {p p2 pos pos2 : Pos} (h1 : Gl X "len") (h2 : X.mg "len" = none) (h3 : Gl X "set") (h4 : X.mg "set" = none) (ha : PE X e ta) (hc : X.calm = true := by rfl)
    (na : starEach [e] X.env = (false, eval e X.env) :: starEach [] X.env := by rfl) : PE X (.Call (.Name "len" p) [.Call (.Name "set" p2) [e] [] pos2] [] pos) (tLenZ X.K ta) := by
  refine ⟨fun pins s σ H Q I q => Call_ (ld_blt I h1 h2 boot_len (PyProof.Rows.callWith_builtin1 (PyProof.Rows.args_cons (Call_ (ld_blt I h3 h4 boot_set
    (PyProof.Rows.callWith_type1 (PyProof.Rows.args_cons (thn (ha.run pins s σ H _ I q) fun v t ⟨x, G, J, rx, l, zs, ex, hl, hn, q2⟩ => PyProof.Rows.args_nil ?_) na) na rfl))) rfl) rfl rfl))⟩
  subst ex
  cases rx
  obtain ⟨its, rv, pl, _⟩ := J.list hl
  refine call_any (J.ok.hd hc) pl.isList (by simpa using strsAre_of rv) (by unfold scanBound; omega) fun h' tk sq k => PyProof.Rows.args_nil ?_
  obtain ⟨o, es, ep, tb, ho, g1, g2, _, _, _, g3, g4⟩ := sq
  have J2 : Inv X pins σ G { t with heap := h', toks := tk } := J.kept k
  have ml := met_le zs zs.length
  exact call_len_set ho g1 g2 g3 (by rw [g4]; omega) ⟨.int (met zs zs.length : Nat), G, J2.tok _, ⟨_, by rw [g4]⟩, q2⟩
end Ws

set_option linter.all false
set_option maxRecDepth 100000
set_option maxHeartbeats 4000000
/-! own classes whose __iter__ hands out a tuple's iterator: iter(t), list(o), a walk over o; len(o) -/
namespace Wi
open PySem PySem.Spec PyProof.Rows L2
/-- at it an iterator over the tuple at l, the next place is i -/
def TItO (l it : Addr) (i : Nat) : HO := .ext fun h => h.IsTupleIter it l i
def AnyO (it : Addr) : HO := .ext fun h => ∃ o, h.get? it = some o
section
variable {X : Cx} {pins : List (Addr × Obj)} {σ : L2.St} {H : Hp} {s : Shared} {l it : Addr} {i : Nat}
theorem titO_ok {P : Program} {w : World} {H : Hp} {h : Heap} (e : h.IsTupleIter it l i) : ObjOk P w H h it (TItO l it i) :=
  ⟨e, (let ⟨o, ho, _⟩ := e; ⟨o, ho⟩), fun h1 h2 q k => let ⟨o, ho, r⟩ := q; ⟨o, k o ho, r⟩⟩
theorem anyO_ok {P : Program} {w : World} {H : Hp} {h : Heap} (e : ∃ o, h.get? it = some o) : ObjOk P w H h it (AnyO it) := ⟨e, e, fun h1 h2 q k => let ⟨o, ho⟩ := q; ⟨o, k o ho⟩⟩
theorem titO_get (I : Inv X pins σ H s) (e : H it = some (TItO l it i)) : s.heap.IsTupleIter it l i := (I.hok it _ e).1
def rIterT : List V → Hp → VK → Prop := fun xs H Q => ∃ (l : Addr) (zs : List V), xs = [.ref l] ∧ H l = some (.tup zs) ∧ ∀ it, H it = none → (∀ q o, H q = some o → q < it) → Q (.ref it) (upd H it (TItO l it 0))
theorem call_iterT : CallR X (.builtin "iter") rIterT := by
  intro pins s σ H xs us Q I r h
  obtain ⟨l, zs, rfl, hq, q⟩ := h
  obtain rfl := Vals.ref1 r
  obtain ⟨its, _, pl, _⟩ := I.tuple (SqT.of hq)
  refine Calls.call_function_entry (by decide +kernel) (by decide +kernel) PySem.W.kdk_entry_iter (PySem.W.kdk_args_iter _) ?_
  unfold Builtin.«iter»
  refine wpAny_bind (m := someArgs "iter" 1 2 _) (wpAny_of_eq (a := [Value.ref l]) (by first | rfl | kernel_rfl!) ?_)
  show wpAny _ _ (pyIter (.ref l) >>= _) _ _ _
  refine wpAny_bind (wpAny_pyIter_tuple (show s.heap.IsTuple l its.toArray from pl) ?_)
  refine wpAny_pure ⟨_, rfl, ?_⟩
  exact ⟨.ref s.heap.objs.size, _, I.laid (t' := s.toks) (fun b u e => Heap.get?_push_of_some _ e) (Nat.le_refl _) (titO_ok ⟨_, Heap.get?_push_size _ rfl, rfl, rfl⟩), rfl, q _ (I.hok.fresh (Nat.le_refl _)) fun b o e => I.hok.lt e⟩
end
section
variable {prog : Program} {w : World} {A : Around} {E : Value → Shared → Prop} {s : Shared}
theorem next_tuple_end {it t : Addr} {i : Nat} {items : Array Value} {Q : Option Value → Shared → Prop} (hh : A.handled = none)
    (hit : s.heap.IsTupleIter it t i) (ht : s.heap.IsTuple t items) (hx : items[i]? = none)
    (hQ : ∀ h', Heap.ExtBut it s.heap h' → (∃ o, h'.get? it = some o) → Q none { s with heap := h' }) : wpAny (model prog w) A (pyNext (.ref it)) Q E s := by
  obtain ⟨o, ho, hc, hd⟩ := id hit
  obtain ⟨ol, hol, _, nl, hdl⟩ := ht
  unfold pyNext
  refine wpAny_bind (wpAny_attempt (wpAny_callSpecial?_slot (name := Str.ofString "__next__") hit.typeIs F.slot_tuple_iterator_next
    (wpAny_call_entry F.slot_tuple_iterator_next hit.typeIs F.entry_tuple_iterator_next ?_ (F.args_tuple_iterator_next_1 _))))
  show wpAny _ _ (field (.ref it) 0 >>= _) _ _ s
  refine wpAny_bind (wpAny_field ho hd (x := .ref t) rfl ?_)
  show wpAny _ _ (if (Value.ref t == Value.none) = true then _ else _) _ _ s
  rw [if_neg (show ¬ ((Value.ref t == Value.none) = true) from Bool.false_ne_true)]
  show wpAny _ _ (field (.ref it) 1 >>= _) _ _ s
  refine wpAny_bind (wpAny_field ho hd (x := .int i 0) rfl ?_)
  show wpAny _ _ (seqItems? (.ref t) >>= _) _ _ s
  refine wpAny_bind (wpAny_seqItems hol hdl ?_)
  simp only [Int.toNat_natCast, hx]
  refine wpAny_bind (wpAny_rule (wpAny_bind (wpAny_setField ho hd (by simp) ?_)))
  show wpAny _ _ (newExc (.type "StopIteration") [] >>= _) _ _ _
  refine wpAny_bind ?_
  simp only [newExc, newTuple]
  refine wpAny_bind (wpAny_newObj_type ?_ (by size_fits))
  refine wpAny_bind (m := firstArgMember _ _) (wpAny_of_eq (a := Value.none) (by first | rfl | (simp only [firstArgMember]; rfl)) ?_)
  refine wpAny_newObj_type ?_ (by size_fits)
  simp only [raiseNew]
  refine wpAny_bind (wpAny_handled ?_)
  first | rw [show A.in1.handled = none from hh] | rw [hh]
  refine wpAny_bind (wpAny_pure (wpAny_throw ?_))
  refine wpAny_bind (wpAny_isInstance (T := "StopIteration") (b := true) ⟨_, Heap.get?_push_size _ rfl, rfl⟩ isSubtype_stop ?_)
  exact wpAny_pure (hQ _ (((Heap.SameBut.update ..).extBut.push _).push _) ⟨_, Heap.get?_push_of_some _ (Heap.get?_push_of_some _ (Heap.get?_update_self _ ho (Obj.isFreed_of_fields (Obj.data_mapFields hd _))))⟩)
end
/-- a class whose __iter__ and __len__ are its own defs -/
structure ItT (K : PySem.W.Frag) (C fi fl : Addr) : Prop where
  it : PySem.W.findIn K (.ref C) "__iter__" = some (some (.ref fi))
  itF : PySem.W.isFn K (.ref fi) = true
  ln : PySem.W.findIn K (.ref C) "__len__" = some (some (.ref fl))
  lnF : PySem.W.isFn K (.ref fl) = true
section
variable {X : Cx} {pins : List (Addr × Obj)} {σ : L2.St} {H : Hp} {s : Shared} {C fi fl a q it t : Addr} {fdI fdL : FuncData} {psI psL : List Str} {spI spL : Sp} {EI EL : XK} {CI CL : CXT} {n : Nat} {A1 : Around} {zs : List V}
theorem own_loopT {Rs : Result → Shared → Prop} (sb : Sub X n A1.in1) (hh : A1.in1.handled = none) (hdone : ∀ H' s', Inv X pins σ H' s' → (∀ b o, b ≠ it → b ≠ q → H b = some o → H' b = some o) → H' q = some (.lst zs) → Rs (.ok (.ret .none)) s') (htq : t ≠ q) (hiq : it ≠ q) (hti : t ≠ it) (hz : zs.length ≤ sizeLine) :
    ∀ (m i : Nat) (H1 : Hp) (s1 : Shared), Inv X pins σ H1 s1 → (∀ b o, b ≠ it → b ≠ q → H b = some o → H1 b = some o) → H1 it = some (TItO t it i) → H1 t = some (.tup zs) → H1 q = some (.lst (zs.take i)) → i + m = zs.length →
      codeAny (model X.prog X.w) A1 (.builtin "list.extend.loop" ⟨[.ref q, .ref it, .none], []⟩) Rs s1 := by
  intro m
  induction m with
  | zero =>
    intro i H1 s1 I hk ei et eq hi
    refine codeAny_builtin PySem.F.entry_extend_loop ?_
    rw [Around.under_plainId PySem.F.plain_extend_loop _]
    show wpAny _ A1.in1 (pyNext (.ref it) >>= _) _ _ s1
    obtain ⟨its, rv, p, _⟩ := I.tuple (SqT.of et)
    have hl := rv.length
    have mu : Mut (H1 it) := by rw [ei]; exact True.intro
    refine wpAny_bind (next_tuple_end hh (titO_get I ei) (show s1.heap.IsTuple t its.toArray from p) (by simp; omega) fun h' eb ex => ?_)
    refine wpAny_pure ?_
    refine hdone _ _ (I.write (x := it) (e := it) (t' := s1.toks) (o := AnyO it) mu (.inl rfl) (fun b o nb z => eb b o nb z) ex (anyO_ok ex)) (fun b o b1 b2 e => (upd_ne b1).trans (hk b o b1 b2 e)) ((upd_ne (Ne.symm hiq)).trans ?_)
    rw [eq, List.take_of_length_le (by omega)]
  | succ m ih =>
    intro i H1 s1 I hk ei et eq hi
    refine codeAny_builtin PySem.F.entry_extend_loop ?_
    rw [Around.under_plainId PySem.F.plain_extend_loop _]
    show wpAny _ A1.in1 (pyNext (.ref it) >>= _) _ _ s1
    obtain ⟨its, rv, p, _⟩ := I.tuple (SqT.of et)
    have hx : zs[i]? = some (zs[i]'(by omega)) := List.getElem?_eq_getElem _
    obtain ⟨u, hu, ru⟩ := rv.get hx
    have mu : Mut (H1 it) := by rw [ei]; exact True.intro
    refine wpAny_bind (wpAny_pyNext_tuple_item (titO_get I ei) (show s1.heap.IsTuple t its.toArray from p) (x := u) (by simpa using hu) fun h' st' sb' => ?_)
    have I2 : Inv X pins σ (upd H1 it (TItO t it (i + 1))) { s1 with heap := h' } := I.write (x := it) (e := it) (t' := s1.toks) mu (.inl rfl) (fun b o nb z => (sb'.2 b nb).trans z) (let ⟨o, ho, _⟩ := st'; ⟨o, ho⟩) (titO_ok st')
    have eq2 : upd H1 it (TItO t it (i + 1)) q = some (.lst (zs.take i)) := (upd_ne (Ne.symm hiq)).trans eq
    show wpAny _ A1.in1 (updateSeq q (·.push u) >>= _) _ _ _
    obtain ⟨z, its2, k, r2, hl, e⟩ := I2.lstM eq2
    have hlen : (zs.take i).length = i := by rw [List.length_take]; omega
    refine wpAny_bind (wpAny_updateSeq e rfl (wpAny_pure ⟨plainId_quiet PySem.F.plain_extend_loop _, ?_⟩) (by rw [List.size_toArray]; omega) (by show (its2.toArray.push u).size ≤ sizeLine + 1; rw [Array.size_push, List.size_toArray]; omega))
    refine ih (i + 1) _ _ (I2.lset (its' := its2 ++ [u]) (t' := s1.toks) eq2 e (by simp) (r2.append (.cons ru .nil)) (by rw [List.length_append, List.length_singleton]; omega)) (fun b o b1 b2 e => (upd_ne b2).trans ((upd_ne b1).trans (hk b o b1 b2 e))) ((upd_ne hiq).trans upd_same) ((upd_ne htq).trans ((upd_ne hti).trans et)) ?_ (by omega)
    rw [upd_same, List.take_succ_eq_append_getElem (by omega)]

/-- what __iter__ hands out: a tuple's iterator, none of it gone -/
def GivesIt (G : Hp) (zs : List V) (R : Hp → Addr → Addr → Prop) : VK := fun v G' => ∃ it t, v = .ref it ∧ G it = none ∧ (∀ q o, G q = some o → q < it) ∧ G' it = some (TItO t it 0) ∧ G' t = some (.tup zs) ∧ R G' it t
theorem hintT {Q : Bool → Shared → Prop} {E : Value → Shared → Prop} {ox : Obj} {od : Option Obj} {A : Around} {L : Addr} {m : Str → Option Value} (hc : ItT X.K C fi fl) (hF : Fr X.base L s.heap m) (kin : X.K.In X.base) (J : PySem.W.InstAt s.heap a ox C od)
    (h : wpAny (model X.prog X.w) A.in1 (call (.ref fl) [.ref a]) (PySem.W.LenBack fun v s' => ∃ k t, v = .int k t ∧ k.toNat ≤ 1000000 ∧ ∀ b, Q b s') (fun _ _ => False) s) :
    wpAny (model X.prog X.w) A (Builtin.List.listLengthHint (.ref a)) Q E s := by
  unfold Builtin.List.listLengthHint
  refine wpAny_bind (wpAny_bind (J.type.here ((PySem.W.looks_findIn (kin.keeps hF.keep) hc.ln).here ?_)))
  refine PySem.W.KFB.if_not rfl ?_
  refine PySem.W.KFB.if_so rfl ?_
  refine wpAny_bind (wpAny_rule ?_)
  refine wpAny_bind (wpAny_attempt (PySem.W.len_K hF kin J hc.ln hc.lnF (wpAny_mono h (fun v s' q => ?_) fun _ _ z => z.elim)))
  cases v <;> first | exact q.elim | skip
  rename_i k u
  obtain ⟨hb, k', t', e, hk, q⟩ := q
  cases e
  refine ⟨hb, ?_⟩
  refine wpAny_bind (wpAny_of_eq (a := some k) rfl ?_)
  have ht : Builtin.List.listTooLong k.toNat = false := by
    unfold Builtin.List.listTooLong
    exact decide_eq_false (by rw [sizeLine_eq]; omega)
  exact PySem.W.KFB.if_not ht (wpAny_pure (q _))
/-- list(o) -/
def rListI (C : Addr) (spI spL : Sp) : List V → Hp → VK → Prop := fun xs H Q => ∃ a dx fs, xs = [.ref a] ∧ H a = some (.ins C dx fs) ∧
  ∀ q, H q = none → ∃ zs : List V, zs.length ≤ 100000 ∧ spI [.ref a] (upd H q (.lst [])) (fun v G' => ∃ it t, v = .ref it ∧ upd H q (.lst []) it = none ∧ Same (upd H q (.lst [])) G' ∧ G' it = some (TItO t it 0) ∧ G' t = some (.tup zs) ∧ G' q = some (.lst []) ∧ 
    spL [.ref a] G' (fun v G'' => G'' = G' ∧ ∃ k : Nat, k ≤ 1000000 ∧ v = .int (k : Nat)) (fun _ _ _ => False)) (fun _ _ _ => False) ∧ ∀ H', Same H H' → H' q = some (.lst zs) → Q (.ref q) H'
theorem call_listI (hcalm : X.calm = true) (hc : ItT X.K C fi fl) (FI : FnOk X.prog X.w X.K X.mg X.base CX0 n fi fdI psI spI) (bI : Binds X.K fdI psI [])
    (FL : FnOk X.prog X.w X.K X.mg X.base CX0 n fl fdL psL spL) (bL : Binds X.K fdL psL []) (hr : Room (n + 3) X.A) : CallR X (.type "list") (rListI C spI spL) := by
  intro pins s σ H xs us Q I rv h
  obtain ⟨a, dx, fs, rfl, ha, hq⟩ := h
  obtain ⟨u, rfl, ru⟩ := rv.one
  cases ru
  have sb : Sub X (n + 1) X.A.in1.in1 := (Sub.in1 (Sub.in1 (⟨hr, rfl⟩ : Sub X (n + 3) X.A)))
  have sb0 : Sub X n X.A.in1.in1.in1 := Sub.in1 sb
  refine callType_codes (Q₁ := fun obj s₁ => obj = .ref s.heap.objs.size ∧ s₁ = { s with heap := s.heap.push { cls := .type "list", data := .seq #[] } }) PySem.F.called_list (PySem.F.typeCall_list_1 _) PySem.F.entry_list_init
    (code_list_new _ ⟨rfl, rfl⟩) fun obj s₁ h₁ => ?_
  obtain ⟨rfl, rfl⟩ := h₁
  have hS : (s.heap.push { cls := .type "list", data := .seq #[] }).get? s.heap.objs.size = some { cls := .type "list", data := .seq #[] } := Heap.get?_push_size _ rfl
  refine ⟨⟨_, hS, rfl⟩, PySem.F.args_list_init_2 _ _, ?_⟩
  have fr : H s.heap.objs.size = none := I.hok.fresh (Nat.le_refl _)
  generalize hqq : s.heap.objs.size = q at *
  obtain ⟨zs, hz, hsp, hQ⟩ := hq q fr
  have I1 : Inv X pins σ (upd H q (.lst [])) { s with heap := s.heap.push { cls := .type "list", data := .seq #[] } } := by
    rw [← hqq]
    exact I.lnew (its := []) (t' := s.toks) .nil (Nat.zero_le _)
  show wpAny _ _ (do let old ← Builtin.List.listItems (.ref q); Builtin.List.listUpdate (.ref q) (fun _ => #[]); letGo old.toList.reverse; Builtin.List.listExtendWith (.ref q) (.ref a) .none) _ _ _
  refine wpAny_bind ?_
  unfold Builtin.List.listItems
  refine wpAny_bind (wpAny_seqItems hS rfl (wpAny_pure ?_))
  show wpAny _ _ (updateSeq q (fun _ => #[]) >>= fun _ => letGo (#[] : Array Value).toList.reverse >>= fun _ => Builtin.List.listExtendWith (.ref q) (.ref a) .none) _ _ _
  refine wpAny_bind (wpAny_updateSeq hS rfl ?_)
  have I2 := I1.lset (f := fun _ => #[]) (its := []) (its' := []) (ys := []) (t' := s.toks) upd_same hS rfl .nil (Nat.zero_le _)
  rw [upd_upd] at I2
  refine wpAny_bind (wpAny_letGo ?_)
  have ha2 : upd H q (.lst []) a = some (.ins C dx fs) := by rw [upd_ne (ne_of_none ha fr)]; exact ha
  have eq2 : upd H q (.lst []) q = some (.lst []) := upd_same
  have S0 : Same H (upd H q (.lst [])) := fun b o e => by rw [upd_ne (ne_of_none e fr)]; exact e
  generalize upd H q (.lst []) = H2 at *
  generalize ({ s with heap := (s.heap.push { cls := .type "list", data := .seq #[] }).update q (Obj.mapSeq fun _ => #[]) } : Shared) = s2 at *
  have hne : q ≠ a := ne_of eq2 ha2 (fun z => nomatch z)
  obtain ⟨mA, J, _⟩ := ins_get I2.hok ha2
  obtain ⟨od, J, _⟩ := J.look
  obtain ⟨m0, hF⟩ := I2.fr
  unfold Builtin.List.listExtendWith
  refine wpAny_bind (J.type.here ?_)
  have h1 : Builtin.List.listSameRef (.ref q) (.ref a) = false := by simp [Builtin.List.listSameRef, hne]
  have h2 : (Value.ref C == Value.type "list") = false := rfl
  have h3 : (Value.ref C == Value.type "tuple") = false := rfl
  simp only [h1, h2, h3, Bool.or_false, Bool.false_eq_true, if_false]
  refine wpAny_bind (PySem.W.owit_iter hF I2.ok.mod.kin J hc.it hc.itF ?_)
  have e0 : ∀ {A2 : Around} {j : Nat} {Hx : Hp} {sx : Shared}, Sub X j A2 → Inv X pins σ Hx sx → Env0 X.prog X.w X.K X.mg X.base A2 X.stack sx Hx := fun {A2 j Hx sx} sb Ix => by
    have e := Ix.env0
    exact ⟨by rw [sb.fr]; exact e.frames, e.mod, e.bs, e.bsz, e.funs, e.frf, e.hok, e.bare⟩
  have hl := FI.len _ _ _ _ hsp
  have r2 : Vals [V.ref a] [Value.ref a] := .cons rfl .nil
  refine wpAny_call (codeAny_mono ((FI.mono (Nat.le_succ n)).run X.A.in1.in1 X.stack s2 H2 ⟨[.ref a], []⟩ [.ref a] [.ref a] _ _ sb.room (e0 sb I2) (by
    have := bI s2 [.ref a] I2.kIn (by simpa using hl)
    simpa using this) r2 hsp) fun r s' hq' => ?_)
  cases r with
  | error e => exact False.elim hq'
  | ok fl' =>
    cases fl' with
    | next => exact False.elim hq'
    | brk => exact False.elim hq'
    | cont => exact False.elim hq'
    | ret u =>
      obtain ⟨v, G', I', rv', it, t, ev, nit, S1, eit, et, eq', hspL⟩ := I2.after hq'
      subst ev
      cases rv'
      have ha' := S1 _ _ ha2
      refine wpAny_specialOf (name := Str.ofString "__next__") (titO_get I' eit).typeIs PySem.F.slot_tuple_iterator_next.lookup ?_
      dsimp only
      obtain ⟨mA', J', _⟩ := ins_get I'.hok ha'
      obtain ⟨od', J', _⟩ := J'.look
      obtain ⟨m1, hF'⟩ := I'.fr
      have hiq : it ≠ q := fun z => by rw [z, eq2] at nit; cases nit
      have htq : t ≠ q := ne_of et eq' (fun z => nomatch z)
      have hti : t ≠ it := ne_of et eit (fun z => nomatch z)
      have fin : ∀ s3, Inv X pins σ G' s3 → codeAny (model X.prog X.w) X.A.in1 (.builtin "list.extend.loop" ⟨[.ref q, .ref it, .none], []⟩) (wants (fun r s₂ => r = .none ∧ EP X pins σ Q (.ref q) s₂) X.xe) s3 := fun s3 I3 =>
        own_loopT (H := G') sb (I3.ok.hd hcalm) (fun H' s' Ix hk eqx => ⟨rfl, .ref q, H', Ix, rfl, hQ H' (fun b o e => by
          have bq : b ≠ q := ne_of_none e fr
          have bi : b ≠ it := ne_of_none (S0 _ _ e) nit
          exact hk b o bi bq (S1 _ _ (S0 _ _ e))) eqx⟩) htq hiq hti (by rw [sizeLine_eq]; omega) zs.length 0 G' s3 I3 (fun _ _ _ _ e => e) eit et (by rw [eq', List.take_zero]) (Nat.zero_add _)
      have hl2 := FL.len _ _ _ _ hspL
      refine wpAny_bind (wpAny_holding (hintT hc hF' I'.ok.mod.kin J' (wpAny_call (codeAny_mono (FL.run X.A.in1.in1.in1 X.stack s' G' ⟨[.ref a], []⟩ [.ref a] [.ref a] _ _ sb0.room (e0 sb0 I') (by
        have := bL s' [.ref a] I'.kIn (by simpa using hl2)
        simpa using this) r2 hspL) fun r4 s4 hq4 => ?_))))
      cases r4 with
      | error e => exact False.elim hq4
      | ok fl4 =>
        cases fl4 with
        | next => exact False.elim hq4
        | brk => exact False.elim hq4
        | cont => exact False.elim hq4
        | ret u4 =>
          obtain ⟨v4, G4, I4, rv4, e4, k, hk, ev4⟩ := I'.after hq4
          subst ev4
          rw [e4] at I4
          obtain ⟨t4, rfl⟩ := rv4
          refine ⟨⟨by omega, by omega⟩, _, _, rfl, by omega, fun b => ?_⟩
          have I5 : Inv X pins σ G' { s4 with toks := s4.toks + 1 } := I4.tok _
          obtain ⟨z, its, k3, r3, hl3, e3⟩ := I5.lstM eq'
          cases r3
          refine wpAny_ite_split (fun _ => ?_) (fun _ => wpAny_pure ⟨plainId_quiet PySem.F.plain_extend_loop _, fin _ I5⟩)
          refine wpAny_bind (wpAny_rule ?_)
          refine wpAny_bind ?_
          show wpAny _ _ (updateSeq q (·.push .none) >>= fun _ => updateSeq q (·.pop)) _ _ _
          refine wpAny_bind (wpAny_updateSeq e3 rfl ?_)
          have I6 := I5.lset (f := (·.push Value.none)) (its' := [Value.none]) (ys := [.non]) (t' := s4.toks + 1) eq' e3 (by simp) (.cons rfl .nil) (by rw [List.length_singleton, sizeLine_eq]; decide)
          obtain ⟨z4, its4, k4, r4, hl4, e4⟩ := I6.lstM upd_same
          obtain ⟨u4, rfl, ru4⟩ := r4.one
          refine wpAny_updateSeq e4 rfl ?_ (by show 1 ≤ sizeLine; rw [sizeLine_eq]; decide) (by show 0 ≤ sizeLine + 1; exact Nat.zero_le _)
          refine wpAny_pure ⟨plainId_quiet PySem.F.plain_extend_loop _, fin _ ?_⟩
          have I7 := I6.lset (f := (·.pop)) (its := [u4]) (its' := []) (ys := []) (t' := s4.toks + 1) upd_same e4 (by rfl) .nil (Nat.zero_le _)
          rw [upd_upd] at I7
          have hH : upd G' q (.lst []) = G' := by
            funext b
            by_cases hb : b = q
            · rw [hb, upd_same, eq']
            · rw [upd_ne hb]
          rw [hH] at I7
          exact I7
end
end Wi

set_option linter.all false
set_option maxRecDepth 100000
set_option maxHeartbeats 4000000
/-! len(o), a walk over o, xs.extend(t), t[::-1] -/
namespace Wi
open PySem PySem.Spec PyProof.Rows L2
section
variable {X : Cx} {CX : CXT} {n : Nat} {C g fi fl : Addr} {fd fdI : FuncData} {ps psI : List Str} {sp spI : Sp} {E : XK}
def rLenO (C : Addr) (sp : Sp) (E : XK) : List V → Hp → VK → Prop := fun xs H Q => ∃ a dx fs, xs = [V.ref a] ∧ H a = some (.ins C dx fs) ∧ sp [.ref a] H (fun z G => ∃ k : Nat, k ≤ 1000000 ∧ z = .int (k : Nat) ∧ Q (.int (k : Nat)) G) E
theorem call_lenO (hs : PySem.W.findIn X.K (.ref C) "__len__" = some (some (.ref g))) (hf : PySem.W.isFn X.K (.ref g) = true) (F : FnOk X.prog X.w X.K X.mg X.base CX n g fd ps sp) (hr : Room (n + 1) X.A) (hb : Binds X.K fd ps []) (hx : Passes CX X E) : CallR X (.builtin "len") (rLenO C sp E) := by
  intro pins s σ H xs us Q I r h
  obtain ⟨a, dx, fs, rfl, ha, q⟩ := h
  obtain ⟨u, rfl, ru⟩ := r.one
  cases (show u = Value.ref a from ru)
  obtain ⟨mA, O, _⟩ := ins_get I.hok ha
  obtain ⟨od, J, _⟩ := O.look
  obtain ⟨m, hF⟩ := I.fr
  have hr1 : Room n X.A.in1 := Room.in1 hr
  refine PySem.W.len_K hF I.ok.mod.kin J hs hf ?_
  apply wpAny_mono (Wc.run_below (us := [.ref a]) (ws := [.ref a]) F hr1 I.env0.in1 hb hx I (.cons rfl .nil) q) _ fun _ _ z => z
  rintro w s' ⟨z, G, J', rz, k, hk, rfl, qz⟩
  obtain ⟨t, rfl⟩ := rz
  exact ⟨⟨by omega, by omega⟩, .int (k : Nat), G, J'.tok _, ⟨_, rfl⟩, qz⟩
/-- a walk over o; q0: something young that is tracked -/
def iOwn (K : PySem.W.Frag) (n : Nat) (C : Addr) (spI : Sp) (te : TE) : TI := fun σ H R => te σ H fun x G => ∃ a dx fs q0 o0, x = .ref a ∧ G a = some (.ins C dx fs) ∧ G q0 = some o0 ∧ n ≤ q0 ∧
  spI [.ref a] G (fun v G' => ∃ it t, v = .ref it ∧ q0 < it ∧ G' it = some (TItO t it 0) ∧ R (Itt K t) (ItX.dropH G' it)) (fun _ _ _ => False)
theorem pi_own {tg e : Expr} {te : TE} (he : PE X e te) (hc : ItT X.K C fi fl) (FI : FnOk X.prog X.w X.K X.mg X.base CX0 n fi fdI psI spI) (bI : Binds X.K fdI psI []) (hr : Room n X.A) : PI X tg e (iOwn X.K X.s_0.heap.objs.size C spI te) := by
  refine ⟨fun pins s σ H R I h => ?_⟩
  refine thn (he.run pins s σ H _ I h) fun u s1 ⟨x, G, I1, rx, a, dx, fs, q0, o0, ex, ha, hq0, hn, hsp⟩ => ?_
  subst ex
  cases rx
  obtain ⟨mA, J, _⟩ := ins_get I1.hok ha
  obtain ⟨od, J, _⟩ := J.look
  obtain ⟨m0, hF⟩ := I1.fr
  refine PySem.W.owit_iter hF I1.ok.mod.kin J hc.it hc.itF ?_
  refine wpAny_mono (Wc.run_below (us := [.ref a]) (ws := [.ref a]) FI hr I1.env0 bI pass0 I1 (.cons rfl .nil) hsp) (fun v s2 h2 => ?_) fun _ _ z => z
  obtain ⟨z, G', I2, rz, it, t, ez, hlt, eit, q⟩ := h2
  subst ez
  cases rz
  refine wpAny_specialOf (name := Str.ofString "__next__") (titO_get I2 eit).typeIs PySem.F.slot_tuple_iterator_next.lookup ?_
  dsimp only
  have st := titO_get I2 eit
  have eit' := eit
  unfold TItO at eit'
  refine ⟨it, [it], _, _, ItX.dropH G' it, rfl, ItX.inv_drop I2 eit', turn_tuple t it, st, fun b hb => ?_, q⟩
  have e : b = it := by simpa using hb
  rw [e]
  exact ItX.inv_fp I2 eit (Nat.le_of_lt (Nat.lt_of_le_of_lt hn hlt))
end
section
variable {X : Cx}
def rExtT : V → List V → Hp → VK → Prop := fun x vs H Q => ∃ l b xs zs, x = .ref l ∧ vs = [.ref b] ∧ H l = some (.lst xs) ∧ H b = some (.tup zs) ∧ xs.length + zs.length ≤ sizeLine ∧ Q .non (upd H l (.lst (xs ++ zs)))
theorem mt_extT : MtM X "list.extend" rExtT := by
  intro pins s σ H x vs v us Q I rx rv h
  obtain ⟨l, b, xs, zs, rfl, rfl, hH, hB, hz, q⟩ := h
  cases rx
  obtain ⟨u, rfl, ru⟩ := rv.one
  cases ru
  obtain ⟨z, its, n, r, hl, e⟩ := I.lstM hH
  obtain ⟨its2, r2, ht, hz2⟩ := I.tuple (SqT.of hB)
  have hl2 := r2.length
  obtain ⟨o2, ho2, hc2, n2, hd2⟩ := id ht
  have hsz : its.toArray.size + its2.toArray.size ≤ sizeLine := by rw [List.size_toArray, List.size_toArray]; omega
  have hlong : (!its.toArray.isEmpty && Builtin.List.listTooLong (its.toArray.size + its2.toArray.size)) = false := by
    rw [notLongL hsz, Bool.and_false]
  refine wpAny_call_entry PySem.F.slot_list_extend ⟨_, e, rfl⟩ PySem.F.entry_list_extend ?_ (PySem.F.args_list_extend_2 _ _)
  show wpAny _ _ (selfAndOne "list.extend" ⟨[.ref l, .ref b], []⟩ >>= fun x => Builtin.List.listExtendWith x.1 x.2 .none) _ _ _
  refine wpAny_bind (wpAny_of_eq (a := (Value.ref l, Value.ref b)) (by first | rfl | kernel_rfl) ?_)
  dsimp only
  unfold Builtin.List.listExtendWith
  refine wpAny_bind (wpAny_typeOf ht.typeIs ?_)
  refine PySem.W.KFB.if_so (by rw [show (Value.type "tuple" == Value.type "tuple") = true by decide, Bool.or_true]) ?_
  unfold Builtin.List.listItems
  refine wpAny_bind (wpAny_bind (wpAny_seqItems ho2 hd2 (wpAny_pure ?_)))
  refine wpAny_bind (wpAny_bind (wpAny_seqItems e rfl (wpAny_pure ?_)))
  refine PySem.W.KFB.if_not hlong ?_
  show wpAny _ _ (updateSeq l (· ++ its2.toArray) >>= fun _ => ret .none) _ _ _
  refine wpAny_bind (wpAny_updateSeq e rfl ?_ (by rw [List.size_toArray]; omega) (by rw [Array.size_append]; omega))
  refine wpAny_pure ⟨_, rfl, ?_⟩
  refine ⟨.non, _, I.lset (its' := its ++ its2) (t' := s.toks) hH e (by simp) (r.append r2) ?_, rfl, q⟩
  rw [List.length_append]
  omega

theorem adjust_rev (n : Nat) : Builtin.Slice.sliceAdjust none none (-1) (n : Int) = ((n : Int) - 1, -1) := by
  first | rfl | (unfold Builtin.Slice.sliceAdjust; simp)
theorem places_rev (n : Nat) : Builtin.Slice.slicePlaces ((n : Int) - 1) (-1) (-1) = n := by
  unfold Builtin.Slice.slicePlaces
  have h1 : ¬ ((-1 : Int) > 0) := by decide
  simp only [h1, if_false]
  split
  · have e : ((n : Int) - 1 - -1 - -1 - 1) / (- -1) = (n : Int) := by
      rw [show (- -1 : Int) = 1 by decide, Int.ediv_one]
      omega
    first | omega | simp
  · omega
theorem fm_congr {α β : Type} {f g : α → Option β} : ∀ {l : List α}, (∀ x ∈ l, f x = g x) → l.filterMap f = l.filterMap g
  | [], _ => rfl
  | a :: l, h => by rw [List.filterMap_cons, List.filterMap_cons, h a (List.mem_cons_self ..), fm_congr fun x hx => h x (List.mem_cons_of_mem _ hx)]
theorem pick_rev (xs : Array Value) : ((List.range xs.size).filterMap fun (k : Nat) => xs[(((xs.size : Nat) : Int) - 1 + (k : Int) * (-1)).toNat]?).toArray = xs.toList.reverse.toArray := by
  have e : ((List.range xs.size).filterMap fun (k : Nat) => xs[(((xs.size : Nat) : Int) - 1 + (k : Int) * (-1)).toNat]?) = ((List.range xs.size).map fun k => xs.size - 1 - k).filterMap (xs[·]?) := by
    rw [List.filterMap_map]
    refine fm_congr fun k hk => ?_
    have := List.mem_range.mp hk
    have e2 : (((xs.size : Nat) : Int) - 1 + (k : Int) * (-1)).toNat = xs.size - 1 - k := by omega
    rw [e2]
    rfl
  rw [e, PySem.W.krv_range, List.filterMap_reverse, PySem.W.krv_all]
theorem getItem_tuple_rev {prog : Program} {w : World} {A : Around} {E : Value → Shared → Prop} {s : Shared} {t sl : Addr} {items : Array Value} {vl vu vk : Value} {Q : Value → Shared → Prop} (ht : IsTup s.heap t items) (hs : s.heap.IsSliceOf sl vl vu vk) (pl : IsPart vl none) (pu : IsPart vu none) (pk : IsPart vk (some (-1)))
    (h : Q (.ref s.heap.objs.size) { s with heap := s.heap.push { cls := .type "tuple", data := .seq items.toList.reverse.toArray } })
    (hsz : items.size ≤ sizeLine) : wpAny (model prog w) A (getItem (.ref t) (.ref sl)) Q E s := by
  have htake : sizeOk (.seq items.toList.reverse.toArray) := by
    show items.toList.reverse.toArray.size ≤ sizeLine
    rw [List.size_toArray, List.length_reverse, Array.length_toList]
    omega
  obtain ⟨os, hos, hcs, hds⟩ := id hs
  have hTs : s.TypeIs (.ref sl) "slice" := ⟨os, hos, hcs⟩
  unfold getItem
  try with_reducible refine wpAny_holding ?_
  first | refine wpAny_bind (wpAny_pure ?_) | skip
  refine wpAny_bind (wpAny_sequenceKey ht.typeIs (by decide) ?_)
  refine wpAny_bind (wpAny_callSpecial?_slot (name := Str.ofString "__getitem__") ht.typeIs PyProof.Rows.slot_tuple_getitem
    (wpAny_call_entry PyProof.Rows.slot_tuple_getitem ht.typeIs PyProof.Rows.entry_tuple_getitem ?_ (PyProof.Rows.args_tuple_getitem _ _)))
  show wpAny _ _ (Builtin.Tuple.tupleItemsOf (.ref t) >>= _) _ _ s
  refine wpAny_bind (tupleItemsOf_ ht ?_)
  refine wpAny_bind (wpAny_typeOf hTs ?_)
  rw [if_pos (by decide)]
  have ap : ∀ {Q2 : Int × Int × Nat → Shared → Prop}, Q2 (((items.size : Nat) : Int) - 1, -1, items.size) s → wpAny (model prog w) A.in1 (Builtin.Slice.sliceApplied (.ref sl) (pure (items.size : Int))) Q2 E s := by
    intro Q2 h2
    unfold Builtin.Slice.sliceApplied Builtin.Slice.sliceFields
    refine wpAny_bind (wpAny_bind (wpAny_field hos hds (x := vl) rfl (wpAny_bind (wpAny_field hos hds (x := vu) rfl (wpAny_bind (wpAny_field hos hds (x := vk) rfl (wpAny_pure ?_)))))))
    refine wpAny_bind (HT.slicePart_ pk ?_)
    show wpAny _ _ (if ((-1 : Int) == 0) = true then _ else _) _ _ s
    rw [if_neg (by decide)]
    refine wpAny_bind (HT.slicePart_ pl (wpAny_bind (HT.slicePart_ pu (wpAny_bind (wpAny_pure ?_)))))
    show wpAny _ _ (match Builtin.Slice.sliceAdjust none none (-1) (items.size : Int) with | (lo, hi) => pure (lo, (-1 : Int), Builtin.Slice.slicePlaces lo hi (-1))) _ _ s
    rw [adjust_rev items.size]
    show wpAny _ _ (pure (((items.size : Nat) : Int) - 1, (-1 : Int), Builtin.Slice.slicePlaces (((items.size : Nat) : Int) - 1) (-1) (-1))) _ _ s
    rw [places_rev]
    exact wpAny_pure h2
  refine wpAny_bind (ap ?_)
  have hno : ¬ (((((items.size : Nat) : Int) - 1) == 0 && (-1 : Int) == 1 && items.size == items.size) = true) := by
    rw [show ((-1 : Int) == 1) = false by decide, Bool.and_false, Bool.false_and]
    exact Bool.false_ne_true
  show wpAny _ _ (if ((((items.size : Nat) : Int) - 1) == 0 && (-1 : Int) == 1 && items.size == items.size) = true then _ else _) _ _ s
  rw [if_neg hno, pick_rev]
  first
    | exact wpAny_bind (m := Builtin.Tuple.tupleExact _) (wpAny_newObj_type (wpAny_pure ⟨_, rfl, wpAny_pure h⟩) htake)
    | exact wpAny_bind (m := Builtin.Tuple.tupleExact _) (wpAny_newObj_type (wpAny_bind (wpAny_pure (wpAny_pure ⟨_, rfl, wpAny_pure h⟩))) htake)
    | exact wpAny_bind (wpAny_bind (m := Builtin.Tuple.tupleExact _) (wpAny_newObj_type (wpAny_pure (wpAny_pure ⟨_, rfl, wpAny_pure h⟩)) htake))
    | exact wpAny_bind (wpAny_bind (m := Builtin.Tuple.tupleExact _) (wpAny_newObj_type (wpAny_pure ⟨_, rfl, wpAny_pure h⟩) htake))
def tRevT (K : PySem.W.Frag) (te : TE) : TE := fun σ H Q => te σ H fun x H1 => ∃ a xs, x = .ref a ∧ SqT K H1 a xs ∧ ∀ p, H1 p = none → Q (.ref p) (upd H1 p (.tup xs.reverse))
theorem pe_revT {e : Expr} {te : TE} {k : Nat} {p1 p2 p3 pos : Pos} (he : PE X e te) : PE X (.Subscript e (.Slice none none (some (.UnaryOp .USub (.Constant (.int 1) k p1) p2)) p3) pos) (tRevT X.K te) := by
  refine ⟨fun pins s σ H Q I h => ?_⟩
  refine Subscript_ (thn (he.run pins s σ H _ I h) fun v s1 ⟨x, H1, I1, r1, q1⟩ => ?_)
  obtain ⟨a, xs, ex, hx, q⟩ := q1
  subst ex
  cases r1
  have hst : PO X (some (.UnaryOp .USub (.Constant (.int 1) k p1) p2)) (tPart (tUn (rU fun i => .int (-i)) (tC (.int 1)))) := po_some (pe_un un_neg pe_int)
  refine wpAny_Slice (thn (po_none.run pins s1 σ H1 (fun o H2 => o = none ∧ H2 = H1) I1 ⟨rfl, rfl⟩) fun vl s2 ⟨l, H2, I2, pl, el, e2⟩ => ?_)
  subst el e2
  refine thn (po_none.run pins s2 σ H2 (fun o H3 => o = none ∧ H3 = H2) I2 ⟨rfl, rfl⟩) fun vu s3 ⟨u, H3, I3, pu, eu, e3⟩ => ?_
  subst eu e3
  refine thn (hst.run pins s3 σ H3 (fun o H4 => o = some (-1) ∧ H4 = H3) I3 ⟨1, rfl, -1, rfl, rfl, rfl⟩) fun vs s4 ⟨o, H4, I4, ps, eo, e4⟩ => ?_
  subst eo e4
  have I5 : Inv X pins σ H4 { s4 with heap := s4.heap.push { cls := .type "slice", data := .fields #[vl, vu, vs] } } := I4.kept (t' := s4.toks) fun b ob q => Heap.get?_push_of_some _ q
  obtain ⟨its, r, ht, hz⟩ := I5.tuple hx
  have hlen := r.length
  show wpAny (model X.prog X.w) X.A (subscriptTail e (.Slice none none (some (.UnaryOp .USub (.Constant (.int 1) k p1) p2)) p3) (.ref a) (.ref s4.heap.objs.size)) (EP X pins σ Q) X.xe { s4 with heap := s4.heap.push { cls := .type "slice", data := .fields #[vl, vu, vs] } }
  refine tail_any (ops := [.ref a, .ref s4.heap.objs.size]) ht.typeIs (PyProof.Rows.slot_tuple_getitem.lookup) ?_ (by with_unfolding_all rfl)
  refine getItem_tuple_rev ht (Heap.IsSliceOf.new _ vl vu vs) pl pu ps ?_ (by rw [List.size_toArray]; omega)
  refine ⟨.ref _, _, I5.laid (t' := s4.toks) (o := .tup xs.reverse) (fun b ob q => Heap.get?_push_of_some _ q) (Nat.le_refl _) ?_, rfl, q _ (I5.hok.fresh (Nat.le_refl _))⟩
  exact ⟨by rw [List.length_reverse]; exact hz, _, r.reverse, IsTup.new _ _⟩
end
end Wi

set_option linter.all false
set_option maxRecDepth 100000
set_option maxHeartbeats 4000000
set_option pp.maxSteps 200
/-! conditions as they are read, plain: nothing of the program's text -/
namespace Qp
open PySem L2 Gx
inductive Pt where
  | atom (ws : List Str)
  | un (h : Str) (p : Pt)
  | jo (j : Str) (ps : List Pt)
abbrev jts : List Str := ["and", "or"]
abbrev out : List Str := ["parent", "above"]
abbrev hds : List Str := ["not", "parent", "above"]
def hdP : Pt → Str
  | .atom _ => "atom"
  | .un h _ => h
  | .jo j _ => j
mutual
def wf : Pt → Bool
  | .atom _ => true
  | .un h p => hds.contains h && wf p
  | .jo j ps => jts.contains j && wfs ps
def wfs : List Pt → Bool
  | [] => true
  | p :: ps => wf p && wfs ps
end
mutual
def ht : Pt → Nat
  | .atom _ => 0
  | .un _ p => ht p + 1
  | .jo _ ps => hts ps + 1
def hts : List Pt → Nat
  | [] => 0
  | p :: ps => max (ht p) (hts ps)
end
def lenS : List Str → Nat
  | [] => 0
  | w :: ws => w.length + 1 + lenS ws
mutual
/-- at least the length of its text -/
def wt : Pt → Nat
  | .atom ws => 1 + lenS ws
  | .un h p => h.length + 5 + wt p
  | .jo j ps => wts j ps
def wts (j : Str) : List Pt → Nat
  | [] => 0
  | p :: ps => wt p + j.length + 6 + wts j ps
end
theorem wfs_app (a b : List Pt) : wfs (a ++ b) = (wfs a && wfs b) := by
  induction a with
  | nil => rfl
  | cons p a ih =>
    show (wf p && wfs (a ++ b)) = ((wf p && wfs a) && wfs b)
    rw [ih, Bool.and_assoc]
theorem hts_app (a b : List Pt) : hts (a ++ b) = max (hts a) (hts b) := by
  induction a with
  | nil => exact (Nat.zero_max _).symm
  | cons p a ih =>
    show max (ht p) (hts (a ++ b)) = max (max (ht p) (hts a)) (hts b)
    rw [ih, Nat.max_assoc]
theorem wts_app (j : Str) (a b : List Pt) : wts j (a ++ b) = wts j a + wts j b := by
  induction a with
  | nil => exact (Nat.zero_add _).symm
  | cons p a ih =>
    show wt p + j.length + 6 + wts j (a ++ b) = wt p + j.length + 6 + wts j a + wts j b
    rw [ih]
    omega
def fl (j : Str) : Pt → List Pt
  | .jo j' ps => if j' = j then ps else [.jo j' ps]
  | .atom ws => [.atom ws]
  | .un h p => [.un h p]
def jn (j : Str) (l r : Pt) : Pt := .jo j (fl j l ++ fl j r)
theorem fl_wf {j : Str} {p : Pt} (h : wf p = true) : wfs (fl j p) = true := by
  have one : wfs [p] = true := by
    show (wf p && true) = true
    rw [h]
    rfl
  cases p with
  | atom ws => exact one
  | un => exact one
  | jo j' ps =>
    show wfs (if j' = j then ps else [.jo j' ps]) = true
    split
    · have h' : (jts.contains j' && wfs ps) = true := h
      rw [Bool.and_eq_true] at h'
      exact h'.2
    · exact one
theorem jn_wf {j : Str} {l r : Pt} (hj : jts.contains j = true) (hl : wf l = true) (hr : wf r = true) : wf (jn j l r) = true := by
  show (jts.contains j && wfs (fl j l ++ fl j r)) = true
  rw [hj, wfs_app, fl_wf hl, fl_wf hr]
  rfl
theorem fl_wt (j : Str) (p : Pt) : wts j (fl j p) ≤ wt p + j.length + 6 := by
  cases p with
  | atom ws => exact Nat.le_refl _
  | un => exact Nat.le_refl _
  | jo j' ps =>
    show wts j (if j' = j then ps else [.jo j' ps]) ≤ wt (.jo j' ps) + j.length + 6
    split
    · rename_i e
      rw [e]
      show wts j ps ≤ wts j ps + j.length + 6
      omega
    · exact Nat.le_refl _
theorem jn_wt (j : Str) (l r : Pt) : wt (jn j l r) ≤ wt l + wt r + 2 * (j.length + 6) := by
  show wts j (fl j l ++ fl j r) ≤ _
  have h1 := fl_wt j l
  have h2 := fl_wt j r
  rw [wts_app]
  omega
/-! reading -/
structure RS where
  parts : List Pt
  wait : List Str
  begun : List Str
  whole : Bool
def gat (js : List Str) : List Str → List Pt → List Str × List Pt
  | [], P => ([], P)
  | j :: W, P => if j ∈ js then (match P with
    | r :: l :: P' => gat js W (jn j l r :: P')
    | P => (j :: W, P)) else (j :: W, P)
theorem gat_no {js : List Str} {j : Str} {W : List Str} {P : List Pt} (h : j ∉ js) : gat js (j :: W) P = (j :: W, P) := by
  unfold gat
  rw [if_neg h]
theorem gat_yes {js : List Str} {j : Str} {W : List Str} {P : List Pt} {l r : Pt} (h : j ∈ js) : gat js (j :: W) (r :: l :: P) = gat js W (jn j l r :: P) := by
  rw [gat, if_pos h]
def putS (hs : List Str) : List Str → Pt → List Str × Pt
  | [], p => ([], p)
  | h :: W, p => if h ∈ hs then putS hs W (.un h p) else (h :: W, p)
def put (hs : List Str) (W : List Str) (P : List Pt) (p : Pt) : RS := ⟨(putS hs W p).2 :: P, (putS hs W p).1, [], true⟩
def kindB (z : Str) : Bool := consB 65 90 4 z
def slB (q : Str × Str) : Bool := if q.1 = "K" then kindB q.2 else decide (q.2 = q.1)
def fitsB (form words : List Str) : Bool := (form.zip words).all slB
def takeA (fs : List (List Str)) (hs : List Str) (st : RS) (w : Str) : Option RS := match fs.filter (fun f => fitsB f (st.begun ++ [w])) with
  | [] => none
  | f :: _ => if f.length = (st.begun ++ [w]).length then some (put hs st.wait st.parts (.atom (st.begun ++ [w]))) else some { st with begun := st.begun ++ [w] }
def closeS (hs : List Str) (st : RS) : Option RS := match gat jts st.wait st.parts with
  | (_ :: W, p :: P) => some (put hs W P p)
  | _ => none
def takeB (hs : List Str) (st : RS) (w : Str) : Option RS :=
  if w = ")" then closeS hs st else if w ∈ jts then (if w = "or" then some ⟨(gat ["and"] st.wait st.parts).2, w :: (gat ["and"] st.wait st.parts).1, st.begun, false⟩ else some ⟨st.parts, w :: st.wait, st.begun, false⟩) else none
def takeS (fs : List (List Str)) (hs : List Str) (st : RS) (w : Str) : Option RS :=
  if st.whole then takeB hs st w else if st.begun = [] ∧ (w = "(" ∨ w ∈ hs) then some { st with wait := w :: st.wait } else takeA fs hs st w
def endS (st : RS) : Option Pt := if st.whole then (match gat jts st.wait st.parts with
  | ([], p :: _) => some p
  | _ => none) else none
/-- the joints that wait -/
def nJ (W : List Str) : Nat := (W.filter (· ∈ jts)).length
theorem nJ_cons (w : Str) (W : List Str) : nJ (w :: W) = (if w ∈ jts then 1 else 0) + nJ W := by
  unfold nJ
  by_cases h : w ∈ jts
  · rw [List.filter_cons_of_pos (by simpa using h), if_pos h, List.length_cons]
    omega
  · rw [List.filter_cons_of_neg (by simpa using h), if_neg h, Nat.zero_add]
theorem gat_len {js : List Str} (hjs : ∀ j ∈ js, j ∈ jts) : ∀ (W : List Str) (P : List Pt), P.length = nJ W + 1 → (gat js W P).2.length = nJ (gat js W P).1 + 1 := by
  intro W
  induction W with
  | nil => intro P h; exact h
  | cons j W ih =>
    intro P h
    unfold gat
    by_cases hj : j ∈ js
    · rw [if_pos hj]
      have hm := hjs j hj
      rw [nJ_cons, if_pos hm] at h
      match P, h with
      | [], h => simp at h
      | [_], h => simp at h
      | r :: l :: P', h =>
        refine ih _ ?_
        rw [List.length_cons, List.length_cons] at h
        rw [List.length_cons]
        omega
    · rw [if_neg hj]
      exact h
theorem gat_wf {js : List Str} (hjs : ∀ j ∈ js, j ∈ jts) : ∀ (W : List Str) (P : List Pt), wfs P = true → wfs (gat js W P).2 = true := by
  intro W
  induction W with
  | nil => intro P h; exact h
  | cons j W ih =>
    intro P h
    unfold gat
    by_cases hj : j ∈ js
    · rw [if_pos hj]
      match P, h with
      | [], h => exact h
      | [p], h => exact h
      | r :: l :: P', h =>
        refine ih _ ?_
        have h' : (wf r && (wf l && wfs P')) = true := h
        simp only [Bool.and_eq_true] at h'
        show (wf (jn j l r) && wfs P') = true
        rw [jn_wf (by simpa using hjs j hj) h'.2.1 h'.1, h'.2.2]
        rfl
    · rw [if_neg hj]
      exact h
/-- behind a gathering no joint stands on top -/
theorem gat_top : ∀ (W : List Str) (P : List Pt), P.length = nJ W + 1 → ∀ w W', (gat jts W P).1 = w :: W' → w ∉ jts := by
  intro W
  induction W with
  | nil => intro P h w W' e; exact nomatch e
  | cons j W ih =>
    intro P h w W' e
    unfold gat at e
    by_cases hj : j ∈ jts
    · rw [if_pos hj] at e
      rw [nJ_cons, if_pos hj] at h
      match P, h, e with
      | [], h, _ => simp at h
      | [_], h, _ => simp at h
      | r :: l :: P', h, e =>
        refine ih _ ?_ w W' e
        rw [List.length_cons, List.length_cons] at h
        rw [List.length_cons]
        omega
    · rw [if_neg hj] at e
      injection e with e1 e2
      rw [← e1]
      exact hj
def wtW : List Str → Nat
  | [] => 0
  | w :: W => 2 * (w.length + 6) + wtW W
def wtP : List Pt → Nat
  | [] => 0
  | p :: P => wt p + wtP P
theorem gat_wt (js : List Str) : ∀ (W : List Str) (P : List Pt), wtW (gat js W P).1 + wtP (gat js W P).2 ≤ wtW W + wtP P := by
  intro W
  induction W with
  | nil => intro P; exact Nat.le_refl _
  | cons j W ih =>
    intro P
    unfold gat
    by_cases hj : j ∈ js
    · rw [if_pos hj]
      match P with
      | [] => exact Nat.le_refl _
      | [_] => exact Nat.le_refl _
      | r :: l :: P' =>
        have h1 := ih (jn j l r :: P')
        have h2 := jn_wt j l r
        show wtW (gat js W (jn j l r :: P')).1 + wtP (gat js W (jn j l r :: P')).2 ≤ 2 * (j.length + 6) + wtW W + (wt r + (wt l + wtP P'))
        have h3 : wtP (jn j l r :: P') = wt (jn j l r) + wtP P' := rfl
        omega
    · rw [if_neg hj]
      exact Nat.le_refl _
theorem putS_wt (hs : List Str) : ∀ (W : List Str) (p : Pt), wtW (putS hs W p).1 + wt (putS hs W p).2 ≤ wtW W + wt p := by
  intro W
  induction W with
  | nil => intro p; exact Nat.le_refl _
  | cons h W ih =>
    intro p
    unfold putS
    split
    · have h1 := ih (.un h p)
      have h2 : wt (.un h p) = h.length + 5 + wt p := rfl
      show _ ≤ 2 * (h.length + 6) + wtW W + wt p
      omega
    · exact Nat.le_refl _
theorem putS_wf {hs : List Str} (hhs : ∀ h ∈ hs, h ∈ hds) : ∀ (W : List Str) (p : Pt), wf p = true → wf (putS hs W p).2 = true := by
  intro W
  induction W with
  | nil => intro p h; exact h
  | cons h W ih =>
    intro p hp
    unfold putS
    split
    · rename_i hm
      refine ih _ ?_
      show (hds.contains h && wf p) = true
      rw [hp, Bool.and_true]
      simpa using hhs h hm
    · exact hp
theorem putS_nJ {hs : List Str} (hhs : ∀ h ∈ hs, h ∈ hds) : ∀ (W : List Str) (p : Pt), nJ (putS hs W p).1 = nJ W := by
  intro W
  induction W with
  | nil => intro p; rfl
  | cons h W ih =>
    intro p
    unfold putS
    split
    · rename_i hm
      rw [ih, nJ_cons, if_neg, Nat.zero_add]
      have := hhs h hm
      intro hj
      simp only [List.mem_cons, List.not_mem_nil, or_false] at this hj
      rcases this with rfl | rfl | rfl <;> exact absurd hj (by decide +kernel)
    · rfl
def wtS (st : RS) : Nat := wtW st.wait + wtP st.parts + lenS st.begun
structure Ok (st : RS) : Prop where
  len : st.parts.length = nJ st.wait + (if st.whole then 1 else 0)
  wfp : wfs st.parts = true
  beg : st.whole = true → st.begun = []
theorem lenS_app (a b : List Str) : lenS (a ++ b) = lenS a + lenS b := by
  induction a with
  | nil => exact (Nat.zero_add _).symm
  | cons w a ih =>
    show w.length + 1 + lenS (a ++ b) = w.length + 1 + lenS a + lenS b
    omega
section
variable {fs : List (List Str)} {hs : List Str} (hhs : ∀ h ∈ hs, h ∈ hds)
include hhs
theorem put_ok {W : List Str} {P : List Pt} {p : Pt} (h1 : P.length = nJ W) (h2 : wfs P = true) (h3 : wf p = true) : Ok (put hs W P p) := by
  refine ⟨?_, ?_, fun _ => rfl⟩
  · show P.length + 1 = nJ (putS hs W p).1 + 1
    rw [putS_nJ hhs, h1]
  · show (wf (putS hs W p).2 && wfs P) = true
    rw [putS_wf hhs _ _ h3, h2]
    rfl
theorem close_ok {st st' : RS} (h : Ok st) (hw : st.whole = true) (e : closeS hs st = some st') : Ok st' ∧ wtS st' ≤ wtS st := by
  have hl := h.len
  rw [if_pos hw] at hl
  have g1 := gat_len (js := jts) (fun j h => h) st.wait st.parts hl
  have g2 := gat_wf (js := jts) (fun j h => h) st.wait st.parts h.wfp
  have g3 := gat_top st.wait st.parts hl
  have g4 := gat_wt jts st.wait st.parts
  unfold closeS at e
  generalize gat jts st.wait st.parts = g at *
  obtain ⟨W, P⟩ := g
  match W, P, e with
  | _ :: W, p :: P, e =>
    cases e
    rename_i w0
    have hw0 := g3 w0 W rfl
    have g1' : P.length + 1 = nJ (w0 :: W) + 1 := g1
    rw [nJ_cons, if_neg hw0] at g1'
    have g2' : (wf p && wfs P) = true := g2
    rw [Bool.and_eq_true] at g2'
    refine ⟨put_ok hhs (by omega) g2'.2 g2'.1, ?_⟩
    have q1 := putS_wt hs W p
    have q2 : wtW (w0 :: W) + wtP (p :: P) = 2 * (w0.length + 6) + wtW W + (wt p + wtP P) := rfl
    show wtW (putS hs W p).1 + (wt (putS hs W p).2 + wtP P) + 0 ≤ _
    have q3 : wtS st = wtW st.wait + wtP st.parts + lenS st.begun := rfl
    have g4' : wtW (w0 :: W) + wtP (p :: P) ≤ wtW st.wait + wtP st.parts := g4
    omega
theorem take_ok {st st' : RS} {w : Str} (h : Ok st) (e : takeS fs hs st w = some st') : Ok st' ∧ wtS st' ≤ wtS st + 2 * (w.length + 6) := by
  have hl := h.len
  have q3 : wtS st = wtW st.wait + wtP st.parts + lenS st.begun := rfl
  unfold takeS at e
  by_cases hw : st.whole = true
  · rw [if_pos hw] at e hl
    unfold takeB at e
    by_cases hc : w = ")"
    · rw [if_pos hc] at e
      obtain ⟨a, b⟩ := close_ok hhs h hw e
      exact ⟨a, by omega⟩
    · rw [if_neg hc] at e
      by_cases hj : w ∈ jts
      · rw [if_pos hj] at e
        by_cases ho : w = "or"
        · rw [if_pos ho] at e
          cases e
          have hjs : ∀ j ∈ ([("and" : Str)] : List Str), j ∈ jts := fun j hj => by
            rw [List.mem_singleton.mp hj]
            exact List.mem_cons_self ..
          have g1 := gat_len hjs st.wait st.parts hl
          have g4 := gat_wt ["and"] st.wait st.parts
          refine ⟨⟨?_, gat_wf hjs _ _ h.wfp, fun z => nomatch z⟩, ?_⟩
          · show (gat ["and"] st.wait st.parts).2.length = nJ (w :: (gat ["and"] st.wait st.parts).1) + 0
            rw [nJ_cons, if_pos hj]
            omega
          · show 2 * (w.length + 6) + wtW (gat ["and"] st.wait st.parts).1 + wtP (gat ["and"] st.wait st.parts).2 + lenS st.begun ≤ _
            omega
        · rw [if_neg ho] at e
          cases e
          refine ⟨⟨?_, h.wfp, fun z => nomatch z⟩, ?_⟩
          · show st.parts.length = nJ (w :: st.wait) + 0
            rw [nJ_cons, if_pos hj]
            omega
          · show 2 * (w.length + 6) + wtW st.wait + wtP st.parts + lenS st.begun ≤ _
            omega
      · rw [if_neg hj] at e
        cases e
  · rw [if_neg hw] at e hl
    have hwf : st.whole = false := by
      cases h : st.whole
      · rfl
      · exact absurd h hw
    by_cases hb : st.begun = [] ∧ (w = "(" ∨ w ∈ hs)
    · rw [if_pos hb] at e
      cases e
      have hj : w ∉ jts := by
        rcases hb.2 with rfl | hm
        · decide +kernel
        · have := hhs w hm
          intro hj
          simp only [List.mem_cons, List.not_mem_nil, or_false] at this hj
          rcases this with rfl | rfl | rfl <;> exact absurd hj (by decide +kernel)
      refine ⟨⟨?_, h.wfp, h.beg⟩, ?_⟩
      · show st.parts.length = nJ (w :: st.wait) + (if st.whole = true then 1 else 0)
        rw [nJ_cons, if_neg hj, if_neg hw]
        omega
      · show 2 * (w.length + 6) + wtW st.wait + wtP st.parts + lenS st.begun ≤ _
        omega
    · rw [if_neg hb] at e
      unfold takeA at e
      split at e
      · cases e
      · split at e
        · cases e
          refine ⟨put_ok hhs (by omega) h.wfp rfl, ?_⟩
          have q1 := putS_wt hs st.wait (.atom (st.begun ++ [w]))
          have q2 : wt (.atom (st.begun ++ [w])) = 1 + lenS (st.begun ++ [w]) := rfl
          rw [lenS_app] at q2
          have q4 : lenS [w] = w.length + 1 + 0 := rfl
          show wtW (putS hs st.wait (.atom (st.begun ++ [w]))).1 + (wt (putS hs st.wait (.atom (st.begun ++ [w]))).2 + wtP st.parts) + 0 ≤ _
          omega
        · cases e
          refine ⟨⟨?_, h.wfp, fun z => absurd z hw⟩, ?_⟩
          · show st.parts.length = nJ st.wait + (if st.whole = true then 1 else 0)
            rw [if_neg hw]
            exact hl
          · show wtW st.wait + wtP st.parts + lenS (st.begun ++ [w]) ≤ _
            rw [lenS_app]
            have q4 : lenS [w] = w.length + 1 + 0 := rfl
            omega
end
def st0 : RS := ⟨[], [], [], false⟩
theorem st0_ok : Ok st0 := ⟨rfl, rfl, fun z => nomatch z⟩
def runS (fs : List (List Str)) (hs : List Str) : RS → List Str → Nat → RS ⊕ Nat
  | st, [], _ => .inl st
  | st, w :: ws, i => match takeS fs hs st w with
    | none => .inr i
    | some st' => runS fs hs st' ws (i + 1)
/-! texts -/
def sepJ (y : Str) : List Str → Str := Str.join y
def encl (p : Pt) (h : Str) : Bool := decide (hdP p = "or") || (decide (hdP p = "and") && !decide (h ∈ jts))
mutual
def txt : Pt → Str
  | .atom ws => Str.join " " ws
  | .un h p => h ++ " " ++ (if encl p h then "( " ++ txt p ++ " )" else txt p)
  | .jo j ps => Str.join (" " ++ j ++ " ") (txts j ps)
def txts (h : Str) : List Pt → List Str
  | [] => []
  | p :: ps => (if encl p h then "( " ++ txt p ++ " )" else txt p) :: txts h ps
end
def undT (p : Pt) (h : Str) : Str := if encl p h then "( " ++ txt p ++ " )" else txt p
def isOut (p : Pt) : Bool := match p with
  | .un h _ => decide (h ∈ out)
  | _ => false
mutual
def ats : Pt → List Pt
  | .atom ws => [.atom ws]
  | .un h p => (if h ∈ out then [.un h p] else []) ++ ats p
  | .jo _ ps => atss ps
def atss : List Pt → List Pt
  | [] => []
  | p :: ps => ats p ++ atss ps
end
def underT : Pt → Str
  | .un _ p => txt p
  | _ => ""
def outT (p : Pt) : List Str := ((ats p).filter isOut).map underT
def cntW (ws wanted : List Str) : Nat := (ws.filter (· ∈ wanted)).length
/-! how deep -/
structure DS where
  deepest : Nat
  held : List Nat
  depth : Nat
  heads : Nat
def dstep (d : DS) (w : Str) : DS :=
  if w ∈ hds then ⟨max d.deepest (d.depth + (d.heads + 1)), d.held, d.depth, d.heads + 1⟩
  else if w = "(" then ⟨max d.deepest (d.depth + d.heads + 1 + 0), (d.heads + 1) :: d.held, d.depth + d.heads + 1, 0⟩
  else if w = ")" then ⟨max d.deepest (d.depth - d.held.headD 0 + 0), d.held.tail, d.depth - d.held.headD 0, 0⟩
  else ⟨max d.deepest (d.depth + 0), d.held, d.depth, 0⟩
def drun (d : DS) : List Str → DS
  | [] => d
  | w :: ws => drun (dstep d w) ws
def depthW (ws : List Str) : Nat := (drun ⟨0, [], 0, 0⟩ ws).deepest
abbrev atw : List Str := ["is", "root", "earlier", "later", "parent", "above"]
def manyOf (ws : List Str) (p : Pt) : Option Str :=
  if cntW ws atw > 8 then some "atoms" else if depthW ws > 6 then some "deep" else if Ws.met (outT p) (outT p).length > 2 then some "outer" else none
abbrev qfs : List (List Str) := [["is", "K"], ["root"], ["earlier", "K"], ["later", "K"]]
inductive QR where
  | at (n : Nat)
  | many (w : Str)
  | ok (p : Pt)
def readQ (ws : List Str) : QR := match runS qfs hds st0 ws 0 with
  | .inr i => .at i
  | .inl st => match endS st with
    | none => .at ws.length
    | some p => match manyOf ws p with
      | some m => .many m
      | none => .ok p
end Qp

set_option linter.all false
set_option maxRecDepth 100000
set_option maxHeartbeats 4000000
/-! zip(t, xs) of a tuple and a list -/
namespace Wz
open PySem PySem.Spec PyProof.Rows L2
def Both (K : PySem.W.Frag) (a b : Addr) (H : Hp) (xs ys : List V) : Prop := SqT K H a xs ∧ SqL K H b ys
def ItM (K : PySem.W.Frag) (a b : Addr) : It where
  go := fun i H => ∃ xs ys, Both K a b H xs ys ∧ i < xs.length ∧ i < ys.length
  yld := fun i H v H' => ∃ T x y, v = .ref T ∧ H T = none ∧ H' = upd H T (.tup [x, y]) ∧ ∀ xs ys, Both K a b H xs ys → xs[i]? = some x ∧ ys[i]? = some y
  stop := fun i H => ∃ xs ys, Both K a b H xs ys ∧ i = min xs.length ys.length
section
variable {P : Program} {w : World} {K : PySem.W.Frag} {a b z TI TO i1 i2 : Addr}
theorem sep_of (D : ZipApart z TI TO i1 i2 a b) : ZipSep2 z TI TO i1 i2 [i1, a] [i2, b] := by
  refine ⟨D.TIz, D.TOz, D.TITO, D.TIi1, by simp, ?_, ?_, D.TIi2, by simp, ?_, ?_, ?_, ?_⟩ <;>
    (simp only [List.mem_cons, List.not_mem_nil, or_false, not_or]; constructor) <;>
    first
      | exact fun e => D.i1z e.symm
      | exact fun e => D.i2z e.symm
      | exact fun e => D.l1z e.symm
      | exact fun e => D.l2z e.symm
      | exact D.TOi1
      | exact D.TOi2
      | exact fun e => D.l1TO e.symm
      | exact fun e => D.l2TO e.symm
      | exact D.i12
      | exact fun e => D.i12 e.symm
      | exact fun e => D.l2i1 e.symm
      | exact fun e => D.l1i2 e.symm
structure Tn (a b z TI TO i1 i2 : Addr) (i : Nat) (h : Heap) : Prop where
  z : IsZip h z TI TO .none
  I : IsPair h TI (.ref i1) (.ref i2)
  O : ∃ x y, IsPair h TO x y
  t : h.IsTupleIter i1 a i
  l : h.IsListIter i2 b i
theorem five {c : Addr} (h : c ∈ [z, TI, TO, i1, i2]) : c = z ∨ c = TI ∨ c = TO ∨ c = i1 ∨ c = i2 := by simpa using h
theorem turn_m (D : ZipApart z TI TO i1 i2 a b) (hne1 : a ≠ i1) (hne2 : b ≠ i2) {elts : List Expr} {kk : Nat} {tpos : Pos} : Turn P w K (.Tuple elts kk tpos) (ItM K a b) [z, TI, TO, i1, i2] z (Tn a b z TI TO i1 i2) where
  mem := List.mem_cons_self ..
  obj := fun i h st c hc => by
    obtain ⟨o1, p1, _, q1⟩ := st.t
    obtain ⟨o2, p2, _, q2⟩ := st.l
    obtain ⟨x, y, p3⟩ := st.O
    rcases five hc with rfl | rfl | rfl | rfl | rfl
    · exact ⟨_, st.z, fun _ r => nomatch r⟩
    · exact ⟨_, st.I, fun _ r => nomatch r⟩
    · exact ⟨_, p3, fun _ r => nomatch r⟩
    · exact ⟨o1, p1, fun _ r => by rw [q1] at r; cases r⟩
    · exact ⟨o2, p2, fun _ r => by rw [q2] at r; cases r⟩
  keep := fun i h h' st k => by
    obtain ⟨x, y, p3⟩ := st.O
    exact ⟨k _ (by simp) _ st.z, k _ (by simp) _ st.I, ⟨x, y, k _ (by simp) _ p3⟩, st.t.at fun o e => k _ (by simp) o e, st.l.at fun o e => k _ (by simp) o e⟩
  item := by
    rintro X rfl rfl rfl hc i pins s σ H E I hf st ⟨xs, ys, ⟨hx, hy⟩, l1, l2⟩
    obtain ⟨us, r1, pt, _⟩ := I.tuple hx
    obtain ⟨vs, r2, pl, _⟩ := I.list hy
    obtain ⟨x0, y0, p3⟩ := st.O
    have n1 := r1.length
    have n2 := r2.length
    have hh : X.A.in1.handled = none := I.ok.hd hc
    have zl : z < s.heap.objs.size := Heap.lt_size st.z
    have D1 := Draws.tuple (prog := X.prog) (w := X.w) (A := X.A.in1) hh i1 a hne1 us.toArray
    have D2 := Draws.list (prog := X.prog) (w := X.w) (A := X.A.in1) hh i2 b hne2 vs.toArray
    refine wpAny_pyNext_zipD2_item (sep_of D) D1 D2 st.z st.I p3 ⟨st.t, pt⟩ ⟨st.l, pl.isList⟩ (by rw [List.size_toArray]; omega) (by rw [List.size_toArray]; omega) fun u1 u2 h' tk e1 e2 z' O' s1 s2 T' sz hk => ?_
    refine ⟨_, rfl, wpAny_letOwnedTupleGo_zip (s := { s with heap := h', toks := tk }) z' fun h2 z2 sb => ?_⟩
    obtain ⟨x, hx1, rx⟩ : ∃ x, xs[i]? = some x ∧ RelV x u1 := by
      have hi : i < xs.length := l1
      obtain ⟨u, hu, ru⟩ := r1.get (List.getElem?_eq_getElem hi)
      have e1' : us[i]? = some u1 := by simpa using e1
      rw [e1'] at hu
      cases hu
      exact ⟨_, List.getElem?_eq_getElem hi, ru⟩
    obtain ⟨y, hy1, ry⟩ : ∃ y, ys[i]? = some y ∧ RelV y u2 := by
      have hi : i < ys.length := l2
      obtain ⟨u, hu, ru⟩ := r2.get (List.getElem?_eq_getElem hi)
      have e2' : vs[i]? = some u2 := by simpa using e2
      rw [e2'] at hu
      cases hu
      exact ⟨_, List.getElem?_eq_getElem hi, ru⟩
    have stay : ∀ c o, c ≠ z → h'.get? c = some o → h2.get? c = some o := fun c o c1 e => (sb.2 c c1).trans e
    have hT := stay _ _ (Nat.ne_of_gt zl) T'
    have new : ObjOk X.prog X.w (upd H s.heap.objs.size (.tup [x, y])) h2 s.heap.objs.size (.tup [x, y]) := ⟨(by show 2 ≤ sizeLine; decide), [u1, u2], .cons rx (.cons ry .nil), ⟨_, hT, rfl, _, rfl⟩⟩
    have J : Inv X pins σ (upd H s.heap.objs.size (.tup [x, y])) { s with heap := h2, toks := tk } := I.turnedNew (t' := tk) (ch := [z, TI, TO, i1, i2]) (fun c o nb e => by
      have nb' : c ≠ z ∧ c ≠ TI ∧ c ≠ TO ∧ c ≠ i1 ∧ c ≠ i2 := by simpa using nb
      exact stay c o nb'.1 (hk c o nb'.1 nb'.2.2.1 nb'.2.2.2.1 nb'.2.2.2.2 e)) hf (Nat.le_refl _) new
    refine ⟨.ref s.heap.objs.size, _, J, rfl, ⟨_, x, y, rfl, I.hok.fresh (Nat.le_refl _), rfl, fun xs' ys' bo => ?_⟩, ⟨z2, ?_, ⟨u1, u2, stay _ _ D.TOz O'⟩, ?_, ?_⟩, fun c hc => ?_⟩
    · rw [I.tuple_inj bo.1 hx, I.list_inj bo.2 hy]
      exact ⟨hx1, hy1⟩
    · exact stay _ _ D.TIz (hk _ _ D.TIz D.TITO D.TIi1 D.TIi2 st.I)
    · exact s1.1.at fun o e => stay _ o D.i1z e
    · exact s2.1.at fun o e => stay _ o D.i2z e
    · have lt : c < s.heap.objs.size := by
        obtain ⟨_, p1, _⟩ := st.t
        obtain ⟨_, p2, _⟩ := st.l
        rcases five hc with rfl | rfl | rfl | rfl | rfl
        · exact zl
        · exact Heap.lt_size st.I
        · exact Heap.lt_size p3
        · exact Heap.lt_size p1
        · exact Heap.lt_size p2
      exact (upd_ne (Nat.ne_of_lt lt)).trans (hf c hc).1
  done := by
    rintro X rfl rfl rfl hc i pins s σ H E I hf st ⟨xs, ys, ⟨hx, hy⟩, hi⟩
    obtain ⟨us, r1, pt, _⟩ := I.tuple hx
    obtain ⟨vs, r2, pl, _⟩ := I.list hy
    obtain ⟨x0, y0, p3⟩ := st.O
    have n1 := r1.length
    have n2 := r2.length
    have hh : X.A.in1.handled = none := I.ok.hd hc
    have D1 := Draws.tuple (prog := X.prog) (w := X.w) (A := X.A.in1) hh i1 a hne1 us.toArray
    have D2 := Draws.list (prog := X.prog) (w := X.w) (A := X.A.in1) hh i2 b hne2 vs.toArray
    refine wpAny_pyNext_zipD2_end (sep_of D) D1 D2 st.z st.I p3 ⟨st.t, pt⟩ ⟨st.l, pl.isList⟩ (by rw [List.size_toArray]; omega) (by rw [List.size_toArray]; omega) (by rw [List.size_toArray, List.size_toArray]; omega) fun h' tk hk => ⟨rfl, ?_⟩
    exact I.turnedL (t' := tk) (ch := [z, TI, TO, i1, i2]) (fun c o nb e => by
      have nb' : c ≠ z ∧ c ≠ TI ∧ c ≠ TO ∧ c ≠ i1 ∧ c ≠ i2 := by simpa using nb
      exact hk c o nb'.1 nb'.2.2.1 nb'.2.2.2.1 nb'.2.2.2.2 e) hf
  self := fun _ _ _ _ _ st h => wpAny_pyIter_zip st.z h
theorem walk_m {xs ys : List V} : Walk (ItM K a b) (min xs.length ys.length) (fun H => Both K a b H xs ys) (YPair (fun i => xs[i]?) (fun i => ys[i]?)) :=
  ⟨fun i H hi q => ⟨xs, ys, q, by omega, by omega⟩, fun H q => ⟨xs, ys, q, rfl⟩, fun i H v H' _ q y => by
    obtain ⟨T, x, z, h1, h2, h3, h4⟩ := y
    exact ⟨T, x, z, h1, h2, h3, (h4 xs ys q).1, (h4 xs ys q).2⟩⟩
end
section
variable {prog : Program} {w : World} {A : Around} {E : Value → Shared → Prop} {s : Shared}
def o1 (l : Addr) : Obj := { cls := .type "tuple_iterator", data := .fields #[.ref l, .int 0 0] }
def o2 (l : Addr) : Obj := { cls := .type "list_iterator", data := .fields #[.ref l, .int 0 0] }
def o3 (n : Nat) : Obj := { cls := .type "tuple", data := .seq #[.ref n, .ref (n + 1)] }
def o4 : Obj := { cls := .type "tuple", data := .seq #[.none, .none] }
def o5 (n : Nat) : Obj := { cls := .type "zip", data := .fields #[.none, .bool false, .bool false, .ref (n + 2), .ref (n + 3)] }
def hM (h : Heap) (k l : Addr) : Heap := ((((h.push (o1 k)).push (o2 l)).push (o3 h.objs.size)).push o4).push (o5 h.objs.size)
theorem made_m (k l : Addr) (xs ys : Array Value) : Meets (Builtin.«zip.__new__» ⟨[.type "zip", .ref k, .ref l], []⟩) (fun _ R s => s.heap.IsTuple k xs ∧ s.heap.IsList l ys ∧ R (.ok (.ret (.ref (s.heap.objs.size + 4)))) { s with heap := hM s.heap k l }) :=
  .of_wp fun prog w A R s q => by
    obtain ⟨hp, g, d, tk, os⟩ := s
    obtain ⟨q1, q2, q3⟩ := q
    have hsub := sub_zip
    have t1 : Heap.IsTuple (Shared.heap ⟨hp, g, d, tk, os⟩) k xs := q1
    have t2 : Heap.IsList (Shared.heap ⟨hp.push (o1 k), g, d, tk, os⟩) l ys := Heap.IsList.push q2 _
    unfold hM at q3
    unfold o1 at t2
    unfold o1 o2 o3 o4 o5 at q3
    have z1 : ∀ (h : Heap) (o : Obj), (h.push o).objs.size = h.objs.size + 1 := fun h o => Heap.size_push ..
    wp_walk using wpAny_pyIter_tuple t1, wpAny_pyIter_list t2
    simp only [z1]
    exact ⟨_, rfl, q3⟩
theorem call_m {k l : Addr} {xs ys : Array Value} {Q : Value → Shared → Prop} (hk : s.heap.IsTuple k xs) (hl : s.heap.IsList l ys)
    (h : ∀ h', Tn k l (s.heap.objs.size + 4) (s.heap.objs.size + 2) (s.heap.objs.size + 3) s.heap.objs.size (s.heap.objs.size + 1) 0 h' → (∀ c o, s.heap.get? c = some o → h'.get? c = some o) → Q (.ref (s.heap.objs.size + 4)) { s with heap := h' }) :
    wpAny (model prog w) A (call (.type "zip") [.ref k, .ref l]) Q E s := by
  have sz : ∀ (h : Heap) (o : Obj), (h.push o).objs.size = h.objs.size + 1 := fun h o => Heap.size_push ..
  have pr : ∀ {h : Heap} {o p : Obj} {c : Addr}, h.get? c = some p → (h.push o).get? c = some p := fun e => Heap.get?_push_of_some _ e
  refine callType_new F.called_zip (by decide) (F.typeCall_zip_2 _ _) (F.newCall_zip_2 _ _) (fun obj => F.args_object_init_3 obj _ _) F.entry_zip_new (made_m k l xs ys) ⟨hk, hl, ?_⟩
  generalize hn : s.heap.objs.size = n at *
  have g1 : (s.heap.push (o1 k)).get? n = some (o1 k) := by rw [← hn]; exact Heap.get?_push_size _ rfl
  have g2 : ((s.heap.push (o1 k)).push (o2 l)).get? (n + 1) = some (o2 l) := by rw [← hn, ← sz s.heap (o1 k)]; exact Heap.get?_push_size _ rfl
  have g3 : (((s.heap.push (o1 k)).push (o2 l)).push (o3 s.heap.objs.size)).get? (n + 2) = some (o3 n) := by
    have e : n + 2 = ((s.heap.push (o1 k)).push (o2 l)).objs.size := by rw [sz, sz, hn]
    rw [e, hn]
    exact Heap.get?_push_size _ rfl
  have g4 : ((((s.heap.push (o1 k)).push (o2 l)).push (o3 s.heap.objs.size)).push o4).get? (n + 3) = some o4 := by
    have e : n + 3 = (((s.heap.push (o1 k)).push (o2 l)).push (o3 s.heap.objs.size)).objs.size := by rw [sz, sz, sz, hn]
    rw [e]
    exact Heap.get?_push_size _ rfl
  have g5 : (hM s.heap k l).get? (n + 4) = some (o5 n) := by
    have e : n + 4 = ((((s.heap.push (o1 k)).push (o2 l)).push (o3 s.heap.objs.size)).push o4).objs.size := by rw [sz, sz, sz, sz, hn]
    unfold hM
    rw [e, hn]
    exact Heap.get?_push_size _ rfl
  refine ⟨⟨_, g5, rfl⟩, h _ ⟨g5, pr (pr g3), ⟨_, _, pr g4⟩, ⟨_, pr (pr (pr (pr g1))), rfl, rfl⟩, ⟨_, pr (pr (pr g2)), rfl, rfl⟩⟩ fun c o e => pr (pr (pr (pr (pr e))))⟩
end
def iZipM (K : PySem.W.Frag) (ta : TA) : TI := fun σ H R => ta σ H fun vs G => ∃ a b xs ys, vs = [.ref a, .ref b] ∧ Both K a b G xs ys ∧ R (ItM K a b) G
/-- zip(t, xs) -/
theorem pi_zipM {X : Cx} {e e2 : Expr} {ta : TA} {p pos tpos : Pos} {elts : List Expr} {kk : Nat} (hg : Gl X "zip") (hm : X.mg "zip" = none) (ha : PA X [e, e2] ta)
    (h1 : starEach [e, e2] X.env = (false, eval e X.env) :: starEach [e2] X.env := by rfl) (h2 : (backTo pos (starEach [e2] X.env)).any (·.1) = false := by rfl) :
    PI X (.Tuple elts kk tpos) (.Call (.Name "zip" p) [e, e2] [] pos) (iZipM X.K ta) := by
  refine ⟨fun pins s σ H R I q => Call_ (ld_blt I hg hm PyProof.Rows.boot_zip (PyProof.Rows.callWith_type1 (thn (ha.run pos pins s σ H _ I q) fun us t ⟨vs, G, J, rv, q2⟩ => ?_) h1 h2))⟩
  obtain ⟨a, b, xs, ys, ev, bo, q3⟩ := q2
  subst ev
  obtain ⟨u1, u2, rfl, r1, r2⟩ := vals2 rv
  cases (show u1 = Value.ref a from r1)
  cases (show u2 = Value.ref b from r2)
  obtain ⟨is, _, pt, _⟩ := J.tuple bo.1
  obtain ⟨js, _, pl, _⟩ := J.list bo.2
  obtain ⟨oa, hoa, _⟩ := id pt
  have la : a < t.heap.objs.size := Heap.lt_size hoa
  have lb : b < t.heap.objs.size := pl.lt
  refine call_m (show t.heap.IsTuple a is.toArray from pt) pl.isList fun h' tn hk => wpAny_pyIter_zip tn.z ?_
  have J2 : Inv X pins σ G { t with heap := h' } := J.kept (t' := t.toks) hk
  refine ⟨t.heap.objs.size + 4, _, _, _, G, rfl, J2, turn_m (PySem.W.ktu_apart t.heap.objs.size a b la lb) (Nat.ne_of_lt la) (Nat.ne_of_lt (Nat.lt_succ_of_lt lb)), tn, fun c hc => ?_, q3⟩
  have le : t.heap.objs.size ≤ c := by
    rcases five hc with rfl | rfl | rfl | rfl | rfl <;> first | exact Nat.le_refl _ | exact Nat.le_add_right _ _
  exact J.fpOk le (J.hok.fresh le)
end Wz

set_option linter.all false
set_option maxRecDepth 100000
set_option maxHeartbeats 4000000
set_option pp.maxSteps 150
/-! conditions and the class Reading in the heap -/
namespace Qh
open PySem PySem.Spec PyProof.Rows L2 Gx Qp
mutual
inductive PtAt (H : Hp) : V → Pt → Prop
  | atom {a w : Addr} {ws : List Str} : H a = some (.tup [.str "atom", .ref w]) → H w = some (.tup (ws.map V.str)) → PtAt H (.ref a) (.atom ws)
  | un {a : Addr} {h : Str} {v : V} {p : Pt} : H a = some (.tup [.str h, v]) → PtAt H v p → PtAt H (.ref a) (.un h p)
  | jo {a t : Addr} {j : Str} {vs : List V} {ps : List Pt} : H a = some (.tup [.str j, .ref t]) → H t = some (.tup vs) → PtsAt H vs ps → PtAt H (.ref a) (.jo j ps)
inductive PtsAt (H : Hp) : List V → List Pt → Prop
  | nil : PtsAt H [] []
  | cons {v : V} {p : Pt} {vs : List V} {ps : List Pt} : PtAt H v p → PtsAt H vs ps → PtsAt H (v :: vs) (p :: ps)
end
section
variable {H H' : Hp}
mutual
theorem PtAt.mono (s : ∀ a xs, H a = some (.tup xs) → H' a = some (.tup xs)) : ∀ {v : V} {p : Pt}, PtAt H v p → PtAt H' v p
  | _, _, .atom h1 h2 => .atom (s _ _ h1) (s _ _ h2)
  | _, _, .un h1 h2 => .un (s _ _ h1) (h2.mono s)
  | _, _, .jo h1 h2 h3 => .jo (s _ _ h1) (s _ _ h2) (h3.mono s)
theorem PtsAt.mono (s : ∀ a xs, H a = some (.tup xs) → H' a = some (.tup xs)) : ∀ {vs : List V} {ps : List Pt}, PtsAt H vs ps → PtsAt H' vs ps
  | _, _, .nil => .nil
  | _, _, .cons h1 h2 => .cons (h1.mono s) (h2.mono s)
end
theorem PtAt.head {v : V} {p : Pt} (h : PtAt H v p) : ∃ a u, v = .ref a ∧ H a = some (.tup [.str (hdP p), u]) := by
  cases h with
  | atom h1 _ => exact ⟨_, _, rfl, h1⟩
  | un h1 _ => exact ⟨_, _, rfl, h1⟩
  | jo h1 _ _ => exact ⟨_, _, rfl, h1⟩
theorem PtsAt.len {vs : List V} {ps : List Pt} (h : PtsAt H vs ps) : vs.length = ps.length := by
  induction ps generalizing vs with
  | nil => cases h; rfl
  | cons p ps ih =>
    cases h with
    | cons _ h2 => exact congrArg Nat.succ (ih h2)
theorem PtsAt.app {vs us : List V} {ps qs : List Pt} (h : PtsAt H vs ps) (k : PtsAt H us qs) : PtsAt H (vs ++ us) (ps ++ qs) := by
  induction ps generalizing vs with
  | nil => cases h; exact k
  | cons p ps ih =>
    cases h with
    | cons h1 h2 => exact .cons h1 (ih h2)
theorem PtsAt.get {vs : List V} {ps : List Pt} (h : PtsAt H vs ps) : ∀ {i : Nat} {v : V}, vs[i]? = some v → ∃ p, ps[i]? = some p ∧ PtAt H v p := by
  induction ps generalizing vs with
  | nil => cases h; intro i v e; simp at e
  | cons p ps ih =>
    cases h with
    | cons h1 h2 =>
      intro i v e
      cases i with
      | zero =>
        cases e
        exact ⟨p, rfl, h1⟩
      | succ i => exact ih h2 e
end
theorem sqT_mono {K : PySem.W.Frag} {H H' : Hp} {a : Addr} {xs : List V} (e : Same H H') (h : SqT K H a xs) : SqT K H' a xs := by
  rcases h with (h | ⟨o, h⟩) | h
  · exact .inl (.inl (e _ _ h))
  · exact .inl (.inr ⟨o, e _ _ h⟩)
  · exact .inr h
theorem map_get {ws : List Str} {i : Nat} {x : V} (h : (ws.map V.str)[i]? = some x) : ∃ a, ws[i]? = some a ∧ x = .str a := by
  rw [List.getElem?_map] at h
  cases e : ws[i]? with
  | none => rw [e] at h; cases h
  | some a => rw [e] at h; cases h; exact ⟨a, rfl, rfl⟩
theorem inV_list (z : Str) : ∀ zs : List Str, inV (.str z) (zs.map V.str) = decide (z ∈ zs)
  | [] => by simp [inV]
  | y :: zs => by
    have ih := inV_list z zs
    show ((y == z) || inV (.str z) (zs.map V.str)) = _
    rw [ih]
    by_cases h : y = z
    · subst h
      simp
    · have h' : ¬ z = y := fun e => h e.symm
      simp [h, h', beq_iff_eq]
/-- the forms: a tuple of tuples of texts -/
structure FmAt (K : PySem.W.Frag) (H : Hp) (af : Addr) (fs : List (List Str)) (vs : List V) : Prop where
  top : SqT K H af vs
  len : vs.length = fs.length
  all : ∀ (i : Nat) (f : List Str), fs[i]? = some f → ∃ b, vs[i]? = some (.ref b) ∧ SqT K H b (f.map V.str)
/-- a tuple of the written part stands in every heap -/
structure FmK (K : PySem.W.Frag) (af : Addr) (fs : List (List Str)) : Prop where
  ex : ∃ vs : List V, vs.length = fs.length ∧ (∀ H : Hp, SqT K H af vs) ∧ ∀ (i : Nat) (f : List Str), fs[i]? = some f → ∃ b, vs[i]? = some (.ref b) ∧ ∀ H : Hp, SqT K H b (f.map V.str)
structure HdK (K : PySem.W.Frag) (ah : Addr) (hs : List Str) : Prop where
  at_ : ∀ H : Hp, SqT K H ah (hs.map V.str)
def fldR (af ah lp lw lb : Addr) (wh : Bool) : List (Str × V) := [("_forms", .ref af), ("_heads", .ref ah), ("_parts", .ref lp), ("_waiting", .ref lw), ("_begun", .ref lb), ("_is_whole", .bl wh)]
section
variable {af ah lp lw lb lb' : Addr} {wh wh' : Bool}
theorem fr_forms : (fldR af ah lp lw lb wh).lookup ("_forms" : Str) = some (.ref af) := rfl
theorem fr_heads : (fldR af ah lp lw lb wh).lookup ("_heads" : Str) = some (.ref ah) := rfl
theorem fr_parts : (fldR af ah lp lw lb wh).lookup ("_parts" : Str) = some (.ref lp) := rfl
theorem fr_waiting : (fldR af ah lp lw lb wh).lookup ("_waiting" : Str) = some (.ref lw) := rfl
theorem fr_begun : (fldR af ah lp lw lb wh).lookup ("_begun" : Str) = some (.ref lb) := rfl
theorem fr_whole : (fldR af ah lp lw lb wh).lookup ("_is_whole" : Str) = some (.bl wh) := rfl
theorem put_begun : putF "_begun" (.ref lb') (fldR af ah lp lw lb wh) = fldR af ah lp lw lb' wh := rfl
theorem put_whole : putF "_is_whole" (.bl wh') (fldR af ah lp lw lb wh) = fldR af ah lp lw lb wh' := rfl
theorem fr_len : (fldR af ah lp lw lb wh).length < 1000 := by show 6 < 1000; decide
end
structure RdAt (C : Addr) (H : Hp) (a dx af ah lp lw : Addr) (st : RS) : Prop where
  ex : ∃ (lb : Addr) (vs : List V), H a = some (.ins C dx (fldR af ah lp lw lb st.whole)) ∧ H lp = some (.lst vs.reverse) ∧ PtsAt H vs st.parts ∧ H lw = some (.lst (st.wait.map V.str).reverse) ∧ H lb = some (.lst (st.begun.map V.str)) ∧ lp ≠ lw ∧ lb ≠ lp ∧ lb ≠ lw
/-- all else is kept -/
def FrR (H H' : Hp) (a lp lw : Addr) : Prop := ∀ b o, b ≠ a → b ≠ lp → b ≠ lw → H b = some o → H' b = some o
section
variable {H H' H'' : Hp} {a lp lw : Addr}
theorem FrR.refl : FrR H H a lp lw := fun _ _ _ _ _ e => e
theorem FrR.trans (h : FrR H H' a lp lw) (k : FrR H' H'' a lp lw) : FrR H H'' a lp lw := fun b o x y z e => k b o x y z (h b o x y z e)
theorem FrR.of (h : Same H H') : FrR H H' a lp lw := fun b o _ _ _ e => h b o e
theorem RdAt.tups {C dx af ah : Addr} {st : RS} (r : RdAt C H a dx af ah lp lw st) (k : FrR H H' a lp lw) : ∀ b xs, H b = some (.tup xs) → H' b = some (.tup xs) := fun b xs e => by
  obtain ⟨lb, vs, e1, e2, _, e3, _⟩ := r.ex
  exact k b _ (ne_of e e1 fun z => nomatch z) (ne_of e e2 fun z => nomatch z) (ne_of e e3 fun z => nomatch z) e
theorem RdAt.same {C dx af ah : Addr} {st : RS} (r : RdAt C H a dx af ah lp lw st) (s : Same H H') : RdAt C H' a dx af ah lp lw st := by
  obtain ⟨lb, vs, e1, e2, e3, e4, e5, e6⟩ := r.ex
  exact ⟨lb, vs, s _ _ e1, s _ _ e2, e3.mono fun b xs e => s _ _ e, s _ _ e4, s _ _ e5, e6⟩
end
theorem rev_last {α : Type} (x : α) (xs : List α) : (x :: xs).reverse[(x :: xs).reverse.length - 1]? = some x := by simp
theorem rev_drop {α : Type} (x : α) (xs : List α) : (x :: xs).reverse.dropLast = xs.reverse := by rw [List.reverse_cons, List.dropLast_concat]
theorem atI_rev {α : Type} (x : α) (xs : List α) : atI (x :: xs).reverse (-1) = some x := by
  rw [List.reverse_cons]
  exact atI_last _ _
def lenAt (H : Hp) (a : Addr) : Nat := match H a with
  | some (.lst ls) => ls.length
  | _ => 0
theorem lenAt_of {H : Hp} {a : Addr} {ls : List V} (h : H a = some (.lst ls)) : lenAt H a = ls.length := by
  unfold lenAt
  rw [h]
theorem wtW_len (W : List Str) : 12 * W.length ≤ wtW W := by
  induction W with
  | nil => exact Nat.le_refl _
  | cons w W ih =>
    show 12 * (W.length + 1) ≤ 2 * (w.length + 6) + wtW W
    omega
theorem nJ_le (W : List Str) : nJ W ≤ W.length := List.length_filter_le _ _
theorem lenS_le (ws : List Str) : ws.length ≤ lenS ws := by
  induction ws with
  | nil => exact Nat.le_refl _
  | cons w ws ih =>
    show ws.length + 1 ≤ w.length + 1 + lenS ws
    omega
end Qh

set_option linter.all false
set_option maxRecDepth 100000
set_option maxHeartbeats 8000000
set_option pp.maxSteps 150
namespace Q2
open PySem PySem.Spec PyProof.Rows L2 Gx Qp Qh
/-! ### conditions: fits, count_of, joined -/
abbrev s_is_kind_name : Stmt := topS 4
theorem sc_is_kind_name : FnScope ["word"] ["word"] (defScope s_is_kind_name) := ⟨rfl, rfl, rfl, by decide +kernel, rfl, by decide +kernel, by decide +kernel⟩
abbrev s_fits : Stmt := topS 9
abbrev n_fits : List Str := ["form", "words", "slot", "word"]
theorem sc_fits : FnScope n_fits ["form", "words"] (defScope s_fits) := ⟨rfl, rfl, rfl, by decide +kernel, rfl, by decide +kernel, by decide +kernel⟩
abbrev s_count_of : Stmt := topS 10
abbrev n_count_of : List Str := ["words", "wanted", "word"]
theorem sc_count_of : FnScope n_count_of ["words", "wanted"] (defScope s_count_of) := ⟨rfl, rfl, rfl, by decide +kernel, rfl, by decide +kernel, by decide +kernel⟩
abbrev s_joined : Stmt := topS 11
abbrev n_joined : List Str := ["joint", "parts", "flat", "part"]
theorem sc_joined : FnScope n_joined ["joint", "parts"] (defScope s_joined) := ⟨rfl, rfl, rfl, by decide +kernel, rfl, by decide +kernel, by decide +kernel⟩
structure NmA (mg : Str → Option Value) (K : PySem.W.Frag) (fc fk ff fj : Addr) : Prop where
  g_consists_of : mg "consists_of" = some (.ref fc)
  k_consists_of : PySem.W.keepIn K (.ref fc) = true
  g_is_kind_name : mg "is_kind_name" = some (.ref fk)
  k_is_kind_name : PySem.W.keepIn K (.ref fk) = true
  g_fits : mg "fits" = some (.ref ff)
  k_fits : PySem.W.keepIn K (.ref ff) = true
  g_joined : mg "joined" = some (.ref fj)
  k_joined : PySem.W.keepIn K (.ref fj) = true
  n_len : mg "len" = none
  n_all : mg "all" = none
  n_zip : mg "zip" = none
  n_tuple : mg "tuple" = none
def WdOk (w : Str) : Prop := w.length ≤ 4000 ∧ Asc w
def spFits (K : PySem.W.Frag) : Sp := fun vs H Q _ => ∃ (f l : Addr) (fm ws : List Str), vs = [.ref f, .ref l] ∧ SqT K H f (fm.map V.str) ∧ H l = some (.lst (ws.map V.str)) ∧ fm.length ≤ 1000 ∧ (∀ w ∈ ws, WdOk w) ∧ ∀ H' : Hp, Same H H' → Q (.bl (fitsB fm ws)) H'
def spCount (K : PySem.W.Frag) : Sp := fun vs H Q _ => ∃ (l wn : Addr) (ws wanted : List Str), vs = [.ref l, .ref wn] ∧ SqL K H l (ws.map V.str) ∧ SqT K H wn (wanted.map V.str) ∧ ws.length ≤ 10000 ∧ ∀ H' : Hp, Same H H' → Q (.int (cntW ws wanted : Nat)) H'
def spJoined : Sp := fun vs H Q _ => ∃ (j : Str) (l : Addr) (v1 v2 : V) (p1 p2 : Pt), vs = [.str j, .ref l] ∧ H l = some (.lst [v1, v2]) ∧ PtAt H v1 p1 ∧ PtAt H v2 p2 ∧ j ∈ jts ∧ wf p1 = true ∧ wf p2 = true ∧ wt p1 ≤ 1000000 ∧ wt p2 ≤ 1000000 ∧
  ∀ (v : V) (H' : Hp), Same H H' → PtAt H' v (jn j p1 p2) → Q v H'
def teFits : TE := tIf (tTest (tOp rEq (tVar 2) (tC (.str "K")))) (tCall (spIs kindB) [] E0 (tCons (tVar 3) tNil)) (tOp rEq (tVar 3) (tVar 2))
theorem jts_len (j : Str) (ps : List Pt) : ps.length ≤ wts j ps := by
  induction ps with
  | nil => exact Nat.le_refl _
  | cons p ps ih =>
    show ps.length + 1 ≤ wt p + j.length + 6 + wts j ps
    omega
section
variable {P : Program} {w : World} {K : PySem.W.Frag} {mg : Str → Option Value} {base : Heap} {fc fk ff fj : Addr}
theorem ok_is_kind_name {f : Addr} {fd fdc : FuncData} (F : Fun K "is_kind_name" "is_kind_name" s_is_kind_name f fd) (T : NmA mg K fc fk ff fj)
    (G_consists_of : FnOk P w K mg base CX0 1 fc fdc ["word", "low", "high", "most"] spCons) (b_consists_of : Binds K fdc ["word", "low", "high", "most"] []) : FnOk P w K mg base CX0 2 f fd ["word"] (spIs kindB) := by
  refine F.ok sc_is_kind_name (fun vs H Q E h => ?_) (fun cdv A outer s H vs Q E hr h => ?_)
  · obtain ⟨z, rfl, _⟩ := h
    rfl
  · obtain ⟨z, rfl, hz, hA, q⟩ := h
    refine ⟨_, pss_one (ps_ret (pe_call G_consists_of hr rfl T.g_consists_of T.k_consists_of b_consists_of .nil pass0 (pa_cons (pv 0) (pa_cons pe_str (pa_cons pe_str (pa_cons pe_int pa_nil)))))), ?_⟩
    exact ⟨_, rfl, z, _, _, 65, 90, 4, rfl, hz, by decide +kernel, by decide +kernel, q⟩
theorem ok_fits {f : Addr} {fd fdk : FuncData} (F : Fun K "fits" "fits" s_fits f fd) (T : NmA mg K fc fk ff fj) (G_is_kind_name : FnOk P w K mg base CX0 2 fk fdk ["word"] (spIs kindB)) (b_is_kind_name : Binds K fdk ["word"] []) :
    FnOk P w K mg base CX0 3 f fd ["form", "words"] (spFits K) := by
  refine F.ok sc_fits (fun vs H Q E h => ?_) (fun cdv A outer s H vs Q E hr h => ?_)
  · obtain ⟨f, l, fm, ws, rfl, _⟩ := h
    rfl
  · obtain ⟨f, l, fm, ws, rfl, hf, hl, hn, hw, q⟩ := h
    refine ⟨_, pss_one (ps_ret (pe_callB (cr_all rfl) (by rfl) T.n_all (by decide +kernel) (pa_cons (pe_lc (own := [("slot", 2), ("word", 3)]) (g := gTup K 2 (gCons (gName 2) (gCons (gName 3) gNil))) (tt := tYes) (te := teFits) rfl sc_fits.nd (Wz.pi_zipM (by rfl) T.n_zip (pa_cons (pv 0) (pa_cons (pv 1) pa_nil))) (blkOk_by (own := [("slot", 2), ("word", 3)]) (N := n_fits) (sc := defScope s_fits) (by decide +kernel)) (fun _ _ _ _ _ => (pg_tup rfl (pgs_cons (pg_name (i := 2) sc_fits.nd rfl (.inl rfl)) (pgs_cons (pg_name (i := 3) sc_fits.nd rfl (.inl rfl)) pgs_nil)))) (fun _ _ _ _ _ => pts_nil)
      (fun _ _ _ _ _ => (pe_ifExp (pt_cmpR op_eq (pv 2) pe_str (nomark _)) (pe_call G_is_kind_name hr rfl T.g_is_kind_name T.k_is_kind_name b_is_kind_name .nil pass0 (pa_cons (pv 3) pa_nil)) (pe_cmpR op_eq (pv 3) (pv 2) (nomark _))))) pa_nil))), ?_⟩
    refine ⟨_, rfl, _, rfl, f, l, fm.map V.str, ws.map V.str, rfl, ⟨hf, SqL.of hl⟩, fun D nD => ?_⟩
    have kp : ∀ {Hi : Hp}, (∀ b o, b ≠ D → H b = some o → Hi b = some o) → Same H Hi := fun k b o e => k b o (ne_of_none e nD) e
    refine lc_it Wz.walk_m (fun i Hi => (∀ b o, b ≠ D → H b = some o → Hi b = some o) ∧ Hi D = some (.lst ((((fm.zip ws).take i).map slB).map V.bl)))
      ⟨fun b o x e => by rw [upd_ne x]; exact e, upd_same⟩ (fun i Hi _ p => ⟨sqT_mono (kp p.1) hf, (kp p.1).seq (SqL.of hl)⟩) (fun i x Hi Hj hil p y => ?_) (fun Hi p => ?_)
    · obtain ⟨T0, x', y', rfl, nT, rfl, ex, ey⟩ := y
      obtain ⟨a, ha, rfl⟩ := map_get ex
      obtain ⟨b, hb, rfl⟩ := map_get ey
      have hz : (fm.zip ws)[i]? = some (a, b) := by
        rw [List.getElem?_zip_eq_some]
        exact ⟨ha, hb⟩
      have S1 := new_same (o := .tup [.str a, .str b]) nT
      have eT : upd Hi T0 (.tup [.str a, .str b]) T0 = some (.tup [.str a, .str b]) := upd_same
      have eD1 := S1 _ _ p.2
      have k1 : ∀ b' o, b' ≠ D → H b' = some o → upd Hi T0 (.tup [.str a, .str b]) b' = some o := fun b' o z e => S1 _ _ (p.1 b' o z e)
      generalize upd Hi T0 (.tup [.str a, .str b]) = Hk at *
      have hi : i < fm.length := (List.getElem?_eq_some_iff.mp ha).1
      have fin : ∀ (k : Bool) (H2 : Hp), Same Hk H2 → k = slB (a, b) → ∃ acc, H2 D = some (.lst acc) ∧ acc.length < sizeLine ∧ (∀ b' o, b' ≠ D → H b' = some o → upd H2 D (.lst (acc ++ [.bl k])) b' = some o) ∧ upd H2 D (.lst (acc ++ [.bl k])) D = some (.lst ((((fm.zip ws).take (i + 1)).map slB).map V.bl)) := fun k H2 S2 hk => by
        refine ⟨_, S2 _ _ eD1, ?_, fun b' o z e => by rw [upd_ne z]; exact S2 _ _ (k1 b' o z e), ?_⟩
        · rw [List.length_map, List.length_map, List.length_take, List.length_zip, sizeLine_eq]
          omega
        · rw [upd_same, take_snoc hz, List.map_append, List.map_append, hk]
          rfl
      refine ⟨T0, _, rfl, SqT.of eT, rfl, _, _, rfl, _, _, rfl, rfl, rfl, keep1' ?_⟩
      refine ⟨_, rfl, rfl, _, rfl, ite2 (fun h => ?_) (fun h => ?_)⟩
      · have h' : a = "K" := by
          have := of_decide_eq_true h
          exact V.str.inj this
        obtain ⟨w1, w2⟩ := hw b (List.mem_of_getElem? hb)
        refine ⟨_, rfl, b, rfl, w1, w2, fun H2 S2 => fin _ H2 S2 ?_⟩
        exact (if_pos h').symm
      · have h' : ¬ a = "K" := fun e => h (by rw [e]; exact decide_eq_true rfl)
        refine ⟨_, rfl, _, rfl, rfl, fin _ Hk (Same.refl _) ?_⟩
        refine Eq.trans ?_ (if_neg h').symm
        exact decide_eq_decide.mpr ⟨V.str.inj, congrArg V.str⟩
    · have eD := p.2
      rw [List.length_map, List.length_map, ← List.length_zip, List.take_length] at eD
      refine ⟨D, _, rfl, SqL.of eD, ?_⟩
      rw [List.all_map]
      exact q Hi (kp p.1)
theorem ok_count_of {f : Addr} {fd : FuncData} (F : Fun K "count_of" "count_of" s_count_of f fd) (T : NmA mg K fc fk ff fj) : FnOk P w K mg base CX0 1 f fd ["words", "wanted"] (spCount K) := by
  refine F.ok sc_count_of (fun vs H Q E h => ?_) (fun cdv A outer s H vs Q E hr h => ?_)
  · obtain ⟨l, wn, ws, wanted, rfl, _⟩ := h
    rfl
  · obtain ⟨l, wn, ws, wanted, rfl, hl, hw, hn, q⟩ := h
    refine ⟨_, (pss_one (ps_ret (pe_callB call_len_seq (by rfl) T.n_len (by decide +kernel) (pa_cons (pe_lc (own := [("word", 2)]) (g := gName 2) (tt := tTest (tOp (rIn K false) (tVar 2) (tVar 1))) (te := tVar 2) rfl sc_count_of.nd (pi_list (pv 0)) (blkOk_by (own := [("word", 2)]) (N := n_count_of) (sc := defScope s_count_of) (by decide +kernel)) (fun _ _ _ _ _ => (pg_name (i := 2) sc_count_of.nd rfl (.inl rfl))) (fun _ _ _ _ _ => (pts_one (pt_cmpR op_in_seq (pv 2) (pv 1) rfl))) (fun _ _ _ _ _ => (pv 2))) pa_nil)))), ?_⟩
    refine ⟨_, rfl, l, rfl, ⟨_, hl⟩, fun D nD => ?_⟩
    have kp : ∀ {Hi : Hp}, (∀ b o, b ≠ D → H b = some o → Hi b = some o) → Same H Hi := fun k b o e => k b o (ne_of_none e nD) e
    refine lc_list (K := K) (a := l) (xs := ws.map V.str) (fun i Hi => (∀ b o, b ≠ D → H b = some o → Hi b = some o) ∧ Hi D = some (.lst (((ws.take i).filter (· ∈ wanted)).map V.str)))
      ⟨fun b o z e => (upd_ne z).trans e, upd_same⟩ (fun i Hi _ p => (kp p.1).seq hl) (fun i x Hi hx p => ?_) (fun Hi p => ?_)
    · obtain ⟨a, ha, rfl⟩ := map_get hx
      have hi : i < ws.length := (List.getElem?_eq_some_iff.mp ha).1
      refine ⟨rfl, ?_⟩
      refine ⟨_, rfl, _, rfl, wn, _, rfl, .inr (sqT_mono (kp p.1) hw), rfl, flat_strs _, _, rfl, ?_⟩
      rw [if_neg Bool.false_ne_true, inV_list]
      refine ite2 (fun h => ?_) (fun h => ?_)
      · have h' : a ∈ wanted := of_decide_eq_true h
        refine ⟨_, rfl, _, p.2, ?_, fun b o z e => (upd_ne z).trans (p.1 b o z e), ?_⟩
        · have := List.length_filter_le (· ∈ wanted) (ws.take i)
          rw [List.length_take] at this
          rw [List.length_map, sizeLine_eq]
          omega
        · rw [upd_same, take_snoc ha, List.filter_append, List.filter_cons_of_pos (by simpa using h'), List.filter_nil, List.map_append]
          rfl
      · have h' : ¬ a ∈ wanted := fun e => h (decide_eq_true e)
        refine ⟨p.1, ?_⟩
        rw [p.2, take_snoc ha, List.filter_append, List.filter_cons_of_neg (by simpa using h'), List.filter_nil, List.append_nil]
    · have eD := p.2
      rw [List.length_map, List.take_length] at eD
      refine ⟨D, _, rfl, .inl (SqL.of eD), ?_⟩
      rw [List.length_map]
      exact q Hi (kp p.1)
theorem ok_joined {f : Addr} {fd : FuncData} (F : Fun K "joined" "joined" s_joined f fd) (T : NmA mg K fc fk ff fj) : FnOk P w K mg base CX0 1 f fd ["joint", "parts"] spJoined := by
  refine F.ok sc_joined (fun vs H Q E h => ?_) (fun cdv A outer s H vs Q E hr h => ?_)
  · obtain ⟨j, l, v1, v2, p1, p2, rfl, _⟩ := h
    rfl
  · obtain ⟨j, l, v1, v2, p1, p2, rfl, hl, h1, h2, hj, w1, w2, z1, z2, q⟩ := h
    refine ⟨_, (pss_cons (ps_set (i := 2) sc_joined.nd rfl (.inl rfl) (pe_lst pa_nil))
  (pss_cons (ps_for PassesOwn.never rfl (pi_list (pv 1)) (pg_name (i := 3) sc_joined.nd rfl (.inl rfl))
  (pss_one (ps_if (pt_cmpR op_eq (pe_ix ix_tup (pv 3) pe_int (fun _ _ => rfl)) (pv 0) (nomark _)) (pss_one (ps_expr (pe_bm PySem.F.plainAttrs_list PySem.F.slot_list_extend PySem.F.type_list_extend Wi.mt_extT (pv 2) (pa_cons (pe_ix ix_tup (pv 3) pe_int (fun _ _ => rfl)) pa_nil)))) (pss_one (ps_expr (pe_bm PySem.F.plainAttrs_list PySem.F.slot_list_append PySem.F.type_list_append mt_append (pv 2) (pa_cons (pv 3) pa_nil)))))))
  (pss_one (ps_ret (pe_tup (pa_cons (pv 0) (pa_cons (pe_callTy call_tuple_of (by rfl) T.n_tuple (by decide +kernel) (pa_cons (pv 2) pa_nil)) pa_nil))))))), ?_⟩
    refine ⟨Nat.zero_le _, fun Fo nF => ?_⟩
    have S1 := new_same (o := .lst []) nF
    have eF : upd H Fo (.lst []) Fo = some (.lst []) := upd_same
    generalize upd H Fo (.lst []) = H1 at *
    have hl1 := S1 _ _ hl
    refine ⟨_, rfl, l, rfl, ⟨_, SqL.of hl1⟩, ?_⟩
    let ps : List Pt := [p1, p2]
    refine for_list (K := K) (a := l) (xs := [v1, v2]) (fun i σ Hi => (∃ b3, σ = [some (.str j), some (.ref l), some (.ref Fo), b3]) ∧ (∀ b o, b ≠ Fo → H1 b = some o → Hi b = some o) ∧ ∃ vs', Hi Fo = some (.lst vs') ∧ PtsAt Hi vs' (([fl j p1, fl j p2].take i).flatten))
      ⟨⟨none, rfl⟩, fun _ _ _ e => e, [], eF, .nil⟩ (fun i σ Hi _ p => SqL.of (p.2.1 _ _ (ne_of_none hl nF) hl1)) (fun i x σ Hi hx P => ?_) (fun σ Hi P => ?_)
    · obtain ⟨⟨b3, rfl⟩, k1, vs', eF', hv⟩ := P
      obtain ⟨p, hp, hpv, wp, zp⟩ : ∃ p, [fl j p1, fl j p2][i]? = some (fl j p) ∧ PtAt H x p ∧ wf p = true ∧ wt p ≤ 1000000 := by
        match i, hx with
        | 0, hx => cases hx; exact ⟨p1, rfl, h1, w1, z1⟩
        | 1, hx => cases hx; exact ⟨p2, rfl, h2, w2, z2⟩
        | n + 2, hx => cases hx
      have tk : ∀ b xs, H b = some (.tup xs) → Hi b = some (.tup xs) := fun b xs e => k1 b _ (ne_of_none e nF) (S1 _ _ e)
      have hpi := hpv.mono tk
      have hvl := hv.len
      have hfl : (([fl j p1, fl j p2].take i).flatten).length ≤ 3000000 := by
        have e1 := jts_len j (fl j p1)
        have e2 := jts_len j (fl j p2)
        have f1 := fl_wt j p1
        have f2 := fl_wt j p2
        have hjl : j.length ≤ 3 := by
          simp only [List.mem_cons, List.not_mem_nil, or_false] at hj
          rcases hj with rfl | rfl <;> decide +kernel
        match i with
        | 0 => simp
        | 1 => simp; omega
        | n + 2 => simp; omega
      have tkF : ∀ (o : HO) b xs, Hi b = some (.tup xs) → upd Hi Fo o b = some (.tup xs) := fun o b xs e => (upd_ne (ne_of e eF' fun z => nomatch z)).trans e
      have snoc : ([fl j p1, fl j p2].take (i + 1)).flatten = ([fl j p1, fl j p2].take i).flatten ++ fl j p := by
        rw [take_snoc hp, List.flatten_append, List.flatten_singleton]
      obtain ⟨a, u, rfl, ea⟩ := hpi.head
      refine ⟨_, rfl, a, _, _, _, rfl, rfl, SqT.of ea, atI_nat (j := 0) rfl, _, rfl, rfl, _, rfl, ite2 (fun hh => ?_) (fun hh => ?_)⟩
      · have hh' : hdP p = j := V.str.inj (of_decide_eq_true hh)
        match p, hpi, hh', ea, wp, snoc, zp with
        | .atom ws, _, hh', _, _, _, _ =>
          exfalso
          have : ("atom" : Str) = j := hh'
          rw [← this] at hj
          exact absurd hj (by decide +kernel)
        | .un h p0, _, hh', _, wp, _, _ =>
          exfalso
          have e : h = j := hh'
          have wp' : (hds.contains h && wf p0) = true := wp
          rw [Bool.and_eq_true] at wp'
          have hm : h ∈ hds := by simpa using wp'.1
          rw [e] at hm
          simp only [List.mem_cons, List.not_mem_nil, or_false] at hj hm
          rcases hj with rfl | rfl <;> (rcases hm with e | e | e <;> exact absurd e (by decide +kernel))
        | .jo j' ps', hpi, hh', ea, _, snoc, zp =>
          have e : j' = j := hh'
          cases hpi with
          | @jo _ t _ us _ g1 g2 g3 =>
            rw [g1] at ea
            cases ea
            refine ⟨_, rfl, .inl ⟨rfl, _, SqL.of eF'⟩, _, rfl, a, _, _, _, rfl, rfl, SqT.of g1, atI_nat (j := 1) rfl, Fo, t, vs', us, rfl, rfl, eF', g2, ?_, ⟨_, rfl⟩, fun b o z e => (upd_ne z).trans (k1 b o z e), vs' ++ us, upd_same, ?_⟩
            · have g3l := g3.len
              have e1 := jts_len j' ps'
              have zp' : wts j' ps' ≤ 1000000 := zp
              rw [sizeLine_eq]
              omega
            · rw [snoc, show fl j (.jo j' ps') = ps' from if_pos e]
              exact (hv.app g3).mono (tkF _)
      · have hh' : ¬ hdP p = j := fun e => hh (decide_eq_true (congrArg V.str e))
        refine ⟨_, rfl, .inl ⟨rfl, _, SqL.of eF'⟩, _, rfl, Fo, _, _, rfl, rfl, eF', by rw [sizeLine_eq]; omega, ⟨_, rfl⟩, fun b o z e => (upd_ne z).trans (k1 b o z e), vs' ++ [.ref a], upd_same, ?_⟩
        have e1 : fl j p = [p] := by
          match p, hh' with
          | .atom _, _ => rfl
          | .un _ _, _ => rfl
          | .jo j' ps', hh' => exact if_neg hh'
        rw [snoc, e1]
        exact (hv.app (.cons hpi .nil)).mono (tkF _)
    · obtain ⟨⟨b3, rfl⟩, k1, vs', eF', hv⟩ := P
      have S2 : Same H Hi := fun b o e => k1 b o (ne_of_none e nF) (S1 _ _ e)
      refine ⟨_, rfl, _, rfl, Fo, vs', rfl, .inl ⟨SqL.of eF', fun t nt => ⟨(by show 2 ≤ sizeLine; decide), fun r nr => ?_⟩⟩⟩
      have S3 := new_same (o := .tup vs') nt
      have S4 := new_same (o := .tup [.str j, .ref t]) nr
      refine q _ _ (S2.trans (S3.trans S4)) (.jo upd_same (S4 _ _ upd_same) ?_)
      have e0 : ([fl j p1, fl j p2].take [v1, v2].length).flatten = fl j p1 ++ fl j p2 := by
        show [fl j p1, fl j p2].flatten = _
        simp
      rw [e0] at hv
      exact hv.mono fun b xs e => S4 _ _ (S3 _ _ e)
end
end Q2

set_option linter.all false
set_option maxRecDepth 100000
set_option maxHeartbeats 8000000
set_option pp.maxSteps 150
namespace Q2
open PySem PySem.Spec PyProof.Rows L2 Gx Qp Qh
/-! ### the class Reading -/
abbrev s_dinit : Stmt := inClass (topS 12) 0
theorem sc_dinit : FnScope ["self", "forms", "heads"] ["self", "forms", "heads"] (defScope s_dinit) := ⟨rfl, rfl, rfl, by decide +kernel, rfl, by decide +kernel, by decide +kernel⟩
abbrev s_dtake : Stmt := inClass (topS 12) 1
theorem sc_dtake : FnScope ["self", "word"] ["self", "word"] (defScope s_dtake) := ⟨rfl, rfl, rfl, by decide +kernel, rfl, by decide +kernel, by decide +kernel⟩
abbrev s_dended : Stmt := inClass (topS 12) 2
theorem sc_dended : FnScope ["self"] ["self"] (defScope s_dended) := ⟨rfl, rfl, rfl, by decide +kernel, rfl, by decide +kernel, by decide +kernel⟩
abbrev s_datom : Stmt := inClass (topS 12) 3
abbrev n_datom : List Str := ["self", "word", "begun", "fitting", "form"]
theorem sc_datom : FnScope n_datom ["self", "word"] (defScope s_datom) := ⟨rfl, rfl, rfl, by decide +kernel, rfl, by decide +kernel, by decide +kernel⟩
abbrev s_dbehind : Stmt := inClass (topS 12) 4
theorem sc_dbehind : FnScope ["self", "word"] ["self", "word"] (defScope s_dbehind) := ⟨rfl, rfl, rfl, by decide +kernel, rfl, by decide +kernel, by decide +kernel⟩
abbrev s_dclose : Stmt := inClass (topS 12) 5
theorem sc_dclose : FnScope ["self"] ["self"] (defScope s_dclose) := ⟨rfl, rfl, rfl, by decide +kernel, rfl, by decide +kernel, by decide +kernel⟩
abbrev s_dput : Stmt := inClass (topS 12) 6
theorem sc_dput : FnScope ["self", "part"] ["self", "part"] (defScope s_dput) := ⟨rfl, rfl, rfl, by decide +kernel, rfl, by decide +kernel, by decide +kernel⟩
abbrev s_dgather : Stmt := inClass (topS 12) 7
abbrev n_dgather : List Str := ["self", "joints", "joint", "right", "left"]
theorem sc_dgather : FnScope n_dgather ["self", "joints"] (defScope s_dgather) := ⟨rfl, rfl, rfl, by decide +kernel, rfl, by decide +kernel, by decide +kernel⟩
structure NmRd (mg : Str → Option Value) (K : PySem.W.Frag) (C aj m_atom m_behind m_close m_put m_gather : Addr) : Prop where
  cl : Cls K C
  a_forms : NoAttr K C "_forms"
  a_heads : NoAttr K C "_heads"
  a_parts : NoAttr K C "_parts"
  a_waiting : NoAttr K C "_waiting"
  a_begun : NoAttr K C "_begun"
  a_whole : NoAttr K C "_is_whole"
  g_JOINTS : mg "JOINTS" = some (.ref aj)
  jts : HdK K aj jts
  atom : Meth K C "_take_in_atom" m_atom
  behind : Meth K C "_take_behind" m_behind
  close : Meth K C "_close" m_close
  put : Meth K C "_put" m_put
  gather : Meth K C "_gather" m_gather
def spDInit (C : Addr) : Sp := fun vs H Q _ => ∃ (a dx af ah : Addr), vs = [.ref a, .ref af, .ref ah] ∧ H a = some (.ins C dx []) ∧ ∀ (lp lw : Addr) (H' : Hp), (∀ b o, b ≠ a → H b = some o → H' b = some o) → H lp = none → H lw = none → RdAt C H' a dx af ah lp lw st0 → Q .non H'
def spGather (K : PySem.W.Frag) (C : Addr) : Sp := fun vs H Q _ => ∃ (a j dx af ah lp lw : Addr) (js : List Str) (st : RS), vs = [.ref a, .ref j] ∧ SqT K H j (js.map V.str) ∧ (∀ x ∈ js, x ∈ jts) ∧ RdAt C H a dx af ah lp lw st ∧ st.parts.length = nJ st.wait + 1 ∧ wfs st.parts = true ∧ wtS st ≤ 1000000 ∧
  ∀ H' : Hp, FrR H H' a lp lw → RdAt C H' a dx af ah lp lw { st with wait := (gat js st.wait st.parts).1, parts := (gat js st.wait st.parts).2 } → Q .non H'
def spPut (K : PySem.W.Frag) (C : Addr) : Sp := fun vs H Q _ => ∃ (a dx af ah lp lw : Addr) (hs : List Str) (st : RS) (v : V) (p : Pt), vs = [.ref a, v] ∧ SqT K H ah (hs.map V.str) ∧ PtAt H v p ∧ RdAt C H a dx af ah lp lw st ∧ st.begun = [] ∧ st.parts.length ≤ nJ st.wait ∧ wtS st ≤ 1000000 ∧
  ∀ H' : Hp, FrR H H' a lp lw → RdAt C H' a dx af ah lp lw (put hs st.wait st.parts p) → Q .non H'
section
variable {P : Program} {w : World} {K : PySem.W.Frag} {mg : Str → Option Value} {base : Heap} {fc fk ff fj C aj m_atom m_behind m_close m_put m_gather : Addr}
theorem ok_dgather {f : Addr} {fd fdj : FuncData} (F : Fun K "_gather" "Reading._gather" s_dgather f fd) (TA : NmA mg K fc fk ff fj) (T : NmRd mg K C aj m_atom m_behind m_close m_put m_gather)
    (G_joined : FnOk P w K mg base CX0 1 fj fdj ["joint", "parts"] spJoined) (b_joined : Binds K fdj ["joint", "parts"] []) : FnOk P w K mg base CX0 2 f fd ["self", "joints"] (spGather K C) := by
  refine F.ok sc_dgather (fun vs H Q E h => ?_) (fun cdv A outer s H vs Q E hr h => ?_)
  · obtain ⟨a, j, dx, af, ah, lp, lw, js, st, rfl, _⟩ := h
    rfl
  · obtain ⟨a, j, dx, af, ah, lp, lw, js, st, rfl, hj, hjs, hrd, hlen, hwf, hwt, q⟩ := h
    refine ⟨_, (pss_one (ps_while PassesOwn.never (PW.pt (pw_and (pt_truth (pe_fld (pv 0) rfl) (by intro _; rfl)) (pw_and1 (pt_cmpR op_in_seq (pe_ix ix_list (pe_fld (pv 0) rfl) (pe_un un_neg pe_int) (fun _ _ => rfl)) (pv 1) rfl))))
  (pss_cons (ps_set (i := 2) sc_dgather.nd rfl (.inl rfl) (pe_bm0 PySem.F.plainAttrs_list PySem.F.slot_list_pop PySem.F.type_list_pop mt_pop (pe_fld (pv 0) rfl)))
  (pss_cons (ps_set (i := 3) sc_dgather.nd rfl (.inl rfl) (pe_bm0 PySem.F.plainAttrs_list PySem.F.slot_list_pop PySem.F.type_list_pop mt_pop (pe_fld (pv 0) rfl)))
  (pss_cons (ps_set (i := 4) sc_dgather.nd rfl (.inl rfl) (pe_bm0 PySem.F.plainAttrs_list PySem.F.slot_list_pop PySem.F.type_list_pop mt_pop (pe_fld (pv 0) rfl)))
  (pss_one (ps_expr (pe_bm PySem.F.plainAttrs_list PySem.F.slot_list_append PySem.F.type_list_append mt_append (pe_fld (pv 0) rfl) (pa_cons (pe_call G_joined hr rfl TA.g_joined TA.k_joined b_joined .nil pass0 (pa_cons (pv 2) (pa_cons (pe_lst (pa_cons (pv 4) (pa_cons (pv 3) pa_nil))) pa_nil))) pa_nil))))))))), ?_⟩
    refine while_by (fun σ Hi => (∃ b2 b3 b4, σ = [some (.ref a), some (.ref j), b2, b3, b4]) ∧ FrR H Hi a lp lw ∧ ∃ (W : List Str) (Ps : List Pt), gat js W Ps = gat js st.wait st.parts ∧ RdAt C Hi a dx af ah lp lw { st with wait := W, parts := Ps } ∧ Ps.length = nJ W + 1 ∧ wfs Ps = true ∧ wtW W + wtP Ps ≤ 1000000) (fun _ Hi => lenAt Hi lw)
      ⟨⟨_, _, _, rfl⟩, FrR.refl, st.wait, st.parts, rfl, hrd, hlen, hwf, by have : wtS st = wtW st.wait + wtP st.parts + lenS st.begun := rfl; omega⟩ (fun σ Hi Pv => ?_) (fun σ Hi Q1 Q2 hQ hc => ?_)
    · obtain ⟨⟨b2, b3, b4, rfl⟩, kf, W, Ps, hg, hrd', hl', hw', hz'⟩ := Pv
      obtain ⟨lb, vs, ea, ep, hp, ew, eb, n1, n2, n3⟩ := hrd'.ex
      have hpl := hp.len
      have hjn : ∀ b xs, H b = some (.tup xs) → Hi b = some (.tup xs) := hrd.tups kf
      have hj' : SqT K Hi j (js.map V.str) := by
        rcases hj with (h | ⟨o, h⟩) | h
        · exact .inl (.inl (hjn _ _ h))
        · refine .inl (.inr ⟨o, kf j _ ?_ ?_ ?_ h⟩)
          · obtain ⟨_, _, e1, _⟩ := hrd.ex
            exact ne_of h e1 fun z => nomatch z
          · obtain ⟨_, _, _, e1, _⟩ := hrd.ex
            exact ne_of h e1 fun z => nomatch z
          · obtain ⟨_, _, _, _, _, e1, _⟩ := hrd.ex
            exact ne_of h e1 fun z => nomatch z
        · exact .inr h
      refine ⟨_, rfl, a, C, dx, _, _, rfl, ea, T.cl, T.a_waiting, fr_waiting, _, .inl ⟨_, SqL.of ew, rfl⟩, ?_⟩
      cases W with
      | nil =>
        refine iteF ?_
        have hg' : (gat js st.wait st.parts) = ([], Ps) := hg.symm
        exact q Hi kf (by rw [hg']; exact hrd')
      | cons j0 W =>
        have ew' : Hi lw = some (.lst (V.str j0 :: W.map V.str).reverse) := ew
        rw [show (!((j0 :: W).map V.str).reverse.isEmpty) = true from by simp]
        refine iteT ?_
        refine ⟨_, rfl, a, C, dx, _, _, rfl, ea, T.cl, T.a_waiting, fr_waiting, 1, rfl, lw, _, _, _, rfl, rfl, SqL.of ew', atI_rev _ _, _, rfl, j, _, rfl, .inr hj', rfl, flat_strs _, _, rfl, ?_⟩
        rw [if_neg Bool.false_ne_true, inV_list]
        by_cases hm : j0 ∈ js
        · rw [decide_eq_true hm]
          refine iteT ?_
          have hjj := hjs j0 hm
          rw [nJ_cons, if_pos hjj] at hl'
          match Ps, hl', hg, hw', hz', vs, hp, ep, hpl with
          | [], hl', _, _, _, _, _, _, _ => simp at hl'
          | [_], hl', _, _, _, _, _, _, _ => simp at hl'
          | r :: l :: P', hl', hg, hw', hz', vs, hp, ep, hpl =>
            cases hp with
            | @cons vr _ vs1 _ hr1 hp1 =>
              cases hp1 with
              | @cons vl _ vs2 _ hr2 hp2 =>
                have hw2 : (wf r && (wf l && wfs P')) = true := hw'
                simp only [Bool.and_eq_true] at hw2
                have hz2 : 2 * (j0.length + 6) + wtW W + (wt r + (wt l + wtP P')) ≤ 1000000 := hz'
                -- joint
                refine ⟨_, rfl, a, C, dx, _, _, rfl, ea, T.cl, T.a_waiting, fr_waiting, .inl ⟨rfl, _, SqL.of ew'⟩, lw, _, _, rfl, rfl, ew', rev_last _ _, ?_⟩
                rw [rev_drop]
                have kw : ∀ b o, b ≠ lw → Hi b = some o → upd Hi lw (.lst (W.map V.str).reverse) b = some o := fun b o z e => (upd_ne z).trans e
                have ea1 := kw _ _ (ne_of ea ew' fun z => nomatch z) ea
                have ep1 := kw _ _ n1 ep
                have eb1 := kw _ _ n3 eb
                have ew1 : upd Hi lw (.lst (W.map V.str).reverse) lw = some (.lst (W.map V.str).reverse) := upd_same
                have tk1 : ∀ b xs, Hi b = some (.tup xs) → upd Hi lw (.lst (W.map V.str).reverse) b = some (.tup xs) := fun b xs e => kw b _ (ne_of e ew' fun z => nomatch z) e
                have f1 : FrR H (upd Hi lw (.lst (W.map V.str).reverse)) a lp lw := fun b o x y z e => kw b o z (kf b o x y z e)
                have hmu : lenAt Hi lw = W.length + 1 := (lenAt_of ew').trans (by simp)
                generalize upd Hi lw (.lst (W.map V.str).reverse) = H1 at *
                -- right
                refine ⟨_, rfl, a, C, dx, _, _, rfl, ea1, T.cl, T.a_parts, fr_parts, .inl ⟨rfl, _, SqL.of ep1⟩, lp, _, _, rfl, rfl, ep1, rev_last _ _, ?_⟩
                rw [rev_drop]
                have kp : ∀ (o' : HO) b o, b ≠ lp → H1 b = some o → upd H1 lp o' b = some o := fun o' b o z e => (upd_ne z).trans e
                have ea2 := kp (.lst (vl :: vs2).reverse) _ _ (ne_of ea1 ep1 fun z => nomatch z) ea1
                have ep2 : upd H1 lp (.lst (vl :: vs2).reverse) lp = some (.lst (vl :: vs2).reverse) := upd_same
                have ew2 := kp (.lst (vl :: vs2).reverse) _ _ (Ne.symm n1) ew1
                have eb2 := kp (.lst (vl :: vs2).reverse) _ _ n2 eb1
                have tk2 : ∀ b xs, Hi b = some (.tup xs) → upd H1 lp (.lst (vl :: vs2).reverse) b = some (.tup xs) := fun b xs e => kp _ b _ (ne_of (tk1 b xs e) ep1 fun z => nomatch z) (tk1 b xs e)
                have f2 : FrR H (upd H1 lp (.lst (vl :: vs2).reverse)) a lp lw := fun b o x y z e => kp _ b o y (f1 b o x y z e)
                generalize upd H1 lp (.lst (vl :: vs2).reverse) = H2 at *
                -- left
                refine ⟨_, rfl, a, C, dx, _, _, rfl, ea2, T.cl, T.a_parts, fr_parts, .inl ⟨rfl, _, SqL.of ep2⟩, lp, _, _, rfl, rfl, ep2, rev_last _ _, ?_⟩
                rw [rev_drop]
                have kp3 : ∀ (o' : HO) b o, b ≠ lp → H2 b = some o → upd H2 lp o' b = some o := fun o' b o z e => (upd_ne z).trans e
                have ea3 := kp3 (.lst vs2.reverse) _ _ (ne_of ea2 ep2 fun z => nomatch z) ea2
                have ep3 : upd H2 lp (.lst vs2.reverse) lp = some (.lst vs2.reverse) := upd_same
                have ew3 := kp3 (.lst vs2.reverse) _ _ (Ne.symm n1) ew2
                have eb3 := kp3 (.lst vs2.reverse) _ _ n2 eb2
                have tk3 : ∀ b xs, Hi b = some (.tup xs) → upd H2 lp (.lst vs2.reverse) b = some (.tup xs) := fun b xs e => kp3 _ b _ (ne_of (tk2 b xs e) ep2 fun z => nomatch z) (tk2 b xs e)
                have f3 : FrR H (upd H2 lp (.lst vs2.reverse)) a lp lw := fun b o x y z e => kp3 _ b o y (f2 b o x y z e)
                generalize upd H2 lp (.lst vs2.reverse) = H3 at *
                -- joined
                refine ⟨_, rfl, a, C, dx, _, _, rfl, ea3, T.cl, T.a_parts, fr_parts, .inl ⟨rfl, _, SqL.of ep3⟩, _, rfl, _, rfl, _, rfl, (by show 2 ≤ sizeLine; decide), fun L nL => ?_⟩
                have S4 := new_same (o := .lst [vl, vr]) nL
                have eL : upd H3 L (.lst [vl, vr]) L = some (.lst [vl, vr]) := upd_same
                generalize upd H3 L (.lst [vl, vr]) = H4 at *
                refine ⟨j0, L, vl, vr, l, r, rfl, eL, (hr2.mono tk3).mono fun b xs e => S4 _ _ e, (hr1.mono tk3).mono fun b xs e => S4 _ _ e, hjj, hw2.2.1, hw2.1, by omega, by omega, fun v H5 S5 hv => ?_⟩
                have S45 := S4.trans S5
                have ep5 := S45 _ _ ep3
                have hp2l := hp2.len
                have hPb : P'.length ≤ 1000000 := by
                  have := nJ_le W
                  have := wtW_len W
                  rw [List.length_cons, List.length_cons] at hl'
                  omega
                refine ⟨lp, _, _, rfl, rfl, ep5, by rw [List.length_reverse, sizeLine_eq]; omega, ?_⟩
                have k6 : ∀ b o, b ≠ lp → H5 b = some o → upd H5 lp (.lst (vs2.reverse ++ [v])) b = some o := fun b o z e => (upd_ne z).trans e
                have ew6 := k6 _ _ (Ne.symm n1) (S45 _ _ ew3)
                refine ⟨⟨⟨_, _, _, rfl⟩, fun b o x y z e => k6 b o y (S45 _ _ (f3 b o x y z e)), W, jn j0 l r :: P', ?_, ⟨lb, v :: vs2, k6 _ _ (ne_of (S45 _ _ ea3) ep5 fun z => nomatch z) (S45 _ _ ea3), ?_, ?_, ew6, k6 _ _ n2 (S45 _ _ eb3), n1, n2, n3⟩, ?_, ?_, ?_⟩, ?_⟩
                · rw [← hg, gat_yes hm]
                · rw [upd_same, List.reverse_cons]
                · exact .cons (hv.mono fun b xs e => k6 b _ (ne_of e ep5 fun z => nomatch z) e) ((hp2.mono tk3).mono fun b xs e => k6 b _ (ne_of (S45 _ _ e) ep5 fun z => nomatch z) (S45 _ _ e))
                · rw [List.length_cons, List.length_cons] at hl'
                  rw [List.length_cons]
                  omega
                · show (wf (jn j0 l r) && wfs P') = true
                  rw [jn_wf (by simpa using hjj) hw2.2.1 hw2.1, hw2.2.2]
                  rfl
                · have := jn_wt j0 l r
                  show wtW W + (wt (jn j0 l r) + wtP P') ≤ _
                  omega
                · rw [hmu]
                  show lenAt _ lw < W.length + 1
                  rw [lenAt_of ew6, List.length_reverse, List.length_map]
                  omega
        · rw [decide_eq_false hm]
          refine iteF ?_
          have hg' : (gat js st.wait st.parts) = (j0 :: W, Ps) := by rw [← hg, gat_no hm]
          exact q Hi kf (by rw [hg']; exact hrd')
    · obtain ⟨v1, x1, a1, C1, dx1, fs1, w1, x2, x3, x4, x5, x6, k1, x7, rest⟩ := hc
      refine ⟨v1, x1, a1, C1, dx1, fs1, w1, x2, x3, x4, x5, x6, k1, x7, ?_⟩
      cases k1 with
      | false => exact hQ _ _ rest
      | true =>
        obtain ⟨v2, y1, a2, C2, dx2, fs2, w2, y2, y3, y4, y5, y6, i2, y7, p2, l2, j2, u2, y8, y9, y10, y11, v3, y12, p3, l3, y13, y14, y15, y16, b3, y17, r2⟩ := rest
        exact ⟨v2, y1, a2, C2, dx2, fs2, w2, y2, y3, y4, y5, y6, i2, y7, p2, l2, j2, u2, y8, y9, y10, y11, v3, y12, p3, l3, y13, y14, y15, y16, b3, y17, hQ _ _ r2⟩
end
end Q2

set_option linter.all false
set_option maxRecDepth 100000
set_option maxHeartbeats 8000000
set_option pp.maxSteps 150
namespace Q2
open PySem PySem.Spec PyProof.Rows L2 Gx Qp Qh
def spClose (K : PySem.W.Frag) (C : Addr) : Sp := fun vs H Q _ => ∃ (a dx af ah lp lw : Addr) (hs : List Str) (st : RS), vs = [.ref a] ∧ HdK K ah hs ∧ RdAt C H a dx af ah lp lw st ∧ Ok st ∧ st.whole = true ∧ wtS st ≤ 1000000 ∧
  ∀ H' : Hp, FrR H H' a lp lw → (∀ st', closeS hs st = some st' → RdAt C H' a dx af ah lp lw st') → Q (.bl (closeS hs st).isSome) H'
def spAtom (K : PySem.W.Frag) (C : Addr) : Sp := fun vs H Q _ => ∃ (a dx af ah lp lw : Addr) (fs : List (List Str)) (hs : List Str) (st : RS) (w : Str), vs = [.ref a, .str w] ∧ FmK K af fs ∧ HdK K ah hs ∧ (∀ f ∈ fs, f.length ≤ 1000) ∧ fs.length ≤ 1000 ∧ RdAt C H a dx af ah lp lw st ∧ Ok st ∧ st.whole = false ∧ wtS st ≤ 1000000 ∧ WdOk w ∧ (∀ x ∈ st.begun, WdOk x) ∧
  ∀ H' : Hp, FrR H H' a lp lw → (∀ st', takeA fs hs st w = some st' → RdAt C H' a dx af ah lp lw st') → Q (.bl (takeA fs hs st w).isSome) H'
def spBehind (K : PySem.W.Frag) (C : Addr) : Sp := fun vs H Q _ => ∃ (a dx af ah lp lw : Addr) (hs : List Str) (st : RS) (w : Str), vs = [.ref a, .str w] ∧ HdK K ah hs ∧ RdAt C H a dx af ah lp lw st ∧ Ok st ∧ st.whole = true ∧ wtS st ≤ 1000000 ∧
  ∀ H' : Hp, FrR H H' a lp lw → (∀ st', takeB hs st w = some st' → RdAt C H' a dx af ah lp lw st') → Q (.bl (takeB hs st w).isSome) H'
def spTakeR (K : PySem.W.Frag) (C : Addr) : Sp := fun vs H Q _ => ∃ (a dx af ah lp lw : Addr) (fs : List (List Str)) (hs : List Str) (st : RS) (w : Str), vs = [.ref a, .str w] ∧ FmK K af fs ∧ HdK K ah hs ∧ (∀ f ∈ fs, f.length ≤ 1000) ∧ fs.length ≤ 1000 ∧ RdAt C H a dx af ah lp lw st ∧ Ok st ∧ wtS st ≤ 1000000 ∧ WdOk w ∧ (∀ x ∈ st.begun, WdOk x) ∧
  ∀ H' : Hp, FrR H H' a lp lw → (∀ st', takeS fs hs st w = some st' → RdAt C H' a dx af ah lp lw st') → Q (.bl (takeS fs hs st w).isSome) H'
def spEnded (C : Addr) : Sp := fun vs H Q _ => ∃ (a dx af ah lp lw : Addr) (st : RS), vs = [.ref a] ∧ RdAt C H a dx af ah lp lw st ∧ Ok st ∧ wtS st ≤ 1000000 ∧
  ∀ H' : Hp, FrR H H' a lp lw → (endS st = none → Q .non H') ∧ ∀ p v, endS st = some p → PtAt H' v p → Q v H'
section
variable {P : Program} {w : World} {K : PySem.W.Frag} {mg : Str → Option Value} {base : Heap} {fc fk ff fj C aj m_atom m_behind m_close m_put m_gather : Addr}
theorem ok_dput {f : Addr} {fd : FuncData} (F : Fun K "_put" "Reading._put" s_dput f fd) (T : NmRd mg K C aj m_atom m_behind m_close m_put m_gather) : FnOk P w K mg base CX0 1 f fd ["self", "part"] (spPut K C) := by
  refine F.ok sc_dput (fun vs H Q E h => ?_) (fun cdv A outer s H vs Q E hr h => ?_)
  · obtain ⟨a, dx, af, ah, lp, lw, hs, st, v, p, rfl, _⟩ := h
    rfl
  · obtain ⟨a, dx, af, ah, lp, lw, hs, st, v, p, rfl, hh, hv, hrd, hbg, hlen, hwt, q⟩ := h
    refine ⟨_, (C8.pss_cut (ps_while PassesOwn.never (PW.pt (pw_and (pt_truth (pe_fld (pv 0) rfl) (by intro _; rfl)) (pw_and1 (pt_cmpR op_in_seq (pe_ix ix_list (pe_fld (pv 0) rfl) (pe_un un_neg pe_int) (fun _ _ => rfl)) (pe_fld (pv 0) rfl) rfl))))
  (pss_one (ps_set (i := 1) sc_dput.nd rfl (.inl rfl) (pe_tup (pa_cons (pe_bm0 PySem.F.plainAttrs_list PySem.F.slot_list_pop PySem.F.type_list_pop mt_pop (pe_fld (pv 0) rfl)) (pa_cons (pv 1) pa_nil))))))
  (pss_cons (ps_expr (pe_bm PySem.F.plainAttrs_list PySem.F.slot_list_append PySem.F.type_list_append mt_append (pe_fld (pv 0) rfl) (pa_cons (pv 1) pa_nil)))
  (pss_one (ps_fld (pv 0) pe_bl rfl)))), ?_⟩
    have hq3 : wtS st = wtW st.wait + wtP st.parts + lenS st.begun := rfl
    have hPb : st.parts.length ≤ 1000000 := by
      have h1 := nJ_le st.wait
      have h2 := wtW_len st.wait
      omega
    refine ⟨fun σ Hi => FrR H Hi a lp lw ∧ ∃ (W : List Str) (p' : Pt) (v' : V), σ = [some (.ref a), some v'] ∧ putS hs st.wait p = (W, p') ∧ PtAt Hi v' p' ∧ RdAt C Hi a dx af ah lp lw { st with wait := W }, ?_, ?_⟩
    rotate_left
    · rintro σ Hi ⟨kf, W, p', v', rfl, hput, hv', hrd'⟩
      obtain ⟨lb, vs, ea, ep, hp, ew, eb, n1, n2, n3⟩ := hrd'.ex
      have hpl : vs.length = st.parts.length := hp.len
      refine ⟨_, rfl, a, C, dx, _, _, rfl, ea, T.cl, T.a_parts, fr_parts, .inl ⟨rfl, _, SqL.of ep⟩, _, rfl, lp, _, _, rfl, rfl, ep, by rw [List.length_reverse, sizeLine_eq]; omega, ?_⟩
      have k1 : ∀ b o, b ≠ lp → Hi b = some o → upd Hi lp (.lst (vs.reverse ++ [v'])) b = some o := fun b o z e => (upd_ne z).trans e
      have ea1 := k1 _ _ (ne_of ea ep fun z => nomatch z) ea
      have ep1 : upd Hi lp (.lst (vs.reverse ++ [v'])) lp = some (.lst (v' :: vs).reverse) := by rw [upd_same, List.reverse_cons]
      have ew1 := k1 _ _ (Ne.symm n1) ew
      have eb1 := k1 _ _ n2 eb
      have tk1 : ∀ b xs, Hi b = some (.tup xs) → upd Hi lp (.lst (vs.reverse ++ [v'])) b = some (.tup xs) := fun b xs e => k1 b _ (ne_of e ep fun z => nomatch z) e
      have f1 : FrR H (upd Hi lp (.lst (vs.reverse ++ [v']))) a lp lw := fun b o x y z e => k1 b o y (kf b o x y z e)
      generalize upd Hi lp (.lst (vs.reverse ++ [v'])) = H1 at *
      refine ⟨_, rfl, a, C, dx, _, rfl, ea1, T.cl, T.a_whole, fr_len, ?_⟩
      rw [put_whole]
      have k2 : ∀ b o, b ≠ a → H1 b = some o → upd H1 a (.ins C dx (fldR af ah lp lw lb true)) b = some o := fun b o z e => (upd_ne z).trans e
      have tk2 : ∀ b xs, Hi b = some (.tup xs) → upd H1 a (.ins C dx (fldR af ah lp lw lb true)) b = some (.tup xs) := fun b xs e => k2 b _ (ne_of (tk1 b xs e) ea1 fun z => nomatch z) (tk1 b xs e)
      refine q _ (fun b o x y z e => k2 b o x (f1 b o x y z e)) ⟨lb, v' :: vs, upd_same, k2 _ _ (ne_of ep1 ea1 fun z => nomatch z) ep1, ?_, ?_, ?_, n1, n2, n3⟩
      · unfold put
        rw [hput]
        exact .cons (hv'.mono tk2) (hp.mono tk2)
      · unfold put
        rw [hput]
        exact k2 _ _ (ne_of ew1 ea1 fun z => nomatch z) ew1
      · have eb2 : Hi lb = some (.lst (st.begun.map V.str)) := eb
        have eb3 : H1 lb = some (.lst (st.begun.map V.str)) := eb1
        rw [hbg] at eb3
        exact k2 _ _ (ne_of eb3 ea1 fun z => nomatch z) eb3
    refine while_by (fun σ Hi => FrR H Hi a lp lw ∧ ∃ (W : List Str) (p' : Pt) (v' : V), σ = [some (.ref a), some v'] ∧ putS hs W p' = putS hs st.wait p ∧ PtAt Hi v' p' ∧ RdAt C Hi a dx af ah lp lw { st with wait := W }) (fun _ Hi => lenAt Hi lw)
      ⟨FrR.refl, st.wait, p, v, rfl, rfl, hv, hrd⟩ (fun σ Hi Pv => ?_) (fun σ Hi Q1 Q2 hQ hc => ?_)
    · obtain ⟨kf, W, p', v', rfl, hput, hv', hrd'⟩ := Pv
      obtain ⟨lb, vs, ea, ep, hp, ew, eb, n1, n2, n3⟩ := hrd'.ex
      have hh' : SqT K Hi ah (hs.map V.str) := by
        rcases hh with (h | ⟨o, h⟩) | h
        · exact .inl (.inl (hrd.tups kf _ _ h))
        · refine .inl (.inr ⟨o, kf ah _ ?_ ?_ ?_ h⟩)
          · obtain ⟨_, _, e1, _⟩ := hrd.ex
            exact ne_of h e1 fun z => nomatch z
          · obtain ⟨_, _, _, e1, _⟩ := hrd.ex
            exact ne_of h e1 fun z => nomatch z
          · obtain ⟨_, _, _, _, _, e1, _⟩ := hrd.ex
            exact ne_of h e1 fun z => nomatch z
        · exact .inr h
      refine ⟨_, rfl, a, C, dx, _, _, rfl, ea, T.cl, T.a_waiting, fr_waiting, _, .inl ⟨_, SqL.of ew, rfl⟩, ?_⟩
      cases W with
      | nil =>
        refine iteF ⟨kf, [], p', v', rfl, hput.symm, hv', hrd'⟩
      | cons h0 W =>
        have ew' : Hi lw = some (.lst (V.str h0 :: W.map V.str).reverse) := ew
        rw [show (!((h0 :: W).map V.str).reverse.isEmpty) = true from by simp]
        refine iteT ?_
        refine ⟨_, rfl, a, C, dx, _, _, rfl, ea, T.cl, T.a_waiting, fr_waiting, 1, rfl, lw, _, _, _, rfl, rfl, SqL.of ew', atI_rev _ _, _, rfl, a, C, dx, _, _, rfl, ea, T.cl, T.a_heads, fr_heads, ah, _, rfl, .inr hh', rfl, flat_strs _, _, rfl, ?_⟩
        rw [if_neg Bool.false_ne_true, inV_list]
        by_cases hm : h0 ∈ hs
        · rw [decide_eq_true hm]
          refine iteT ?_
          refine ⟨_, rfl, a, C, dx, _, _, rfl, ea, T.cl, T.a_waiting, fr_waiting, .inl ⟨rfl, _, SqL.of ew'⟩, lw, _, _, rfl, rfl, ew', rev_last _ _, ?_⟩
          rw [rev_drop]
          have kw : ∀ b o, b ≠ lw → Hi b = some o → upd Hi lw (.lst (W.map V.str).reverse) b = some o := fun b o z e => (upd_ne z).trans e
          have ea1 := kw _ _ (ne_of ea ew' fun z => nomatch z) ea
          have ep1 := kw _ _ n1 ep
          have eb1 := kw _ _ n3 eb
          have ew1 : upd Hi lw (.lst (W.map V.str).reverse) lw = some (.lst (W.map V.str).reverse) := upd_same
          have tk1 : ∀ b xs, Hi b = some (.tup xs) → upd Hi lw (.lst (W.map V.str).reverse) b = some (.tup xs) := fun b xs e => kw b _ (ne_of e ew' fun z => nomatch z) e
          have f1 : FrR H (upd Hi lw (.lst (W.map V.str).reverse)) a lp lw := fun b o x y z e => kw b o z (kf b o x y z e)
          have hmu : lenAt Hi lw = W.length + 1 := (lenAt_of ew').trans (by simp)
          generalize upd Hi lw (.lst (W.map V.str).reverse) = H1 at *
          refine ⟨_, rfl, (by show 2 ≤ sizeLine; decide), fun r nr => ?_⟩
          have S2 := new_same (o := .tup [.str h0, v']) nr
          refine ⟨⟨fun b o x y z e => S2 _ _ (f1 b o x y z e), W, .un h0 p', .ref r, rfl, ?_, .un upd_same ((hv'.mono tk1).mono fun b xs e => S2 _ _ e), ⟨lb, vs, S2 _ _ ea1, S2 _ _ ep1, (hp.mono tk1).mono fun b xs e => S2 _ _ e, S2 _ _ ew1, S2 _ _ eb1, n1, n2, n3⟩⟩, ?_⟩
          · rw [← hput, putS, if_pos hm]
          · rw [hmu]
            show lenAt _ lw < W.length + 1
            rw [lenAt_of (S2 _ _ ew1), List.length_reverse, List.length_map]
            omega
        · rw [decide_eq_false hm]
          refine iteF ⟨kf, h0 :: W, p', v', rfl, ?_, hv', hrd'⟩
          rw [← hput, putS, if_neg hm]
    · obtain ⟨v1, x1, a1, C1, dx1, fs1, w1, x2, x3, x4, x5, x6, k1, x7, rest⟩ := hc
      refine ⟨v1, x1, a1, C1, dx1, fs1, w1, x2, x3, x4, x5, x6, k1, x7, ?_⟩
      cases k1 with
      | false => exact hQ _ _ rest
      | true =>
        obtain ⟨v2, y1, a2, C2, dx2, fs2, w2, y2, y3, y4, y5, y6, i2, y7, p2, l2, j2, u2, y8, y9, y10, y11, v3, y12, a3, C3, dx3, fs3, w3, y13, y14, y15, y16, y17, p3, l3, y18, y19, y20, y21, b3, y22, r2⟩ := rest
        exact ⟨v2, y1, a2, C2, dx2, fs2, w2, y2, y3, y4, y5, y6, i2, y7, p2, l2, j2, u2, y8, y9, y10, y11, v3, y12, a3, C3, dx3, fs3, w3, y13, y14, y15, y16, y17, p3, l3, y18, y19, y20, y21, b3, y22, hQ _ _ r2⟩
end
end Q2

set_option linter.all false
set_option maxRecDepth 100000
set_option maxHeartbeats 8000000
set_option pp.maxSteps 150
namespace Q2
open PySem PySem.Spec PyProof.Rows L2 Gx Qp Qh
structure FmL (K : PySem.W.Frag) (us : List V) (fs : List (List Str)) : Prop where
  len : us.length = fs.length
  all : ∀ (i : Nat) (f : List Str), fs[i]? = some f → ∃ b, us[i]? = some (.ref b) ∧ ∀ H : Hp, SqT K H b (f.map V.str)
theorem FmL.snoc {K : PySem.W.Frag} {us : List V} {fs : List (List Str)} {b : Addr} {f : List Str} (h : FmL K us fs) (k : ∀ H : Hp, SqT K H b (f.map V.str)) : FmL K (us ++ [.ref b]) (fs ++ [f]) := by
  refine ⟨by rw [List.length_append, List.length_append, h.len]; rfl, fun i g hg => ?_⟩
  by_cases hi : i < fs.length
  · rw [List.getElem?_append_left hi] at hg
    rw [List.getElem?_append_left (by rw [h.len]; exact hi)]
    exact h.all i g hg
  · rw [List.getElem?_append_right (by omega)] at hg
    rw [List.getElem?_append_right (by rw [h.len]; omega), h.len]
    obtain ⟨hlt, e⟩ := List.getElem?_eq_some_iff.mp hg
    have h0 : i - fs.length = 0 := by
      rw [List.length_singleton] at hlt
      omega
    rw [h0] at hg ⊢
    cases hg
    exact ⟨b, rfl, k⟩
def ttFits (K : PySem.W.Frag) : TT := tTest (tCall (spFits K) [] E0 (tCons (tVar 4) (tCons (tVar 2) tNil)))
theorem gat_and : ∀ x ∈ ([("and" : Str)] : List Str), x ∈ Qp.jts := fun x h => by
  rw [List.mem_singleton.mp h]
  exact List.mem_cons_self ..
section
variable {P : Program} {w : World} {K : PySem.W.Frag} {mg : Str → Option Value} {base : Heap} {fc fk ff fj C aj m_atom m_behind m_close m_put m_gather : Addr}
theorem ok_dclose {f : Addr} {fd d_put d_gat : FuncData} (F : Fun K "_close" "Reading._close" s_dclose f fd) (T : NmRd mg K C aj m_atom m_behind m_close m_put m_gather)
    (G_gather : FnOk P w K mg base CX0 2 m_gather d_gat ["self", "joints"] (spGather K C)) (b_gather : Binds K d_gat ["self", "joints"] []) (G_put : FnOk P w K mg base CX0 1 m_put d_put ["self", "part"] (spPut K C)) (b_put : Binds K d_put ["self", "part"] []) :
    FnOk P w K mg base CX0 3 f fd ["self"] (spClose K C) := by
  refine F.ok sc_dclose (fun vs H Q E h => ?_) (fun cdv A outer s H vs Q E hr h => ?_)
  · obtain ⟨a, dx, af, ah, lp, lw, hs, st, rfl, _⟩ := h
    rfl
  · obtain ⟨a, dx, af, ah, lp, lw, hs, st, rfl, hh, hrd, hok, hwh, hwt, q⟩ := h
    have hr1 := hr.mono (show 1 ≤ 2 by decide)
    refine ⟨_, (pss_cons (ps_expr (pe_meth (pv 0) T.cl T.gather G_gather hr b_gather .nil pass0 (pa_cons (pe_glob (v := .ref _) rfl T.g_JOINTS rfl) pa_nil)))
  (pss_cons (ps_if (pt_not (pt_truth (pe_fld (pv 0) rfl) (by intro _; rfl))) (pss_one (ps_ret pe_bl)) pss_nil)
  (pss_cons (ps_expr (pe_bm0 PySem.F.plainAttrs_list PySem.F.slot_list_pop PySem.F.type_list_pop mt_pop (pe_fld (pv 0) rfl)))
  (pss_cons (ps_expr (pe_meth (pv 0) T.cl T.put G_put hr1 b_put .nil pass0 (pa_cons (pe_bm0 PySem.F.plainAttrs_list PySem.F.slot_list_pop PySem.F.type_list_pop mt_pop (pe_fld (pv 0) rfl)) pa_nil)))
  (pss_one (ps_ret pe_bl)))))), ?_⟩
    have hl := hok.len
    rw [if_pos hwh] at hl
    have hg1 := gat_len (js := Qp.jts) (fun j h => h) st.wait st.parts hl
    have hg3 := gat_top st.wait st.parts hl
    have hg4 := gat_wt Qp.jts st.wait st.parts
    obtain ⟨lb0, vs0, ea0, _⟩ := hrd.ex
    refine ⟨_, rfl, a, dx, _, rfl, ea0, rfl, a, aj, dx, af, ah, lp, lw, Qp.jts, st, rfl, T.jts.at_ H, (fun x h => h), hrd, hl, hok.wfp, hwt, fun H1 f1 hrd1 => ?_⟩
    obtain ⟨lb, vs, ea, ep, hp, ew, eb, n1, n2, n3⟩ := hrd1.ex
    have hq3 : wtS st = wtW st.wait + wtP st.parts + lenS st.begun := rfl
    unfold closeS at q
    generalize hgg : gat Qp.jts st.wait st.parts = g at *
    obtain ⟨W, Ps⟩ := g
    match W, Ps, hg1, hg3, hg4, hrd1, q, hp, ep, ew with
    | [], Ps, _, _, _, _, q, _, _, ew =>
      refine ⟨_, rfl, a, C, dx, _, _, rfl, ea, T.cl, T.a_waiting, fr_waiting, _, .inl ⟨_, SqL.of ew, rfl⟩, ?_⟩
      exact iteT (q H1 f1 fun st' e => nomatch e)
    | w0 :: W, [], hg1, _, _, _, _, _, _, _ => exact absurd hg1 (by simp)
    | w0 :: W, p :: Ps, hg1, hg3, hg4, hrd1, q, hp, ep, ew =>
      have hw0 := hg3 w0 W rfl
      have hg1' : Ps.length + 1 = nJ (w0 :: W) + 1 := hg1
      rw [nJ_cons, if_neg hw0] at hg1'
      refine ⟨_, rfl, a, C, dx, _, _, rfl, ea, T.cl, T.a_waiting, fr_waiting, true, .inl ⟨_, SqL.of ew, by simp⟩, ?_⟩
      refine iteF ?_
      have ew' : H1 lw = some (.lst (V.str w0 :: W.map V.str).reverse) := ew
      refine ⟨_, rfl, a, C, dx, _, _, rfl, ea, T.cl, T.a_waiting, fr_waiting, .inl ⟨rfl, _, SqL.of ew'⟩, lw, _, _, rfl, rfl, ew', rev_last _ _, ?_⟩
      rw [rev_drop]
      cases hp with
      | @cons v _ vs1 _ hv hp1 =>
        have kw : ∀ b o, b ≠ lw → H1 b = some o → upd H1 lw (.lst (W.map V.str).reverse) b = some o := fun b o z e => (upd_ne z).trans e
        have ea2 := kw _ _ (ne_of ea ew' fun z => nomatch z) ea
        have ep2 := kw _ _ n1 ep
        have eb2 := kw _ _ n3 eb
        have ew2 : upd H1 lw (.lst (W.map V.str).reverse) lw = some (.lst (W.map V.str).reverse) := upd_same
        have tk2 : ∀ b xs, H1 b = some (.tup xs) → upd H1 lw (.lst (W.map V.str).reverse) b = some (.tup xs) := fun b xs e => kw b _ (ne_of e ew' fun z => nomatch z) e
        have f2 : FrR H (upd H1 lw (.lst (W.map V.str).reverse)) a lp lw := fun b o x y z e => kw b o z (f1 b o x y z e)
        generalize upd H1 lw (.lst (W.map V.str).reverse) = H2 at *
        refine ⟨_, rfl, a, dx, _, rfl, ea2, rfl, _, rfl, a, C, dx, _, _, rfl, ea2, T.cl, T.a_parts, fr_parts, .inl ⟨rfl, _, SqL.of ep2⟩, lp, _, _, rfl, rfl, ep2, rev_last _ _, ?_⟩
        rw [rev_drop]
        have kp : ∀ b o, b ≠ lp → H2 b = some o → upd H2 lp (.lst vs1.reverse) b = some o := fun b o z e => (upd_ne z).trans e
        have ea3 := kp _ _ (ne_of ea2 ep2 fun z => nomatch z) ea2
        have ep3 : upd H2 lp (.lst vs1.reverse) lp = some (.lst vs1.reverse) := upd_same
        have ew3 := kp _ _ (Ne.symm n1) ew2
        have eb3 := kp _ _ n2 eb2
        have tk3 : ∀ b xs, H1 b = some (.tup xs) → upd H2 lp (.lst vs1.reverse) b = some (.tup xs) := fun b xs e => kp b _ (ne_of (tk2 b xs e) ep2 fun z => nomatch z) (tk2 b xs e)
        have f3 : FrR H (upd H2 lp (.lst vs1.reverse)) a lp lw := fun b o x y z e => kp b o y (f2 b o x y z e)
        generalize upd H2 lp (.lst vs1.reverse) = H3 at *
        have hbg := hok.beg hwh
        have hz2 : 2 * (w0.length + 6) + wtW W + (wt p + wtP Ps) ≤ wtW st.wait + wtP st.parts := hg4
        refine ⟨a, dx, af, ah, lp, lw, hs, ⟨Ps, W, st.begun, st.whole⟩, v, p, rfl, hh.at_ _, hv.mono tk3, ⟨lb, vs1, ea3, ep3, hp1.mono tk3, ew3, eb3, n1, n2, n3⟩, hbg, by show Ps.length ≤ nJ W; omega, ?_, fun H4 f4 hrd4 => ?_⟩
        · show wtW W + wtP Ps + lenS st.begun ≤ _
          omega
        · exact q H4 (fun b o x y z e => f4 b o x y z (f3 b o x y z e)) fun st' e => by
            cases e
            exact hrd4
theorem ok_dended {f : Addr} {fd d_gat : FuncData} (F : Fun K "ended" "Reading.ended" s_dended f fd) (T : NmRd mg K C aj m_atom m_behind m_close m_put m_gather)
    (G_gather : FnOk P w K mg base CX0 2 m_gather d_gat ["self", "joints"] (spGather K C)) (b_gather : Binds K d_gat ["self", "joints"] []) : FnOk P w K mg base CX0 3 f fd ["self"] (spEnded C) := by
  refine F.ok sc_dended (fun vs H Q E h => ?_) (fun cdv A outer s H vs Q E hr h => ?_)
  · obtain ⟨a, dx, af, ah, lp, lw, st, rfl, _⟩ := h
    rfl
  · obtain ⟨a, dx, af, ah, lp, lw, st, rfl, hrd, hok, hwt, q⟩ := h
    refine ⟨_, (pss_cons (ps_if (pt_not (pt_val (pe_fld (pv 0) rfl))) (pss_one (ps_ret pe_non)) pss_nil)
  (pss_cons (ps_expr (pe_meth (pv 0) T.cl T.gather G_gather hr b_gather .nil pass0 (pa_cons (pe_glob (v := .ref _) rfl T.g_JOINTS rfl) pa_nil)))
  (pss_cons (ps_if (pt_truth (pe_fld (pv 0) rfl) (by intro _; rfl)) (pss_one (ps_ret pe_non)) pss_nil)
  (pss_one (ps_ret (pe_ix ix_list (pe_fld (pv 0) rfl) pe_int (fun _ _ => rfl))))))), ?_⟩
    obtain ⟨lb0, vs0, ea0, _⟩ := hrd.ex
    refine ⟨_, rfl, a, C, dx, _, _, rfl, ea0, T.cl, T.a_whole, fr_whole, _, rfl, ?_⟩
    by_cases hwh : st.whole = true
    · rw [hwh]
      refine iteF ?_
      have hl := hok.len
      rw [if_pos hwh] at hl
      have hg1 := gat_len (js := Qp.jts) (fun j h => h) st.wait st.parts hl
      refine ⟨_, rfl, a, dx, _, rfl, ea0, rfl, a, aj, dx, af, ah, lp, lw, Qp.jts, st, rfl, T.jts.at_ H, (fun x h => h), hrd, hl, hok.wfp, hwt, fun H1 f1 hrd1 => ?_⟩
      obtain ⟨lb, vs, ea, ep, hp, ew, eb, n1, n2, n3⟩ := hrd1.ex
      unfold endS at q
      rw [if_pos hwh] at q
      generalize hgg : gat Qp.jts st.wait st.parts = g at *
      obtain ⟨W, Ps⟩ := g
      match W, Ps, hg1, hrd1, q, hp, ep, ew with
      | [], [], hg1, _, _, _, _, _ => exact absurd hg1 (by simp [nJ])
      | w0 :: W, Ps, _, _, q, _, _, ew =>
        refine ⟨_, rfl, a, C, dx, _, _, rfl, ea, T.cl, T.a_waiting, fr_waiting, true, .inl ⟨_, SqL.of ew, by simp⟩, ?_⟩
        exact iteT ((q H1 f1).1 rfl)
      | [], p :: Ps, hg1, hrd1, q, hp, ep, ew =>
        refine ⟨_, rfl, a, C, dx, _, _, rfl, ea, T.cl, T.a_waiting, fr_waiting, _, .inl ⟨_, SqL.of ew, rfl⟩, ?_⟩
        refine iteF ?_
        cases hp with
        | @cons v _ vs1 _ hv hp1 =>
          have hl1 : Ps.length + 1 = 0 + 1 := hg1
          have hp1l := hp1.len
          have e1 : vs1 = [] := List.length_eq_zero_iff.mp (by omega)
          rw [e1] at ep
          exact ⟨_, rfl, a, C, dx, _, _, rfl, ea, T.cl, T.a_parts, fr_parts, lp, _, _, _, rfl, rfl, SqL.of ep, atI_nat (j := 0) rfl, (q H1 f1).2 p v rfl hv⟩
    · have hwf : st.whole = false := by
        cases h : st.whole
        · rfl
        · exact absurd h hwh
      rw [hwf]
      refine iteT ((q H FrR.refl).1 ?_)
      unfold endS
      rw [if_neg hwh]
end
end Q2

set_option linter.all false
set_option maxRecDepth 100000
set_option maxHeartbeats 8000000
set_option pp.maxSteps 150
namespace Q2
open PySem PySem.Spec PyProof.Rows L2 Gx Qp Qh
section
variable {P : Program} {w : World} {K : PySem.W.Frag} {mg : Str → Option Value} {base : Heap} {fc fk ff fj C aj m_atom m_behind m_close m_put m_gather : Addr}
theorem ok_datom {f : Addr} {fd d_put d_fits : FuncData} (F : Fun K "_take_in_atom" "Reading._take_in_atom" s_datom f fd) (TA : NmA mg K fc fk ff fj) (T : NmRd mg K C aj m_atom m_behind m_close m_put m_gather)
    (G_fits : FnOk P w K mg base CX0 3 ff d_fits ["form", "words"] (spFits K)) (b_fits : Binds K d_fits ["form", "words"] []) (G_put : FnOk P w K mg base CX0 1 m_put d_put ["self", "part"] (spPut K C)) (b_put : Binds K d_put ["self", "part"] []) :
    FnOk P w K mg base CX0 4 f fd ["self", "word"] (spAtom K C) := by
  refine F.ok sc_datom (fun vs H Q E h => ?_) (fun cdv A outer s H vs Q E hr h => ?_)
  · obtain ⟨a, dx, af, ah, lp, lw, fs, hs, st, w, rfl, _⟩ := h
    rfl
  · obtain ⟨a, dx, af, ah, lp, lw, fs, hs, st, wd, rfl, hfm, hh, hf1, hf2, hrd, hok, hwh, hwt, hwd, hbg, q⟩ := h
    have hr1 := hr.mono (show 1 ≤ 3 by decide)
    refine ⟨_, (pss_cons (ps_set (i := 2) sc_datom.nd rfl (.inr rfl) (pe_op op_cat (pe_fld (pv 0) rfl) (pe_lst (pa_cons (pv 1) pa_nil))))
  (pss_cons (ps_setLc (i := 3) (own := [("form", 4)]) (g := gName 4) (tt := ttFits K) (te := tVar 4) rfl sc_datom.nd rfl rfl (sw_true rfl rfl rfl (by decide +kernel)) (pi_tup (pe_fld (pv 0) rfl)) (blkOk_by (own := [("form", 4)]) (N := n_datom) (sc := defScope s_datom) (by decide +kernel)) (fun _ _ _ _ _ => (pg_name (i := 4) sc_datom.nd rfl (.inl rfl))) (fun _ _ _ _ _ => (pts_one (pt_val (pe_call G_fits hr rfl TA.g_fits TA.k_fits b_fits .nil pass0 (pa_cons (pv 4) (pa_cons (pv 2) pa_nil)))))) (fun _ _ _ _ _ => (pv 4)))
  (pss_cons (ps_if (pt_not (pt_truth (pv 3) (by intro _; rfl))) (pss_one (ps_ret pe_bl)) pss_nil)
  (pss_cons (ps_fld (pv 0) (pv 2) rfl)
  (C8.pss_cut (ps_if (pt_cmpR op_eq (pe_callB call_len_seq (by rfl) TA.n_len (by decide +kernel) (pa_cons (pe_ix ix_list (pv 3) pe_int (fun _ _ => rfl)) pa_nil)) (pe_callB call_len_seq (by rfl) TA.n_len (by decide +kernel) (pa_cons (pv 2) pa_nil)) (nomark _)) (pss_cons (ps_fld (pv 0) (pe_lst pa_nil) rfl)
  (pss_one (ps_expr (pe_meth (pv 0) T.cl T.put G_put hr1 b_put .nil pass0 (pa_cons (pe_tup (pa_cons pe_str (pa_cons (pe_callTy call_tuple_of (by rfl) TA.n_tuple (by decide +kernel) (pa_cons (pv 2) pa_nil)) pa_nil))) pa_nil))))) pss_nil)
  (pss_one (ps_ret pe_bl))))))), ?_⟩
    obtain ⟨lb, vs, ea, ep, hp, ew, eb, n1, n2, n3⟩ := hrd.ex
    have hq3 : wtS st = wtW st.wait + wtP st.parts + lenS st.begun := rfl
    have hbl := lenS_le st.begun
    refine ⟨_, rfl, a, C, dx, _, _, rfl, ea, T.cl, T.a_begun, fr_begun, _, rfl, (by show 1 ≤ sizeLine; decide), fun L1 nL1 => ?_⟩
    have S1 := new_same (o := .lst [.str wd]) nL1
    have eL1 : upd H L1 (.lst [.str wd]) L1 = some (.lst [.str wd]) := upd_same
    generalize upd H L1 (.lst [.str wd]) = H1 at *
    refine ⟨lb, L1, _, _, rfl, rfl, S1 _ _ eb, eL1, by rw [List.length_map, sizeLine_eq]; show _ + 1 ≤ _; omega, fun L nL => ?_⟩
    have S2 := new_same (o := .lst (st.begun.map V.str ++ [.str wd])) nL
    have eL : upd H1 L (.lst (st.begun.map V.str ++ [.str wd])) L = some (.lst ((st.begun ++ [wd]).map V.str)) := by
      rw [upd_same, List.map_append]
      rfl
    have nL0 : H L = none := S1.free nL
    generalize upd H1 L (.lst (st.begun.map V.str ++ [.str wd])) = H2 at *
    have S02 := S1.trans S2
    have hwords : ∀ x ∈ st.begun ++ [wd], WdOk x := fun x hx => by
      rcases List.mem_append.mp hx with h | h
      · exact hbg x h
      · rw [List.mem_singleton.mp h]
        exact hwd
    obtain ⟨fvs, hfl, hft, hfa⟩ := hfm.ex
    refine ⟨_, rfl, a, C, dx, _, _, rfl, S02 _ _ ea, T.cl, T.a_forms, fr_forms, af, rfl, ⟨fvs, hft _⟩, fun D nD => ?_⟩
    have kp : ∀ {Hi : Hp}, (∀ b o, b ≠ D → H2 b = some o → Hi b = some o) → Same H2 Hi := fun k b o e => k b o (ne_of_none e nD) e
    refine lc_tup (K := K) (a := af) (xs := fvs) (fun i Hi => (∀ b o, b ≠ D → H2 b = some o → Hi b = some o) ∧ ∃ us, Hi D = some (.lst us) ∧ FmL K us ((fs.take i).filter fun f => fitsB f (st.begun ++ [wd])))
      ⟨fun b o z e => (upd_ne z).trans e, [], upd_same, ⟨rfl, fun i f hf => nomatch hf⟩⟩ (fun i Hi _ p => hft _) (fun i x Hi hx p => ?_) (fun Hi p => ?_)
    · obtain ⟨k1, us, eD, hus⟩ := p
      have hi : i < fvs.length := (List.getElem?_eq_some_iff.mp hx).1
      have hif : i < fs.length := by omega
      have hfi : fs[i]? = some fs[i] := List.getElem?_eq_getElem hif
      obtain ⟨b, hb, hbs⟩ := hfa i _ hfi
      rw [hx] at hb
      cases hb
      refine ⟨rfl, ?_⟩
      refine ⟨_, rfl, _, rfl, b, L, fs[i], st.begun ++ [wd], rfl, hbs _, k1 _ _ (ne_of_none eL nD) eL, hf1 _ (List.getElem_mem _), hwords, fun H3 S3 => ⟨_, rfl, ite2 (fun hb => ?_) (fun hb => ?_)⟩⟩
      · refine ⟨_, rfl, us, S3 _ _ eD, ?_, fun b' o z e => (upd_ne z).trans (S3 _ _ (k1 b' o z e)), us ++ [.ref b], upd_same, ?_⟩
        · have h1 := hus.len
          have h2 := List.length_filter_le (fun f => fitsB f (st.begun ++ [wd])) (fs.take i)
          rw [List.length_take] at h2
          rw [sizeLine_eq]
          omega
        · rw [take_snoc hfi, List.filter_append, List.filter_cons_of_pos (p := fun f => fitsB f (st.begun ++ [wd])) hb, List.filter_nil]
          exact hus.snoc hbs
      · refine ⟨fun b' o z e => S3 _ _ (k1 b' o z e), us, S3 _ _ eD, ?_⟩
        rw [take_snoc hfi, List.filter_append, List.filter_cons_of_neg (p := fun f => fitsB f (st.begun ++ [wd])) hb, List.filter_nil, List.append_nil]
        exact hus
    obtain ⟨k1, us, eD, hus⟩ := p
    rw [hfl, List.take_length] at hus
    have S2i := kp k1
    have S0i := S02.trans S2i
    have eLi := S2i _ _ eL
    have eai := S0i _ _ ea
    have epi := S0i _ _ ep
    have ewi := S0i _ _ ew
    unfold takeA at q
    have hul := hus.len
    have h0 := hus.all 0
    generalize fs.filter (fun f => fitsB f (st.begun ++ [wd])) = ffs at *
    match ffs, hul, h0, q with
    | [], hul, _, q =>
      have e1 : us = [] := List.length_eq_zero_iff.mp hul
      rw [e1] at eD
      refine ⟨_, rfl, _, .inl ⟨_, SqL.of eD, rfl⟩, iteT ?_⟩
      exact q Hi (.of S0i) fun st' e => nomatch e
    | f0 :: ffs, hul, h0, q =>
      obtain ⟨b0, hb0, hbs0⟩ := h0 f0 rfl
      have hne : us ≠ [] := fun e => by rw [e] at hul; cases hul
      refine ⟨_, rfl, true, .inl ⟨_, SqL.of eD, by cases us with | nil => exact absurd rfl hne | cons _ _ => rfl⟩, iteF ?_⟩
      refine ⟨_, rfl, _, rfl, a, C, dx, _, rfl, eai, T.cl, T.a_begun, fr_len, ?_⟩
      rw [put_begun]
      have k2 : ∀ b o, b ≠ a → Hi b = some o → upd Hi a (.ins C dx (fldR af ah lp lw L st.whole)) b = some o := fun b o z e => (upd_ne z).trans e
      have ea2 : upd Hi a (.ins C dx (fldR af ah lp lw L st.whole)) a = some (.ins C dx (fldR af ah lp lw L st.whole)) := upd_same
      have ep2 := k2 _ _ (ne_of epi eai fun z => nomatch z) epi
      have ew2 := k2 _ _ (ne_of ewi eai fun z => nomatch z) ewi
      have eL2 := k2 _ _ (ne_of eLi eai fun z => nomatch z) eLi
      have eD2 := k2 _ _ (ne_of eD eai fun z => nomatch z) eD
      have tk2 : ∀ b xs, H b = some (.tup xs) → upd Hi a (.ins C dx (fldR af ah lp lw L st.whole)) b = some (.tup xs) := fun b xs e => k2 b _ (ne_of (S0i _ _ e) eai fun z => nomatch z) (S0i _ _ e)
      have f2 : FrR H (upd Hi a (.ins C dx (fldR af ah lp lw L st.whole))) a lp lw := fun b o x y z e => k2 b o x (S0i _ _ e)
      generalize upd Hi a (.ins C dx (fldR af ah lp lw L st.whole)) = H4 at *
      have Lp : L ≠ lp := fun z => by rw [z, ep] at nL0; cases nL0
      have Lw : L ≠ lw := fun z => by rw [z, ew] at nL0; cases nL0
      refine ⟨fun σ Hx => FrR H Hx a lp lw ∧ ∀ st', (if f0.length = (st.begun ++ [wd]).length then some (put hs st.wait st.parts (.atom (st.begun ++ [wd]))) else some { st with begun := st.begun ++ [wd] }) = some st' → RdAt C Hx a dx af ah lp lw st', ?_, ?_⟩
      rotate_left
      · rintro σ Hx ⟨fx, rx⟩
        have := q Hx fx rx
        have e1 : ((if f0.length = (st.begun ++ [wd]).length then some (put hs st.wait st.parts (.atom (st.begun ++ [wd]))) else some { st with begun := st.begun ++ [wd] }) : Option RS).isSome = true := by split <;> rfl
        rw [e1] at this
        exact this
      refine ⟨_, rfl, D, _, _, _, rfl, rfl, SqL.of eD2, atI_nat (j := 0) hb0, b0, _, rfl, .inr (hbs0 _), _, rfl, L, _, rfl, .inl (SqL.of eL2), rfl, _, rfl, ite2 (fun hb => ?_) (fun hb => ?_)⟩
      · have hlen : f0.length = (st.begun ++ [wd]).length := by
          have h1 := V.int.inj (of_decide_eq_true hb)
          rw [List.length_map, List.length_map] at h1
          exact Int.ofNat.inj h1
        refine ⟨Nat.zero_le _, fun L5 nL5 => ?_⟩
        have S5 := new_same (o := .lst []) nL5
        have eL5 : upd H4 L5 (.lst []) L5 = some (.lst []) := upd_same
        have L5p : L5 ≠ lp := fun z => by rw [z, ep2] at nL5; cases nL5
        have L5w : L5 ≠ lw := fun z => by rw [z, ew2] at nL5; cases nL5
        generalize upd H4 L5 (.lst []) = H5 at *
        refine ⟨_, rfl, a, C, dx, _, rfl, S5 _ _ ea2, T.cl, T.a_begun, fr_len, ?_⟩
        rw [put_begun]
        have ea5 := S5 _ _ ea2
        have k6 : ∀ b o, b ≠ a → H5 b = some o → upd H5 a (.ins C dx (fldR af ah lp lw L5 st.whole)) b = some o := fun b o z e => (upd_ne z).trans e
        have ea6 : upd H5 a (.ins C dx (fldR af ah lp lw L5 st.whole)) a = some (.ins C dx (fldR af ah lp lw L5 st.whole)) := upd_same
        have ep6 := k6 _ _ (ne_of (S5 _ _ ep2) ea5 fun z => nomatch z) (S5 _ _ ep2)
        have ew6 := k6 _ _ (ne_of (S5 _ _ ew2) ea5 fun z => nomatch z) (S5 _ _ ew2)
        have eb6 := k6 _ _ (ne_of eL5 ea5 fun z => nomatch z) eL5
        have eL6 := k6 _ _ (ne_of (S5 _ _ eL2) ea5 fun z => nomatch z) (S5 _ _ eL2)
        have tk6 : ∀ b xs, H b = some (.tup xs) → upd H5 a (.ins C dx (fldR af ah lp lw L5 st.whole)) b = some (.tup xs) := fun b xs e => k6 b _ (ne_of (S5 _ _ (tk2 b xs e)) ea5 fun z => nomatch z) (S5 _ _ (tk2 b xs e))
        have f6 : FrR H (upd H5 a (.ins C dx (fldR af ah lp lw L5 st.whole))) a lp lw := fun b o x y z e => k6 b o x (S5 _ _ (f2 b o x y z e))
        generalize upd H5 a (.ins C dx (fldR af ah lp lw L5 st.whole)) = H6 at *
        refine ⟨_, rfl, a, dx, _, rfl, ea6, rfl, _, rfl, L, _, rfl, .inl ⟨SqL.of eL6, fun t nt => ⟨(by show 2 ≤ sizeLine; decide), fun r nr => ?_⟩⟩⟩
        have S7 := new_same (o := .tup ((st.begun ++ [wd]).map V.str)) nt
        have S8 := new_same (o := .tup [.str "atom", .ref t]) nr
        have S78 := S7.trans S8
        refine ⟨a, dx, af, ah, lp, lw, hs, ⟨st.parts, st.wait, [], st.whole⟩, .ref r, .atom (st.begun ++ [wd]), rfl, hh.at_ _, .atom upd_same (S8 _ _ upd_same), ⟨L5, vs, S78 _ _ ea6, S78 _ _ ep6, (hp.mono tk6).mono fun b xs e => S78 _ _ e, S78 _ _ ew6, S78 _ _ eb6, n1, L5p, L5w⟩, rfl, ?_, ?_, fun H9 f9 hrd9 => ⟨fun b o x y z e => f9 b o x y z (S78 _ _ (f6 b o x y z e)), fun st' e => ?_⟩⟩
        · have hl := hok.len
          rw [if_neg (by rw [hwh]; exact Bool.false_ne_true)] at hl
          show st.parts.length ≤ nJ st.wait
          omega
        · show wtW st.wait + wtP st.parts + 0 ≤ _
          omega
        · rw [if_pos hlen] at e
          cases e
          exact hrd9
      · have hlen : ¬ f0.length = (st.begun ++ [wd]).length := fun e => hb (by
          rw [List.length_map, List.length_map, e]
          exact decide_eq_true rfl)
        refine ⟨f2, fun st' e => ?_⟩
        rw [if_neg hlen] at e
        cases e
        exact ⟨L, vs, ea2, ep2, hp.mono tk2, ew2, eL2, n1, Lp, Lw⟩
end
end Q2

set_option linter.all false
set_option maxRecDepth 100000
set_option maxHeartbeats 8000000
set_option pp.maxSteps 150
namespace Q2
open PySem PySem.Spec PyProof.Rows L2 Gx Qp Qh
section
variable {P : Program} {w : World} {K : PySem.W.Frag} {mg : Str → Option Value} {base : Heap} {fc fk ff fj C aj m_atom m_behind m_close m_put m_gather : Addr}
theorem ok_dinit {f : Addr} {fd : FuncData} (F : Fun K "__init__" "Reading.__init__" s_dinit f fd) (T : NmRd mg K C aj m_atom m_behind m_close m_put m_gather) : FnOk P w K mg base CX0 1 f fd ["self", "forms", "heads"] (spDInit C) := by
  refine F.ok sc_dinit (fun vs H Q E h => ?_) (fun cdv A outer s H vs Q E hr h => ?_)
  · obtain ⟨a, dx, af, ah, rfl, _⟩ := h
    rfl
  · obtain ⟨a, dx, af, ah, rfl, ha, q⟩ := h
    refine ⟨_, (pss_cons (ps_fld (pv 0) (pv 1) rfl) (pss_cons (ps_fld (pv 0) (pv 2) rfl) (pss_cons (ps_fld (pv 0) (pe_lst pa_nil) rfl) (pss_cons (ps_fld (pv 0) (pe_lst pa_nil) rfl) (pss_cons (ps_fld (pv 0) (pe_lst pa_nil) rfl) (pss_one (ps_fld (pv 0) pe_bl rfl))))))), ?_⟩
    refine ⟨_, rfl, _, rfl, a, C, dx, [], rfl, ha, T.cl, T.a_forms, (by show 0 < 1000; decide), ?_⟩
    refine ⟨_, rfl, _, rfl, a, C, dx, _, rfl, upd_same, T.cl, T.a_heads, (by show 1 < 1000; decide), ?_⟩
    rw [upd_upd]
    have k1 : ∀ b o, b ≠ a → H b = some o → upd H a (.ins C dx (putF "_heads" (.ref ah) (putF "_forms" (.ref af) []))) b = some o := fun b o z e => (upd_ne z).trans e
    have ea1 : upd H a (.ins C dx (putF "_heads" (.ref ah) (putF "_forms" (.ref af) []))) a = some (.ins C dx (putF "_heads" (.ref ah) (putF "_forms" (.ref af) []))) := upd_same
    have free1 : ∀ b, upd H a (.ins C dx (putF "_heads" (.ref ah) (putF "_forms" (.ref af) []))) b = none → H b = none := fun b n => by
      by_cases z : b = a
      · rw [z, upd_same] at n; cases n
      · rw [upd_ne z] at n; exact n
    generalize upd H a (.ins C dx (putF "_heads" (.ref ah) (putF "_forms" (.ref af) []))) = H1 at *
    -- parts
    refine ⟨Nat.zero_le _, fun lp nlp => ⟨_, rfl, a, C, dx, _, rfl, new_same nlp _ _ ea1, T.cl, T.a_parts, (by show 2 < 1000; decide), ?_⟩⟩
    have S2 := new_same (o := .lst []) nlp
    have ep2 : upd H1 lp (.lst []) lp = some (.lst []) := upd_same
    have ea2 := S2 _ _ ea1
    generalize upd H1 lp (.lst []) = H2 at *
    have k3 : ∀ (o' : HO) b o, b ≠ a → H2 b = some o → upd H2 a o' b = some o := fun o' b o z e => (upd_ne z).trans e
    have ea3 : upd H2 a (.ins C dx (putF "_parts" (.ref lp) (putF "_heads" (.ref ah) (putF "_forms" (.ref af) [])))) a = some (.ins C dx (putF "_parts" (.ref lp) (putF "_heads" (.ref ah) (putF "_forms" (.ref af) [])))) := upd_same
    have ep3 := k3 (.ins C dx (putF "_parts" (.ref lp) (putF "_heads" (.ref ah) (putF "_forms" (.ref af) [])))) _ _ (ne_of ep2 ea2 fun z => nomatch z) ep2
    have k13 : ∀ b o, b ≠ a → H b = some o → upd H2 a (.ins C dx (putF "_parts" (.ref lp) (putF "_heads" (.ref ah) (putF "_forms" (.ref af) [])))) b = some o := fun b o z e => k3 _ b o z (S2 _ _ (k1 b o z e))
    have free3 : ∀ b, upd H2 a (.ins C dx (putF "_parts" (.ref lp) (putF "_heads" (.ref ah) (putF "_forms" (.ref af) [])))) b = none → H b = none ∧ b ≠ lp := fun b n => by
      by_cases z : b = a
      · rw [z, upd_same] at n; cases n
      · rw [upd_ne z] at n
        exact ⟨free1 b (S2.free n), fun e => by rw [e, ep2] at n; cases n⟩
    generalize upd H2 a (.ins C dx (putF "_parts" (.ref lp) (putF "_heads" (.ref ah) (putF "_forms" (.ref af) [])))) = H3 at *
    -- waiting
    refine ⟨Nat.zero_le _, fun lw nlw => ⟨_, rfl, a, C, dx, _, rfl, new_same nlw _ _ ea3, T.cl, T.a_waiting, (by show 3 < 1000; decide), ?_⟩⟩
    have S4 := new_same (o := .lst []) nlw
    have ew4 : upd H3 lw (.lst []) lw = some (.lst []) := upd_same
    have ea4 := S4 _ _ ea3
    have ep4 := S4 _ _ ep3
    obtain ⟨nlw0, lwp⟩ := free3 lw nlw
    generalize upd H3 lw (.lst []) = H4 at *
    have k5 : ∀ (o' : HO) b o, b ≠ a → H4 b = some o → upd H4 a o' b = some o := fun o' b o z e => (upd_ne z).trans e
    have ea5 : upd H4 a (.ins C dx (putF "_waiting" (.ref lw) (putF "_parts" (.ref lp) (putF "_heads" (.ref ah) (putF "_forms" (.ref af) []))))) a = some (.ins C dx (putF "_waiting" (.ref lw) (putF "_parts" (.ref lp) (putF "_heads" (.ref ah) (putF "_forms" (.ref af) []))))) := upd_same
    have ep5 := k5 (.ins C dx (putF "_waiting" (.ref lw) (putF "_parts" (.ref lp) (putF "_heads" (.ref ah) (putF "_forms" (.ref af) []))))) _ _ (ne_of ep4 ea4 fun z => nomatch z) ep4
    have ew5 := k5 (.ins C dx (putF "_waiting" (.ref lw) (putF "_parts" (.ref lp) (putF "_heads" (.ref ah) (putF "_forms" (.ref af) []))))) _ _ (ne_of ew4 ea4 fun z => nomatch z) ew4
    have k15 : ∀ b o, b ≠ a → H b = some o → upd H4 a (.ins C dx (putF "_waiting" (.ref lw) (putF "_parts" (.ref lp) (putF "_heads" (.ref ah) (putF "_forms" (.ref af) []))))) b = some o := fun b o z e => k5 _ b o z (S4 _ _ (k13 b o z e))
    generalize upd H4 a (.ins C dx (putF "_waiting" (.ref lw) (putF "_parts" (.ref lp) (putF "_heads" (.ref ah) (putF "_forms" (.ref af) []))))) = H5 at *
    -- begun
    refine ⟨Nat.zero_le _, fun lb nlb => ⟨_, rfl, a, C, dx, _, rfl, new_same nlb _ _ ea5, T.cl, T.a_begun, (by show 4 < 1000; decide), ?_⟩⟩
    have S6 := new_same (o := .lst []) nlb
    have eb6 : upd H5 lb (.lst []) lb = some (.lst []) := upd_same
    have ea6 := S6 _ _ ea5
    have ep6 := S6 _ _ ep5
    have ew6 := S6 _ _ ew5
    have lbp : lb ≠ lp := fun e => by rw [e, ep5] at nlb; cases nlb
    have lbw : lb ≠ lw := fun e => by rw [e, ew5] at nlb; cases nlb
    generalize upd H5 lb (.lst []) = H6 at *
    refine ⟨_, rfl, a, C, dx, _, rfl, upd_same, T.cl, T.a_whole, (by show 5 < 1000; decide), ?_⟩
    rw [upd_upd]
    have nlp0 : H lp = none := free1 lp nlp
    refine q lp lw _ (fun b o z e => (upd_ne z).trans (S6 _ _ (k15 b o z e))) nlp0 nlw0 ⟨lb, [], upd_same, (upd_ne (ne_of ep6 ea6 fun z => nomatch z)).trans ep6, .nil, (upd_ne (ne_of ew6 ea6 fun z => nomatch z)).trans ew6, (upd_ne (ne_of eb6 ea6 fun z => nomatch z)).trans eb6, Ne.symm lwp, lbp, lbw⟩
theorem ok_dbehind {f : Addr} {fd d_gat d_cl : FuncData} (F : Fun K "_take_behind" "Reading._take_behind" s_dbehind f fd) (T : NmRd mg K C aj m_atom m_behind m_close m_put m_gather)
    (G_gather : FnOk P w K mg base CX0 2 m_gather d_gat ["self", "joints"] (spGather K C)) (b_gather : Binds K d_gat ["self", "joints"] []) (G_close : FnOk P w K mg base CX0 3 m_close d_cl ["self"] (spClose K C)) (b_close : Binds K d_cl ["self"] []) :
    FnOk P w K mg base CX0 4 f fd ["self", "word"] (spBehind K C) := by
  refine F.ok sc_dbehind (fun vs H Q E h => ?_) (fun cdv A outer s H vs Q E hr h => ?_)
  · obtain ⟨a, dx, af, ah, lp, lw, hs, st, w, rfl, _⟩ := h
    rfl
  · obtain ⟨a, dx, af, ah, lp, lw, hs, st, wd, rfl, hh, hrd, hok, hwh, hwt, q⟩ := h
    have hr2 := hr.mono (show 2 ≤ 3 by decide)
    refine ⟨_, (pss_cons (ps_if (pt_cmpR op_eq (pv 1) pe_str (nomark _)) (pss_one (ps_ret (pe_meth0 (pv 0) T.cl T.close G_close hr b_close .nil pass0))) pss_nil)
  (pss_cons (ps_if (pt_cmpR op_notIn_seq (pv 1) (pe_glob (v := .ref _) rfl T.g_JOINTS rfl) rfl) (pss_one (ps_ret pe_bl)) pss_nil)
  (C8.pss_cut (ps_if (pt_cmpR op_eq (pv 1) pe_str (nomark _)) (pss_one (ps_expr (pe_meth (pv 0) T.cl T.gather G_gather hr2 b_gather .nil pass0 (pa_cons (pe_tup (pa_cons pe_str pa_nil)) pa_nil)))) pss_nil)
  (pss_cons (ps_expr (pe_bm PySem.F.plainAttrs_list PySem.F.slot_list_append PySem.F.type_list_append mt_append (pe_fld (pv 0) rfl) (pa_cons (pv 1) pa_nil)))
  (pss_cons (ps_fld (pv 0) pe_bl rfl)
  (pss_one (ps_ret pe_bl))))))), ?_⟩
    obtain ⟨lb0, vs0, ea0, _⟩ := hrd.ex
    have hl := hok.len
    rw [if_pos hwh] at hl
    have hq3 : wtS st = wtW st.wait + wtP st.parts + lenS st.begun := rfl
    unfold takeB at q
    refine ⟨_, rfl, rfl, _, rfl, ite2 (fun h1 => ?_) (fun h1 => ?_)⟩
    · have e1 : wd = ")" := V.str.inj (of_decide_eq_true h1)
      rw [if_pos e1] at q
      exact ⟨_, rfl, a, dx, _, rfl, ea0, rfl, a, dx, af, ah, lp, lw, hs, st, rfl, hh, hrd, hok, hwh, hwt, q⟩
    have e1 : ¬ wd = ")" := fun e => h1 (by rw [e]; exact decide_eq_true rfl)
    rw [if_neg e1] at q
    refine ⟨_, rfl, aj, _, rfl, .inr (T.jts.at_ H), rfl, flat_strs _, _, rfl, ?_⟩
    rw [if_pos rfl, inV_list]
    by_cases hj : wd ∈ Qp.jts
    · rw [decide_eq_true hj]
      rw [if_pos hj] at q
      refine iteF ?_
      refine ⟨fun σ Hx => σ = [some (.ref a), some (.str wd)] ∧ FrR H Hx a lp lw ∧ ∃ W Ps, RdAt C Hx a dx af ah lp lw { st with wait := W, parts := Ps } ∧ W.length ≤ 1000000 ∧ (if wd = "or" then some (⟨(gat ["and"] st.wait st.parts).2, wd :: (gat ["and"] st.wait st.parts).1, st.begun, false⟩ : RS) else some ⟨st.parts, wd :: st.wait, st.begun, false⟩) = some ⟨Ps, wd :: W, st.begun, false⟩, ?_, ?_⟩
      · refine ⟨_, rfl, rfl, _, rfl, ite2 (fun h2 => ?_) (fun h2 => ?_)⟩
        · have e2 : wd = "or" := V.str.inj (of_decide_eq_true h2)
          refine ⟨_, rfl, a, dx, _, rfl, ea0, rfl, (by show 1 ≤ sizeLine; decide), fun t nt => ?_⟩
          have S1 := new_same (o := .tup [.str "and"]) nt
          refine ⟨a, t, dx, af, ah, lp, lw, ["and"], st, rfl, SqT.of upd_same, gat_and, hrd.same S1, hl, hok.wfp, hwt, fun H2 f2 hrd2 => ⟨rfl, fun b o x y z e => f2 b o x y z (S1 _ _ e), _, _, hrd2, ?_, by rw [if_pos e2]⟩⟩
          have g4 := gat_wt ["and"] st.wait st.parts
          have g5 := wtW_len (gat ["and"] st.wait st.parts).1
          omega
        · have e2 : ¬ wd = "or" := fun e => h2 (by rw [e]; exact decide_eq_true rfl)
          have g5 := wtW_len st.wait
          exact ⟨rfl, FrR.refl, st.wait, st.parts, hrd, by omega, by rw [if_neg e2]⟩
      · rintro σ Hx ⟨rfl, fx, W, Ps, hrx, hWl, est⟩
        obtain ⟨lb, vs, ea, ep, hp, ew, eb, n1, n2, n3⟩ := hrx.ex
        refine ⟨_, rfl, a, C, dx, _, _, rfl, ea, T.cl, T.a_waiting, fr_waiting, .inl ⟨rfl, _, SqL.of ew⟩, _, rfl, lw, _, _, rfl, rfl, ew, by rw [List.length_reverse, List.length_map, sizeLine_eq]; show W.length < _; omega, ?_⟩
        have k1 : ∀ b o, b ≠ lw → Hx b = some o → upd Hx lw (.lst ((W.map V.str).reverse ++ [.str wd])) b = some o := fun b o z e => (upd_ne z).trans e
        have ea1 := k1 _ _ (ne_of ea ew fun z => nomatch z) ea
        have ep1 := k1 _ _ n1 ep
        have eb1 := k1 _ _ n3 eb
        have ew1 : upd Hx lw (.lst ((W.map V.str).reverse ++ [.str wd])) lw = some (.lst ((wd :: W).map V.str).reverse) := by rw [upd_same, List.map_cons, List.reverse_cons]
        have tk1 : ∀ b xs, Hx b = some (.tup xs) → upd Hx lw (.lst ((W.map V.str).reverse ++ [.str wd])) b = some (.tup xs) := fun b xs e => k1 b _ (ne_of e ew fun z => nomatch z) e
        have f1 : FrR H (upd Hx lw (.lst ((W.map V.str).reverse ++ [.str wd]))) a lp lw := fun b o x y z e => k1 b o z (fx b o x y z e)
        generalize upd Hx lw (.lst ((W.map V.str).reverse ++ [.str wd])) = H1 at *
        refine ⟨_, rfl, a, C, dx, _, rfl, ea1, T.cl, T.a_whole, fr_len, ?_⟩
        rw [put_whole]
        have k2 : ∀ b o, b ≠ a → H1 b = some o → upd H1 a (.ins C dx (fldR af ah lp lw lb false)) b = some o := fun b o z e => (upd_ne z).trans e
        have tk2 : ∀ b xs, Hx b = some (.tup xs) → upd H1 a (.ins C dx (fldR af ah lp lw lb false)) b = some (.tup xs) := fun b xs e => k2 b _ (ne_of (tk1 b xs e) ea1 fun z => nomatch z) (tk1 b xs e)
        have := q (upd H1 a (.ins C dx (fldR af ah lp lw lb false))) (fun b o x y z e => k2 b o x (f1 b o x y z e)) (fun st' e => by
          rw [est] at e
          cases e
          exact ⟨lb, vs, upd_same, k2 _ _ (ne_of ep1 ea1 fun z => nomatch z) ep1, hp.mono tk2, k2 _ _ (ne_of ew1 ea1 fun z => nomatch z) ew1, k2 _ _ (ne_of eb1 ea1 fun z => nomatch z) eb1, n1, n2, n3⟩)
        rw [est] at this
        exact this
    · rw [decide_eq_false hj]
      rw [if_neg hj] at q
      exact iteT (q H FrR.refl fun st' e => nomatch e)
theorem ok_dtake {f : Addr} {fd d_at d_be : FuncData} (F : Fun K "take" "Reading.take" s_dtake f fd) (T : NmRd mg K C aj m_atom m_behind m_close m_put m_gather)
    (G_atom : FnOk P w K mg base CX0 4 m_atom d_at ["self", "word"] (spAtom K C)) (b_atom : Binds K d_at ["self", "word"] []) (G_behind : FnOk P w K mg base CX0 4 m_behind d_be ["self", "word"] (spBehind K C)) (b_behind : Binds K d_be ["self", "word"] []) :
    FnOk P w K mg base CX0 5 f fd ["self", "word"] (spTakeR K C) := by
  refine F.ok sc_dtake (fun vs H Q E h => ?_) (fun cdv A outer s H vs Q E hr h => ?_)
  · obtain ⟨a, dx, af, ah, lp, lw, fs, hs, st, w, rfl, _⟩ := h
    rfl
  · obtain ⟨a, dx, af, ah, lp, lw, fs, hs, st, wd, rfl, hfm, hh, hf1, hf2, hrd, hok, hwt, hwd, hbg, q⟩ := h
    refine ⟨_, (pss_cons (ps_if (pt_val (pe_fld (pv 0) rfl)) (pss_one (ps_ret (pe_meth (pv 0) T.cl T.behind G_behind hr b_behind .nil pass0 (pa_cons (pv 1) pa_nil)))) pss_nil)
  (C8.pss_cut (ps_if (PW.pt (pw_and (pt_not (pt_truth (pe_fld (pv 0) rfl) (by intro _; rfl))) (pw_and1 (PW.pt (pw_or (pt_cmpR op_eq (pv 1) pe_str (nomark _)) (pw_or1 (pt_cmpR op_in_seq (pv 1) (pe_fld (pv 0) rfl) rfl))))))) (pss_cons (ps_expr (pe_bm PySem.F.plainAttrs_list PySem.F.slot_list_append PySem.F.type_list_append mt_append (pe_fld (pv 0) rfl) (pa_cons (pv 1) pa_nil)))
  (pss_one (ps_ret pe_bl))) pss_nil)
  (pss_one (ps_ret (pe_meth (pv 0) T.cl T.atom G_atom hr b_atom .nil pass0 (pa_cons (pv 1) pa_nil)))))), ?_⟩
    obtain ⟨lb, vs, ea, ep, hp, ew, eb, n1, n2, n3⟩ := hrd.ex
    have hq3 : wtS st = wtW st.wait + wtP st.parts + lenS st.begun := rfl
    have hWl := wtW_len st.wait
    refine ⟨_, rfl, a, C, dx, _, _, rfl, ea, T.cl, T.a_whole, fr_whole, _, rfl, ?_⟩
    unfold takeS at q
    by_cases hwh : st.whole = true
    · rw [hwh]
      rw [if_pos hwh] at q
      refine iteT ?_
      exact ⟨_, rfl, a, dx, _, rfl, ea, rfl, _, rfl, a, dx, af, ah, lp, lw, hs, st, wd, rfl, hh, hrd, hok, hwh, hwt, q⟩
    have hwf : st.whole = false := by
      cases h : st.whole
      · rfl
      · exact absurd h hwh
    have qq := q
    rw [hwf]
    rw [if_neg hwh] at q
    refine iteF ?_
    have atomway : ¬ (st.begun = [] ∧ (wd = "(" ∨ wd ∈ hs)) → (fun σ (Hx : Hp) => σ = [some (V.ref a), some (V.str wd)] ∧ Hx = H ∧ ¬ (st.begun = [] ∧ (wd = "(" ∨ wd ∈ hs))) [some (V.ref a), some (V.str wd)] H := fun hn => ⟨rfl, rfl, hn⟩
    refine ⟨fun σ Hx => σ = [some (V.ref a), some (V.str wd)] ∧ Hx = H ∧ ¬ (st.begun = [] ∧ (wd = "(" ∨ wd ∈ hs)), ?_, ?_⟩
    rotate_left
    · rintro σ Hx ⟨rfl, rfl, hn⟩
      rw [if_neg hn] at q
      exact ⟨_, rfl, a, dx, _, rfl, ea, rfl, _, rfl, a, dx, af, ah, lp, lw, fs, hs, st, wd, rfl, hfm, hh, hf1, hf2, hrd, hok, hwf, hwt, hwd, hbg, q⟩
    cases hb : st.begun with
    | cons b0 bs =>
      have eb' : H lb = some (.lst ((b0 :: bs).map V.str)) := by rw [← hb]; exact eb
      refine ⟨_, rfl, a, C, dx, _, _, rfl, ea, T.cl, T.a_begun, fr_begun, true, .inl ⟨_, SqL.of eb', rfl⟩, iteF (iteF ?_)⟩
      exact ⟨rfl, rfl, fun h => nomatch h.1⟩
    | nil =>
      rw [hb] at q
      have eb' : H lb = some (.lst []) := by rw [show ([] : List V) = ([] : List Str).map V.str from rfl, ← hb]; exact eb
      refine ⟨_, rfl, a, C, dx, _, _, rfl, ea, T.cl, T.a_begun, fr_begun, false, .inl ⟨_, SqL.of eb', rfl⟩, iteT ?_⟩
      have push : (wd = "(" ∨ wd ∈ hs) → ∃ v, ([some (V.ref a), some (V.str wd)] : L2.St)[0]? = some (some v) ∧ True := fun _ => ⟨_, rfl, trivial⟩
      have k1 : ∀ b o, b ≠ lw → H b = some o → upd H lw (.lst ((st.wait.map V.str).reverse ++ [.str wd])) b = some o := fun b o z e => (upd_ne z).trans e
      have tk1 : ∀ b xs, H b = some (.tup xs) → upd H lw (.lst ((st.wait.map V.str).reverse ++ [.str wd])) b = some (.tup xs) := fun b xs e => k1 b _ (ne_of e ew fun z => nomatch z) e
      have go : (wd = "(" ∨ wd ∈ hs) → Q (.bl true) (upd H lw (.lst ((st.wait.map V.str).reverse ++ [.str wd]))) := fun hd => by
        rw [if_pos ⟨rfl, hd⟩] at q
        refine q _ (fun b o x y z e => k1 b o z e) fun st' e => ?_
        cases e
        refine ⟨lb, vs, k1 _ _ (ne_of ea ew fun z => nomatch z) ea, k1 _ _ n1 ep, hp.mono tk1, ?_, k1 _ _ n3 eb', n1, n2, n3⟩
        rw [upd_same, List.map_cons, List.reverse_cons]
      refine ⟨_, rfl, rfl, _, rfl, ite2 (fun h1 => ?_) (fun h1 => ?_)⟩
      · have e1 : wd = "(" := V.str.inj (of_decide_eq_true h1)
        refine iteT ?_
        refine ⟨_, rfl, a, C, dx, _, _, rfl, ea, T.cl, T.a_waiting, fr_waiting, .inl ⟨rfl, _, SqL.of ew⟩, _, rfl, lw, _, _, rfl, rfl, ew, by rw [List.length_reverse, List.length_map, sizeLine_eq]; omega, ?_⟩
        exact go (.inl e1)
      · have e1 : ¬ wd = "(" := fun e => h1 (by rw [e]; exact decide_eq_true rfl)
        refine ⟨_, rfl, _, rfl, a, C, dx, _, _, rfl, ea, T.cl, T.a_heads, fr_heads, ah, _, rfl, .inr (hh.at_ H), rfl, flat_strs _, _, rfl, ?_⟩
        rw [if_neg Bool.false_ne_true, inV_list]
        by_cases hm : wd ∈ hs
        · rw [decide_eq_true hm]
          refine iteT ?_
          refine ⟨_, rfl, a, C, dx, _, _, rfl, ea, T.cl, T.a_waiting, fr_waiting, .inl ⟨rfl, _, SqL.of ew⟩, _, rfl, lw, _, _, rfl, rfl, ew, by rw [List.length_reverse, List.length_map, sizeLine_eq]; omega, ?_⟩
          exact go (.inr hm)
        · rw [decide_eq_false hm]
          refine iteF ⟨rfl, rfl, fun h => ?_⟩
          rcases h.2 with h | h
          · exact e1 h
          · exact hm h
end
end Q2

set_option linter.all false
set_option maxRecDepth 100000
set_option maxHeartbeats 4000000
set_option pp.maxSteps 200
/-! sizes of texts, atoms -/
namespace Qp
open PySem L2 Gx
theorem join_ub (y : Str) : ∀ xs : List Str, (Str.join y xs).length ≤ (xs.map (·.length)).sum + xs.length * y.length
  | [] => Nat.zero_le _
  | [x] => by
    show x.length ≤ (x.length + 0) + 1 * y.length
    omega
  | x :: z :: r => by
    have h := join_ub y (z :: r)
    show (x ++ y ++ Str.join y (z :: r)).length ≤ _
    rw [len_app, len_app, List.map_cons, List.sum_cons, List.length_cons, Nat.add_mul, Nat.one_mul]
    omega
theorem hds_len {h : Str} (k : h ∈ hds) : h.length ≤ 6 := by
  simp only [List.mem_cons, List.not_mem_nil, or_false] at k
  rcases k with rfl | rfl | rfl <;> decide +kernel
theorem jts_len2 {h : Str} (k : h ∈ jts) : h.length ≤ 3 := by
  simp only [List.mem_cons, List.not_mem_nil, or_false] at k
  rcases k with rfl | rfl <;> decide +kernel
theorem sp1 : (" " : Str).length = 1 := by decide +kernel
theorem sp2 : ("( " : Str).length = 2 := by decide +kernel
theorem sp3 : (" )" : Str).length = 2 := by decide +kernel
theorem lenS_sum : ∀ ws : List Str, (ws.map (·.length)).sum + ws.length = lenS ws
  | [] => rfl
  | w :: ws => by
    have := lenS_sum ws
    rw [List.map_cons, List.sum_cons, List.length_cons]
    show _ = w.length + 1 + lenS ws
    omega
theorem und_len (p : Pt) (h : Str) : (undT p h).length ≤ (txt p).length + 4 := by
  unfold undT
  split
  · rw [len_app, len_app, sp2, sp3]
    omega
  · omega
mutual
theorem txt_len : ∀ p : Pt, (txt p).length ≤ wt p
  | .atom ws => by
    have h := join_ub " " ws
    have h2 := lenS_sum ws
    rw [sp1] at h
    show (Str.join " " ws).length ≤ 1 + lenS ws
    omega
  | .un h p => by
    have h1 := txt_len p
    have h2 := und_len p h
    show (h ++ " " ++ undT p h).length ≤ h.length + 5 + wt p
    rw [len_app, len_app, sp1]
    omega
  | .jo j ps => by
    have h1 := txts_len j ps
    have h2 := join_ub (" " ++ j ++ " ") (txts j ps)
    rw [len_app, len_app, sp1] at h2
    show (Str.join (" " ++ j ++ " ") (txts j ps)).length ≤ wts j ps
    omega
theorem txts_len (j : Str) : ∀ ps : List Pt, ((txts j ps).map (·.length)).sum + (txts j ps).length * (1 + j.length + 1) ≤ wts j ps
  | [] => by simp [txts, wts]
  | p :: ps => by
    have h1 := txt_len p
    have h2 := und_len p j
    have h3 := txts_len j ps
    show ((undT p j).length + ((txts j ps).map (·.length)).sum) + ((txts j ps).length + 1) * (1 + j.length + 1) ≤ wt p + j.length + 6 + wts j ps
    rw [Nat.add_mul, Nat.one_mul]
    omega
end
theorem txts_get {j : Str} : ∀ {ps : List Pt} {i : Nat} {p : Pt}, ps[i]? = some p → (txts j ps)[i]? = some (undT p j)
  | [], i, p, h => by simp at h
  | q :: ps, 0, p, h => by
    cases h
    rfl
  | q :: ps, i + 1, p, h => by
    show (txts j ps)[i]? = _
    exact txts_get (show ps[i]? = some p from h)
theorem txts_length (j : Str) : ∀ ps : List Pt, (txts j ps).length = ps.length
  | [] => rfl
  | p :: ps => congrArg Nat.succ (txts_length j ps)
theorem hts_get : ∀ {ps : List Pt} {i : Nat} {p : Pt}, ps[i]? = some p → ht p ≤ hts ps
  | [], i, p, h => by simp at h
  | q :: ps, 0, p, h => by
    cases h
    exact Nat.le_max_left _ _
  | q :: ps, i + 1, p, h => Nat.le_trans (hts_get (show ps[i]? = some p from h)) (Nat.le_max_right _ _)
theorem wfs_get : ∀ {ps : List Pt} {i : Nat} {p : Pt}, wfs ps = true → ps[i]? = some p → wf p = true
  | [], i, p, _, h => by simp at h
  | q :: ps, 0, p, w, h => by
    cases h
    have w' : (wf q && wfs ps) = true := w
    rw [Bool.and_eq_true] at w'
    exact w'.1
  | q :: ps, i + 1, p, w, h => by
    have w' : (wf q && wfs ps) = true := w
    rw [Bool.and_eq_true] at w'
    exact wfs_get w'.2 (show ps[i]? = some p from h)
theorem wts_get {j : Str} : ∀ {ps : List Pt} {i : Nat} {p : Pt}, ps[i]? = some p → wt p ≤ wts j ps
  | [], i, p, h => by simp at h
  | q :: ps, 0, p, h => by
    cases h
    show wt q ≤ wt q + j.length + 6 + wts j ps
    omega
  | q :: ps, i + 1, p, h => by
    have := wts_get (j := j) (show ps[i]? = some p from h)
    show wt p ≤ wt q + j.length + 6 + wts j ps
    omega
theorem wf_un {h : Str} {p : Pt} (w : wf (.un h p) = true) : h ∈ hds ∧ wf p = true := by
  have w' : (hds.contains h && wf p) = true := w
  rw [Bool.and_eq_true] at w'
  exact ⟨by simpa using w'.1, w'.2⟩
theorem wf_jo {j : Str} {ps : List Pt} (w : wf (.jo j ps) = true) : j ∈ jts ∧ wfs ps = true := by
  have w' : (jts.contains j && wfs ps) = true := w
  rw [Bool.and_eq_true] at w'
  exact ⟨by simpa using w'.1, w'.2⟩
def AtP (b : Nat) (p : Pt) : Prop := wf p = true ∧ wt p ≤ b
mutual
/-- the atoms: each is smaller than the whole, and all together are not many -/
theorem ats_in : ∀ (p : Pt), wf p = true → ∀ q ∈ ats p, wf q = true ∧ wt q ≤ wt p ∧ ht q ≤ ht p
  | .atom ws, w, q, h => by
    have h' : q ∈ [Pt.atom ws] := h
    rw [List.mem_singleton.mp h']
    exact ⟨rfl, Nat.le_refl _, Nat.le_refl _⟩
  | .un h p, w, q, hq => by
    have hq' : q ∈ (if h ∈ out then [Pt.un h p] else []) ++ ats p := hq
    rcases List.mem_append.mp hq' with h1 | h1
    · split at h1
      · rw [List.mem_singleton.mp h1]
        exact ⟨w, Nat.le_refl _, Nat.le_refl _⟩
      · exact absurd h1 List.not_mem_nil
    · obtain ⟨a, b, c⟩ := ats_in p (wf_un w).2 q h1
      refine ⟨a, ?_, ?_⟩
      · show wt q ≤ h.length + 5 + wt p
        omega
      · show ht q ≤ ht p + 1
        omega
  | .jo j ps, w, q, hq => by
    obtain ⟨a, b, c⟩ := atss_in j ps (wf_jo w).2 q hq
    exact ⟨a, b, Nat.le_succ_of_le c⟩
theorem atss_in (j : Str) : ∀ (ps : List Pt), wfs ps = true → ∀ q ∈ atss ps, wf q = true ∧ wt q ≤ wts j ps ∧ ht q ≤ hts ps
  | [], _, q, h => absurd h List.not_mem_nil
  | p :: ps, w, q, h => by
    have w' : (wf p && wfs ps) = true := w
    rw [Bool.and_eq_true] at w'
    rcases List.mem_append.mp (show q ∈ ats p ++ atss ps from h) with h1 | h1
    · obtain ⟨a, b, c⟩ := ats_in p w'.1 q h1
      refine ⟨a, ?_, Nat.le_trans c (Nat.le_max_left _ _)⟩
      show wt q ≤ wt p + j.length + 6 + wts j ps
      omega
    · obtain ⟨a, b, c⟩ := atss_in j ps w'.2 q h1
      refine ⟨a, ?_, Nat.le_trans c (Nat.le_max_right _ _)⟩
      show wt q ≤ wt p + j.length + 6 + wts j ps
      omega
end
mutual
theorem ats_len : ∀ p : Pt, (ats p).length ≤ wt p
  | .atom ws => by
    show 1 ≤ 1 + lenS ws
    omega
  | .un h p => by
    have := ats_len p
    show ((if h ∈ out then [Pt.un h p] else []) ++ ats p).length ≤ h.length + 5 + wt p
    rw [List.length_append]
    have : (if h ∈ out then [Pt.un h p] else []).length ≤ 1 := by split <;> simp
    omega
  | .jo j ps => atss_len j ps
theorem atss_len (j : Str) : ∀ ps : List Pt, (atss ps).length ≤ wts j ps
  | [] => Nat.le_refl _
  | p :: ps => by
    have h1 := ats_len p
    have h2 := atss_len j ps
    show (ats p ++ atss ps).length ≤ wt p + j.length + 6 + wts j ps
    rw [List.length_append]
    omega
end
end Qp

set_option linter.all false
set_option maxRecDepth 100000
set_option maxHeartbeats 4000000
set_option pp.maxSteps 200
/-! what waits, how deep it is, how high the parts become -/
namespace Qp
open PySem L2 Gx
def okT (hs : List Str) : Bool → List Str → Prop
  | _, [] => True
  | c, w :: W => if w = "(" then okT hs false W else if w ∈ hs then c = false ∧ okT hs false W else w ∈ jts ∧ okT hs true W
theorem okT_eq (hs : List Str) (c : Bool) (w : Str) (W : List Str) : okT hs c (w :: W) = (if w = "(" then okT hs false W else if w ∈ hs then c = false ∧ okT hs false W else w ∈ jts ∧ okT hs true W) := rfl
theorem okT_false {hs : List Str} {c : Bool} : ∀ {W : List Str}, okT hs c W → okT hs false W
  | [], _ => trivial
  | w :: W, h => by
    rw [okT_eq] at h ⊢
    by_cases h1 : w = "("
    · rw [if_pos h1] at h ⊢
      exact h
    · rw [if_neg h1] at h ⊢
      by_cases h2 : w ∈ hs
      · rw [if_pos h2] at h ⊢
        exact ⟨rfl, h.2⟩
      · rw [if_neg h2] at h ⊢
        exact h
def cP (hs : List Str) : List Str → Nat
  | [] => 0
  | w :: W => (if w = "(" then 1 else if w ∈ hs then 1 else 0) + cP hs W
def hW (hs : List Str) : List Str → List Nat × Nat
  | [] => ([], 0)
  | w :: W => if w = "(" then (((hW hs W).2 + 1) :: (hW hs W).1, 0) else if w ∈ hs then ((hW hs W).1, (hW hs W).2 + 1) else ((hW hs W).1, 0)
theorem cP_eq (hs : List Str) (w : Str) (W : List Str) : cP hs (w :: W) = (if w = "(" then 1 else if w ∈ hs then 1 else 0) + cP hs W := rfl
theorem hW_eq (hs : List Str) (w : Str) (W : List Str) : hW hs (w :: W) = (if w = "(" then (((hW hs W).2 + 1) :: (hW hs W).1, 0) else if w ∈ hs then ((hW hs W).1, (hW hs W).2 + 1) else ((hW hs W).1, 0)) := rfl
theorem jt_no {w : Str} (h : w ∈ jts) : w ≠ "(" ∧ w ∉ hds ∧ w ≠ ")" := by
  simp only [List.mem_cons, List.not_mem_nil, or_false] at h
  rcases h with rfl | rfl <;> decide +kernel
theorem hd_no {w : Str} (h : w ∈ hds) : w ≠ "(" ∧ w ∉ jts ∧ w ≠ ")" := by
  simp only [List.mem_cons, List.not_mem_nil, or_false] at h
  rcases h with rfl | rfl | rfl <;> decide +kernel
theorem and_jt : ("and" : Str) ∈ jts := List.mem_cons_self ..
section
variable {hs : List Str} (hhs : ∀ h ∈ hs, h ∈ hds)
include hhs
theorem okT_jo {c : Bool} {j : Str} {W : List Str} (hj : j ∈ jts) : okT hs c (j :: W) ↔ okT hs true W := by
  have h1 := jt_no hj
  rw [okT_eq, if_neg h1.1, if_neg (fun h => h1.2.1 (hhs j h))]
  exact ⟨fun h => h.2, fun h => ⟨hj, h⟩⟩
theorem cP_jo {j : Str} {W : List Str} (hj : j ∈ jts) : cP hs (j :: W) = cP hs W := by
  have h1 := jt_no hj
  show (if j = "(" then 1 else if j ∈ hs then 1 else 0) + cP hs W = _
  rw [if_neg h1.1, if_neg (fun h => h1.2.1 (hhs j h)), Nat.zero_add]
theorem hW_jo {j : Str} {W : List Str} (hj : j ∈ jts) : hW hs (j :: W) = ((hW hs W).1, 0) := by
  have h1 := jt_no hj
  rw [hW_eq, if_neg h1.1, if_neg (fun h => h1.2.1 (hhs j h))]
theorem okT_hW : ∀ {W : List Str}, okT hs true W → (hW hs W).2 = 0
  | [], _ => rfl
  | w :: W, h => by
    rw [okT_eq] at h
    rw [hW_eq]
    by_cases h1 : w = "("
    · rw [if_pos h1]
    · rw [if_neg h1] at h ⊢
      by_cases h2 : w ∈ hs
      · rw [if_pos h2] at h
        exact nomatch h.1
      · rw [if_neg h2]
theorem c_sum : ∀ {W : List Str} {c : Bool}, okT hs c W → cP hs W = (hW hs W).1.sum + (hW hs W).2
  | [], _, _ => rfl
  | w :: W, c, h => by
    rw [okT_eq] at h
    rw [cP_eq, hW_eq]
    by_cases h1 : w = "("
    · rw [if_pos h1] at h
      rw [if_pos h1, if_pos h1]
      have := c_sum h
      show 1 + cP hs W = (((hW hs W).2 + 1) :: (hW hs W).1).sum + 0
      rw [List.sum_cons]
      omega
    · rw [if_neg h1] at h
      rw [if_neg h1, if_neg h1]
      by_cases h2 : w ∈ hs
      · rw [if_pos h2] at h
        rw [if_pos h2, if_pos h2]
        have := c_sum h.2
        show 1 + cP hs W = (hW hs W).1.sum + ((hW hs W).2 + 1)
        omega
      · rw [if_neg h2] at h
        rw [if_neg h2, if_neg h2]
        have := c_sum h.2
        have h0 := okT_hW hhs h.2
        show 0 + cP hs W = (hW hs W).1.sum + 0
        omega
/-- gathering -/
theorem gat_T {js : List Str} (hjs : ∀ j ∈ js, j ∈ jts) : ∀ (W : List Str) (Ps : List Pt), okT hs true W → okT hs true (gat js W Ps).1 ∧ cP hs (gat js W Ps).1 = cP hs W ∧ (hW hs (gat js W Ps).1).1 = (hW hs W).1 := by
  intro W
  induction W with
  | nil => intro Ps _; exact ⟨trivial, rfl, rfl⟩
  | cons j W ih =>
    intro Ps h
    by_cases hj : j ∈ js
    · have hjj := hjs j hj
      have h2 := (okT_jo hhs hjj).mp h
      match Ps with
      | [] =>
        have e : gat js (j :: W) [] = (j :: W, []) := by unfold gat; rw [if_pos hj]
        rw [e]
        exact ⟨h, rfl, rfl⟩
      | [p] =>
        have e : gat js (j :: W) [p] = (j :: W, [p]) := by unfold gat; rw [if_pos hj]
        rw [e]
        exact ⟨h, rfl, rfl⟩
      | r :: l :: Ps =>
        rw [gat_yes hj, cP_jo hhs hjj, hW_jo hhs hjj]
        exact ih _ h2
    · rw [gat_no hj]
      exact ⟨h, rfl, rfl⟩
theorem put_T : ∀ (W : List Str) (p : Pt), okT hs false W → okT hs true (putS hs W p).1 ∧ cP hs (putS hs W p).1 ≤ cP hs W ∧ (hW hs (putS hs W p).1).1 = (hW hs W).1 := by
  intro W
  induction W with
  | nil => intro p _; exact ⟨trivial, Nat.le_refl _, rfl⟩
  | cons h W ih =>
    intro p hT
    unfold putS
    by_cases hm : h ∈ hs
    · rw [if_pos hm]
      have h1 := (hd_no (hhs h hm)).1
      rw [okT_eq, if_neg h1, if_pos hm] at hT
      obtain ⟨a, b, c⟩ := ih (.un h p) hT.2
      refine ⟨a, ?_, ?_⟩
      · show _ ≤ (if h = "(" then 1 else if h ∈ hs then 1 else 0) + cP hs W
        omega
      · rw [c]
        show _ = (hW hs (h :: W)).1
        rw [hW_eq, if_neg h1, if_pos hm]
    · rw [if_neg hm]
      refine ⟨?_, Nat.le_refl _, rfl⟩
      rw [okT_eq] at hT ⊢
      rw [if_neg hm] at hT ⊢
      exact hT
end
/-! heights -/
def l1 (b : Nat) (p : Pt) : Prop := ht p ≤ b ∨ (∃ ps, p = .jo "and" ps) ∧ ht p ≤ b + 1
def l2 (b : Nat) (p : Pt) : Prop := l1 b p ∨ (∃ ps, p = .jo "or" ps) ∧ ht p ≤ b + 2
def okD (hs : List Str) (D : Nat) : List Str → List Pt → Prop
  | [], _ => True
  | w :: W, Ps => if w ∈ jts then (match Ps with
    | p :: Ps' => (if w = "and" then l1 (2 * (D - cP hs W)) p else l2 (2 * (D - cP hs W)) p ∧ W.head? ≠ some "and") ∧ okD hs D W Ps'
    | [] => False) else okD hs D W Ps
theorem okD_eq (hs : List Str) (D : Nat) (w : Str) (W : List Str) (Ps : List Pt) : okD hs D (w :: W) Ps = (if w ∈ jts then (match Ps with
    | p :: Ps' => (if w = "and" then l1 (2 * (D - cP hs W)) p else l2 (2 * (D - cP hs W)) p ∧ W.head? ≠ some "and") ∧ okD hs D W Ps'
    | [] => False) else okD hs D W Ps) := by cases Ps <;> rfl
theorem okD_no {hs : List Str} {D : Nat} {w : Str} {W : List Str} {Ps : List Pt} (h : w ∉ jts) : okD hs D (w :: W) Ps = okD hs D W Ps := by rw [okD_eq, if_neg h]
theorem okD_nil {hs : List Str} {D : Nat} {w : Str} {W : List Str} (h : w ∈ jts) : okD hs D (w :: W) [] = False := by rw [okD_eq, if_pos h]
theorem okD_and {hs : List Str} {D : Nat} {W : List Str} {p : Pt} {Ps : List Pt} : okD hs D ("and" :: W) (p :: Ps) = (l1 (2 * (D - cP hs W)) p ∧ okD hs D W Ps) := by
  rw [okD_eq, if_pos and_jt]
  show ((if ("and" : Str) = "and" then _ else _) ∧ _) = _
  rw [if_pos rfl]
theorem okD_or {hs : List Str} {D : Nat} {W : List Str} {p : Pt} {Ps : List Pt} : okD hs D ("or" :: W) (p :: Ps) = ((l2 (2 * (D - cP hs W)) p ∧ W.head? ≠ some "and") ∧ okD hs D W Ps) := by
  rw [okD_eq, if_pos (List.mem_cons_of_mem _ (List.mem_cons_self ..))]
  show ((if ("or" : Str) = "and" then _ else _) ∧ _) = _
  rw [if_neg (by decide +kernel)]
theorem fl_l1 {b : Nat} {p : Pt} (h : l1 b p) : hts (fl "and" p) ≤ b := by
  cases p with
  | atom ws => exact Nat.zero_le _
  | un x q =>
    rcases h with h | ⟨⟨ps, e⟩, _⟩
    · show max (ht (.un x q)) 0 ≤ b
      omega
    · cases e
  | jo j ps =>
    show hts (if j = "and" then ps else [.jo j ps]) ≤ b
    split
    · rcases h with h | ⟨_, h⟩
      · have h' : hts ps + 1 ≤ b := h
        omega
      · have h' : hts ps + 1 ≤ b + 1 := h
        omega
    · rename_i hj
      rcases h with h | ⟨⟨qs, e⟩, _⟩
      · show max (ht (.jo j ps)) 0 ≤ b
        omega
      · cases e
        exact absurd rfl hj
theorem fl_l2 {b : Nat} {p : Pt} (h : l2 b p) : hts (fl "or" p) ≤ b + 1 := by
  have one : ∀ q : Pt, l1 b q → max (ht q) 0 ≤ b + 1 := fun q hq => by
    rcases hq with h | ⟨_, h⟩ <;> omega
  cases p with
  | atom ws => exact Nat.zero_le _
  | un x q =>
    rcases h with h | ⟨⟨ps, e⟩, _⟩
    · exact one _ h
    · cases e
  | jo j ps =>
    show hts (if j = "or" then ps else [.jo j ps]) ≤ b + 1
    split
    · rename_i hj
      rcases h with h | ⟨_, h⟩
      · have := one _ h
        have h' : ht (.jo j ps) = hts ps + 1 := rfl
        omega
      · have h' : hts ps + 1 ≤ b + 2 := h
        omega
    · rename_i hj
      rcases h with h | ⟨⟨qs, e⟩, _⟩
      · exact one _ h
      · cases e
        exact absurd rfl hj
theorem jn_l1 {b : Nat} {l r : Pt} (hl : l1 b l) (hr : l1 b r) : l1 b (jn "and" l r) := by
  refine .inr ⟨⟨_, rfl⟩, ?_⟩
  show hts (fl "and" l ++ fl "and" r) + 1 ≤ b + 1
  rw [hts_app]
  have := fl_l1 hl
  have := fl_l1 hr
  omega
theorem jn_l2 {b : Nat} {l r : Pt} (hl : l2 b l) (hr : l2 b r) : l2 b (jn "or" l r) := by
  refine .inr ⟨⟨_, rfl⟩, ?_⟩
  show hts (fl "or" l ++ fl "or" r) + 1 ≤ b + 2
  rw [hts_app]
  have := fl_l2 hl
  have := fl_l2 hr
  omega
theorem l2_ht {b : Nat} {p : Pt} (h : l2 b p) : ht p ≤ b + 2 := by
  rcases h with (h | ⟨_, h⟩) | ⟨_, h⟩ <;> omega
section
variable {hs : List Str} (hhs : ∀ h ∈ hs, h ∈ hds) {D : Nat}
include hhs
/-- all joints on top gathered -/
theorem gat_D : ∀ (W : List Str) (Ps : List Pt) (r : Pt), okD hs D W Ps → (l1 (2 * (D - cP hs W)) r ∨ (l2 (2 * (D - cP hs W)) r ∧ W.head? ≠ some "and")) →
    ∃ r' Ps', (gat jts W (r :: Ps)).2 = r' :: Ps' ∧ l2 (2 * (D - cP hs W)) r' ∧ okD hs D (gat jts W (r :: Ps)).1 Ps' := by
  intro W
  induction W with
  | nil =>
    intro Ps r _ hr
    exact ⟨r, Ps, rfl, hr.elim .inl (·.1), trivial⟩
  | cons j W ih =>
    intro Ps r hD hr
    by_cases hj : j ∈ jts
    · rw [cP_jo hhs hj] at hr ⊢
      match Ps, hD with
      | [], hD => rw [okD_nil hj] at hD; exact hD.elim
      | l :: Ps, hD =>
        rw [gat_yes hj]
        have hj2 := hj
        simp only [List.mem_cons, List.not_mem_nil, or_false] at hj2
        rcases hj2 with rfl | rfl
        · rw [okD_and] at hD
          have hr1 : l1 (2 * (D - cP hs W)) r := by
            rcases hr with h | ⟨_, h⟩
            · exact h
            · exact absurd rfl h
          exact ih Ps _ hD.2 (.inl (jn_l1 hD.1 hr1))
        · rw [okD_or] at hD
          have hr2 : l2 (2 * (D - cP hs W)) r := hr.elim .inl (·.1)
          exact ih Ps _ hD.2 (.inr ⟨jn_l2 hD.1.1 hr2, hD.1.2⟩)
    · rw [gat_no hj]
      exact ⟨r, Ps, rfl, hr.elim .inl (·.1), hD⟩
theorem gat_DA : ∀ (W : List Str) (Ps : List Pt) (r : Pt), okD hs D W Ps → l1 (2 * (D - cP hs W)) r →
    ∃ r' Ps', (gat ["and"] W (r :: Ps)).2 = r' :: Ps' ∧ l1 (2 * (D - cP hs W)) r' ∧ okD hs D (gat ["and"] W (r :: Ps)).1 Ps' ∧ (gat ["and"] W (r :: Ps)).1.head? ≠ some "and" := by
  intro W
  induction W with
  | nil =>
    intro Ps r _ hr
    exact ⟨r, Ps, rfl, hr, trivial, fun h => nomatch h⟩
  | cons j W ih =>
    intro Ps r hD hr
    by_cases hj : j = "and"
    · subst hj
      rw [cP_jo hhs and_jt] at hr ⊢
      match Ps, hD with
      | [], hD => rw [okD_nil and_jt] at hD; exact hD.elim
      | l :: Ps, hD =>
        rw [gat_yes (List.mem_singleton.mpr rfl)]
        rw [okD_and] at hD
        exact ih Ps _ hD.2 (jn_l1 hD.1 hr)
    · rw [gat_no (fun h => hj (List.mem_singleton.mp h))]
      exact ⟨r, Ps, rfl, hr, hD, fun h => hj (Option.some.inj h)⟩
theorem put_D : ∀ (W : List Str) (Ps : List Pt) (p : Pt), okD hs D W Ps → cP hs W ≤ D → ht p ≤ 2 * (D - cP hs W) → okD hs D (putS hs W p).1 Ps ∧ ht (putS hs W p).2 ≤ 2 * (D - cP hs (putS hs W p).1) := by
  intro W
  induction W with
  | nil => intro Ps p h _ hp; exact ⟨h, hp⟩
  | cons h W ih =>
    intro Ps p hD hc hp
    unfold putS
    by_cases hm : h ∈ hs
    · have h1 := hd_no (hhs h hm)
      rw [if_pos hm]
      have e : cP hs (h :: W) = 1 + cP hs W := by
        show (if h = "(" then 1 else if h ∈ hs then 1 else 0) + cP hs W = _
        rw [if_neg h1.1, if_pos hm]
      rw [okD_no h1.2.1] at hD
      rw [e] at hc hp
      refine ih Ps (.un h p) hD (by omega) ?_
      show ht p + 1 ≤ _
      omega
    · rw [if_neg hm]
      exact ⟨hD, hp⟩
end
end Qp

set_option linter.all false
set_option maxRecDepth 100000
set_option maxHeartbeats 8000000
set_option pp.maxSteps 150
namespace Q2
open PySem PySem.Spec PyProof.Rows L2 Gx Qp Qh
/-! ### texts of conditions -/
abbrev s_encl : Stmt := topS 13
theorem sc_encl : FnScope ["part", "head"] ["part", "head"] (defScope s_encl) := ⟨rfl, rfl, rfl, by decide +kernel, rfl, by decide +kernel, by decide +kernel⟩
abbrev s_tunder : Stmt := topS 14
theorem sc_tunder : FnScope ["part", "head"] ["part", "head"] (defScope s_tunder) := ⟨rfl, rfl, rfl, by decide +kernel, rfl, by decide +kernel, by decide +kernel⟩
abbrev s_tof : Stmt := topS 15
abbrev n_tof : List Str := ["part", "head", "under", "one"]
theorem sc_tof : FnScope n_tof ["part"] (defScope s_tof) := ⟨rfl, rfl, rfl, by decide +kernel, rfl, by decide +kernel, by decide +kernel⟩
structure NmTx (mg : Str → Option Value) (K : PySem.W.Frag) (fe fu ft aj : Addr) : Prop where
  g_encl : mg "is_enclosed" = some (.ref fe)
  k_encl : PySem.W.keepIn K (.ref fe) = true
  g_under : mg "text_under" = some (.ref fu)
  k_under : PySem.W.keepIn K (.ref fu) = true
  g_text : mg "text_of" = some (.ref ft)
  k_text : PySem.W.keepIn K (.ref ft) = true
  g_JOINTS : mg "JOINTS" = some (.ref aj)
  jts : HdK K aj jts
def spEncl : Sp := fun vs H Q _ => ∃ (v : V) (p : Pt) (h : Str), vs = [v, .str h] ∧ PtAt H v p ∧ Q (.bl (encl p h)) H
def spTxt (d : Nat) : Sp := fun vs H Q _ => ∃ (v : V) (p : Pt), vs = [v] ∧ PtAt H v p ∧ wf p = true ∧ ht p < d ∧ Qp.wt p ≤ 1000000 ∧ ∀ H' : Hp, Same H H' → Q (.str (txt p)) H'
def spUnd (d : Nat) : Sp := fun vs H Q _ => ∃ (v : V) (p : Pt) (h : Str), vs = [v, .str h] ∧ PtAt H v p ∧ wf p = true ∧ ht p < d ∧ Qp.wt p ≤ 1000000 ∧ ∀ H' : Hp, Same H H' → Q (.str (undT p h)) H'
section
variable {P : Program} {w : World} {K : PySem.W.Frag} {mg : Str → Option Value} {base : Heap} {fe fu ft aj : Addr}
theorem ok_encl {f : Addr} {fd : FuncData} (F : Fun K "is_enclosed" "is_enclosed" s_encl f fd) (T : NmTx mg K fe fu ft aj) : FnOk P w K mg base CX0 1 f fd ["part", "head"] spEncl := by
  refine F.ok sc_encl (fun vs H Q E h => ?_) (fun cdv A outer s H vs Q E hr h => ?_)
  · obtain ⟨v, p, h, rfl, _⟩ := h
    rfl
  · obtain ⟨v, p, h, rfl, hv, q⟩ := h
    refine ⟨_, pss_one (ps_ret (pe_or (pe_cmpR op_eq (pe_ix ix_tup (pv 0) pe_int (fun _ _ => rfl)) pe_str (nomark _)) (pe_one (pe_and (pe_cmpR op_eq (pe_ix ix_tup (pv 0) pe_int (fun _ _ => rfl)) pe_str (nomark _)) (pe_one (pe_cmpR op_notIn_seq (pv 1) (pe_glob (v := .ref _) rfl T.g_JOINTS rfl) rfl)))))), ?_⟩
    obtain ⟨a, u, rfl, ea⟩ := hv.head
    have dec : ∀ z : Str, decide (V.str (hdP p) = V.str z) = decide (hdP p = z) := fun z => decide_eq_decide.mpr ⟨V.str.inj, congrArg V.str⟩
    refine ⟨_, rfl, a, _, _, _, rfl, rfl, SqT.of ea, atI_nat (j := 0) rfl, rfl, _, rfl, ?_⟩
    unfold encl at q
    rw [dec]
    by_cases h1 : hdP p = "or"
    · rw [decide_eq_true h1] at q ⊢
      exact iteT q
    · rw [decide_eq_false h1] at q ⊢
      refine iteF ⟨_, rfl, a, _, _, _, rfl, rfl, SqT.of ea, atI_nat (j := 0) rfl, rfl, _, rfl, ?_⟩
      rw [dec]
      by_cases h2 : hdP p = "and"
      · rw [decide_eq_true h2] at q ⊢
        refine iteT ⟨_, rfl, aj, _, rfl, .inr (T.jts.at_ H), rfl, flat_strs _, ?_⟩
        rw [if_pos rfl, inV_list]
        exact q
      · rw [decide_eq_false h2] at q ⊢
        exact iteF q
theorem ok_tunder {f : Addr} {fd fde fdt : FuncData} {d k : Nat} (F : Fun K "text_under" "text_under" s_tunder f fd) (T : NmTx mg K fe fu ft aj) (G_encl : FnOk P w K mg base CX0 1 fe fde ["part", "head"] spEncl) (b_encl : Binds K fde ["part", "head"] [])
    (G_text : FnOk P w K mg base CX0 (k + 1) ft fdt ["part"] (spTxt d)) (b_text : Binds K fdt ["part"] []) : FnOk P w K mg base CX0 (k + 1 + 1) f fd ["part", "head"] (spUnd d) := by
  refine F.ok sc_tunder (fun vs H Q E h => ?_) (fun cdv A outer s H vs Q E hr h => ?_)
  · obtain ⟨v, p, h, rfl, _⟩ := h
    rfl
  · obtain ⟨v, p, h, rfl, hv, hw, hd, hz, q⟩ := h
    have hr1 := hr.mono (show 1 ≤ k + 1 by omega)
    refine ⟨_, (pss_cons (ps_if (pt_val (pe_call G_encl hr1 rfl T.g_encl T.k_encl b_encl .nil pass0 (pa_cons (pv 0) (pa_cons (pv 1) pa_nil)))) (pss_one (ps_ret (pe_joined (.cons pe_str (.cons (pe_fmt (pe_call G_text hr rfl T.g_text T.k_text b_text .nil pass0 (pa_cons (pv 0) pa_nil))) (.cons pe_str .nil)))))) pss_nil)
      (pss_one (ps_ret (pe_call G_text hr rfl T.g_text T.k_text b_text .nil pass0 (pa_cons (pv 0) pa_nil))))), ?_⟩
    have hl := txt_len p
    refine ⟨_, rfl, _, rfl, v, p, h, rfl, hv, _, rfl, ?_⟩
    unfold undT at q
    by_cases he : encl p h = true
    · rw [he]
      rw [if_pos he] at q
      refine iteT ?_
      refine ⟨"( ", rfl, by rw [empty_app, sp2, sizeLine_eq]; omega, _, rfl, v, p, rfl, hv, hw, hd, hz, fun H' S => .inl ⟨txt p, rfl, by rw [sizeLine_eq]; omega, ?_⟩⟩
      refine ⟨txt p, rfl, by rw [empty_app, len_app, sp2, sizeLine_eq]; omega, " )", rfl, by rw [empty_app, len_app, len_app, sp2, sp3, sizeLine_eq]; omega, ?_⟩
      rw [empty_app]
      exact q H' S
    · have he' : encl p h = false := by
        cases e : encl p h
        · rfl
        · exact absurd e he
      rw [he']
      rw [if_neg he] at q
      refine iteF ?_
      exact ⟨_, rfl, v, p, rfl, hv, hw, hd, hz, q⟩
theorem ok_tof {fde fdt fdu : FuncData} (F : Fun K "text_of" "text_of" s_tof ft fdt) (Fu : Fun K "text_under" "text_under" s_tunder fu fdu) (T : NmTx mg K fe fu ft aj) (G_encl : FnOk P w K mg base CX0 1 fe fde ["part", "head"] spEncl) (b_encl : Binds K fde ["part", "head"] [])
    (b_text : Binds K fdt ["part"] []) (b_under : Binds K fdu ["part", "head"] []) : ∀ d, FnOk P w K mg base CX0 (2 * d + 1 + 1) ft fdt ["part"] (spTxt d) := by
  intro d
  induction d with
  | zero =>
    exact ⟨fun vs H Q E h => by
      obtain ⟨v, p, rfl, _⟩ := h
      rfl, fun A outer s H args us vs Q E _ _ _ _ h => by
      obtain ⟨v, p, _, _, _, h0, _⟩ := h
      exact absurd h0 (Nat.not_lt_zero _)⟩
  | succ d IH =>
    have G_under := ok_tunder Fu T G_encl b_encl IH b_text
    have G' : FnOk P w K mg base CX0 (2 * d + 1 + 1 + 1 + 1) ft fdt ["part"] (spTxt (d + 1)) := by
      refine F.ok sc_tof (fun vs H Q E h => ?_) (fun cdv A outer s H vs Q E hr h => ?_)
      · obtain ⟨v, p, rfl, _⟩ := h
        rfl
      · obtain ⟨v, p, rfl, hv, hw, hd, hz, q⟩ := h
        refine ⟨_, (pss_cons (ps_asg (pv 0) (pg_tup rfl (pgs_cons (pg_name (i := 1) sc_tof.nd rfl (.inr rfl)) (pgs_cons (pg_name (i := 2) sc_tof.nd rfl (.inl rfl)) pgs_nil))))
          (pss_cons (ps_if (pt_cmpR op_eq (pv 1) pe_str (nomark _)) (pss_one (ps_ret (pe_join pe_str (pv 2)))) pss_nil)
          (pss_cons (ps_if (pt_cmpR op_in_seq (pv 1) (pe_glob (v := .ref _) rfl T.g_JOINTS rfl) rfl) (pss_one (ps_ret (pe_join (pe_joined (.cons pe_str (.cons (pe_fmt (pv 1)) (.cons pe_str .nil)))) (pe_lc (own := [("one", 3)]) (g := gName 3) (tt := tYes) (te := tCall (spUnd d) [] E0 (tCons (tVar 3) (tCons (tVar 1) tNil))) rfl sc_tof.nd (pi_tup (pv 2)) (blkOk_by (own := [("one", 3)]) (N := n_tof) (sc := defScope s_tof) (by decide +kernel)) (fun _ _ _ _ _ => (pg_name (i := 3) sc_tof.nd rfl (.inl rfl))) (fun _ _ _ _ _ => pts_nil)
            (fun _ _ _ _ _ => (pe_call G_under hr rfl T.g_under T.k_under b_under .nil pass0 (pa_cons (pv 3) (pa_cons (pv 1) pa_nil)))))))) pss_nil)
          (pss_one (ps_ret (pe_joined (.cons (pe_fmt (pv 1)) (.cons pe_str (.cons (pe_fmt (pe_call G_under hr rfl T.g_under T.k_under b_under .nil pass0 (pa_cons (pv 2) (pa_cons (pv 1) pa_nil)))) .nil))))))))), ?_⟩
        have hl := txt_len p
        match p, hv, hw, hd, hz, q, hl with
        | .atom ws, hv, hw, hd, hz, q, hl =>
          cases hv with
          | @atom a u _ h1 h2 =>
            refine ⟨_, rfl, a, _, rfl, SqT.of h1, rfl, _, _, rfl, _, _, rfl, rfl, ?_⟩
            refine ⟨_, rfl, rfl, _, rfl, iteT ?_⟩
            refine ⟨⟨_, rfl⟩, _, rfl, _, u, ws, rfl, rfl, .inr (SqT.of h2), ?_, ?_⟩
            · have := lenS_sum ws
              have hz' : 1 + lenS ws ≤ 1000000 := hz
              rw [sp1]
              omega
            · rw [TL.join_eq]
              exact q H (Same.refl _)
        | .un h p0, hv, hw, hd, hz, q, hl =>
          obtain ⟨hm, hw0⟩ := wf_un hw
          cases hv with
          | @un a _ u _ h1 h2 =>
            have hd' : ht p0 + 1 < d + 1 := hd
            have hz' : h.length + 5 + Qp.wt p0 ≤ 1000000 := hz
            have n1 : ¬ h = "atom" := fun e => by
              rw [e] at hm
              exact absurd hm (by decide +kernel)
            have n2 : h ∉ Qp.jts := fun e => by
              simp only [List.mem_cons, List.not_mem_nil, or_false] at hm e
              rcases hm with rfl | rfl | rfl <;> exact absurd e (by decide +kernel)
            refine ⟨_, rfl, a, _, rfl, SqT.of h1, rfl, _, _, rfl, _, _, rfl, rfl, ?_⟩
            refine ⟨_, rfl, rfl, _, rfl, ?_⟩
            rw [decide_eq_false (fun e => n1 (V.str.inj e))]
            refine iteF ⟨_, rfl, aj, _, rfl, .inr (T.jts.at_ H), rfl, flat_strs _, _, rfl, ?_⟩
            rw [if_neg Bool.false_ne_true, inV_list, decide_eq_false n2]
            refine iteF ?_
            have hul := und_len p0 h
            have htl := txt_len p0
            refine ⟨_, rfl, .inl ⟨h, rfl, by rw [sizeLine_eq]; omega, ?_⟩⟩
            refine ⟨h, rfl, by rw [empty_app, sizeLine_eq]; omega, " ", rfl, by rw [empty_app, len_app, sp1, sizeLine_eq]; omega, ?_⟩
            refine ⟨_, rfl, _, rfl, u, p0, h, rfl, h2, hw0, by omega, by omega, fun H' S => .inl ⟨undT p0 h, rfl, by rw [sizeLine_eq]; omega, ?_⟩⟩
            refine ⟨undT p0 h, rfl, by rw [empty_app, len_app, len_app, sp1, sizeLine_eq]; omega, ?_⟩
            rw [empty_app]
            exact q H' S
        | .jo j ps, hv, hw, hd, hz, q, hl =>
          obtain ⟨hm, hw0⟩ := wf_jo hw
          cases hv with
          | @jo a t _ vs _ h1 h2 h3 =>
            have hd' : hts ps + 1 < d + 1 := hd
            have hz' : wts j ps ≤ 1000000 := hz
            have n1 : ¬ j = "atom" := fun e => by
              rw [e] at hm
              exact absurd hm (by decide +kernel)
            have hjl := jts_len2 hm
            have h3l := h3.len
            refine ⟨_, rfl, a, _, rfl, SqT.of h1, rfl, _, _, rfl, _, _, rfl, rfl, ?_⟩
            refine ⟨_, rfl, rfl, _, rfl, ?_⟩
            rw [decide_eq_false (fun e => n1 (V.str.inj e))]
            refine iteF ⟨_, rfl, aj, _, rfl, .inr (T.jts.at_ H), rfl, flat_strs _, _, rfl, ?_⟩
            rw [if_neg Bool.false_ne_true, inV_list, decide_eq_true hm]
            refine iteT ?_
            refine ⟨" ", rfl, by rw [empty_app, sp1, sizeLine_eq]; omega, _, rfl, .inl ⟨j, rfl, by rw [sizeLine_eq]; omega, ?_⟩⟩
            refine ⟨j, rfl, by rw [empty_app, len_app, sp1, sizeLine_eq]; omega, " ", rfl, by rw [empty_app, len_app, len_app, sp1, sizeLine_eq]; omega, ?_⟩
            rw [empty_app]
            refine ⟨⟨_, rfl⟩, _, rfl, t, rfl, ⟨_, SqT.of h2⟩, fun D nD => ?_⟩
            have kp : ∀ {Hi : Hp}, (∀ b o, b ≠ D → H b = some o → Hi b = some o) → Same H Hi := fun k b o e => k b o (ne_of_none e nD) e
            have hts' := txts_len j ps
            have htl := txts_length j ps
            refine lc_tup (K := K) (a := t) (xs := vs) (fun i Hi => (∀ b o, b ≠ D → H b = some o → Hi b = some o) ∧ Hi D = some (.lst (((txts j ps).take i).map V.str)))
              ⟨fun b o z e => (upd_ne z).trans e, upd_same⟩ (fun i Hi _ p => SqT.of ((kp p.1) _ _ h2)) (fun i x Hi hx p => ?_) (fun Hi p => ?_)
            · obtain ⟨p0, hp0, hv0⟩ := h3.get hx
              have hi : i < vs.length := (List.getElem?_eq_some_iff.mp hx).1
              have g1 := hts_get hp0
              have g2 := wfs_get hw0 hp0
              have g3 := wts_get (j := j) hp0
              refine ⟨rfl, keep1' ?_⟩
              refine ⟨_, rfl, _, rfl, x, p0, j, rfl, hv0.mono (fun b xs e => kp p.1 _ _ e), g2, by omega, by omega, fun H2 S2 => ?_⟩
              refine ⟨_, S2 _ _ p.2, ?_, fun b o z e => (upd_ne z).trans (S2 _ _ (p.1 b o z e)), ?_⟩
              · have : vs.length ≤ 1000000 := by
                  have := jts_len j ps
                  omega
                rw [List.length_map, List.length_take, sizeLine_eq]
                omega
              · rw [upd_same, take_snoc (txts_get hp0), List.map_append]
                rfl
            · have eD := p.2
              rw [h3l, ← htl, List.take_length] at eD
              refine ⟨_, D, txts j ps, rfl, rfl, .inl (SqL.of eD), ?_, ?_⟩
              · rw [len_app, len_app, sp1]
                omega
              · rw [TL.join_eq]
                exact q Hi (kp p.1)
    exact G'
end
end Q2

set_option linter.all false
set_option maxRecDepth 100000
set_option maxHeartbeats 8000000
set_option pp.maxSteps 150
namespace Q2
open PySem PySem.Spec PyProof.Rows L2 Gx Qp Qh
/-! ### atoms, outer conditions, depths -/
/-- a walk with any body -/
theorem lc_gen {J : It} {n : Nat} {G : Hp → Prop} {Y : Nat → Hp → V → Hp → Prop} (w : Walk J n G Y) {H0 : Hp} {Qd : Hp → Prop} {B : V → Hp → (Hp → Prop) → Prop} (Pv : Nat → Hp → Prop) (h0 : Pv 0 H0) (hG : ∀ i H, i ≤ n → Pv i H → G H)
    (hs : ∀ i x H H', i < n → Pv i H → Y i H x H' → B x H' (Pv (i + 1))) (hd : ∀ H, Pv n H → Qd H) :
    ∃ W : Nat → Nat → Hp → Prop, (∃ m, W 0 m H0) ∧ ∀ i m H, W i m H → (J.stop i H ∧ Qd H) ∨ (J.go i H ∧ ∃ Nx : Hp → Prop, (∀ H', Nx H' → ∃ m', m' < m ∧ W (i + 1) m' H') ∧ ∀ x H', J.yld i H x H' → B x H' Nx) := by
  refine ⟨fun i m H => m = n - i ∧ i ≤ n ∧ Pv i H, ⟨n, by omega, Nat.zero_le _, h0⟩, ?_⟩
  rintro i m H ⟨rfl, hi, p⟩
  have g := hG i H hi p
  by_cases lt : i < n
  · exact .inr ⟨w.goes i H lt g, Pv (i + 1), fun H' p' => ⟨n - (i + 1), by omega, rfl, lt, p'⟩, fun x H' y => hs i x H H' lt p (w.yields i H x H' lt g y)⟩
  · obtain rfl : i = n := by omega
    exact .inl ⟨w.stops H g, hd H p⟩
abbrev s_ato : Stmt := topS 17
abbrev n_ato : List Str := ["part", "head", "under", "one", "atom"]
theorem sc_ato : FnScope n_ato ["part"] (defScope s_ato) := ⟨rfl, rfl, rfl, by decide +kernel, rfl, by decide +kernel, by decide +kernel⟩
abbrev s_outx : Stmt := topS 18
abbrev n_outx : List Str := ["part", "atom"]
theorem sc_outx : FnScope n_outx ["part"] (defScope s_outx) := ⟨rfl, rfl, rfl, by decide +kernel, rfl, by decide +kernel, by decide +kernel⟩
structure NmAt (mg : Str → Option Value) (K : PySem.W.Frag) (fa ao : Addr) : Prop where
  g_ato : mg "atoms_of" = some (.ref fa)
  k_ato : PySem.W.keepIn K (.ref fa) = true
  g_OUTER : mg "OUTER" = some (.ref ao)
  out : HdK K ao out
def spAts (d : Nat) : Sp := fun vs H Q _ => ∃ (v : V) (p : Pt), vs = [v] ∧ PtAt H v p ∧ wf p = true ∧ ht p < d ∧ Qp.wt p ≤ 1000000 ∧ ∀ (l : Addr) (us : List V) (H' : Hp), Same H H' → H l = none → H' l = some (.lst us) → PtsAt H' us (ats p) → Q (.ref l) H'
def spOutx : Sp := fun vs H Q _ => ∃ (v : V) (p : Pt), vs = [v] ∧ PtAt H v p ∧ wf p = true ∧ ht p < 15 ∧ Qp.wt p ≤ 1000000 ∧ ∀ (l : Addr) (H' : Hp), Same H H' → H l = none → H' l = some (.lst ((outT p).map V.str)) → Q (.ref l) H'
theorem atss_part : ∀ (ps : List Pt) (i : Nat) (p : Pt), ps[i]? = some p → atss (ps.take (i + 1)) = atss (ps.take i) ++ ats p
  | [], i, p, h => by simp at h
  | q :: ps, 0, p, h => by
    cases h
    show ats q ++ atss (ps.take 0) = [] ++ ats q
    rw [List.take_zero]
    show ats q ++ [] = _
    rw [List.append_nil, List.nil_append]
  | q :: ps, i + 1, p, h => by
    have ih := atss_part ps i p h
    show ats q ++ atss (ps.take (i + 1)) = (ats q ++ atss (ps.take i)) ++ ats p
    rw [ih, List.append_assoc]
theorem atss_take (j : Str) (ps : List Pt) (i : Nat) : (atss (ps.take i)).length ≤ wts j ps := by
  have h1 := atss_len j (ps.take i)
  have h2 : ∀ (ps : List Pt) (i : Nat), wts j (ps.take i) ≤ wts j ps := by
    intro ps
    induction ps with
    | nil => intro i; rw [List.take_nil]; exact Nat.le_refl _
    | cons p ps ih =>
      intro i
      cases i with
      | zero => exact Nat.zero_le _
      | succ i =>
        have := ih i
        show wt p + j.length + 6 + wts j (ps.take i) ≤ wt p + j.length + 6 + wts j ps
        omega
  exact Nat.le_trans h1 (h2 ps i)
section
variable {P : Program} {w : World} {K : PySem.W.Frag} {mg : Str → Option Value} {base : Heap} {fe fu ft aj fa ao : Addr}
theorem ok_ato {fda : FuncData} (F : Fun K "atoms_of" "atoms_of" s_ato fa fda) (T : NmTx mg K fe fu ft aj) (TA : NmAt mg K fa ao) (b_ato : Binds K fda ["part"] []) : ∀ d, FnOk P w K mg base CX0 (d + 1) fa fda ["part"] (spAts d) := by
  intro d
  induction d with
  | zero =>
    exact ⟨fun vs H Q E h => by
      obtain ⟨v, p, rfl, _⟩ := h
      rfl, fun A outer s H args us vs Q E _ _ _ _ h => by
      obtain ⟨v, p, _, _, _, h0, _⟩ := h
      exact absurd h0 (Nat.not_lt_zero _)⟩
  | succ d G_ato =>
    refine F.ok sc_ato (fun vs H Q E h => ?_) (fun cdv A outer s H vs Q E hr h => ?_)
    · obtain ⟨v, p, rfl, _⟩ := h
      rfl
    · obtain ⟨v, p, rfl, hv, hw, hd, hz, q⟩ := h
      refine ⟨_, (pss_cons (ps_asg (pv 0) (pg_tup rfl (pgs_cons (pg_name (i := 1) sc_ato.nd rfl (.inl rfl)) (pgs_cons (pg_name (i := 2) sc_ato.nd rfl (.inl rfl)) pgs_nil))))
        (pss_cons (ps_if (pt_cmpR op_eq (pv 1) pe_str (nomark _)) (pss_one (ps_ret (pe_lst (pa_cons (pv 0) pa_nil)))) pss_nil)
        (pss_cons (ps_if (pt_cmpR op_in_seq (pv 1) (pe_glob (v := .ref _) rfl T.g_JOINTS rfl) rfl) (pss_one (ps_ret (pe_lc2 (own := [("one", 3), ("atom", 4)]) (vs1 := [4]) (g := gName 3) (g1 := gName 4) (tt := tYes) (tt1 := tYes) (te := tVar 4) (wi1 := iList K (tCall (spAts d) [] E0 (tCons (tVar 3) tNil))) rfl sc_ato.nd (pi_tup (pv 2)) (blkOk_by (own := [("one", 3), ("atom", 4)]) (N := n_ato) (sc := defScope s_ato) (by decide +kernel)) (by decide) (fun _ _ _ _ _ => (pg_name (i := 3) sc_ato.nd rfl (.inl rfl))) (fun _ _ _ _ _ => pts_nil)
          (fun _ _ _ _ _ => pi_list (pe_call G_ato hr rfl TA.g_ato TA.k_ato b_ato .nil pass0 (pa_cons (pv 3) pa_nil))) (fun _ _ _ _ _ => (pg_name (i := 4) sc_ato.nd rfl (.inl rfl))) (fun _ _ _ _ _ => pts_nil) (fun _ _ _ _ _ => (pv 4))))) pss_nil)
        (pss_cons (ps_if (pt_cmpR op_in_seq (pv 1) (pe_glob (v := .ref _) rfl TA.g_OUTER rfl) rfl) (pss_one (ps_ret (pe_op op_cat (pe_lst (pa_cons (pv 0) pa_nil)) (pe_call G_ato hr rfl TA.g_ato TA.k_ato b_ato .nil pass0 (pa_cons (pv 2) pa_nil))))) pss_nil)
        (pss_one (ps_ret (pe_call G_ato hr rfl TA.g_ato TA.k_ato b_ato .nil pass0 (pa_cons (pv 2) pa_nil)))))))), ?_⟩
      match p, hv, hw, hd, hz, q with
      | .atom ws, hv, hw, hd, hz, q =>
        have hv0 := hv
        cases hv with
        | @atom a u _ h1 h2 =>
          refine ⟨_, rfl, a, _, rfl, SqT.of h1, rfl, _, _, rfl, _, _, rfl, rfl, ?_⟩
          refine ⟨_, rfl, rfl, _, rfl, iteT ?_⟩
          refine ⟨_, rfl, (by show 1 ≤ sizeLine; decide), fun l nl => ?_⟩
          exact q l _ _ (new_same nl) nl upd_same (.cons (hv0.mono fun b xs e => new_same nl _ _ e) .nil)
      | .un h p0, hv, hw, hd, hz, q =>
        have hv0 := hv
        obtain ⟨hm, hw0⟩ := wf_un hw
        cases hv with
        | @un a _ u _ h1 h2 =>
          have hd' : ht p0 + 1 < d + 1 := hd
          have hz' : h.length + 5 + Qp.wt p0 ≤ 1000000 := hz
          have n1 : ¬ h = "atom" := fun e => by
            rw [e] at hm
            exact absurd hm (by decide +kernel)
          have n2 : h ∉ Qp.jts := fun e => by
            simp only [List.mem_cons, List.not_mem_nil, or_false] at hm e
            rcases hm with rfl | rfl | rfl <;> exact absurd e (by decide +kernel)
          refine ⟨_, rfl, a, _, rfl, SqT.of h1, rfl, _, _, rfl, _, _, rfl, rfl, ?_⟩
          refine ⟨_, rfl, rfl, _, rfl, ?_⟩
          rw [decide_eq_false (fun e => n1 (V.str.inj e))]
          refine iteF ⟨_, rfl, aj, _, rfl, .inr (T.jts.at_ H), rfl, flat_strs _, _, rfl, ?_⟩
          rw [if_neg Bool.false_ne_true, inV_list, decide_eq_false n2]
          refine iteF ⟨_, rfl, ao, _, rfl, .inr (TA.out.at_ H), rfl, flat_strs _, _, rfl, ?_⟩
          rw [if_neg Bool.false_ne_true, inV_list]
          have hal := ats_len p0
          have hats : ats (.un h p0) = (if h ∈ Qp.out then [Pt.un h p0] else []) ++ ats p0 := rfl
          rw [hats] at q
          by_cases ho : h ∈ Qp.out
          · rw [decide_eq_true ho]
            rw [if_pos ho] at q
            refine iteT ?_
            refine ⟨_, rfl, (by show 1 ≤ sizeLine; decide), fun l1 nl1 => ?_⟩
            have S1 := new_same (o := .lst [.ref a]) nl1
            have e1 : upd H l1 (.lst [.ref a]) l1 = some (.lst [.ref a]) := upd_same
            generalize upd H l1 (.lst [.ref a]) = H1 at *
            refine ⟨_, rfl, u, p0, rfl, h2.mono (fun b xs e => S1 _ _ e), hw0, by omega, by omega, fun l2 us H2 S2 nl2 e2 hus => ?_⟩
            have hul := hus.len
            refine ⟨l1, l2, _, _, rfl, rfl, S2 _ _ e1, e2, by rw [sizeLine_eq]; show 1 + _ ≤ _; omega, fun l3 nl3 => ?_⟩
            have S3 := new_same (o := .lst ([V.ref a] ++ us)) nl3
            have S13 := S1.trans (S2.trans S3)
            exact q l3 _ _ S13 (S1.free (S2.free nl3)) upd_same (.cons (hv0.mono fun b xs e => S13 _ _ e) (hus.mono fun b xs e => S3 _ _ e))
          · rw [decide_eq_false ho]
            rw [if_neg ho] at q
            refine iteF ?_
            exact ⟨_, rfl, u, p0, rfl, h2, hw0, by omega, by omega, q⟩
      | .jo j ps, hv, hw, hd, hz, q =>
        obtain ⟨hm, hw0⟩ := wf_jo hw
        cases hv with
        | @jo a t _ vs _ h1 h2 h3 =>
          have hd' : hts ps + 1 < d + 1 := hd
          have hz' : wts j ps ≤ 1000000 := hz
          have n1 : ¬ j = "atom" := fun e => by
            rw [e] at hm
            exact absurd hm (by decide +kernel)
          have h3l := h3.len
          refine ⟨_, rfl, a, _, rfl, SqT.of h1, rfl, _, _, rfl, _, _, rfl, rfl, ?_⟩
          refine ⟨_, rfl, rfl, _, rfl, ?_⟩
          rw [decide_eq_false (fun e => n1 (V.str.inj e))]
          refine iteF ⟨_, rfl, aj, _, rfl, .inr (T.jts.at_ H), rfl, flat_strs _, _, rfl, ?_⟩
          rw [if_neg Bool.false_ne_true, inV_list, decide_eq_true hm]
          refine iteT ?_
          refine ⟨_, rfl, t, rfl, ⟨_, SqT.of h2⟩, fun D nD => ?_⟩
          have kp : ∀ {Hi : Hp}, (∀ b o, b ≠ D → H b = some o → Hi b = some o) → Same H Hi := fun k b o e => k b o (ne_of_none e nD) e
          have tkD : ∀ {Hi : Hp} {xs : List V} (o : HO), Hi D = some (.lst xs) → ∀ b us, Hi b = some (.tup us) → upd Hi D o b = some (.tup us) := fun o e b us eb => (upd_ne (ne_of eb e fun z => nomatch z)).trans eb
          refine lc_gen (walk_tup (K := K) (a := t) (xs := vs)) (fun i Hi => (∀ b o, b ≠ D → H b = some o → Hi b = some o) ∧ ∃ us, Hi D = some (.lst us) ∧ PtsAt Hi us (atss (ps.take i)))
            ⟨fun b o z e => (upd_ne z).trans e, [], upd_same, .nil⟩ (fun i Hi _ p => SqT.of ((kp p.1) _ _ h2)) (fun i x Hi Hi' hi p y => ?_) (fun Hi p => ?_)
          · obtain ⟨rfl, hx⟩ := y
            obtain ⟨k1, us, eD, hus⟩ := p
            obtain ⟨p0, hp0, hv0⟩ := h3.get hx
            have g1 := hts_get hp0
            have g2 := wfs_get hw0 hp0
            have g3 := wts_get (j := j) hp0
            refine ⟨rfl, keep1' ?_⟩
            refine ⟨_, rfl, x, p0, rfl, hv0.mono (fun b xs e => kp k1 _ _ e), g2, by omega, by omega, fun l ls H2 S2 nl el hls => ⟨l, rfl, ⟨_, SqL.of el⟩, ?_⟩⟩
            have hll := hls.len
            have hal := ats_len p0
            have lD : l ≠ D := fun e => by rw [e, eD] at nl; cases nl
            refine lc_gen (walk_list (K := K) (a := l) (xs := ls)) (fun u Hu => (∀ b o, b ≠ D → H2 b = some o → Hu b = some o) ∧ Hu D = some (.lst (us ++ ls.take u)))
              ⟨fun b o _ e => e, by rw [List.take_zero, List.append_nil]; exact S2 _ _ eD⟩ (fun u Hu _ p => SqL.of (p.1 _ _ lD el)) (fun u y Hu Hu' hu p yy => ?_) (fun Hu p => ?_)
            · obtain ⟨rfl, hy⟩ := yy
              refine ⟨rfl, keep1' ?_⟩
              refine ⟨_, rfl, _, p.2, ?_, fun b o z e => (upd_ne z).trans (p.1 b o z e), ?_⟩
              · have h4 := hus.len
                have h5 := atss_take j ps i
                rw [List.length_append, List.length_take, sizeLine_eq]
                omega
              · rw [upd_same, take_snoc hy, List.append_assoc]
            · obtain ⟨k2, e2⟩ := p
              rw [List.take_length] at e2
              have tk : ∀ b xs, H2 b = some (.tup xs) → Hu b = some (.tup xs) := fun b xs e => k2 b _ (ne_of e (S2 _ _ eD) fun z => nomatch z) e
              refine ⟨fun b o z e => k2 b o z (S2 _ _ (k1 b o z e)), us ++ ls, e2, ?_⟩
              rw [atss_part ps i p0 hp0]
              exact (hus.mono fun b xs e => tk _ _ (S2 _ _ e)).app (hls.mono tk)
          · obtain ⟨k1, us, eD, hus⟩ := p
            rw [h3l, List.take_length] at hus
            exact q D us Hi (kp k1) nD eD hus
end
end Q2

set_option linter.all false
set_option maxRecDepth 100000
set_option maxHeartbeats 8000000
set_option pp.maxSteps 150
namespace Q2
open PySem PySem.Spec PyProof.Rows L2 Gx Qp Qh
def ttOutx (K : PySem.W.Frag) (ao : Addr) : TT := tTest (tOp (rIn K false) (tOp (rIxT K) (tVar 1) (tC (.int 0))) (tC (.ref ao)))
abbrev s_depth : Stmt := topS 16
abbrev n_depth : List Str := ["words", "deepest", "held", "depth", "heads", "word"]
theorem sc_depth : FnScope n_depth ["words"] (defScope s_depth) := ⟨rfl, rfl, rfl, by decide +kernel, rfl, by decide +kernel, by decide +kernel⟩
structure NmDp (mg : Str → Option Value) (K : PySem.W.Frag) (ah : Addr) : Prop where
  g_HEADS : mg "HEADS" = some (.ref ah)
  hds : HdK K ah hds
  n_max : mg "max" = none
/-- no parenthesis closes that was not opened -/
def bal : Nat → List Str → Prop
  | _, [] => True
  | n, w :: ws => if w ∈ hds then bal n ws else if w = "(" then bal (n + 1) ws else if w = ")" then 0 < n ∧ bal (n - 1) ws else bal n ws
def spDepth (K : PySem.W.Frag) : Sp := fun vs H Q _ => ∃ (l : Addr) (ws : List Str), vs = [.ref l] ∧ SqL K H l (ws.map V.str) ∧ bal 0 ws ∧ ws.length ≤ 10000 ∧ ∀ H' : Hp, Same H H' → Q (.int (depthW ws : Nat)) H'
theorem drun_snoc (d : DS) (ws : List Str) (w : Str) : drun d (ws ++ [w]) = dstep (drun d ws) w := by
  induction ws generalizing d with
  | nil => rfl
  | cons x ws ih => exact ih (dstep d x)
theorem max_eq (a b : Nat) : (if ((b : Nat) : Int) > ((a : Nat) : Int) then ((b : Nat) : Int) else ((a : Nat) : Int)) = ((max a b : Nat) : Int) := by
  split <;> omega
section
variable {P : Program} {w : World} {K : PySem.W.Frag} {mg : Str → Option Value} {base : Heap} {fe fu ft aj fa ao ah : Addr}
theorem ok_outx {f : Addr} {fd fda fdt : FuncData} (F : Fun K "outer_texts" "outer_texts" s_outx f fd) (T : NmTx mg K fe fu ft aj) (TA : NmAt mg K fa ao) (G_ato : FnOk P w K mg base CX0 16 fa fda ["part"] (spAts 15)) (b_ato : Binds K fda ["part"] [])
    (G_text : FnOk P w K mg base CX0 32 ft fdt ["part"] (spTxt 15)) (b_text : Binds K fdt ["part"] []) : FnOk P w K mg base CX0 33 f fd ["part"] spOutx := by
  refine F.ok sc_outx (fun vs H Q E h => ?_) (fun cdv A outer s H vs Q E hr h => ?_)
  · obtain ⟨v, p, rfl, _⟩ := h
    rfl
  · obtain ⟨v, p, rfl, hv, hw, hd, hz, q⟩ := h
    refine ⟨_, (pss_one (ps_ret (pe_lc (own := [("atom", 1)]) (g := gName 1) (tt := ttOutx K ao) (te := tCall (spTxt 15) [] E0 (tCons (tOp (rIxT K) (tVar 1) (tC (.int 1))) tNil)) rfl sc_outx.nd (pi_list (pe_call G_ato (hr.mono (by decide)) rfl TA.g_ato TA.k_ato b_ato .nil pass0 (pa_cons (pv 0) pa_nil))) (blkOk_by (own := [("atom", 1)]) (N := n_outx) (sc := defScope s_outx) (by decide +kernel)) (fun _ _ _ _ _ => (pg_name (i := 1) sc_outx.nd rfl (.inl rfl)))
      (fun _ _ _ _ _ => (pts_one (pt_cmpR op_in_seq (pe_ix ix_tup (pv 1) pe_int (fun _ _ => rfl)) (pe_glob (v := .ref _) rfl TA.g_OUTER rfl) rfl))) (fun _ _ _ _ _ => (pe_call G_text hr rfl T.g_text T.k_text b_text .nil pass0 (pa_cons (pe_ix ix_tup (pv 1) pe_int (fun _ _ => rfl)) pa_nil)))))), ?_⟩
    refine ⟨_, rfl, v, p, rfl, hv, hw, hd, hz, fun l us H1 S1 nl el hus => ⟨l, rfl, ⟨_, SqL.of el⟩, fun D nD => ?_⟩⟩
    have kp : ∀ {Hi : Hp}, (∀ b o, b ≠ D → H1 b = some o → Hi b = some o) → Same H1 Hi := fun k b o e => k b o (ne_of_none e nD) e
    have hul := hus.len
    have hal := ats_len p
    refine lc_list (K := K) (a := l) (xs := us) (fun i Hi => (∀ b o, b ≠ D → H1 b = some o → Hi b = some o) ∧ Hi D = some (.lst (((((ats p).take i).filter isOut).map underT).map V.str)))
      ⟨fun b o z e => (upd_ne z).trans e, upd_same⟩ (fun i Hi _ p => SqL.of ((kp p.1) _ _ el)) (fun i x Hi hx p' => ?_) (fun Hi p' => ?_)
    · obtain ⟨a0, ha0, hva⟩ := hus.get hx
      have hi : i < us.length := (List.getElem?_eq_some_iff.mp hx).1
      obtain ⟨w1, w2, w3⟩ := ats_in p hw a0 (List.mem_of_getElem? ha0)
      have hva' := hva.mono fun b xs e => (kp p'.1) _ _ e
      have hfl := List.length_filter_le isOut ((ats p).take i)
      rw [List.length_take] at hfl
      refine ⟨rfl, ?_⟩
      have no : isOut a0 = false → (∀ b o, b ≠ D → H1 b = some o → Hi b = some o) ∧ Hi D = some (.lst (((((ats p).take (i + 1)).filter isOut).map underT).map V.str)) := fun hf => by
        refine ⟨p'.1, ?_⟩
        rw [p'.2, take_snoc ha0, List.filter_append, List.filter_cons_of_neg (by rw [hf]; exact Bool.false_ne_true), List.filter_nil, List.append_nil]
      match a0, hva', ha0, w1, w2, w3, no with
      | .atom ws, hva', _, _, _, _, no =>
        cases hva' with
        | @atom a u _ h1 h2 =>
          refine ⟨_, rfl, a, _, _, _, rfl, rfl, SqT.of h1, atI_nat (j := 0) rfl, ao, _, rfl, .inr (TA.out.at_ Hi), rfl, flat_strs _, _, rfl, ?_⟩
          rw [if_neg Bool.false_ne_true, inV_list, decide_eq_false (by decide +kernel)]
          exact no rfl
      | .jo j ps, hva', _, w1, _, _, no =>
        cases hva' with
        | @jo a u _ vs' _ h1 h2 _ =>
          have hm := (wf_jo w1).1
          have n1 : j ∉ Qp.out := fun e => by
            simp only [List.mem_cons, List.not_mem_nil, or_false] at hm e
            rcases hm with rfl | rfl <;> exact absurd e (by decide +kernel)
          refine ⟨_, rfl, a, _, _, _, rfl, rfl, SqT.of h1, atI_nat (j := 0) rfl, ao, _, rfl, .inr (TA.out.at_ Hi), rfl, flat_strs _, _, rfl, ?_⟩
          rw [if_neg Bool.false_ne_true, inV_list, decide_eq_false n1]
          exact no rfl
      | .un h p0, hva', ha0, w1, w2, w3, no =>
        cases hva' with
        | @un a _ u _ h1 h2 =>
          have hw0 := (wf_un w1).2
          refine ⟨_, rfl, a, _, _, _, rfl, rfl, SqT.of h1, atI_nat (j := 0) rfl, ao, _, rfl, .inr (TA.out.at_ Hi), rfl, flat_strs _, _, rfl, ?_⟩
          rw [if_neg Bool.false_ne_true, inV_list]
          by_cases hm : h ∈ Qp.out
          · rw [decide_eq_true hm]
            have w3' : ht p0 + 1 ≤ ht p := w3
            have w2' : h.length + 5 + Qp.wt p0 ≤ Qp.wt p := w2
            refine ⟨_, rfl, a, _, _, _, rfl, rfl, SqT.of h1, atI_nat (j := 1) rfl, u, p0, rfl, h2, hw0, by omega, by omega, fun H2 S2 => ?_⟩
            refine ⟨_, S2 _ _ p'.2, ?_, fun b o z e => (upd_ne z).trans (S2 _ _ (p'.1 b o z e)), ?_⟩
            · rw [List.length_map, List.length_map, sizeLine_eq]
              omega
            · rw [upd_same, take_snoc ha0, List.filter_append, List.filter_cons_of_pos (show isOut (.un h p0) = true from decide_eq_true hm), List.filter_nil, List.map_append, List.map_append]
              rfl
          · rw [decide_eq_false hm]
            exact no (decide_eq_false hm)
    · have eD := p'.2
      rw [hul, List.take_length] at eD
      exact q D Hi (S1.trans (kp p'.1)) (S1.free nD) eD
theorem ok_depth {f : Addr} {fd : FuncData} (F : Fun K "depth_of" "depth_of" s_depth f fd) (T : NmDp mg K ah) : FnOk P w K mg base CX0 1 f fd ["words"] (spDepth K) := by
  refine F.ok sc_depth (fun vs H Q E h => ?_) (fun cdv A outer s H vs Q E hr h => ?_)
  · obtain ⟨l, ws, rfl, _⟩ := h
    rfl
  · obtain ⟨l, ws, rfl, hl, hb, hn, q⟩ := h
    refine ⟨_, (pss_cons (ps_set (i := 1) sc_depth.nd rfl (.inl rfl) pe_int)
      (pss_cons (ps_set (i := 2) sc_depth.nd rfl (.inl rfl) (pe_lst pa_nil))
      (pss_cons (ps_set (i := 3) sc_depth.nd rfl (.inl rfl) pe_int)
      (pss_cons (ps_set (i := 4) sc_depth.nd rfl (.inl rfl) pe_int)
      (pss_cons (ps_for PassesOwn.never rfl (pi_list (pv 0)) (pg_name (i := 5) sc_depth.nd rfl (.inl rfl))
        (C8.pss_cut (ps_if (pt_cmpR op_in_seq (pv 5) (pe_glob (v := .ref _) rfl T.g_HEADS rfl) rfl) (pss_one (ps_aug (i := 4) sc_depth.nd rfl (.inl rfl) pe_int ip_add))
          (pss_one (ps_if (pt_cmpR op_eq (pv 5) pe_str (nomark _)) (pss_cons (ps_expr (pe_bm PySem.F.plainAttrs_list PySem.F.slot_list_append PySem.F.type_list_append mt_append (pv 2) (pa_cons (pe_op op_add (pv 4) pe_int) pa_nil)))
              (pss_cons (ps_set (i := 3) sc_depth.nd rfl (.inl rfl) (pe_op op_add (pe_op op_add (pv 3) (pv 4)) pe_int))
              (pss_one (ps_set (i := 4) sc_depth.nd rfl (.inl rfl) pe_int))))
            (pss_cons (ps_if (pt_cmpR op_eq (pv 5) pe_str (nomark _)) (pss_one (ps_set (i := 3) sc_depth.nd rfl (.inl rfl) (pe_op op_sub (pv 3) (pe_bm0 PySem.F.plainAttrs_list PySem.F.slot_list_pop PySem.F.type_list_pop mt_pop (pv 2))))) pss_nil)
            (pss_one (ps_set (i := 4) sc_depth.nd rfl (.inl rfl) pe_int))))))
        (pss_one (ps_set (i := 1) sc_depth.nd rfl (.inl rfl) (pe_callB (call_max2 rfl) (by rfl) T.n_max (by decide +kernel) (pa_cons (pv 1) (pa_cons (pe_op op_add (pv 3) (pv 4)) pa_nil)))))))
      (pss_one (ps_ret (pv 1)))))))), ?_⟩
    refine ⟨Nat.zero_le _, fun Lh nL => ?_⟩
    have S1 := new_same (o := .lst []) nL
    have eL : upd H Lh (.lst []) Lh = some (.lst []) := upd_same
    generalize upd H Lh (.lst []) = H1 at *
    have hl1 := S1.seq hl
    refine ⟨_, rfl, l, rfl, ⟨_, hl1⟩, ?_⟩
    have kp : ∀ {Hi : Hp}, (∀ b o, b ≠ Lh → H1 b = some o → Hi b = some o) → Same H Hi := fun k b o e => k b o (ne_of_none e nL) (S1 _ _ e)
    refine for_list (K := K) (a := l) (xs := ws.map V.str) (fun i σ Hi => (∀ b o, b ≠ Lh → H1 b = some o → Hi b = some o) ∧ ∃ (d : DS) (b5 : Option V), d = drun ⟨0, [], 0, 0⟩ (ws.take i) ∧ σ = [some (.ref l), some (.int (d.deepest : Nat)), some (.ref Lh), some (.int (d.depth : Nat)), some (.int (d.heads : Nat)), b5] ∧ Hi Lh = some (.lst (d.held.map fun n => V.int (n : Nat)).reverse) ∧ d.depth = d.held.sum ∧ bal d.held.length (ws.drop i) ∧ d.held.length ≤ i)
      ⟨fun _ _ _ e => e, ⟨0, [], 0, 0⟩, none, rfl, rfl, eL, rfl, hb, Nat.le_refl _⟩ (fun i σ Hi _ p => (kp p.1).seq hl) (fun i x σ Hi hx p => ?_) (fun σ Hi p => ?_)
    · obtain ⟨k1, d, b5, hd, rfl, eH, hsum, hbal, hhl⟩ := p
      obtain ⟨wd, hwd, rfl⟩ := map_get hx
      have hi : i < ws.length := (List.getElem?_eq_some_iff.mp hwd).1
      have hdrop : ws.drop i = wd :: ws.drop (i + 1) := by
        rw [List.drop_eq_getElem_cons hi, (List.getElem?_eq_some_iff.mp hwd).2]
      rw [hdrop] at hbal
      have hnext : drun ⟨0, [], 0, 0⟩ (ws.take (i + 1)) = dstep d wd := by rw [take_snoc hwd, drun_snoc, ← hd]
      refine ⟨fun σ Hx => (∀ b o, b ≠ Lh → H1 b = some o → Hx b = some o) ∧ ∃ (dep hd' : Nat) (hl' : List Nat), σ = [some (.ref l), some (.int (d.deepest : Nat)), some (.ref Lh), some (.int (dep : Nat)), some (.int (hd' : Nat)), some (.str wd)] ∧ dstep d wd = ⟨max d.deepest (dep + hd'), hl', dep, hd'⟩ ∧ Hx Lh = some (.lst (hl'.map fun n => V.int (n : Nat)).reverse) ∧ dep = hl'.sum ∧ bal hl'.length (ws.drop (i + 1)) ∧ hl'.length ≤ i + 1, ?_, ?_⟩
      rotate_left
      · rintro σ Hx ⟨kx, dep, hd', hl', rfl, hst, eX, hs', hb', hle⟩
        refine ⟨_, rfl, _, rfl, _, rfl, _, _, rfl, rfl, _, _, rfl, kx, dstep d wd, some (.str wd), hnext.symm, ?_, ?_, ?_, ?_, ?_⟩
        · rw [hst]
          have e1 : ((dep : Nat) : Int) + ((hd' : Nat) : Int) = ((dep + hd' : Nat) : Int) := (Int.natCast_add _ _).symm
          show [some (V.ref l), some (V.int (if ((dep : Nat) : Int) + ((hd' : Nat) : Int) > ((d.deepest : Nat) : Int) then ((dep : Nat) : Int) + ((hd' : Nat) : Int) else ((d.deepest : Nat) : Int))), some (V.ref Lh), some (V.int ((dep : Nat) : Int)), some (V.int ((hd' : Nat) : Int)), some (V.str wd)] = _
          rw [e1, max_eq]
        · rw [hst]
          exact eX
        · rw [hst]
          exact hs'
        · rw [hst]
          exact hb'
        · rw [hst]
          exact hle
      refine ⟨_, rfl, ah, _, rfl, .inr (T.hds.at_ Hi), rfl, flat_strs _, _, rfl, ?_⟩
      rw [if_neg Bool.false_ne_true, inV_list]
      by_cases h1 : wd ∈ Qp.hds
      · rw [decide_eq_true h1]
        refine iteT ?_
        have hb2 : bal d.held.length (ws.drop (i + 1)) := by
          have := hbal
          unfold bal at this
          rw [if_pos h1] at this
          exact this
        refine ⟨_, rfl, _, _, rfl, rfl, k1, d.depth, d.heads + 1, d.held, rfl, ?_, eH, hsum, hb2, by omega⟩
        unfold dstep
        rw [if_pos h1]
      · rw [decide_eq_false h1]
        refine iteF ?_
        refine ⟨_, rfl, rfl, _, rfl, ite2 (fun h => ?_) (fun h => ?_)⟩
        · have h2 : wd = "(" := V.str.inj (of_decide_eq_true h)
          have hb2 : bal (d.held.length + 1) (ws.drop (i + 1)) := by
            have := hbal
            unfold bal at this
            rw [if_neg h1, if_pos h2] at this
            exact this
          refine ⟨_, rfl, .inl ⟨rfl, _, SqL.of eH⟩, _, rfl, _, _, rfl, rfl, Lh, _, _, rfl, rfl, eH, by rw [List.length_reverse, List.length_map, sizeLine_eq]; omega, ?_⟩
          refine ⟨_, rfl, _, rfl, _, _, rfl, rfl, _, _, rfl, rfl, fun b o z e => (upd_ne z).trans (k1 b o z e), d.depth + d.heads + 1, 0, (d.heads + 1) :: d.held, ?_, ?_, ?_, ?_, hb2, by rw [List.length_cons]; omega⟩
          · rfl
          · unfold dstep
            rw [if_neg h1, if_pos h2]
          · rw [upd_same, List.map_cons, List.reverse_cons]
            rfl
          · rw [List.sum_cons]
            omega
        · have h2 : ¬ wd = "(" := fun e => h (by rw [e]; exact decide_eq_true rfl)
          refine ⟨_, rfl, rfl, _, rfl, ite2 (fun h => ?_) (fun h => ?_)⟩
          · have h3 : wd = ")" := V.str.inj (of_decide_eq_true h)
            have hb2 : 0 < d.held.length ∧ bal (d.held.length - 1) (ws.drop (i + 1)) := by
              have := hbal
              unfold bal at this
              rw [if_neg h1, if_neg h2, if_pos h3] at this
              exact this
            cases hh : d.held with
            | nil => rw [hh] at hb2; exact absurd hb2.1 (by simp)
            | cons x xs =>
              rw [hh] at eH hsum hb2 hhl
              rw [List.sum_cons] at hsum
              rw [List.length_cons] at hhl
              have eH' : Hi Lh = some (.lst (V.int (x : Nat) :: xs.map fun n => V.int (n : Nat)).reverse) := eH
              refine ⟨_, rfl, _, rfl, .inl ⟨rfl, _, SqL.of eH'⟩, Lh, _, _, rfl, rfl, eH', rev_last _ _, ?_⟩
              refine ⟨_, _, rfl, rfl, fun b o z e => (upd_ne z).trans (k1 b o z e), d.depth - x, 0, xs, ?_, ?_, upd_same.trans (by rw [rev_drop]), by omega, hb2.2, by omega⟩
              · show [some (V.ref l), some (V.int (d.deepest : Nat)), some (V.ref Lh), some (V.int (((d.depth : Nat) : Int) - ((x : Nat) : Int))), some (V.int 0), some (V.str wd)] = _
                rw [show ((d.depth : Nat) : Int) - ((x : Nat) : Int) = ((d.depth - x : Nat) : Int) from by omega]
                rfl
              · unfold dstep
                rw [if_neg h1, if_neg h2, if_pos h3, hh]
                rfl
          · have h3 : ¬ wd = ")" := fun e => h (by rw [e]; exact decide_eq_true rfl)
            have hb2 : bal d.held.length (ws.drop (i + 1)) := by
              have := hbal
              unfold bal at this
              rw [if_neg h1, if_neg h2, if_neg h3] at this
              exact this
            refine ⟨k1, d.depth, 0, d.held, rfl, ?_, eH, hsum, hb2, by omega⟩
            unfold dstep
            rw [if_neg h1, if_neg h2, if_neg h3]
    · obtain ⟨k1, d, b5, hd, rfl, eH, hsum, hbal, hhl⟩ := p
      rw [List.length_map, List.take_length] at hd
      refine ⟨_, rfl, ?_⟩
      have := q Hi (kp k1)
      unfold depthW at this
      rw [← hd] at this
      exact this
end
end Q2

set_option linter.all false
set_option maxRecDepth 100000
set_option maxHeartbeats 4000000
set_option pp.maxSteps 200
/-! the words of questions, step by step -/
namespace Qp
open PySem L2 Gx Q2
abbrev kws : List Str := ["is", "earlier", "later"]
theorem slB_no {a w : Str} (h : a ≠ "K") : slB (a, w) = decide (w = a) := if_neg h
theorem fits_one {a w : Str} {f : List Str} (h : a ≠ "K") : fitsB (a :: f) [w] = decide (w = a) := by
  show (((a, w) :: f.zip []).all slB) = _
  rw [List.zip_nil_right, List.all_cons, List.all_nil, Bool.and_true, slB_no h]
theorem fits_two {a x w : Str} (h : a ≠ "K") : fitsB [a, "K"] [x, w] = (decide (x = a) && kindB w) := by
  show (([(a, x), ("K", w)] : List (Str × Str)).all slB) = _
  rw [List.all_cons, List.all_cons, List.all_nil, Bool.and_true, slB_no h]
  rfl
theorem nK1 : ("is" : Str) ≠ "K" := by decide +kernel
theorem nK2 : ("root" : Str) ≠ "K" := by decide +kernel
theorem nK3 : ("earlier" : Str) ≠ "K" := by decide +kernel
theorem nK4 : ("later" : Str) ≠ "K" := by decide +kernel
abbrev f_is : List Str := ["is", "K"]
abbrev f_root : List Str := ["root"]
abbrev f_ear : List Str := ["earlier", "K"]
abbrev f_lat : List Str := ["later", "K"]
theorem filt1 (w : Str) : qfs.filter (fun f => fitsB f [w]) = (if w = "is" then [f_is] else []) ++ ((if w = "root" then [f_root] else []) ++ ((if w = "earlier" then [f_ear] else []) ++ (if w = "later" then [f_lat] else []))) := by
  have one : ∀ (f : List Str) (fs : List (List Str)) (b : Bool), fitsB f [w] = b → (f :: fs).filter (fun f => fitsB f [w]) = (if b = true then [f] else []) ++ fs.filter (fun f => fitsB f [w]) := fun f fs b e => by
    rw [List.filter_cons, e]
    cases b <;> rfl
  rw [show qfs = [f_is, f_root, f_ear, f_lat] from rfl, one _ _ _ (fits_one nK1), one _ _ _ (fits_one nK2), one _ _ _ (fits_one nK3), one _ _ _ (fits_one nK4), List.filter_nil, List.append_nil]
  simp only [decide_eq_true_eq]
theorem filt2 {x w : Str} : qfs.filter (fun f => fitsB f [x, w]) = (if x = "is" ∧ kindB w = true then [f_is] else []) ++ ((if x = "root" then [f_root] else []) ++ ((if x = "earlier" ∧ kindB w = true then [f_ear] else []) ++ (if x = "later" ∧ kindB w = true then [f_lat] else []))) := by
  have one : ∀ (f : List Str) (fs : List (List Str)) (b : Bool), fitsB f [x, w] = b → (f :: fs).filter (fun f => fitsB f [x, w]) = (if b = true then [f] else []) ++ fs.filter (fun f => fitsB f [x, w]) := fun f fs b e => by
    rw [List.filter_cons, e]
    cases b <;> rfl
  have r1 : fitsB ["root"] [x, w] = decide (x = "root") := by
    show (([("root", x)] : List (Str × Str)).all slB) = _
    rw [List.all_cons, List.all_nil, Bool.and_true, slB_no nK2]
  rw [show qfs = [f_is, f_root, f_ear, f_lat] from rfl, one _ _ _ (fits_two nK1), one _ _ _ r1, one _ _ _ (fits_two nK3), one _ _ _ (fits_two nK4), List.filter_nil, List.append_nil]
  simp only [decide_eq_true_eq, Bool.and_eq_true]
theorem takeA_root {st : RS} (hb : st.begun = []) : takeA qfs hds st "root" = some (put hds st.wait st.parts (.atom ["root"])) := by
  unfold takeA
  rw [hb, List.nil_append, filt1]
  rfl
theorem takeA_kw {st : RS} {w : Str} (hb : st.begun = []) (h : w ∈ kws) : takeA qfs hds st w = some { st with begun := [w] } := by
  unfold takeA
  rw [hb, List.nil_append, filt1]
  simp only [List.mem_cons, List.not_mem_nil, or_false] at h
  rcases h with rfl | rfl | rfl <;> rfl
theorem takeA_none {st : RS} {w : Str} (hb : st.begun = []) (h : w ∉ kws) (hr : w ≠ "root") : takeA qfs hds st w = none := by
  unfold takeA
  rw [hb, List.nil_append, filt1]
  simp only [List.mem_cons, List.not_mem_nil, or_false, not_or] at h
  rw [if_neg h.1, if_neg hr, if_neg h.2.1, if_neg h.2.2]
  rfl
theorem takeA_kind {st : RS} {x w : Str} (hb : st.begun = [x]) (h : x ∈ kws) (k : kindB w = true) : takeA qfs hds st w = some (put hds st.wait st.parts (.atom [x, w])) := by
  unfold takeA
  rw [hb, show [x] ++ [w] = [x, w] from rfl, filt2]
  simp only [List.mem_cons, List.not_mem_nil, or_false] at h
  rcases h with rfl | rfl | rfl
  · rw [if_pos ⟨rfl, k⟩]
    rfl
  · rw [if_neg (fun z => absurd z.1 (by decide +kernel)), if_neg (by decide +kernel), if_pos ⟨rfl, k⟩]
    rfl
  · rw [if_neg (fun z => absurd z.1 (by decide +kernel)), if_neg (by decide +kernel), if_neg (fun z => absurd z.1 (by decide +kernel)), if_pos ⟨rfl, k⟩]
    rfl
theorem takeA_no {st : RS} {x w : Str} (hb : st.begun = [x]) (h : x ∈ kws) (k : kindB w = false) : takeA qfs hds st w = none := by
  unfold takeA
  rw [hb, show [x] ++ [w] = [x, w] from rfl, filt2]
  have hr : x ≠ "root" := by
    simp only [List.mem_cons, List.not_mem_nil, or_false] at h
    rcases h with rfl | rfl | rfl <;> decide +kernel
  have nk : ∀ q : Prop, ¬ (q ∧ kindB w = true) := fun q z => by
    rw [k] at z
    exact nomatch z.2
  rw [if_neg (nk _), if_neg hr, if_neg (nk _), if_neg (nk _)]
  rfl
/-- plain words -/
theorem plain_w {w : Str} (h : w = "root" ∨ w ∈ kws ∨ kindB w = true ∨ w ∈ jts) : w ∉ hds ∧ w ≠ "(" ∧ w ≠ ")" := by
  have l : w = "root" ∨ w ∈ kws ∨ w ∈ jts → w ∉ hds ∧ w ≠ "(" ∧ w ≠ ")" := fun h => by
    simp only [List.mem_cons, List.not_mem_nil, or_false] at h
    rcases h with rfl | (rfl | rfl | rfl) | rfl | rfl <;> decide +kernel
  rcases h with h | h | h | h
  · exact l (.inl h)
  · exact l (.inr (.inl h))
  · refine ⟨fun z => ?_, fun z => ?_, fun z => ?_⟩
    · simp only [List.mem_cons, List.not_mem_nil, or_false] at z
      rcases z with rfl | rfl | rfl <;> exact absurd h (by decide +kernel)
    · subst z
      exact absurd h (by decide +kernel)
    · subst z
      exact absurd h (by decide +kernel)
  · exact l (.inr (.inr h))
structure Inv (st : RS) : Prop where
  ok : Ok st
  tT : okT hds st.whole st.wait
  beg : st.begun = [] ∨ ∃ x, x ∈ kws ∧ st.begun = [x]
theorem hhd : ∀ h ∈ hds, h ∈ hds := fun _ h => h
theorem put_T2 {W : List Str} {P : List Pt} {p : Pt} (h : okT hds false W) : okT hds true (put hds W P p).wait ∧ cP hds (put hds W P p).wait ≤ cP hds W ∧ (hW hds (put hds W P p).wait).1 = (hW hds W).1 := put_T hhd W p h
/-- closing -/
theorem close_spec {st : RS} (I : Inv st) (hw : st.whole = true) : (closeS hds st = none ∧ (hW hds st.wait).1 = []) ∨ ∃ (W : List Str) (p : Pt) (P : List Pt), gat jts st.wait st.parts = ((("(" : Str) :: W), p :: P) ∧ closeS hds st = some (put hds W P p) ∧ okT hds false W ∧ (hW hds st.wait).1 = ((hW hds W).2 + 1) :: (hW hds W).1 ∧ cP hds st.wait = 1 + cP hds W := by
  have hl := I.ok.len
  have hT := I.tT
  rw [hw] at hT
  rw [if_pos hw] at hl
  have g1 := gat_len (js := jts) (fun j h => h) st.wait st.parts hl
  have g3 := gat_top st.wait st.parts hl
  obtain ⟨t1, t2, t3⟩ := gat_T hhd (js := jts) (fun j h => h) st.wait st.parts hT
  unfold closeS
  generalize gat jts st.wait st.parts = g at *
  obtain ⟨W, P⟩ := g
  match W, P, g1, g3, t1, t2, t3 with
  | [], P, _, _, _, _, t3 => exact .inl ⟨rfl, t3.symm⟩
  | _ :: W, [], g1, _, _, _, _ => exact absurd g1 (by simp)
  | w0 :: W, p :: P, _, g3, t1, t2, t3 =>
    have hj := g3 w0 W rfl
    rw [okT_eq] at t1
    by_cases h1 : w0 = "("
    · subst h1
      rw [if_pos rfl] at t1
      refine .inr ⟨W, p, P, rfl, rfl, t1, ?_, ?_⟩
      · rw [← t3]
        show (hW hds ("(" :: W)).1 = _
        rw [hW_eq, if_pos rfl]
      · rw [← t2]
        show cP hds ("(" :: W) = _
        rw [cP_eq, if_pos rfl]
    · rw [if_neg h1] at t1
      by_cases h2 : w0 ∈ hds
      · rw [if_pos h2] at t1
        exact nomatch t1.1
      · rw [if_neg h2] at t1
        exact absurd t1.1 hj
/-- the end -/
theorem end_spec {st : RS} (I : Inv st) : ((st.whole = false ∨ (hW hds st.wait).1 ≠ []) ∧ endS st = none) ∨ (st.whole = true ∧ (hW hds st.wait).1 = [] ∧ ∃ p, gat jts st.wait st.parts = ([], [p]) ∧ endS st = some p) := by
  unfold endS
  cases hw : st.whole
  · exact .inl ⟨.inl rfl, rfl⟩
  · rw [if_pos rfl]
    have hl := I.ok.len
    rw [if_pos hw] at hl
    have g1 := gat_len (js := jts) (fun j h => h) st.wait st.parts hl
    rcases close_spec I hw with ⟨h1, h2⟩ | ⟨W, p, P, e, h1, h2, h3, h4⟩
    · have hT := I.tT
      rw [hw] at hT
      unfold closeS at h1
      generalize gat jts st.wait st.parts = g at *
      obtain ⟨W, P⟩ := g
      match W, P, g1, h1 with
      | [], [p], _, _ => exact .inr ⟨rfl, h2, p, rfl, rfl⟩
      | [], [], g1, _ => exact absurd g1 (by simp [nJ])
      | [], _ :: _ :: _, g1, _ => exact absurd g1 (by simp [nJ])
      | _ :: W, [], g1, _ => exact absurd g1 (by simp)
    · rw [e]
      exact .inl ⟨.inr (by rw [h3]; exact List.cons_ne_nil _ _), rfl⟩
theorem take_inv {st st' : RS} {w : Str} (I : Inv st) (e : takeS qfs hds st w = some st') : Inv st' := by
  have hok := (take_ok hhd I.ok e).1
  refine ⟨hok, ?_, ?_⟩
  all_goals
    unfold takeS at e
    have hT := I.tT
    have putT : ∀ {W : List Str} {P : List Pt} {p : Pt}, okT hds false W → okT hds (put hds W P p).whole (put hds W P p).wait := fun h => (put_T2 h).1
    cases hw : st.whole
    · rw [hw] at hT e
      rw [if_neg Bool.false_ne_true] at e
      by_cases hb : st.begun = [] ∧ (w = "(" ∨ w ∈ hds)
      · rw [if_pos hb] at e
        cases e
        first
          | (show okT hds false (w :: st.wait)
             rw [okT_eq]
             by_cases h1 : w = "("
             · rw [if_pos h1]
               exact hT
             · rw [if_neg h1, if_pos (hb.2.resolve_left h1)]
               exact ⟨rfl, hT⟩)
          | exact .inl hb.1
      · rw [if_neg hb] at e
        rcases I.beg with h0 | ⟨x, hx, h0⟩
        · by_cases hr : w = "root"
          · subst hr
            rw [takeA_root h0] at e
            cases e
            first
              | exact putT hT
              | exact .inl rfl
          · by_cases hk : w ∈ kws
            · rw [takeA_kw h0 hk] at e
              cases e
              first
                | (show okT hds st.whole st.wait
                   rw [hw]
                   exact hT)
                | exact .inr ⟨w, hk, rfl⟩
            · rw [takeA_none h0 hk hr] at e
              cases e
        · cases hk : kindB w
          · rw [takeA_no h0 hx hk] at e
            cases e
          · rw [takeA_kind h0 hx hk] at e
            cases e
            first
              | exact putT hT
              | exact .inl rfl
    · rw [hw] at hT e
      rw [if_pos rfl] at e
      unfold takeB at e
      by_cases hc : w = ")"
      · rw [if_pos hc] at e
        rcases close_spec I hw with ⟨h1, _⟩ | ⟨W, p, P, _, h1, h2, _⟩
        · rw [h1] at e
          cases e
        · rw [h1] at e
          cases e
          first
            | exact putT h2
            | exact .inl rfl
      · rw [if_neg hc] at e
        by_cases hj : w ∈ jts
        · rw [if_pos hj] at e
          by_cases ho : w = "or"
          · rw [if_pos ho] at e
            cases e
            first
              | exact okT_false ((okT_jo hhd (c := false) hj).mpr (gat_T hhd (js := ["and"]) gat_and st.wait st.parts hT).1)
              | exact .inl (I.ok.beg hw)
          · rw [if_neg ho] at e
            cases e
            first
              | exact okT_false ((okT_jo hhd (c := false) hj).mpr hT)
              | exact .inl (I.ok.beg hw)
        · rw [if_neg hj] at e
          cases e
theorem st0_inv : Inv st0 := ⟨st0_ok, trivial, .inl rfl⟩
end Qp

set_option linter.all false
set_option maxRecDepth 100000
set_option maxHeartbeats 4000000
set_option pp.maxSteps 200
/-! depths and heights of what is read -/
namespace Qp
open PySem L2 Gx Q2
structure Deep (D : Nat) (d : DS) (st : RS) : Prop where
  held : d.held = (hW hds st.wait).1
  dep : d.depth = d.held.sum
  heads : d.heads = if st.begun = [] then (hW hds st.wait).2 else 0
  cp : cP hds st.wait ≤ d.deepest
  top : if st.whole = true then ∃ p Ps, st.parts = p :: Ps ∧ ht p ≤ 2 * (D - cP hds st.wait) ∧ okD hds D st.wait Ps else okD hds D st.wait st.parts
theorem dstep_hd {d : DS} {w : Str} (h : w ∈ hds) : dstep d w = ⟨max d.deepest (d.depth + (d.heads + 1)), d.held, d.depth, d.heads + 1⟩ := if_pos h
theorem dstep_op {d : DS} : dstep d "(" = ⟨max d.deepest (d.depth + d.heads + 1 + 0), (d.heads + 1) :: d.held, d.depth + d.heads + 1, 0⟩ := by
  unfold dstep
  rw [if_neg (by decide +kernel), if_pos rfl]
theorem dstep_cl {d : DS} : dstep d ")" = ⟨max d.deepest (d.depth - d.held.headD 0 + 0), d.held.tail, d.depth - d.held.headD 0, 0⟩ := by
  unfold dstep
  rw [if_neg (by decide +kernel), if_neg (by decide +kernel), if_pos rfl]
theorem dstep_pl {d : DS} {w : Str} (h : w ∉ hds ∧ w ≠ "(" ∧ w ≠ ")") : dstep d w = ⟨max d.deepest (d.depth + 0), d.held, d.depth, 0⟩ := by
  unfold dstep
  rw [if_neg h.1, if_neg h.2.1, if_neg h.2.2]
theorem dstep_up (d : DS) (w : Str) : d.deepest ≤ (dstep d w).deepest := by
  unfold dstep
  split
  · exact Nat.le_max_left _ _
  · split
    · exact Nat.le_max_left _ _
    · split <;> exact Nat.le_max_left _ _
theorem drun_up : ∀ (ws : List Str) (d : DS), d.deepest ≤ (drun d ws).deepest
  | [], _ => Nat.le_refl _
  | w :: ws, d => Nat.le_trans (dstep_up d w) (drun_up ws _)
theorem put_deep {D : Nat} {d : DS} {W : List Str} {P : List Pt} {p : Pt} (hT : okT hds false W) (hD : okD hds D W P) (hc : cP hds W ≤ D) (hp : ht p ≤ 2 * (D - cP hds W)) (held : d.held = (hW hds W).1) (dep : d.depth = d.held.sum) (heads : d.heads = 0) (hc' : cP hds W ≤ d.deepest) : Deep D d (put hds W P p) := by
  obtain ⟨a, b, c⟩ := put_T hhd W p hT
  obtain ⟨e, f⟩ := put_D hhd W P p hD hc hp
  refine ⟨held.trans c.symm, dep, ?_, Nat.le_trans b hc', ?_⟩
  · show d.heads = if ([] : List Str) = [] then (hW hds (putS hds W p).1).2 else 0
    rw [if_pos rfl, okT_hW hhd a, heads]
  · show if true = true then _ else _
    rw [if_pos rfl]
    exact ⟨_, _, rfl, f, e⟩
theorem cP_cons (w : Str) (W : List Str) (h : w = "(" ∨ w ∈ hds) : cP hds (w :: W) = 1 + cP hds W := by
  rw [cP_eq]
  by_cases h1 : w = "("
  · rw [if_pos h1]
  · rw [if_neg h1, if_pos (h.resolve_left h1)]
theorem take_deep {D : Nat} {d : DS} {st st' : RS} {w : Str} (I : Inv st) (G : Deep D d st) (e : takeS qfs hds st w = some st') (hD : (dstep d w).deepest ≤ D) : Deep D (dstep d w) st' ∧ (w = ")" → 0 < d.held.length) := by
  obtain ⟨g1, g2, g3, g4, g5⟩ := G
  have up := dstep_up d w
  have hT := I.tT
  have hs := c_sum hhd hT
  have hcD : cP hds st.wait ≤ D := Nat.le_trans g4 (Nat.le_trans up hD)
  unfold takeS at e
  cases hw : st.whole
  · rw [hw] at e hT
    rw [if_neg Bool.false_ne_true] at e
    rw [if_neg (by rw [hw]; exact Bool.false_ne_true)] at g5
    by_cases hb : st.begun = [] ∧ (w = "(" ∨ w ∈ hds)
    · rw [if_pos hb] at e
      cases e
      rw [if_pos hb.1] at g3
      have hcp := cP_cons w st.wait hb.2
      have nj : w ∉ jts := by
        rcases hb.2 with rfl | h
        · decide +kernel
        · exact (hd_no h).2.1
      have topk : if (false : Bool) = true then ∃ p Ps, st.parts = p :: Ps ∧ ht p ≤ 2 * (D - cP hds (w :: st.wait)) ∧ okD hds D (w :: st.wait) Ps else okD hds D (w :: st.wait) st.parts := by
        rw [if_neg Bool.false_ne_true, okD_no nj]
        exact g5
      by_cases h1 : w = "("
      · subst h1
        rw [dstep_op] at hD ⊢
        refine ⟨⟨?_, ?_, ?_, ?_, topk⟩, fun z => absurd z (by decide +kernel)⟩
        · show (d.heads + 1) :: d.held = (hW hds (_ :: st.wait)).1
          rw [hW_eq, if_pos rfl, g3, g1]
        · show d.depth + d.heads + 1 = ((d.heads + 1) :: d.held).sum
          rw [List.sum_cons]
          omega
        · show 0 = if st.begun = [] then (hW hds (_ :: st.wait)).2 else 0
          rw [if_pos hb.1, hW_eq, if_pos rfl]
        · show cP hds (_ :: st.wait) ≤ max d.deepest (d.depth + d.heads + 1 + 0)
          rw [hcp]
          rw [← g1] at hs
          omega
      · have hm := hb.2.resolve_left h1
        rw [dstep_hd hm] at hD ⊢
        refine ⟨⟨?_, g2, ?_, ?_, topk⟩, fun z => ?_⟩
        · show d.held = (hW hds (w :: st.wait)).1
          rw [hW_eq, if_neg h1, if_pos hm, g1]
        · show d.heads + 1 = if st.begun = [] then (hW hds (w :: st.wait)).2 else 0
          rw [if_pos hb.1, hW_eq, if_neg h1, if_pos hm, g3]
        · show cP hds (w :: st.wait) ≤ max d.deepest (d.depth + (d.heads + 1))
          rw [hcp]
          rw [← g1] at hs
          omega
        · subst z
          exact absurd hm (by decide +kernel)
    · rw [if_neg hb] at e
      have pl : ∀ {p : Pt}, (w ∉ hds ∧ w ≠ "(" ∧ w ≠ ")") → ht p = 0 → Deep D (dstep d w) (put hds st.wait st.parts p) ∧ (w = ")" → 0 < d.held.length) := fun {p} h hp => by
        rw [dstep_pl h]
        refine ⟨put_deep hT g5 hcD (by omega) g1 g2 rfl ?_, fun z => absurd z h.2.2⟩
        show cP hds st.wait ≤ max d.deepest (d.depth + 0)
        omega
      rcases I.beg with h0 | ⟨x, hx, h0⟩
      · by_cases hr : w = "root"
        · subst hr
          rw [takeA_root h0] at e
          cases e
          exact pl (plain_w (.inl rfl)) rfl
        · by_cases hk : w ∈ kws
          · rw [takeA_kw h0 hk] at e
            cases e
            have h := plain_w (w := w) (.inr (.inl hk))
            rw [dstep_pl h]
            refine ⟨⟨g1, g2, ?_, ?_, ?_⟩, fun z => absurd z h.2.2⟩
            · show 0 = if [w] = [] then (hW hds st.wait).2 else 0
              rw [if_neg (List.cons_ne_nil _ _)]
            · show cP hds st.wait ≤ max d.deepest (d.depth + 0)
              omega
            · show if st.whole = true then _ else okD hds D st.wait st.parts
              rw [if_neg (by rw [hw]; exact Bool.false_ne_true)]
              exact g5
          · rw [takeA_none h0 hk hr] at e
            cases e
      · cases hk : kindB w
        · rw [takeA_no h0 hx hk] at e
          cases e
        · rw [takeA_kind h0 hx hk] at e
          cases e
          exact pl (plain_w (.inr (.inr (.inl hk)))) rfl
  · rw [hw] at e hT
    rw [if_pos rfl] at e
    rw [if_pos hw] at g5
    obtain ⟨p, Ps, ep, hp, hDp⟩ := g5
    unfold takeB at e
    by_cases hc : w = ")"
    · rw [if_pos hc] at e
      subst hc
      rcases close_spec I hw with ⟨h1, _⟩ | ⟨W, q, P, eg, h1, h2, h3, h4⟩
      · rw [h1] at e
        cases e
      · rw [h1] at e
        cases e
        obtain ⟨r', Ps', er, hr1, hr2⟩ := gat_D hhd st.wait Ps p hDp (.inl (.inl hp))
        rw [← ep, eg] at er hr2
        have er' : q :: P = r' :: Ps' := er
        injection er' with e1 e2
        subst e1
        subst e2
        have hr3 : okD hds D ("(" :: W) P := hr2
        rw [okD_no (by decide +kernel)] at hr3
        have hq := l2_ht hr1
        rw [h3] at g1
        have g1' : d.held = ((hW hds W).2 + 1) :: (hW hds W).1 := g1
        rw [dstep_cl]
        refine ⟨put_deep h2 hr3 (by omega) (by omega) ?_ ?_ rfl ?_, fun _ => by rw [g1']; exact Nat.zero_lt_succ _⟩
        · show d.held.tail = _
          rw [g1']
          rfl
        · show d.depth - d.held.headD 0 = d.held.tail.sum
          rw [g2, g1']
          show (((hW hds W).2 + 1) :: (hW hds W).1).sum - ((hW hds W).2 + 1) = (hW hds W).1.sum
          rw [List.sum_cons]
          omega
        · show cP hds W ≤ max d.deepest _
          omega
    · rw [if_neg hc] at e
      by_cases hj : w ∈ jts
      · rw [if_pos hj] at e
        have h := plain_w (w := w) (.inr (.inr (.inr hj)))
        rw [dstep_pl h]
        have hb := I.ok.beg hw
        have fin : ∀ (W : List Str) (P : List Pt), cP hds W = cP hds st.wait → (hW hds W).1 = (hW hds st.wait).1 → okD hds D (w :: W) P → Deep D ⟨max d.deepest (d.depth + 0), d.held, d.depth, 0⟩ ⟨P, w :: W, st.begun, false⟩ ∧ (w = ")" → 0 < d.held.length) := fun W P k1 k2 k3 => by
          refine ⟨⟨?_, g2, ?_, ?_, ?_⟩, fun z => absurd z h.2.2⟩
          · show d.held = (hW hds (w :: W)).1
            rw [hW_jo hhd hj, k2, g1]
          · show 0 = if st.begun = [] then (hW hds (w :: W)).2 else 0
            rw [if_pos hb, hW_jo hhd hj]
          · show cP hds (w :: W) ≤ max d.deepest (d.depth + 0)
            rw [cP_jo hhd hj]
            omega
          · show if false = true then _ else okD hds D (w :: W) P
            rw [if_neg Bool.false_ne_true]
            exact k3
        by_cases ho : w = "or"
        · rw [if_pos ho] at e
          cases e
          obtain ⟨r', Ps', er, hr1, hr2, hr3⟩ := gat_DA hhd st.wait Ps p hDp (.inl hp)
          obtain ⟨t1, t2, t3⟩ := gat_T hhd (js := ["and"]) gat_and st.wait st.parts hT
          rw [← ep] at er hr2 hr3
          rw [er]
          subst ho
          refine fin _ _ t2 t3 ?_
          rw [okD_or, t2]
          exact ⟨⟨.inl hr1, hr3⟩, hr2⟩
        · rw [if_neg ho] at e
          cases e
          have ha : w = "and" := by
            simp only [List.mem_cons, List.not_mem_nil, or_false] at hj
            exact hj.resolve_right ho
          subst ha
          refine fin _ _ rfl rfl ?_
          rw [ep, okD_and]
          exact ⟨.inl hp, hDp⟩
      · rw [if_neg hj] at e
        cases e
theorem run_deep {D : Nat} : ∀ (ws : List Str) (st st' : RS) (d : DS) (i : Nat), Inv st → Deep D d st → runS qfs hds st ws i = .inl st' → (drun d ws).deepest ≤ D → Inv st' ∧ Deep D (drun d ws) st' ∧ bal d.held.length ws
  | [], st, st', d, i, I, G, e, hD => by
    cases e
    exact ⟨I, G, trivial⟩
  | w :: ws, st, st', d, i, I, G, e, hD => by
    rw [runS] at e
    cases ht : takeS qfs hds st w with
    | none =>
      rw [ht] at e
      cases e
    | some s1 =>
      rw [ht] at e
      have I1 := take_inv I ht
      obtain ⟨G1, hb⟩ := take_deep I G ht (Nat.le_trans (drun_up ws _) hD)
      obtain ⟨a, b, c⟩ := run_deep ws s1 st' (dstep d w) (i + 1) I1 G1 e hD
      refine ⟨a, b, ?_⟩
      unfold bal
      by_cases h1 : w ∈ hds
      · rw [if_pos h1]
        rw [dstep_hd h1] at c
        exact c
      · rw [if_neg h1]
        by_cases h2 : w = "("
        · rw [if_pos h2]
          rw [h2, dstep_op] at c
          exact c
        · rw [if_neg h2]
          by_cases h3 : w = ")"
          · rw [if_pos h3]
            refine ⟨hb h3, ?_⟩
            rw [h3, dstep_cl] at c
            have c' : bal d.held.tail.length ws := c
            rw [List.length_tail] at c'
            exact c'
          · rw [if_neg h3]
            rw [dstep_pl ⟨h1, h2, h3⟩] at c
            exact c
theorem st0_deep (D : Nat) : Deep D ⟨0, [], 0, 0⟩ st0 := ⟨rfl, rfl, rfl, Nat.le_refl _, trivial⟩
/-- what was read whole -/
theorem read_deep {ws : List Str} {st : RS} {p : Pt} {i : Nat} (e : runS qfs hds st0 ws i = .inl st) (ee : endS st = some p) : bal 0 ws ∧ ht p ≤ 2 * depthW ws + 2 := by
  obtain ⟨I, G, b⟩ := run_deep (D := (drun ⟨0, [], 0, 0⟩ ws).deepest) ws st0 st ⟨0, [], 0, 0⟩ i st0_inv (st0_deep _) e (Nat.le_refl _)
  refine ⟨b, ?_⟩
  rcases end_spec I with ⟨_, h⟩ | ⟨hw, _, q, eg, h⟩
  · rw [h] at ee
    cases ee
  · rw [h] at ee
    cases ee
    have g5 := G.top
    rw [if_pos hw] at g5
    obtain ⟨r, Ps, ep, hp, hDp⟩ := g5
    obtain ⟨r', Ps', er, hr1, hr2⟩ := gat_D hhd st.wait Ps r hDp (.inl (.inl hp))
    rw [← ep, eg] at er
    have er' : [p] = r' :: Ps' := er
    injection er' with e1 e2
    subst e1
    have := l2_ht hr1
    show ht p ≤ 2 * (drun ⟨0, [], 0, 0⟩ ws).deepest + 2
    omega
theorem end_ok {st : RS} {p : Pt} (hk : Ok st) (ee : endS st = some p) : wf p = true ∧ wt p ≤ wtS st := by
  unfold endS at ee
  cases hw : st.whole
  · rw [hw] at ee
    cases ee
  · rw [if_pos hw] at ee
    have g2 := gat_wf (js := jts) (fun j h => h) st.wait st.parts hk.wfp
    have g4 := gat_wt jts st.wait st.parts
    generalize gat jts st.wait st.parts = g at *
    obtain ⟨W, P⟩ := g
    match W, P, ee, g2, g4 with
    | [], p :: P, ee, g2, g4 =>
      cases ee
      have g2' : (wf p && wfs P) = true := g2
      rw [Bool.and_eq_true] at g2'
      have g4' : 0 + (wt p + wtP P) ≤ wtW st.wait + wtP st.parts := g4
      refine ⟨g2'.1, ?_⟩
      show wt p ≤ wtW st.wait + wtP st.parts + lenS st.begun
      omega
end Qp

set_option linter.all false
set_option maxRecDepth 100000
set_option maxHeartbeats 4000000
set_option pp.maxSteps 200
/-! the first word at fault -/
namespace Qp
open PySem L2 Gx Q2
/-- the first fault; `k`: a name of a kind is wanted, `d` parentheses stand open, `b`: a part is wanted -/
def fz : List Str → Bool → Nat → Bool → Nat → Option Nat
  | [], k, d, b, i => if k || b || decide (0 < d) then some i else none
  | w :: ws, true, d, b, i => if kindB w then fz ws false d false (i + 1) else some i
  | w :: ws, false, d, true, i => if w = "(" then fz ws false (d + 1) true (i + 1) else if w ∈ kws then fz ws true d false (i + 1) else if w = "root" then fz ws false d false (i + 1) else if w ∈ hds then fz ws false d true (i + 1) else some i
  | w :: ws, false, d, false, i => if w = ")" ∧ 0 < d then fz ws false (d - 1) false (i + 1) else if w ∈ jts then fz ws false d true (i + 1) else some i
def fR (r : RS ⊕ Nat) (n : Nat) : Option Nat := match r with
  | .inr i => some i
  | .inl st => match endS st with
    | none => some n
    | some _ => none
theorem fz_run : ∀ (ws : List Str) (st : RS) (i : Nat), Inv st → fR (runS qfs hds st ws i) (i + ws.length) = fz ws (!decide (st.begun = [])) (hW hds st.wait).1.length (!st.whole) i
  | [], st, i, I => by
    rw [runS]
    unfold fR
    rcases end_spec I with ⟨h, e⟩ | ⟨h1, h2, p, _, e⟩
    · show (match endS st with | none => some (i + 0) | some _ => none) = _
      rw [e]
      show some (i + 0) = if ((!decide (st.begun = [])) || (!st.whole) || decide (0 < (hW hds st.wait).1.length)) = true then some i else none
      rw [if_pos]
      · rfl
      · rcases h with h | h
        · rw [h]
          simp
        · have : 0 < (hW hds st.wait).1.length := List.length_pos_iff.mpr h
          rw [decide_eq_true this, Bool.or_true]
    · show (match endS st with | none => some (i + 0) | some _ => none) = _
      rw [e]
      show none = if ((!decide (st.begun = [])) || (!st.whole) || decide (0 < (hW hds st.wait).1.length)) = true then some i else none
      rw [h1, h2, I.ok.beg h1]
      rfl
  | w :: ws, st, i, I => by
    have ih : ∀ st', takeS qfs hds st w = some st' → fR (runS qfs hds st (w :: ws) i) (i + (w :: ws).length) = fz ws (!decide (st'.begun = [])) (hW hds st'.wait).1.length (!st'.whole) (i + 1) := fun st' e => by
      rw [runS, e, ← fz_run ws st' (i + 1) (take_inv I e), List.length_cons, Nat.add_right_comm, Nat.add_assoc]
    have no : takeS qfs hds st w = none → fR (runS qfs hds st (w :: ws) i) (i + (w :: ws).length) = some i := fun e => by
      rw [runS, e]
      rfl
    have hT := I.tT
    cases hw : st.whole
    · rw [hw] at hT
      have e0 : takeS qfs hds st w = if st.begun = [] ∧ (w = "(" ∨ w ∈ hds) then some { st with wait := w :: st.wait } else takeA qfs hds st w := by
        unfold takeS
        rw [hw, if_neg Bool.false_ne_true]
      rcases I.beg with h0 | ⟨x, hx, h0⟩
      · rw [h0]
        show _ = fz (w :: ws) false _ true i
        rw [fz]
        by_cases h1 : w = "("
        · rw [if_pos h1]
          rw [if_pos ⟨h0, .inl h1⟩] at e0
          rw [ih _ e0]
          show fz ws (!decide (st.begun = [])) (hW hds (w :: st.wait)).1.length (!st.whole) (i + 1) = _
          rw [h0, hw, hW_eq, if_pos h1]
          rfl
        · rw [if_neg h1]
          by_cases hk : w ∈ kws
          · rw [if_pos hk]
            have hp := plain_w (w := w) (.inr (.inl hk))
            rw [if_neg (fun z => z.2.elim hp.2.1 hp.1), takeA_kw h0 hk] at e0
            rw [ih _ e0]
            show fz ws (!decide ([w] = [])) (hW hds st.wait).1.length (!st.whole) (i + 1) = _
            rw [hw]
            cases ws with
            | nil => rfl
            | cons => rfl
          · rw [if_neg hk]
            by_cases hr : w = "root"
            · rw [if_pos hr]
              have hp := plain_w (w := w) (.inl hr)
              subst hr
              rw [if_neg (fun z => z.2.elim hp.2.1 hp.1), takeA_root h0] at e0
              rw [ih _ e0]
              show fz ws false (hW hds (put hds st.wait st.parts _).wait).1.length false (i + 1) = _
              rw [(put_T2 hT).2.2]
            · rw [if_neg hr]
              by_cases hm : w ∈ hds
              · rw [if_pos hm]
                rw [if_pos ⟨h0, .inr hm⟩] at e0
                rw [ih _ e0]
                show fz ws (!decide (st.begun = [])) (hW hds (w :: st.wait)).1.length (!st.whole) (i + 1) = _
                rw [h0, hw, hW_eq, if_neg h1, if_pos hm]
                rfl
              · rw [if_neg hm]
                rw [if_neg (fun z => z.2.elim h1 hm), takeA_none h0 hk hr] at e0
                exact no e0
      · rw [h0]
        have hd0 : (!decide ([x] = [])) = true := by simp
        rw [hd0, if_neg (fun z => by rw [h0] at z; exact nomatch z.1)] at *
        rw [fz]
        cases hk : kindB w
        · rw [takeA_no h0 hx hk] at e0
          rw [if_neg Bool.false_ne_true]
          exact no e0
        · rw [takeA_kind h0 hx hk] at e0
          rw [if_pos rfl, ih _ e0]
          show fz ws false (hW hds (put hds st.wait st.parts _).wait).1.length false (i + 1) = _
          rw [(put_T2 hT).2.2]
    · rw [hw] at hT
      have e0 : takeS qfs hds st w = takeB hds st w := by
        unfold takeS
        rw [hw, if_pos rfl]
      unfold takeB at e0
      have hb := I.ok.beg hw
      rw [hb]
      show _ = fz (w :: ws) false _ false i
      rw [fz]
      by_cases hc : w = ")"
      · rw [if_pos hc] at e0
        rcases close_spec I hw with ⟨h1, h2⟩ | ⟨W, p, P, _, h1, h2, h3, h4⟩
        · rw [h1] at e0
          rw [h2, if_neg (fun z => absurd z.2 (Nat.lt_irrefl 0)), if_neg (by subst hc; decide +kernel)]
          exact no e0
        · rw [h1] at e0
          rw [ih _ e0, h3, if_pos ⟨hc, Nat.zero_lt_succ _⟩]
          show fz ws false (hW hds (put hds W P p).wait).1.length false (i + 1) = _
          rw [(put_T2 h2).2.2]
          rfl
      · rw [if_neg hc] at e0
        rw [if_neg (fun z => hc z.1)]
        by_cases hj : w ∈ jts
        · rw [if_pos hj]
          rw [if_pos hj] at e0
          by_cases ho : w = "or"
          · rw [if_pos ho] at e0
            rw [ih _ e0]
            show fz ws (!decide (st.begun = [])) (hW hds (w :: (gat ["and"] st.wait st.parts).1)).1.length true (i + 1) = _
            rw [hb, hW_jo hhd hj, (gat_T hhd (js := ["and"]) gat_and st.wait st.parts hT).2.2]
            rfl
          · rw [if_neg ho] at e0
            rw [ih _ e0]
            show fz ws (!decide (st.begun = [])) (hW hds (w :: st.wait)).1.length true (i + 1) = _
            rw [hb, hW_jo hhd hj]
            rfl
        · rw [if_neg hj]
          rw [if_neg hj] at e0
          exact no e0
/-- what the law's own reading finds -/
theorem fz_read (ws : List Str) : fR (runS qfs hds st0 ws 0) ws.length = fz ws false 0 true 0 := by
  have := fz_run ws st0 0 st0_inv
  rw [Nat.zero_add] at this
  exact this
end Qp

set_option linter.all false
set_option maxRecDepth 100000
set_option maxHeartbeats 4000000
set_option pp.maxSteps 200
/-! weights of texts read -/
namespace Qp
open PySem PyProof.Rows L2 Gx Q2
mutual
theorem outs_len : ∀ p : Pt, 10 * ((ats p).filter isOut).length ≤ Qp.wt p
  | .atom ws => by
    show 10 * (([Pt.atom ws] : List Pt).filter isOut).length ≤ _
    rw [List.filter_cons_of_neg (by exact Bool.false_ne_true)]
    exact Nat.zero_le _
  | .un h p => by
    have ih := outs_len p
    show 10 * (((if h ∈ Qp.out then [Pt.un h p] else []) ++ ats p).filter isOut).length ≤ h.length + 5 + Qp.wt p
    rw [List.filter_append, List.length_append]
    by_cases hm : h ∈ Qp.out
    · rw [if_pos hm, List.filter_cons_of_pos (show isOut (.un h p) = true from decide_eq_true hm), List.filter_nil]
      have hl : 5 ≤ h.length := by
        simp only [List.mem_cons, List.not_mem_nil, or_false] at hm
        rcases hm with rfl | rfl <;> decide +kernel
      show 10 * (0 + 1 + _) ≤ _
      omega
    · rw [if_neg hm, List.filter_nil]
      show 10 * (0 + _) ≤ _
      omega
  | .jo j ps => by
    show 10 * ((atss ps).filter isOut).length ≤ wts j ps
    exact outss_len j ps
theorem outss_len (j : Str) : ∀ ps : List Pt, 10 * ((atss ps).filter isOut).length ≤ wts j ps
  | [] => Nat.le_refl _
  | p :: ps => by
    have h1 := outs_len p
    have h2 := outss_len j ps
    show 10 * ((ats p ++ atss ps).filter isOut).length ≤ Qp.wt p + j.length + 6 + wts j ps
    rw [List.filter_append, List.length_append]
    omega
end
theorem outT_len (p : Pt) : 10 * (outT p).length ≤ Qp.wt p := by
  unfold outT
  rw [List.length_map]
  exact outs_len p
theorem wtW_app (a b : List Str) : wtW (a ++ b) = wtW a + wtW b := by
  induction a with
  | nil => exact (Nat.zero_add _).symm
  | cons w a ih =>
    show 2 * (w.length + 6) + wtW (a ++ b) = 2 * (w.length + 6) + wtW a + wtW b
    omega
theorem wtW_take (ws : List Str) (i : Nat) : wtW (ws.take i) ≤ wtW ws := by
  have h := congrArg wtW (List.take_append_drop i ws)
  rw [wtW_app] at h
  omega
theorem wtW_snoc {ws : List Str} {i : Nat} {w : Str} (h : ws[i]? = some w) : wtW (ws.take (i + 1)) = wtW (ws.take i) + 2 * (w.length + 6) := by
  rw [take_snoc h, wtW_app]
  rfl
theorem wtW_sum : ∀ ws : List Str, wtW ws = 2 * (ws.map (·.length)).sum + 12 * ws.length
  | [] => rfl
  | w :: ws => by
    have := wtW_sum ws
    show 2 * (w.length + 6) + wtW ws = 2 * (w.length + (ws.map (·.length)).sum) + 12 * (ws.length + 1)
    omega
theorem wtW_words (z : Str) : wtW (wordsL z) ≤ 12 * z.length + 12 := by
  rw [wtW_sum, wordsL]
  by_cases e : z = ""
  · rw [if_pos e]
    exact Nat.zero_le _
  · rw [if_neg e]
    have := split_weight z " " (by decide +kernel)
    have h1 : (" " : Str).length = 1 := by decide +kernel
    have h2 := split_pos z " "
    omega
theorem runS_at {fs : List (List Str)} {hs : List Str} {st : RS} {ws : List Str} {w : Str} {i : Nat} (h : ws[i]? = some w) : runS fs hs st (ws.drop i) i = match takeS fs hs st w with
    | none => .inr i
    | some st' => runS fs hs st' (ws.drop (i + 1)) (i + 1) := by
  have hi : i < ws.length := (List.getElem?_eq_some_iff.mp h).1
  rw [List.drop_eq_getElem_cons hi, (List.getElem?_eq_some_iff.mp h).2]
  cases h2 : takeS fs hs st w <;> simp only [runS, h2]
end Qp

set_option linter.all false
set_option maxRecDepth 100000
set_option maxHeartbeats 8000000
set_option pp.maxSteps 150
namespace Q2
open PySem PySem.Spec PyProof.Rows L2 Gx Qp Qh
/-! ### questions -/
abbrev s_NoQuestion : Stmt := inClass (topS 24) 0
abbrev s_TooMany : Stmt := inClass (topS 25) 0
abbrev s_refuse : Stmt := topS 29
theorem sc_refuse : FnScope ["words", "part"] ["words", "part"] (defScope s_refuse) := ⟨rfl, rfl, rfl, by decide +kernel, rfl, by decide +kernel, by decide +kernel⟩
abbrev s_qinit : Stmt := inClass (topS 31) 0
theorem sc_qinit : FnScope ["self", "part"] ["self", "part"] (defScope s_qinit) := ⟨rfl, rfl, rfl, by decide +kernel, rfl, by decide +kernel, by decide +kernel⟩
abbrev s_qread : Stmt := inClass (topS 31) 1
abbrev n_qread : List Str := ["text", "words", "reading", "at", "word", "part"]
theorem sc_qread : FnScope n_qread ["text"] (defScope s_qread) := ⟨rfl, rfl, rfl, by decide +kernel, rfl, by decide +kernel, by decide +kernel⟩
abbrev s_qstr : Stmt := inClass (topS 31) 2
theorem sc_qstr : FnScope ["self"] ["self"] (defScope s_qstr) := ⟨rfl, rfl, rfl, by decide +kernel, rfl, by decide +kernel, by decide +kernel⟩
structure NmQ (P : Program) (w : World) (mg : Str → Option Value) (K : PySem.W.Frag) (fct fdp fox fw frf C Cn Ct Cr fIn fIt aq ah aw mtake mended : Addr) : Prop where
  g_count_of : mg "count_of" = some (.ref fct)
  k_count_of : PySem.W.keepIn K (.ref fct) = true
  g_depth_of : mg "depth_of" = some (.ref fdp)
  k_depth_of : PySem.W.keepIn K (.ref fdp) = true
  g_outer_texts : mg "outer_texts" = some (.ref fox)
  k_outer_texts : PySem.W.keepIn K (.ref fox) = true
  g_words_in : mg "words_in" = some (.ref fw)
  k_words_in : PySem.W.keepIn K (.ref fw) = true
  g_refuse_many : mg "refuse_many" = some (.ref frf)
  k_refuse_many : PySem.W.keepIn K (.ref frf) = true
  g_ATOM_WORDS : mg "ATOM_WORDS" = some (.ref aw)
  atw_ : HdK K aw atw
  g_QUESTION_FORMS : mg "QUESTION_FORMS" = some (.ref aq)
  forms : FmK K aq qfs
  g_HEADS : mg "HEADS" = some (.ref ah)
  heads : HdK K ah hds
  g_Reading : mg "Reading" = some (.ref Cr)
  rcl : Cls K Cr
  m_take : Meth K Cr "take" mtake
  m_ended : Meth K Cr "ended" mended
  g_Question : mg "Question" = some (.ref C)
  cl : Cls K C
  a_part : NoAttr K C "part"
  a_text : NoAttr K C "_text"
  g_NoQuestion : mg "NoQuestion" = some (.ref Cn)
  k_NoQuestion : PySem.W.keepIn K (.ref Cn) = true
  b_NoQuestion : PySem.W.subIn K (.ref Cn) (.type "BaseException") = some true
  t_NoQuestion : PySem.W.typeIn K (.ref Cn) = some (.type "type")
  m_NoQuestion : Exv.MkOk P w K Cn fIn
  g_TooMany : mg "TooMany" = some (.ref Ct)
  k_TooMany : PySem.W.keepIn K (.ref Ct) = true
  b_TooMany : PySem.W.subIn K (.ref Ct) (.type "BaseException") = some true
  t_TooMany : PySem.W.typeIn K (.ref Ct) = some (.type "type")
  m_TooMany : Exv.MkOk P w K Ct fIt
  n_len : mg "len" = none
  n_set : mg "set" = none
  n_enumerate : mg "enumerate" = none
def fldQ (v : V) (z : Str) : List (Str × V) := [("part", v), ("_text", .str z)]
theorem fq_part (v : V) (z : Str) : (fldQ v z).lookup ("part" : Str) = some v := rfl
theorem fq_text (v : V) (z : Str) : (fldQ v z).lookup ("_text" : Str) = some (.str z) := rfl
def QAt (C : Addr) (H : Hp) (a : Addr) (p : Pt) : Prop := ∃ dx v, H a = some (.ins C dx (fldQ v (txt p))) ∧ PtAt H v p
def spQInit (C : Addr) : Sp := fun vs H Q _ => ∃ (a dx : Addr) (v : V) (p : Pt), vs = [.ref a, v] ∧ H a = some (.ins C dx []) ∧ PtAt H v p ∧ wf p = true ∧ ht p < 15 ∧ Qp.wt p ≤ 1000000 ∧
  ∀ H' : Hp, (∀ b o, b ≠ a → H b = some o → H' b = some o) → H' a = some (.ins C dx (fldQ v (txt p))) → Q .non H'
def spRefuse (K : PySem.W.Frag) (Ct : Addr) : Sp := fun vs H Q E => ∃ (l : Addr) (ws : List Str) (v : V) (p : Pt), vs = [.ref l, v] ∧ H l = some (.lst (ws.map V.str)) ∧ PtAt H v p ∧ wf p = true ∧ Qp.wt p ≤ 40000 ∧ bal 0 ws ∧ ws.length ≤ 10000 ∧ (depthW ws ≤ 6 → ht p < 15) ∧
  (∀ H', Same H H' → manyOf ws p = none → Q .non H') ∧ ∀ (m : Str) (d : Addr) (H' : Hp), Same H H' → manyOf ws p = some m → H' d = some (.xd [("word", .str m)]) → E (.ref Ct) (some d) H'
def spQRead (C Cn Ct : Addr) : Sp := fun vs H Q E => ∃ z : Str, vs = [.str z] ∧ z.length ≤ 3000 ∧ Asc z ∧
  (∀ (a : Addr) (p : Pt) (H' : Hp), Same H H' → H a = none → readQ (wordsL z) = .ok p → wf p = true → Qp.wt p ≤ 40000 → ht p < 15 → QAt C H' a p → Q (.ref a) H') ∧
  (∀ (i : Nat) (d : Addr) (H' : Hp), Same H H' → readQ (wordsL z) = .at i → H' d = some (.xd [("at", .int (i : Nat))]) → E (.ref Cn) (some d) H') ∧
  (∀ (m : Str) (d : Addr) (H' : Hp), Same H H' → readQ (wordsL z) = .many m → H' d = some (.xd [("word", .str m)]) → E (.ref Ct) (some d) H')
def spQStr (C : Addr) : Sp := fun vs H Q _ => ∃ (a : Addr) (p : Pt), vs = [.ref a] ∧ QAt C H a p ∧ Qp.wt p ≤ 1000000 ∧ Q (.str (txt p)) H
/-- what is raised with one field -/
theorem raise1 {Cn : Addr} {fld : Str} {v : V} (hv : OwnF v) {H0 Hx : Hp} {E : Value → Option Addr → Hp → Prop} (up : Same H0 Hx) (hq : ∀ (d : Addr) (H' : Hp), Same H0 H' → H' d = some (.xd [(fld, v)]) → E (.ref Cn) (some d) H') :
    ∀ a, Hx a = none → spI1 Cn fld (V.ref a :: [v]) (upd Hx a (exo a Cn none)) (fun u H2 => u = .non ∧ ∃ d fs, H2 a = some (exo a Cn (some d)) ∧ H2 d = some (exd d fs) ∧ Hx d = none ∧ E (.ref Cn) (some d) (upd (del H2 a) d (.xd fs))) (fun _ _ _ => False) := by
  intro a na
  refine ⟨a, _, rfl, upd_same, hv, fun x H8 nx ea ed kp => ⟨rfl, x, _, ea, ed, ?_, ?_⟩⟩
  · by_cases xa : x = a
    · rw [xa]
      exact na
    · rw [upd_ne xa] at nx
      exact nx
  · have xa : x ≠ a := fun z => by
      rw [z, upd_same] at nx
      cases nx
    have nx0 : Hx x = none := by
      rw [upd_ne xa] at nx
      exact nx
    refine hq x _ (fun b o e => ?_) upd_same
    have e6 := up b o e
    rw [upd_ne (ne_of_none e6 nx0), del_ne (ne_of_none e6 na)]
    exact kp b o (ne_of_none e6 na) (new_same na _ _ e6)
section
variable {P : Program} {w : World} {K : PySem.W.Frag} {mg : Str → Option Value} {base : Heap} {fct fdp fox fw frf C Cn Ct Cr fIn fIt aq ah aw mtake mended fe fu ft aj : Addr}
theorem ok_NoQuestion {f C cc cda g : Addr} {fdg : FuncData} {B i : String} {oc : Value} {od : Option Addr} {osl : Array (Option Value)} {dV kV doc pm ct : Value} {an : Option Addr}
    (lk : K.lookup f = some ⟨oc, od, .func (PySem.W.fnX "__init__" "NoQuestion.__init__" (defArgs s_NoQuestion) (defBody s_NoQuestion) (defScope s_NoQuestion) [("__class__", cc)] dV kV doc pm an (.ref cda) ct), osl⟩)
    (hcd : PySem.W.codeIn K (.ref cda) "NoQuestion.__init__" = true) (D : Sup.SupF P K B i C cc cda) (Ec : Exg.EcC K C) (hno : PySem.W.findIn K (.ref C) "at" = some none)
    (hsup : mg "super" = none) (htop : (P.main.scope.names.lookup ("super" : Str)).isSome = false) (T : NmO mg K g) (G : FnOk P w K mg base CX0 1 g fdg ["value"] spOwnF) (bO : Binds K fdg ["value"] []) :
    FnOk P w K mg base CX0 2 f (PySem.W.fnX "__init__" "NoQuestion.__init__" (defArgs s_NoQuestion) (defBody s_NoQuestion) (defScope s_NoQuestion) [("__class__", cc)] dV kV doc pm an (.ref cda) ct) ["self", "at"] (spI1 C "at") := by
  refine Sup.ok_sup (F := ⟨"__init__", "NoQuestion.__init__", defArgs s_NoQuestion, defBody s_NoQuestion, defScope s_NoQuestion, [("__class__", cc)], cda⟩) (N := ["self", "at", "__class__"]) D rfl rfl lk hcd (NdefX.nscope_by (by show NdefX.nscB ["self", "at", "__class__"] ["self", "at"] ["__class__"] (defScope s_NoQuestion) = true; decide +kernel)) rfl rfl rfl rfl
    (fun L => ⟨_, rfl⟩) hsup htop (fun vs H Q E h => ?_) (fun vs H Q E h => ?_) (fun A outer s H vs Q E hr h => ?_)
  · obtain ⟨a, v, rfl, _⟩ := h
    rfl
  · obtain ⟨a, v, rfl, ha, _⟩ := h
    exact ⟨a, _, rfl, ha⟩
  · obtain ⟨a, v, rfl, ha, hv, q⟩ := h
    refine ⟨_, pss_one (Exg.ps_st (pv 0) (pe_call G hr rfl T.g T.k bO .nil pass0 (pa_cons (pv 1) pa_nil))), ?_⟩
    refine ⟨_, rfl, v, rfl, hv, ?_⟩
    refine ⟨_, rfl, a, C, rfl, Ec, hno, .inl ⟨ha, fun dx ndx dxa => ?_⟩⟩
    refine q dx _ ndx upd_same (by rw [upd_ne dxa, upd_same]) (fun b o ba e => ?_)
    rw [upd_ne ba, upd_ne (ne_of_none e ndx)]
    exact e
theorem ok_TooMany {f C cc cda g : Addr} {fdg : FuncData} {B i : String} {oc : Value} {od : Option Addr} {osl : Array (Option Value)} {dV kV doc pm ct : Value} {an : Option Addr}
    (lk : K.lookup f = some ⟨oc, od, .func (PySem.W.fnX "__init__" "TooMany.__init__" (defArgs s_TooMany) (defBody s_TooMany) (defScope s_TooMany) [("__class__", cc)] dV kV doc pm an (.ref cda) ct), osl⟩)
    (hcd : PySem.W.codeIn K (.ref cda) "TooMany.__init__" = true) (D : Sup.SupF P K B i C cc cda) (Ec : Exg.EcC K C) (hno : PySem.W.findIn K (.ref C) "word" = some none)
    (hsup : mg "super" = none) (htop : (P.main.scope.names.lookup ("super" : Str)).isSome = false) (T : NmO mg K g) (G : FnOk P w K mg base CX0 1 g fdg ["value"] spOwnF) (bO : Binds K fdg ["value"] []) :
    FnOk P w K mg base CX0 2 f (PySem.W.fnX "__init__" "TooMany.__init__" (defArgs s_TooMany) (defBody s_TooMany) (defScope s_TooMany) [("__class__", cc)] dV kV doc pm an (.ref cda) ct) ["self", "word"] (spI1 C "word") := by
  refine Sup.ok_sup (F := ⟨"__init__", "TooMany.__init__", defArgs s_TooMany, defBody s_TooMany, defScope s_TooMany, [("__class__", cc)], cda⟩) (N := ["self", "word", "__class__"]) D rfl rfl lk hcd (NdefX.nscope_by (by show NdefX.nscB ["self", "word", "__class__"] ["self", "word"] ["__class__"] (defScope s_TooMany) = true; decide +kernel)) rfl rfl rfl rfl
    (fun L => ⟨_, rfl⟩) hsup htop (fun vs H Q E h => ?_) (fun vs H Q E h => ?_) (fun A outer s H vs Q E hr h => ?_)
  · obtain ⟨a, v, rfl, _⟩ := h
    rfl
  · obtain ⟨a, v, rfl, ha, _⟩ := h
    exact ⟨a, _, rfl, ha⟩
  · obtain ⟨a, v, rfl, ha, hv, q⟩ := h
    refine ⟨_, pss_one (Exg.ps_st (pv 0) (pe_call G hr rfl T.g T.k bO .nil pass0 (pa_cons (pv 1) pa_nil))), ?_⟩
    refine ⟨_, rfl, v, rfl, hv, ?_⟩
    refine ⟨_, rfl, a, C, rfl, Ec, hno, .inl ⟨ha, fun dx ndx dxa => ?_⟩⟩
    refine q dx _ ndx upd_same (by rw [upd_ne dxa, upd_same]) (fun b o ba e => ?_)
    rw [upd_ne ba, upd_ne (ne_of_none e ndx)]
    exact e
theorem ok_refuse {f : Addr} {fd fdc fdd fdo fdt : FuncData} (F : Fun K "refuse_many" "refuse_many" s_refuse f fd) (T : NmQ P w mg K fct fdp fox fw frf C Cn Ct Cr fIn fIt aq ah aw mtake mended)
    (G_count : FnOk P w K mg base CX0 1 fct fdc ["words", "wanted"] (spCount K)) (b_count : Binds K fdc ["words", "wanted"] [])
    (G_depth : FnOk P w K mg base CX0 1 fdp fdd ["words"] (spDepth K)) (b_depth : Binds K fdd ["words"] [])
    (G_outx : FnOk P w K mg base CX0 33 fox fdo ["part"] spOutx) (b_outx : Binds K fdo ["part"] [])
    (It : FnOk P w K mg base CX0 2 fIt fdt ["self", "word"] (spI1 Ct "word")) (bt : Binds K fdt ["self", "word"] []) : FnOk P w K mg base (L2.CX P w) 34 f fd ["words", "part"] (spRefuse K Ct) := by
  refine F.okX sc_refuse (fun vs H Q E h => ?_) (fun cdv A outer s H vs Q E hr h => ?_)
  · obtain ⟨l, ws, v, p, rfl, _⟩ := h
    rfl
  · obtain ⟨l, ws, v, p, rfl, hl, hv, hw, hwt, hb, hn, hd, q, qE⟩ := h
    have r1 := hr.mono (show 1 ≤ 33 by decide)
    have r2 := hr.mono (show 3 ≤ 33 by decide)
    refine ⟨_, (pss_cons (ps_if (pt_cmpR op_gt (pe_call G_count r1 rfl T.g_count_of T.k_count_of b_count .nil pass0 (pa_cons (pv 0) (pa_cons (pe_glob (v := .ref _) rfl T.g_ATOM_WORDS rfl) pa_nil))) pe_int (nomark _)) (pss_one (ps_raise rfl (takes_of rfl rfl rfl rfl) (Tr.pmk_of T.m_TooMany T.k_TooMany (raises_own T.b_TooMany T.t_TooMany) It r2 bt pass0 rfl T.g_TooMany (pa_cons pe_str pa_nil)))) pss_nil)
      (pss_cons (ps_if (pt_cmpR op_gt (pe_call G_depth r1 rfl T.g_depth_of T.k_depth_of b_depth .nil pass0 (pa_cons (pv 0) pa_nil)) pe_int (nomark _)) (pss_one (ps_raise rfl (takes_of rfl rfl rfl rfl) (Tr.pmk_of T.m_TooMany T.k_TooMany (raises_own T.b_TooMany T.t_TooMany) It r2 bt pass0 rfl T.g_TooMany (pa_cons pe_str pa_nil)))) pss_nil)
      (pss_one (ps_if (pt_cmpR op_gt (Ws.pe_lenZ (by rfl) T.n_len (by rfl) T.n_set (pe_call G_outx hr rfl T.g_outer_texts T.k_outer_texts b_outx .nil pass0 (pa_cons (pv 1) pa_nil))) pe_int (nomark _)) (pss_one (ps_raise rfl (takes_of rfl rfl rfl rfl) (Tr.pmk_of T.m_TooMany T.k_TooMany (raises_own T.b_TooMany T.t_TooMany) It r2 bt pass0 rfl T.g_TooMany (pa_cons pe_str pa_nil)))) pss_nil)))), ?_⟩
    have gti : ∀ (a b : Nat), decide (((a : Nat) : Int) > ((b : Nat) : Int)) = decide (a > b) := fun a b => decide_eq_decide.mpr (by omega)
    refine ⟨_, rfl, l, aw, ws, atw, rfl, SqL.of hl, T.atw_.at_ H, hn, fun H1 S1 => ?_⟩
    refine ⟨_, _, rfl, rfl, _, rfl, ite2 (fun h1 => ?_) (fun h1 => ?_)⟩
    · refine ⟨(by show 1 ≤ 1000; decide), raise1 (.inr ⟨_, rfl⟩) S1 fun d H' s e => qE _ d H' s ?_ e⟩
      unfold manyOf
      rw [if_pos (by have := of_decide_eq_true h1; omega)]
    have n1 : ¬ cntW ws atw > 8 := fun z => h1 (decide_eq_true (by omega))
    refine ⟨_, rfl, l, ws, rfl, S1.seq (SqL.of hl), hb, hn, fun H2 S2 => ?_⟩
    refine ⟨_, _, rfl, rfl, _, rfl, ite2 (fun h2 => ?_) (fun h2 => ?_)⟩
    · refine ⟨(by show 1 ≤ 1000; decide), raise1 (.inr ⟨_, rfl⟩) (S1.trans S2) fun d H' s e => qE _ d H' s ?_ e⟩
      unfold manyOf
      rw [if_neg n1, if_pos (by have := of_decide_eq_true h2; omega)]
    have n2 : ¬ depthW ws > 6 := fun z => h2 (decide_eq_true (by omega))
    have S12 := S1.trans S2
    refine ⟨_, rfl, v, p, rfl, hv.mono (fun b xs e => S12 _ _ e), hw, hd (by omega), by omega, fun lo H3 S3 nlo elo => ?_⟩
    have ol := outT_len p
    refine ⟨lo, _, rfl, SqL.of elo, by omega, ?_⟩
    refine ⟨_, _, rfl, rfl, _, rfl, ite2 (fun h3 => ?_) (fun h3 => ?_)⟩
    · refine ⟨(by show 1 ≤ 1000; decide), raise1 (.inr ⟨_, rfl⟩) (S12.trans S3) fun d H' s e => qE _ d H' s ?_ e⟩
      unfold manyOf
      rw [if_neg n1, if_neg n2, if_pos (by have := of_decide_eq_true h3; omega)]
    · have n3 : ¬ Ws.met (outT p) (outT p).length > 2 := fun z => h3 (decide_eq_true (by omega))
      refine q H3 (S12.trans S3) ?_
      unfold manyOf
      rw [if_neg n1, if_neg n2, if_neg n3]
theorem ok_qinit {f : Addr} {fd fdt : FuncData} (F : Fun K "__init__" "Question.__init__" s_qinit f fd) (T : NmQ P w mg K fct fdp fox fw frf C Cn Ct Cr fIn fIt aq ah aw mtake mended) (TX : NmTx mg K fe fu ft aj)
    (G_text : FnOk P w K mg base CX0 32 ft fdt ["part"] (spTxt 15)) (b_text : Binds K fdt ["part"] []) : FnOk P w K mg base CX0 33 f fd ["self", "part"] (spQInit C) := by
  refine F.ok sc_qinit (fun vs H Q E h => ?_) (fun cdv A outer s H vs Q E hr h => ?_)
  · obtain ⟨a, dx, v, p, rfl, _⟩ := h
    rfl
  · obtain ⟨a, dx, v, p, rfl, ha, hv, hw, hh, hwt, q⟩ := h
    refine ⟨_, (pss_cons (ps_fld (pv 0) (pv 1) rfl) (pss_one (ps_fld (pv 0) (pe_call G_text hr rfl TX.g_text TX.k_text b_text .nil pass0 (pa_cons (pv 1) pa_nil)) rfl))), ?_⟩
    refine ⟨_, rfl, _, rfl, a, C, dx, [], rfl, ha, T.cl, T.a_part, (by show 0 < 1000; decide), ?_⟩
    have k1 : ∀ b o, b ≠ a → H b = some o → upd H a (.ins C dx (putF "part" v [])) b = some o := fun b o n e => (upd_ne n).trans e
    have ea1 : upd H a (.ins C dx (putF "part" v [])) a = some (.ins C dx (putF "part" v [])) := upd_same
    generalize upd H a (.ins C dx (putF "part" v [])) = H1 at *
    refine ⟨_, rfl, v, p, rfl, hv.mono (fun b xs e => k1 b _ (ne_of e ha fun z => nomatch z) e), hw, hh, hwt, fun H2 S2 => ?_⟩
    refine ⟨_, rfl, a, C, dx, _, rfl, S2 _ _ ea1, T.cl, T.a_text, (by show 1 < 1000; decide), ?_⟩
    exact q _ (fun b o n e => (upd_ne n).trans (S2 _ _ (k1 b o n e))) upd_same
theorem ok_qstr {f : Addr} {fd : FuncData} (F : Fun K "__str__" "Question.__str__" s_qstr f fd) (T : NmQ P w mg K fct fdp fox fw frf C Cn Ct Cr fIn fIt aq ah aw mtake mended) : FnOk P w K mg base CX0 1 f fd ["self"] (spQStr C) := by
  refine F.ok sc_qstr (fun vs H Q E h => ?_) (fun cdv A outer s H vs Q E hr h => ?_)
  · obtain ⟨a, p, rfl, _⟩ := h
    rfl
  · obtain ⟨a, p, rfl, ⟨dx, v, ha, _⟩, hw, q⟩ := h
    refine ⟨_, pss_one (ps_ret (pe_joined1 (pe_fmt (pe_fld (pv 0) rfl)))), ?_⟩
    have hl := txt_len p
    exact ⟨_, rfl, a, C, dx, _, _, rfl, ha, T.cl, T.a_text, fq_text _ _, .inl ⟨txt p, rfl, by rw [sizeLine_eq]; omega, q⟩⟩
end
end Q2

set_option linter.all false
set_option maxRecDepth 100000
set_option maxHeartbeats 8000000
set_option pp.maxSteps 150
namespace Q2
open PySem PySem.Spec PyProof.Rows L2 Gx Qp Qh
theorem kws_ok {x : Str} (h : x ∈ kws) : WdOk x := by
  simp only [List.mem_cons, List.not_mem_nil, or_false] at h
  rcases h with rfl | rfl | rfl <;> exact ⟨by decide +kernel, by decide +kernel⟩
theorem qfs_len : ∀ f ∈ qfs, f.length ≤ 1000 := fun f h => by
  simp only [List.mem_cons, List.not_mem_nil, or_false] at h
  rcases h with rfl | rfl | rfl | rfl <;> decide +kernel
section
variable {P : Program} {w : World} {K : PySem.W.Frag} {mg : Str → Option Value} {base : Heap} {fct fdp fox fw frf C Cn Ct Cr fIn fIt aq ah aw mtake mended fe fu ft aj fRI fQI : Addr}
theorem ok_qread {f : Addr} {fd fdw fdr fdI fdq fdn fdt fde : FuncData} (F : Fun K "read" "Question.read" s_qread f fd) (T : NmQ P w mg K fct fdp fox fw frf C Cn Ct Cr fIn fIt aq ah aw mtake mended)
    (G_words_in : FnOk P w K mg base CX0 1 fw fdw ["row"] spWords) (b_words_in : Binds K fdw ["row"] [])
    (M_R : Mk K Cr fRI) (G_dinit : FnOk P w K mg base CX0 1 fRI fdI ["self", "forms", "heads"] (spDInit Cr)) (b_dinit : Binds K fdI ["self", "forms", "heads"] [])
    (G_take : FnOk P w K mg base CX0 5 mtake fdt ["self", "word"] (spTakeR K Cr)) (b_take : Binds K fdt ["self", "word"] [])
    (G_ended : FnOk P w K mg base CX0 3 mended fde ["self"] (spEnded Cr)) (b_ended : Binds K fde ["self"] [])
    (G_refuse : FnOk P w K mg base (L2.CX P w) 34 frf fdr ["words", "part"] (spRefuse K Ct)) (b_refuse : Binds K fdr ["words", "part"] [])
    (M_Q : Mk K C fQI) (G_qinit : FnOk P w K mg base CX0 33 fQI fdq ["self", "part"] (spQInit C)) (b_qinit : Binds K fdq ["self", "part"] [])
    (In : FnOk P w K mg base CX0 2 fIn fdn ["self", "at"] (spI1 Cn "at")) (bn : Binds K fdn ["self", "at"] []) : FnOk P w K mg base (L2.CX P w) 35 f fd ["text"] (spQRead C Cn Ct) := by
  refine F.okX sc_qread (fun vs H Q E h => ?_) (fun cdv A outer s H vs Q E hr h => ?_)
  · obtain ⟨z, rfl, _⟩ := h
    rfl
  · obtain ⟨z, rfl, hz, hA, q, qN, qT⟩ := h
    have r1 := hr.mono (show 1 ≤ 34 by decide)
    have r2 := hr.mono (show 2 ≤ 34 by decide)
    have r3 := hr.mono (show 3 ≤ 34 by decide)
    have r5 := hr.mono (show 5 ≤ 34 by decide)
    refine ⟨_, pss_cons (ps_set (i := 1) sc_qread.nd rfl (.inl rfl) (pe_call G_words_in r1 rfl T.g_words_in T.k_words_in b_words_in .nil pass0 (pa_cons (pv 0) pa_nil)))
      (pss_cons (ps_set (i := 2) sc_qread.nd rfl (.inl rfl) (pe_make M_R G_dinit r2 rfl T.g_Reading b_dinit .nil pass0 (pa_cons (pe_glob (v := .ref _) rfl T.g_QUESTION_FORMS rfl) (pa_cons (pe_glob (v := .ref _) rfl T.g_HEADS rfl) pa_nil))))
      (pss_cons (ps_for PassesOwn.leaving rfl (pi_enum (by rfl) T.n_enumerate (pa_cons (pv 1) pa_nil)) (pg_tup rfl (pgs_cons (pg_name (i := 3) sc_qread.nd rfl (.inl rfl)) (pgs_cons (pg_name (i := 4) sc_qread.nd rfl (.inl rfl)) pgs_nil)))
        (pss_one (ps_if (pt_not (pt_val (pe_meth (pv 2) T.rcl T.m_take G_take r5 b_take .nil pass0 (pa_cons (pv 4) pa_nil)))) (pss_one (ps_raise rfl (takes_of rfl rfl rfl rfl) (Tr.pmk_of T.m_NoQuestion T.k_NoQuestion (raises_own T.b_NoQuestion T.t_NoQuestion) In r3 bn pass0 rfl T.g_NoQuestion (pa_cons (pv 3) pa_nil)))) pss_nil)))
      (pss_cons (ps_set (i := 5) sc_qread.nd rfl (.inl rfl) (pe_meth0 (pv 2) T.rcl T.m_ended G_ended r3 b_ended .nil pass0))
      (pss_cons (ps_if (pt_cmpR op_isN (pv 5) pe_non (nomark _)) (pss_one (ps_raise rfl (takes_of rfl rfl rfl rfl) (Tr.pmk_of T.m_NoQuestion T.k_NoQuestion (raises_own T.b_NoQuestion T.t_NoQuestion) In r3 bn pass0 rfl T.g_NoQuestion (pa_cons (pe_callB call_len_seq (by rfl) T.n_len (by decide +kernel) (pa_cons (pv 1) pa_nil)) pa_nil)))) pss_nil)
      (pss_cons (ps_expr (pe_call G_refuse hr rfl T.g_refuse_many T.k_refuse_many b_refuse .nil (passes_call (takes_of rfl rfl rfl rfl) (fun _ _ _ _ h => h)) (pa_cons (pv 1) (pa_cons (pv 5) pa_nil))))
      (pss_one (ps_ret (pe_make M_Q G_qinit hr rfl T.g_Question b_qinit .nil pass0 (pa_cons (pv 5) pa_nil))))))))), ?_⟩
    have hcnt := wordsL_count z
    have hww := wtW_words z
    refine ⟨_, rfl, z, rfl, by omega, fun L H1 S1 nL eL => ?_⟩
    have hwd : ∀ x ∈ wordsL z, WdOk x := fun x hx => ⟨by have := wordsL_len hx; omega, wordsL_asc hA hx⟩
    have hdrop0 : (wordsL z).drop 0 = wordsL z := rfl
    unfold readQ at q qN qT
    generalize hWS : wordsL z = ws at *
    intro a dx na nd dxa
    refine ⟨a, dx, aq, ah, rfl, upd_same, fun lp lw H2 k2 nlp nlw hrd0 => ⟨rfl, ?_⟩⟩
    have S2 : Same H1 (upd (upd H1 dx (.own a)) a (.ins Cr dx [])) := fun b o e => by
      rw [upd_ne (ne_of_none e na), upd_ne (ne_of_none e nd)]
      exact e
    have up1 : Same H1 H2 := fun b o e => k2 b o (ne_of_none e na) (S2 b o e)
    have n1a : ∀ {b : Addr} {o : HO}, H1 b = some o → b ≠ a ∧ b ≠ lp ∧ b ≠ lw := fun {b o} e => ⟨ne_of_none e na, ne_of_none (S2 b o e) nlp, ne_of_none (S2 b o e) nlw⟩
    have eL2 := up1 _ _ eL
    refine ⟨_, rfl, L, _, rfl, SqL.of eL2, ?_⟩
    have upF : ∀ {Hi : Hp}, FrR H2 Hi a lp lw → Same H Hi := fun f b o e => by
      have e1 := S1 _ _ e
      obtain ⟨x, y, z⟩ := n1a e1
      exact f b o x y z (up1 _ _ e1)
    have upL : ∀ {Hi : Hp}, FrR H2 Hi a lp lw → Hi L = some (.lst (ws.map V.str)) := fun f => by
      obtain ⟨x, y, z⟩ := n1a eL
      exact f L _ x y z eL2
    refine for_it walk_enum (fun i σ Hi => FrR H2 Hi a lp lw ∧ ∃ (st : RS) (b3 b4 : Option V), RdAt Cr Hi a dx aq ah lp lw st ∧ Inv st ∧ wtS st ≤ wtW (ws.take i) ∧ runS qfs hds st (ws.drop i) i = runS qfs hds st0 ws 0 ∧ σ = [some (.str z), some (.ref L), some (.ref a), b3, b4, none])
      ⟨FrR.refl, st0, none, none, hrd0, st0_inv, Nat.zero_le _, rfl, rfl⟩ (fun i σ H' _ p => SqL.of (upL p.1)) (fun j x σ H5 H6 hj p y => ?_) (fun σ H5 p => ?_)
    · obtain ⟨f5, st, b3, b4, hrd, I, hwt, hrun, rfl⟩ := p
      obtain ⟨T0, x', y', rfl, nT, rfl, ex, ey⟩ := y
      cases ex
      obtain ⟨wd, hwdj, rfl⟩ := map_get ey
      have hm := List.mem_of_getElem? hwdj
      have s6 := new_same (o := .tup [.int (j : Nat), .str wd]) nT
      have eT : upd H5 T0 (.tup [.int (j : Nat), .str wd]) T0 = some (.tup [.int (j : Nat), .str wd]) := upd_same
      have hrd6 := hrd.same s6
      have f6 := f5.trans (FrR.of s6 (a := a) (lp := lp) (lw := lw))
      generalize upd H5 T0 (.tup [.int (j : Nat), .str wd]) = H6 at *
      refine ⟨T0, _, rfl, SqT.of eT, rfl, _, _, rfl, _, _, rfl, rfl, ?_⟩
      have wl := wtW_take ws j
      have hbg : ∀ x ∈ st.begun, WdOk x := fun x hx => by
        rcases I.beg with h0 | ⟨y, hy, h0⟩
        · rw [h0] at hx
          exact nomatch hx
        · rw [h0] at hx
          rw [List.mem_singleton.mp hx]
          exact kws_ok hy
      refine ⟨_, rfl, a, dx, _, rfl, hrd6.ex.choose_spec.choose_spec.1, rfl, _, rfl, a, dx, aq, ah, lp, lw, qfs, hds, st, wd, rfl, T.forms, T.heads, qfs_len, by decide, hrd6, I.ok, by omega, hwd wd hm, hbg, fun H7 f7 hrd7 => ?_⟩
      have hat := runS_at (fs := qfs) (hs := hds) (st := st) hwdj
      have f27 := f6.trans f7
      cases ht : takeS qfs hds st wd with
      | none =>
        rw [ht] at hat
        rw [hrun] at hat
        refine ⟨_, rfl, iteT ?_⟩
        refine ⟨_, rfl, (by show 1 ≤ 1000; decide), raise1 (.inl ⟨_, rfl⟩) (upF f27) fun d H' s e => qN j d H' s ?_ e⟩
        rw [hat]
      | some st' =>
        rw [ht] at hat
        refine ⟨_, rfl, iteF ?_⟩
        have hk := take_ok hhd I.ok ht
        refine ⟨f27, st', _, _, hrd7 st' ht, take_inv I ht, ?_, hat.symm.trans hrun, rfl⟩
        rw [wtW_snoc hwdj]
        omega
    · obtain ⟨f5, st, b3, b4, hrd, I, hwt, hrun, rfl⟩ := p
      rw [List.length_map, List.drop_length, runS] at hrun
      rw [List.length_map] at hwt
      have wl := wtW_take ws ws.length
      rw [← hrun] at q qN qT
      dsimp only at q qN qT
      have up5 := upL f5
      refine ⟨_, rfl, a, dx, _, rfl, hrd.ex.choose_spec.choose_spec.1, rfl, a, dx, aq, ah, lp, lw, st, rfl, hrd, I.ok, by omega, fun H6 f6 => ?_⟩
      have f26 := f5.trans f6
      have eL6 := upL f26
      have up6 := upF f26
      refine ⟨fun hn => ?_, fun p v hp hv => ?_⟩
      · refine ⟨_, rfl, rfl, _, rfl, iteT ?_⟩
        refine ⟨_, rfl, L, _, rfl, .inl (SqL.of eL6), (by show 1 ≤ 1000; decide), ?_⟩
        rw [List.length_map]
        refine raise1 (.inl ⟨_, rfl⟩) up6 fun d H' s e => qN ws.length d H' s ?_ e
        rw [hn]
      · rw [hp] at q qN qT
        obtain ⟨wp, wtp⟩ := end_ok I.ok hp
        obtain ⟨hbal, hht⟩ := read_deep hrun.symm hp
        obtain ⟨va, vu, rfl, _⟩ := hv.head
        refine ⟨_, rfl, rfl, _, rfl, iteF ?_⟩
        refine ⟨_, rfl, _, rfl, L, ws, _, p, rfl, eL6, hv, wp, by omega, hbal, by omega, fun hd => by omega, fun H7 S7 hm => ?_, fun m d H' s hm e => qT m d H' (up6.trans s) (by show (match manyOf ws p with | some m => QR.many m | none => QR.ok p) = _; rw [hm]) e⟩
        have hd6 : ¬ depthW ws > 6 := fun z => by
          unfold manyOf at hm
          by_cases c : cntW ws atw > 8
          · rw [if_pos c] at hm
            cases hm
          · rw [if_neg c, if_pos z] at hm
            cases hm
        have hv7 := hv.mono fun b xs e => S7 _ _ e
        refine ⟨_, rfl, fun b db nb ndb dbb => ?_⟩
        have S8 : Same H7 (upd (upd H7 db (.own b)) b (.ins C db [])) := fun x o e => by
          rw [upd_ne (ne_of_none e nb), upd_ne (ne_of_none e ndb)]
          exact e
        refine ⟨b, db, _, p, rfl, upd_same, hv7.mono (fun x xs e => S8 _ _ e), wp, by omega, by omega, fun H8 k8 e8 => ⟨rfl, ?_⟩⟩
        have up7 := up6.trans S7
        refine q b p H8 (fun x o e => ?_) (up7.free nb) (by show (match manyOf ws p with | some m => QR.many m | none => QR.ok p) = _; rw [hm]) wp (by omega) (by omega) ⟨db, _, e8, ?_⟩
        · have e7 := up7 _ _ e
          exact k8 x o (ne_of_none e7 nb) (S8 _ _ e7)
        · exact hv7.mono fun x xs e => k8 x _ (ne_of_none e nb) (S8 _ _ e)
end
end Q2

set_option linter.all false
set_option maxRecDepth 100000
set_option maxHeartbeats 8000000
set_option pp.maxSteps 150
namespace Q2
open PySem PySem.Spec PyProof.Rows L2 Gx Qp Qh
/-! ### the law's own trees -/
inductive LT where
  | at (ws : List Str)
  | un (h : Str) (t : LT)
  | bi (j : Str) (a b : LT)
def AtWs (ws : List Str) : Prop := ws = [("root" : Str)] ∨ ∃ x k, x ∈ kws ∧ CapOk k ∧ ws = [x, k]
def wfT : LT → Prop
  | .at ws => AtWs ws
  | .un h t => h ∈ hds ∧ wfT t
  | .bi j a b => j ∈ jts ∧ wfT a ∧ wfT b
def hdT : LT → Str
  | .at ws => ws.headD ""
  | .un h _ => h
  | .bi j _ _ => j
/-- the longest its text can be -/
def BT : LT → Nat
  | .at _ => 16
  | .un h t => h.length + 9 + BT t
  | .bi j a b => j.length + 14 + BT a + BT b
def NT : LT → Nat
  | .at _ => 1
  | .un _ t => 1 + NT t
  | .bi _ a b => 1 + NT a + NT b
inductive LTAt (H : Hp) : V → LT → Prop
  | at {a : Addr} {ws : List Str} : H a = some (.tup (ws.map V.str)) → LTAt H (.ref a) (.at ws)
  | un {a : Addr} {u : V} {h : Str} {t : LT} : H a = some (.tup [.str h, u]) → LTAt H u t → LTAt H (.ref a) (.un h t)
  | bi {a : Addr} {u1 u2 : V} {j : Str} {t1 t2 : LT} : H a = some (.tup [.str j, u1, u2]) → LTAt H u1 t1 → LTAt H u2 t2 → LTAt H (.ref a) (.bi j t1 t2)
theorem LTAt.mono {H H' : Hp} {v : V} {t : LT} (h : LTAt H v t) (s : ∀ a xs, H a = some (.tup xs) → H' a = some (.tup xs)) : LTAt H' v t := by
  induction h with
  | «at» e => exact .at (s _ _ e)
  | un e _ ih => exact .un (s _ _ e) ih
  | bi e _ _ ih1 ih2 => exact .bi (s _ _ e) ih1 ih2
theorem kp_tups {p : Addr} {H H' : Hp} {m : Nat} (b : BoxAt H p m) (k : Kp p H H') : ∀ a xs, H a = some (.tup xs) → H' a = some (.tup xs) := fun a xs e => by
  obtain ⟨c, sd, n, e2, _⟩ := b
  exact k a _ (ne_of e e2 fun z => nomatch z) e
abbrev s_wish : Stmt := topS 45
abbrev n_wish : List Str := ["_law_box_here", "_law_caps_here", "_law_size", "_law_word", "_law_atom", "_law_form", "_law_left", "_law_one", "_law_other", "_law_tree"]
theorem sc_wish : FnScope n_wish ["_law_box_here", "_law_caps_here", "_law_size"] (defScope s_wish) := ⟨rfl, rfl, rfl, by decide +kernel, rfl, by decide +kernel, by decide +kernel⟩
structure NmWi (mg : Str → Option Value) (K : PySem.W.Frag) (ft fp fw : Addr) : Prop where
  g__law_take : mg "_law_take" = some (.ref ft)
  k__law_take : PySem.W.keepIn K (.ref ft) = true
  g__law_pick : mg "_law_pick" = some (.ref fp)
  k__law_pick : PySem.W.keepIn K (.ref fp) = true
  g__law_wish : mg "_law_wish" = some (.ref fw)
  k__law_wish : PySem.W.keepIn K (.ref fw) = true
def spWish (d : Nat) : Sp := fun vs H Q _ => ∃ (p c : Addr) (ys : List Str) (m n : Nat), vs = [.ref p, .ref c, .int (n : Nat)] ∧ BoxAt H p m ∧ H c = some (.lst (ys.map V.str)) ∧ c ≠ p ∧ 1 ≤ ys.length ∧ ys.length ≤ 6 ∧ (∀ y ∈ ys, CapOk y) ∧ 1 ≤ n ∧ n ≤ d ∧ n ≤ 100 ∧ m + 12 * n ≤ 50000 ∧
  ∀ (v : V) (t : LT) (m' : Nat) (H' : Hp), Kp p H H' → BoxAt H' p m' → m' + 6 ≤ m + 12 * n → LTAt H' v t → wfT t → BT t + 30 ≤ 60 * n → NT t + 2 ≤ 4 * n → Q v H'
theorem at6 {x : V} (h : x ∈ ([.str "is", .str "is", .str "earlier", .str "later", .str "later", .str "root"] : List V)) : ∃ w : Str, x = .str w ∧ (w = "root" ∨ (w ≠ "root" ∧ w ∈ kws)) := by
  simp only [List.mem_cons, List.not_mem_nil, or_false] at h
  rcases h with rfl | rfl | rfl | rfl | rfl | rfl
  · exact ⟨_, rfl, .inr (by decide +kernel)⟩
  · exact ⟨_, rfl, .inr (by decide +kernel)⟩
  · exact ⟨_, rfl, .inr (by decide +kernel)⟩
  · exact ⟨_, rfl, .inr (by decide +kernel)⟩
  · exact ⟨_, rfl, .inr (by decide +kernel)⟩
  · exact ⟨_, rfl, .inl rfl⟩
section
variable {P : Program} {w : World} {K : PySem.W.Frag} {mg : Str → Option Value} {base : Heap} {ft fp fw : Addr}
theorem ok_wish {fdw fdt fdp : FuncData} (F : Fun K "_law_wish" "_law_wish" s_wish fw fdw) (T : NmWi mg K ft fp fw) (b_wish : Binds K fdw ["_law_box_here", "_law_caps_here", "_law_size"] [])
    (G_take : FnOk P w K mg base CX0 1 ft fdt ["_law_box_here", "_law_many"] spTake) (b_take : Binds K fdt ["_law_box_here", "_law_many"] [])
    (G_pick : FnOk P w K mg base CX0 2 fp fdp ["_law_box_here", "_law_items"] spPick) (b_pick : Binds K fdp ["_law_box_here", "_law_items"] []) : ∀ d, FnOk P w K mg base CX0 (d + 2) fw fdw ["_law_box_here", "_law_caps_here", "_law_size"] (spWish d) := by
  intro d
  induction d with
  | zero =>
    exact ⟨fun vs H Q E h => by
      obtain ⟨p, c, ys, m, n, rfl, _⟩ := h
      rfl, fun A outer s H args us vs Q E _ _ _ _ h => by
      obtain ⟨p, c, ys, m, n, _, _, _, _, _, _, _, h1, h2, _⟩ := h
      omega⟩
  | succ d G_wish =>
    refine F.ok sc_wish (fun vs H Q E h => ?_) (fun cdv A outer s H vs Q E hr h => ?_)
    · obtain ⟨p, c, ys, m, n, rfl, _⟩ := h
      rfl
    · obtain ⟨p, c, ys, m, n, rfl, hb, hc, cp, hy1, hy6, hyc, hn1, hnd, hn100, hm, q⟩ := h
      have r1 := hr.mono (show 1 ≤ d + 2 by omega)
      have r2 := hr.mono (show 2 ≤ d + 2 by omega)
      refine ⟨_, (pss_cons (ps_if (pt_cmpR op_eq (pv 2) pe_int (nomark _))
          (pss_cons (ps_set (i := 3) sc_wish.nd rfl (.inl rfl) (pe_call G_pick r2 rfl T.g__law_pick T.k__law_pick b_pick .nil pass0 (pa_cons (pv 0) (pa_cons (pe_lst (pa_cons pe_str (pa_cons pe_str (pa_cons pe_str (pa_cons pe_str (pa_cons pe_str (pa_cons pe_str pa_nil))))))) pa_nil))))
          (pss_cons (ps_set (i := 4) sc_wish.nd rfl (.inl rfl) (pe_ifExp (pt_cmpR op_eq (pv 3) pe_str (nomark _)) (pe_tup (pa_cons pe_str pa_nil)) (pe_tup (pa_cons (pv 3) (pa_cons (pe_call G_pick r2 rfl T.g__law_pick T.k__law_pick b_pick .nil pass0 (pa_cons (pv 0) (pa_cons (pv 1) pa_nil))) pa_nil)))))
          (pss_one (ps_ret (pe_ifExp (pt_cmpR op_eq (pe_call G_take r1 rfl T.g__law_take T.k__law_take b_take .nil pass0 (pa_cons (pv 0) (pa_cons pe_int pa_nil))) pe_int (nomark _)) (pe_tup (pa_cons pe_str (pa_cons (pv 4) pa_nil))) (pv 4)))))) pss_nil)
        (pss_cons (ps_set (i := 5) sc_wish.nd rfl (.inl rfl) (pe_call G_take r1 rfl T.g__law_take T.k__law_take b_take .nil pass0 (pa_cons (pv 0) (pa_cons pe_int pa_nil))))
        (pss_cons (ps_if (pt_cmpR op_eq (pv 5) pe_int (nomark _)) (pss_one (ps_ret (pe_tup (pa_cons (pe_ix ix_list (pe_lst (pa_cons pe_str (pa_cons pe_str pa_nil))) (pe_call G_take r1 rfl T.g__law_take T.k__law_take b_take .nil pass0 (pa_cons (pv 0) (pa_cons pe_int pa_nil))) (fun _ _ => rfl)) (pa_cons (pe_call G_wish hr rfl T.g__law_wish T.k__law_wish b_wish .nil pass0 (pa_cons (pv 0) (pa_cons (pv 1) (pa_cons (pe_op op_sub (pv 2) pe_int) pa_nil)))) pa_nil))))) pss_nil)
        (pss_cons (ps_set (i := 6) sc_wish.nd rfl (.inl rfl) (pe_op op_add pe_int (pe_call G_take r1 rfl T.g__law_take T.k__law_take b_take .nil pass0 (pa_cons (pv 0) (pa_cons (pe_op op_sub (pv 2) pe_int) pa_nil)))))
        (pss_cons (ps_par (i := 7) (j := 8) (by rfl) sc_wish.nd rfl rfl (by decide) rfl rfl (pa_cons (pe_call G_wish hr rfl T.g__law_wish T.k__law_wish b_wish .nil pass0 (pa_cons (pv 0) (pa_cons (pv 1) (pa_cons (pv 6) pa_nil)))) (pa_cons (pe_call G_wish hr rfl T.g__law_wish T.k__law_wish b_wish .nil pass0 (pa_cons (pv 0) (pa_cons (pv 1) (pa_cons (pe_op op_sub (pv 2) (pv 6)) pa_nil)))) pa_nil)) (by rfl))
        (pss_cons (ps_set (i := 9) sc_wish.nd rfl (.inl rfl) (pe_tup (pa_cons (pe_ix ix_list (pe_lst (pa_cons pe_str (pa_cons pe_str pa_nil))) (pe_op op_sub (pv 5) pe_int) (fun _ _ => rfl)) (pa_cons (pv 7) (pa_cons (pv 8) pa_nil)))))
        (pss_one (ps_ret (pe_ifExp (pt_cmpR op_eq (pe_call G_take r1 rfl T.g__law_take T.k__law_take b_take .nil pass0 (pa_cons (pv 0) (pa_cons pe_int pa_nil))) pe_int (nomark _)) (pe_tup (pa_cons pe_str (pa_cons (pv 9) pa_nil))) (pv 9)))))))))), ?_⟩
      refine ⟨_, rfl, rfl, _, rfl, ite2 (fun h1 => ?_) (fun h1 => ?_)⟩
      · have hn : n = 1 := by
          have := V.int.inj (of_decide_eq_true h1)
          omega
        subst hn
        refine ⟨_, rfl, (by show 6 ≤ sizeLine; decide), fun l nl => ?_⟩
        have S1 := new_same (o := .lst [.str "is", .str "is", .str "earlier", .str "later", .str "later", .str "root"]) nl
        have el : upd H l (.lst [.str "is", .str "is", .str "earlier", .str "later", .str "later", .str "root"]) l = some (.lst [.str "is", .str "is", .str "earlier", .str "later", .str "later", .str "root"]) := upd_same
        have pl := hb.ne nl
        have hb1 := hb.mono S1
        have ec1 := S1 _ _ hc
        have K1 : Kp p H (upd H l (.lst [.str "is", .str "is", .str "earlier", .str "later", .str "later", .str "root"])) := Kp.of S1
        generalize upd H l (.lst [.str "is", .str "is", .str "earlier", .str "later", .str "later", .str "root"]) = H1 at *
        refine ⟨p, l, _, m, rfl, hb1, el, Ne.symm pl, by decide, by decide, by omega, fun x H2 hx hb2 k2 => ?_⟩
        obtain ⟨wd, rfl, hwd⟩ := at6 hx
        have ec2 := k2 c _ cp ec1
        have K2 := K1.trans k2
        refine ⟨_, rfl, rfl, _, rfl, ?_⟩
        rcases hwd with hw0 | ⟨hw0, hwk⟩
        · rw [decide_eq_true (congrArg V.str hw0)]
          refine iteT ⟨(by show 1 ≤ sizeLine; decide), fun ta nta => ?_⟩
          have S3 := new_same (o := .tup [.str "root"]) nta
          have et3 : upd H2 ta (.tup [.str "root"]) ta = some (.tup (([("root" : Str)] : List Str).map V.str)) := upd_same
          have hb3 := hb2.mono S3
          have K3 := K2.trans (Kp.of (p := p) S3)
          generalize upd H2 ta (.tup [.str "root"]) = H3 at *
          refine ⟨_, rfl, p, 4, (m + 1), rfl, hb3, by omega, by decide, by decide, fun d4 H9 d40 d41 hb9 k9 => ⟨rfl, _, rfl, ?_⟩⟩
          have K9 := K3.trans (Kp.eq k9)
          have et9 := kp_tups hb3 (Kp.eq k9) _ _ et3
          refine ite2 (fun _ => ?_) (fun _ => ?_)
          · refine ⟨_, rfl, (by show 2 ≤ sizeLine; decide), fun t9 nt9 => ?_⟩
            have S9 := new_same (o := .tup [.str "not", .ref ta]) nt9
            refine q _ (.un "not" (.at [("root" : Str)])) ((m + 1) + 1) _ (K9.trans (Kp.of S9)) (hb9.mono S9) (by omega) (.un upd_same (.at (S9 _ _ et9))) ⟨List.mem_cons_self .., (.inl rfl)⟩ ?_ ?_
            · show ("not" : Str).length + 9 + 16 + 30 ≤ 60 * 1
              decide +kernel
            · show 1 + 1 + 2 ≤ 4 * 1
              decide
          · exact ⟨_, rfl, q _ (.at [("root" : Str)]) ((m + 1) + 1) H9 K9 hb9 (by omega) (.at et9) (.inl rfl) (by show 16 + 30 ≤ 60 * 1; decide) (by show 1 + 2 ≤ 4 * 1; decide)⟩
        · rw [decide_eq_false (fun e => hw0 (V.str.inj e))]
          refine iteF ⟨_, rfl, ?_⟩
          refine ⟨_, rfl, _, rfl, p, c, _, _, rfl, hb2, ec2, cp, by rw [List.length_map]; omega, by rw [List.length_map]; omega, by omega, fun x H3 hx3 hb3 k3 => ?_⟩
          obtain ⟨y, hy, rfl⟩ := List.mem_map.mp hx3
          refine ⟨(by show 2 ≤ sizeLine; decide), fun ta nta => ?_⟩
          have S4 := new_same (o := .tup [.str wd, .str y]) nta
          have et4 : upd H3 ta (.tup [.str wd, .str y]) ta = some (.tup (([wd, y] : List Str).map V.str)) := upd_same
          have hb4 := hb3.mono S4
          have K4 := (K2.trans k3).trans (Kp.of (p := p) S4)
          generalize upd H3 ta (.tup [.str wd, .str y]) = H4 at *
          refine ⟨_, rfl, p, 4, (m + 1 + 1), rfl, hb4, by omega, by decide, by decide, fun d4 H9 d40 d41 hb9 k9 => ⟨rfl, _, rfl, ?_⟩⟩
          have K9 := K4.trans (Kp.eq k9)
          have et9 := kp_tups hb4 (Kp.eq k9) _ _ et4
          refine ite2 (fun _ => ?_) (fun _ => ?_)
          · refine ⟨_, rfl, (by show 2 ≤ sizeLine; decide), fun t9 nt9 => ?_⟩
            have S9 := new_same (o := .tup [.str "not", .ref ta]) nt9
            refine q _ (.un "not" (.at [wd, y])) ((m + 1 + 1) + 1) _ (K9.trans (Kp.of S9)) (hb9.mono S9) (by omega) (.un upd_same (.at (S9 _ _ et9))) ⟨List.mem_cons_self .., (.inr ⟨wd, y, hwk, hyc y hy, rfl⟩)⟩ ?_ ?_
            · show ("not" : Str).length + 9 + 16 + 30 ≤ 60 * 1
              decide +kernel
            · show 1 + 1 + 2 ≤ 4 * 1
              decide
          · exact ⟨_, rfl, q _ (.at [wd, y]) ((m + 1 + 1) + 1) H9 K9 hb9 (by omega) (.at et9) (.inr ⟨wd, y, hwk, hyc y hy, rfl⟩) (by show 16 + 30 ≤ 60 * 1; decide) (by show 1 + 2 ≤ 4 * 1; decide)⟩
      · have hn2 : 2 ≤ n := by
          have : ¬ n = 1 := fun e => h1 (by rw [e]; exact decide_eq_true rfl)
          omega
        refine ⟨_, rfl, p, 3, m, rfl, hb, by omega, by decide, by decide, fun form H1 f0 f1 hb1 kk1 => ?_⟩
        have K1 := Kp.eq (p := p) kk1
        have ec1 := K1 c _ cp hc
        refine ⟨_, rfl, rfl, _, rfl, ite2 (fun h3 => ?_) (fun h3 => ?_)⟩
        · refine ⟨(by show 2 ≤ sizeLine; decide), fun l nl => ?_⟩
          have S2 := new_same (o := .lst [.str "parent", .str "above"]) nl
          have el : upd H1 l (.lst [.str "parent", .str "above"]) l = some (.lst [.str "parent", .str "above"]) := upd_same
          have pl := hb1.ne nl
          have hb2 := hb1.mono S2
          have ec2 := S2 _ _ ec1
          have K2 := K1.trans (Kp.of (p := p) S2)
          generalize upd H1 l (.lst [.str "parent", .str "above"]) = H2 at *
          refine ⟨_, rfl, p, 2, _, rfl, hb2, by omega, by decide, by decide, fun e H3 e0 e1 hb3 kk3 => ?_⟩
          have el3 := (kk3 l (Ne.symm pl)).trans el
          obtain ⟨hd, hhd, hdm, hl6⟩ : ∃ z : Str, atI [V.str "parent", .str "above"] e = some (.str z) ∧ z ∈ hds ∧ z.length ≤ 6 := by
            have hc : e = ((0 : Nat) : Int) ∨ e = ((1 : Nat) : Int) := by omega
            rcases hc with rfl | rfl
            · exact ⟨_, atI_nat (j := 0) rfl, by decide +kernel, by decide +kernel⟩
            · exact ⟨_, atI_nat (j := 1) rfl, by decide +kernel, by decide +kernel⟩
          refine ⟨l, _, _, _, rfl, rfl, SqL.of el3, hhd, ?_⟩
          have ec3 := (kk3 c cp).trans ec2
          have K3 := K2.trans (Kp.eq (p := p) kk3)
          obtain ⟨n', rfl⟩ : ∃ n', n = n' + 1 := ⟨n - 1, by omega⟩
          refine ⟨_, rfl, _, rfl, _, rfl, _, _, rfl, rfl, p, c, ys, _, n', by show [V.ref p, V.ref c, V.int (((n' + 1 : Nat) : Int) - 1)] = _; rw [show (((n' + 1 : Nat) : Int) - 1) = (n' : Int) from by omega], hb3, ec3, cp, hy1, hy6, hyc, by omega, by omega, by omega, by omega, fun v t m' H4 k4 hb4 hm4 hv hw hB hN => ?_⟩
          refine ⟨(by show 2 ≤ sizeLine; decide), fun t9 nt9 => ?_⟩
          have S9 := new_same (o := .tup [.str hd, v]) nt9
          refine q _ (.un hd t) m' _ ((K3.trans k4).trans (Kp.of S9)) (hb4.mono S9) (by omega) (.un upd_same (hv.mono fun a xs e => S9 _ _ e)) ⟨hdm, hw⟩ ?_ ?_
          · show hd.length + 9 + BT t + 30 ≤ 60 * (n' + 1)
            omega
          · show 1 + NT t + 2 ≤ 4 * (n' + 1)
            omega
        · have hf : form = 1 ∨ form = 2 := by
            have : ¬ form = 0 := fun e => h3 (by rw [e]; exact decide_eq_true rfl)
            omega
          refine ⟨_, rfl, _, rfl, _, _, rfl, rfl, p, (n : Int) - 1, _, rfl, hb1, by omega, by omega, by omega, fun d H2 d0 d1 hb2 kk2 => ?_⟩
          obtain ⟨lf, rfl⟩ : ∃ lf : Nat, d = (lf : Int) := ⟨d.toNat, by omega⟩
          have ec2 := (kk2 c cp).trans ec1
          have K2 := K1.trans (Kp.eq (p := p) kk2)
          refine ⟨_, _, rfl, rfl, ?_⟩
          refine ⟨_, rfl, _, rfl, _, rfl, p, c, ys, _, lf + 1, by show [V.ref p, V.ref c, V.int ((1 : Int) + (lf : Nat))] = _; rw [show ((1 : Int) + (lf : Nat)) = ((lf + 1 : Nat) : Int) from by omega], hb2, ec2, cp, hy1, hy6, hyc, by omega, by omega, by omega, by omega, fun v1 t1 m1 H3 k3 hb3 hm3 hv1 hw1 hB1 hN1 => ?_⟩
          have ec3 := k3 c _ cp ec2
          obtain ⟨rt, hrt⟩ : ∃ rt : Nat, n = lf + 1 + rt := ⟨n - lf - 1, by omega⟩
          refine ⟨_, rfl, _, rfl, _, rfl, _, rfl, _, _, rfl, rfl, p, c, ys, _, rt, by show [V.ref p, V.ref c, V.int (((n : Nat) : Int) - (1 + (lf : Nat)))] = _; rw [show (((n : Nat) : Int) - (1 + (lf : Nat))) = ((rt : Nat) : Int) from by omega], hb3, ec3, cp, hy1, hy6, hyc, by omega, by omega, by omega, by omega, fun v2 t2 m2 H4 k4 hb4 hm4 hv2 hw2 hB2 hN2 => ?_⟩
          have hv14 := hv1.mono (kp_tups hb3 k4)
          have K4 := (K2.trans k3).trans k4
          refine ⟨_, _, rfl, ?_⟩
          refine ⟨(by show 2 ≤ sizeLine; decide), fun l nl => ?_⟩
          have S5 := new_same (o := .lst [.str "and", .str "or"]) nl
          have el : upd H4 l (.lst [.str "and", .str "or"]) l = some (.lst [.str "and", .str "or"]) := upd_same
          have hb5 := hb4.mono S5
          have K5 := K4.trans (Kp.of (p := p) S5)
          have hv15 := hv14.mono fun a xs e => S5 _ _ e
          have hv25 := hv2.mono fun a xs e => S5 _ _ e
          generalize upd H4 l (.lst [.str "and", .str "or"]) = H5 at *
          obtain ⟨jn, hjn, hjm, hl3⟩ : ∃ z : Str, atI [V.str "and", .str "or"] (form - 1) = some (.str z) ∧ z ∈ Qp.jts ∧ z.length ≤ 3 := by
            rcases hf with rfl | rfl
            · exact ⟨_, atI_nat (j := 0) rfl, by decide +kernel, by decide +kernel⟩
            · exact ⟨_, atI_nat (j := 1) rfl, by decide +kernel, by decide +kernel⟩
          refine ⟨_, rfl, _, _, rfl, rfl, l, _, _, _, rfl, rfl, SqL.of el, hjn, ?_⟩
          refine ⟨_, rfl, _, rfl, (by show 3 ≤ sizeLine; decide), fun tb ntb => ?_⟩
          have S6 := new_same (o := .tup [.str jn, v1, v2]) ntb
          have hb6 := hb5.mono S6
          have K6 := K5.trans (Kp.of (p := p) S6)
          have hvb : LTAt (upd H5 tb (.tup [.str jn, v1, v2])) (.ref tb) (.bi jn t1 t2) := .bi upd_same (hv15.mono fun a xs e => S6 _ _ e) (hv25.mono fun a xs e => S6 _ _ e)
          have hBb : BT (.bi jn t1 t2) + 43 ≤ 60 * n := by
            show jn.length + 14 + BT t1 + BT t2 + 43 ≤ 60 * n
            omega
          have hNb : NT (.bi jn t1 t2) + 3 ≤ 4 * n := by
            show 1 + NT t1 + NT t2 + 3 ≤ 4 * n
            omega
          have hwb : wfT (.bi jn t1 t2) := ⟨hjm, hw1, hw2⟩
          generalize upd H5 tb (.tup [.str jn, v1, v2]) = H6 at *
          refine ⟨_, rfl, p, 5, _, rfl, hb6, by omega, by decide, by decide, fun d4 H9 d40 d41 hb9 k9 => ⟨rfl, _, rfl, ?_⟩⟩
          have K9 := K6.trans (Kp.eq (p := p) k9)
          have hv9 := hvb.mono (kp_tups hb6 (Kp.eq k9))
          refine ite2 (fun _ => ?_) (fun _ => ?_)
          · refine ⟨_, rfl, (by show 2 ≤ sizeLine; decide), fun t9 nt9 => ?_⟩
            have S9 := new_same (o := .tup [.str "not", .ref tb]) nt9
            refine q _ (.un "not" (.bi jn t1 t2)) _ _ (K9.trans (Kp.of S9)) (hb9.mono S9) (by omega) (.un upd_same (hv9.mono fun a xs e => S9 _ _ e)) ⟨List.mem_cons_self .., hwb⟩ ?_ ?_
            · have h3 : ("not" : Str).length = 3 := by decide +kernel
              show ("not" : Str).length + 9 + BT (.bi jn t1 t2) + 30 ≤ 60 * n
              omega
            · show 1 + NT (.bi jn t1 t2) + 2 ≤ 4 * n
              omega
          · exact ⟨_, rfl, q _ (.bi jn t1 t2) _ H9 K9 hb9 (by omega) hv9 hwb (by omega) (by omega)⟩
end
end Q2

set_option linter.all false
set_option maxRecDepth 100000
set_option maxHeartbeats 8000000
set_option pp.maxSteps 150
namespace Q2
open PySem PySem.Spec PyProof.Rows L2 Gx Qp Qh
/-! ### the law's own texts -/
def clo (z : Str) : Str := "( " ++ z ++ " )"
theorem clo_len (z : Str) : (clo z).length = z.length + 4 := by
  unfold clo
  rw [len_app, len_app, sp2, sp3]
  omega
theorem clo_asc {z : Str} (h : Asc z) : Asc (clo z) := app_asc (app_asc (by decide +kernel) h) (by decide +kernel)
/-- the texts that are written for a tree, with how deep they stand -/
inductive Wr : LT → Str → Nat → Prop
  | at {ws : List Str} : Wr (.at ws) (Str.join " " ws) 0
  | un {h : Str} {t : LT} {z : Str} {d : Nat} : Wr t z d → hdT t ∉ Qp.jts → Wr (.un h t) (h ++ " " ++ z) (d + 1)
  | unc {h : Str} {t : LT} {z : Str} {d : Nat} : Wr t z d → hdT t ∈ Qp.jts → Wr (.un h t) (h ++ " " ++ clo z) (d + 1 + 1)
  | bi {j : Str} {a b : LT} {x y : Str} {d e : Nat} {x' y' : Str} {d' e' : Nat} : Wr a x d → Wr b y e → (x', d') = (if j = "and" ∧ hdT a = "or" then (clo x, d + 1) else (x, d)) → (y', e') = (if j = "and" ∧ hdT b = "or" then (clo y, e + 1) else (y, e)) →
      Wr (.bi j a b) (x' ++ " " ++ j ++ " " ++ y') (max d' e')
  | cl {t : LT} {z : Str} {d : Nat} : Wr t z d → Wr t (clo z) (d + 1)
abbrev s_closed : Stmt := topS 41
theorem sc_closed : FnScope ["_law_found"] ["_law_found"] (defScope s_closed) := ⟨rfl, rfl, rfl, by decide +kernel, rfl, by decide +kernel, by decide +kernel⟩
abbrev s_shown : Stmt := topS 39
abbrev n_shown : List Str := ["_law_tree", "_law_word"]
theorem sc_shown : FnScope n_shown ["_law_tree"] (defScope s_shown) := ⟨rfl, rfl, rfl, by decide +kernel, rfl, by decide +kernel, by decide +kernel⟩
abbrev s_written : Stmt := topS 40
abbrev n_written : List Str := ["_law_box_here", "_law_tree", "_law_word", "_law_one", "_law_two", "_law_some", "_law_part", "_law_text", "_law_found"]
theorem sc_written : FnScope n_written ["_law_box_here", "_law_tree"] (defScope s_written) := ⟨rfl, rfl, rfl, by decide +kernel, rfl, by decide +kernel, by decide +kernel⟩
def spClo : Sp := fun vs H Q _ => ∃ (a : Addr) (z : Str) (d : Nat), vs = [.ref a] ∧ H a = some (.tup [.str z, .int (d : Nat)]) ∧ z.length ≤ 100000 ∧ ∀ (b : Addr) (H' : Hp), Same H H' → H' b = some (.tup [.str (clo z), .int ((d + 1 : Nat) : Int)]) → Q (.ref b) H'
def spShA : Sp := fun vs H Q _ => ∃ (a : Addr) (ws : List Str), vs = [.ref a] ∧ H a = some (.tup (ws.map V.str)) ∧ AtWs ws ∧ ∀ H' : Hp, Same H H' → Q (.str (Str.join " " ws)) H'
def spWritten (d : Nat) : Sp := fun vs H Q _ => ∃ (p : Addr) (v : V) (t : LT) (m : Nat), vs = [.ref p, v] ∧ BoxAt H p m ∧ LTAt H v t ∧ wfT t ∧ NT t ≤ d ∧ BT t ≤ 5000 ∧ m + NT t ≤ 60000 ∧
  ∀ (a : Addr) (z : Str) (dp : Nat) (H' : Hp), Kp p H H' → BoxAt H' p (m + NT t) → H' a = some (.tup [.str z, .int (dp : Nat)]) → Wr t z dp → z.length ≤ BT t → Asc z → Q (.ref a) H'
structure NmWr (mg : Str → Option Value) (K : PySem.W.Frag) (ft fs fc fw : Addr) : Prop where
  g__law_take : mg "_law_take" = some (.ref ft)
  k__law_take : PySem.W.keepIn K (.ref ft) = true
  g__law_shown : mg "_law_shown" = some (.ref fs)
  k__law_shown : PySem.W.keepIn K (.ref fs) = true
  g__law_closed : mg "_law_closed" = some (.ref fc)
  k__law_closed : PySem.W.keepIn K (.ref fc) = true
  g__law_written : mg "_law_written" = some (.ref fw)
  k__law_written : PySem.W.keepIn K (.ref fw) = true
  n_max : mg "max" = none
theorem kws_hd {x : Str} (h : x ∈ kws) : x ∉ Qp.jts ∧ x ∉ hds ∧ x ∉ ([("then" : Str), "next"] : List Str) ∧ x ≠ "count" := by
  simp only [List.mem_cons, List.not_mem_nil, or_false] at h
  rcases h with rfl | rfl | rfl <;> decide +kernel
theorem root_hd : ("root" : Str) ∉ Qp.jts ∧ ("root" : Str) ∉ hds ∧ ("root" : Str) ∉ ([("then" : Str), "next"] : List Str) ∧ ("root" : Str) ≠ "count" := by decide +kernel
theorem at_hd {ws : List Str} (h : AtWs ws) : ∃ x r, ws = x :: r ∧ x ∉ Qp.jts ∧ x ∉ hds ∧ x ∉ ([("then" : Str), "next"] : List Str) ∧ x ≠ "count" := by
  rcases h with rfl | ⟨x, k, hx, _, rfl⟩
  · exact ⟨_, _, rfl, root_hd⟩
  · exact ⟨x, [k], rfl, kws_hd hx⟩
theorem kws_len {x : Str} (h : x ∈ kws) : x.length ≤ 7 := by
  simp only [List.mem_cons, List.not_mem_nil, or_false] at h
  rcases h with rfl | rfl | rfl <;> decide +kernel
theorem at_text {ws : List Str} (h : AtWs ws) : (Str.join " " ws).length ≤ 12 ∧ Asc (Str.join " " ws) ∧ (ws.map (·.length)).sum + ws.length * (" " : Str).length ≤ 100 := by
  rcases h with rfl | ⟨x, k, hx, hk, rfl⟩
  · decide +kernel
  · have h1 := kws_len hx
    have h2 := hk.1
    refine ⟨?_, ?_, ?_⟩
    · show (x ++ " " ++ k).length ≤ 12
      rw [len_app, len_app, sp1]
      omega
    · exact app_asc (app_asc (kws_ok hx).2 (by decide +kernel)) hk.2.1
    · show x.length + (k.length + 0) + 2 * (" " : Str).length ≤ 100
      rw [sp1]
      omega
theorem hds_asc {h : Str} (k : h ∈ hds) : Asc h := by
  simp only [List.mem_cons, List.not_mem_nil, or_false] at k
  rcases k with rfl | rfl | rfl <;> decide +kernel
theorem jts_asc {h : Str} (k : h ∈ Qp.jts) : Asc h := by
  simp only [List.mem_cons, List.not_mem_nil, or_false] at k
  rcases k with rfl | rfl <;> decide +kernel
theorem hd_wf {t : LT} (h : wfT t) : (∃ ws, t = .at ws ∧ AtWs ws) ∨ (∃ k u, t = .un k u ∧ k ∈ hds ∧ wfT u) ∨ ∃ j a b, t = .bi j a b ∧ j ∈ Qp.jts ∧ wfT a ∧ wfT b := by
  cases t with
  | «at» ws => exact .inl ⟨ws, rfl, h⟩
  | un k u => exact .inr (.inl ⟨k, u, rfl, h.1, h.2⟩)
  | bi j a b => exact .inr (.inr ⟨j, a, b, rfl, h.1, h.2.1, h.2.2⟩)
/-- the head of a tree where it stands -/
theorem LTAt.hd {H : Hp} {v : V} {t : LT} (h : LTAt H v t) (w : wfT t) : ∃ a xs, v = .ref a ∧ H a = some (.tup xs) ∧ atI xs ((0 : Nat) : Int) = some (.str (hdT t)) := by
  cases h with
  | @«at» a ws e =>
    obtain ⟨x, r, rfl, _⟩ := at_hd w
    exact ⟨a, _, rfl, e, atI_nat (j := 0) rfl⟩
  | un e _ => exact ⟨_, _, rfl, e, atI_nat (j := 0) rfl⟩
  | bi e _ _ => exact ⟨_, _, rfl, e, atI_nat (j := 0) rfl⟩
section
variable {P : Program} {w : World} {K : PySem.W.Frag} {mg : Str → Option Value} {base : Heap} {ft fs fc fw : Addr}
theorem ok_closed {f : Addr} {fd : FuncData} (F : Fun K "_law_closed" "_law_closed" s_closed f fd) : FnOk P w K mg base CX0 1 f fd ["_law_found"] spClo := by
  refine F.ok sc_closed (fun vs H Q E h => ?_) (fun cdv A outer s H vs Q E hr h => ?_)
  · obtain ⟨a, z, d, rfl, _⟩ := h
    rfl
  · obtain ⟨a, z, d, rfl, ha, hz, q⟩ := h
    refine ⟨_, pss_one (ps_ret (pe_tup (pa_cons (pe_op op_add_str (pe_op op_add_str pe_str (pe_ix ix_tup (pv 0) pe_int (fun _ _ => rfl))) pe_str) (pa_cons (pe_op op_add (pe_ix ix_tup (pv 0) pe_int (fun _ _ => rfl)) pe_int) pa_nil)))), ?_⟩
    refine ⟨_, rfl, a, _, _, _, rfl, rfl, SqT.of ha, atI_nat (j := 0) rfl, _, _, rfl, rfl, by rw [sp2, sizeLine_eq]; omega, _, _, rfl, rfl, by rw [len_app, sp2, sp3, sizeLine_eq]; omega, ?_⟩
    refine ⟨_, rfl, a, _, _, _, rfl, rfl, SqT.of ha, atI_nat (j := 1) rfl, _, _, rfl, rfl, (by show 2 ≤ sizeLine; decide), fun t nt => ?_⟩
    exact q t _ (new_same nt) upd_same
theorem ok_shown {f : Addr} {fd : FuncData} (F : Fun K "_law_shown" "_law_shown" s_shown f fd) : FnOk P w K mg base CX0 1 f fd ["_law_tree"] spShA := by
  refine F.ok sc_shown (fun vs H Q E h => ?_) (fun cdv A outer s H vs Q E hr h => ?_)
  · obtain ⟨a, ws, rfl, _⟩ := h
    rfl
  · obtain ⟨a, ws, rfl, ha, hws, q⟩ := h
    refine ⟨_, (pss_cons (ps_set (i := 1) sc_shown.nd rfl (.inl rfl) (pe_ix ix_tup (pv 0) pe_int (fun _ _ => rfl)))
      (pss_cons (ps_if (pt_cmpR op_in_seq (pv 1) (pe_tup (pa_cons pe_str (pa_cons pe_str pa_nil))) rfl) pss_never pss_nil)
      (pss_cons (ps_if (pt_cmpR op_in_seq (pv 1) (pe_tup (pa_cons pe_str (pa_cons pe_str (pa_cons pe_str pa_nil)))) rfl) pss_never pss_nil)
      (pss_cons (ps_if (pt_cmpR op_in_seq (pv 1) (pe_tup (pa_cons pe_str (pa_cons pe_str pa_nil))) rfl) pss_never pss_nil)
      (pss_cons (ps_if (pt_cmpR op_eq (pv 1) pe_str (nomark _)) pss_never pss_nil)
      (pss_one (ps_ret (pe_join pe_str (pv 0))))))))), ?_⟩
    obtain ⟨x, r, hxr, n1, n2, n3, n4⟩ := at_hd hws
    have hx0 : atI (ws.map V.str) ((0 : Nat) : Int) = some (.str x) := by
      rw [hxr]
      exact atI_nat (j := 0) rfl
    obtain ⟨_, _, hfit⟩ := at_text hws
    refine ⟨_, rfl, a, _, _, _, rfl, rfl, SqT.of ha, hx0, ?_⟩
    refine ⟨_, rfl, (by show 2 ≤ sizeLine; decide), fun t1 nt1 => ?_⟩
    have S1 := new_same (o := .tup [.str "and", .str "or"]) nt1
    refine ⟨t1, _, rfl, .inr (SqT.of upd_same), rfl, by decide, _, rfl, ?_⟩
    rw [if_neg Bool.false_ne_true, show inV (V.str x) [.str "and", .str "or"] = decide (x ∈ Qp.jts) from inV_list x Qp.jts, decide_eq_false n1]
    generalize upd H t1 (.tup [.str "and", .str "or"]) = H1 at *
    refine iteF ⟨_, rfl, (by show 3 ≤ sizeLine; decide), fun t2 nt2 => ?_⟩
    have S2 := S1.trans (new_same (o := .tup [.str "not", .str "parent", .str "above"]) nt2)
    refine ⟨t2, _, rfl, .inr (SqT.of upd_same), rfl, by decide, _, rfl, ?_⟩
    rw [if_neg Bool.false_ne_true, show inV (V.str x) [.str "not", .str "parent", .str "above"] = decide (x ∈ hds) from inV_list x hds, decide_eq_false n2]
    generalize upd H1 t2 (.tup [.str "not", .str "parent", .str "above"]) = H2 at *
    refine iteF ⟨_, rfl, (by show 2 ≤ sizeLine; decide), fun t3 nt3 => ?_⟩
    have S3 := S2.trans (new_same (o := .tup [.str "then", .str "next"]) nt3)
    refine ⟨t3, _, rfl, .inr (SqT.of upd_same), rfl, by decide, _, rfl, ?_⟩
    rw [if_neg Bool.false_ne_true, show inV (V.str x) [.str "then", .str "next"] = decide (x ∈ ([("then" : Str), "next"] : List Str)) from inV_list x ["then", "next"], decide_eq_false n3]
    generalize upd H2 t3 (.tup [.str "then", .str "next"]) = H3 at *
    refine iteF ⟨_, rfl, rfl, _, rfl, ?_⟩
    rw [decide_eq_false (fun e => n4 (V.str.inj e))]
    refine iteF ⟨⟨_, rfl⟩, _, rfl, _, a, ws, rfl, rfl, .inr (SqT.of (S3 _ _ ha)), Nat.le_trans hfit (by decide), ?_⟩
    rw [TL.join_eq]
    exact q H3 S3
end
end Q2

set_option linter.all false
set_option maxRecDepth 100000
set_option maxHeartbeats 8000000
set_option pp.maxSteps 150
namespace Q2
open PySem PySem.Spec PyProof.Rows L2 Gx Qp Qh
def cz (j : Str) (t : LT) (x : Str) (d : Nat) : Str × Nat := if j = "and" ∧ hdT t = "or" then (clo x, d + 1) else (x, d)
theorem cz_len (j : Str) (t : LT) (x : Str) (d : Nat) : (cz j t x d).1.length ≤ x.length + 4 := by
  unfold cz
  split
  · show (clo x).length ≤ _
    rw [clo_len]
    exact Nat.le_refl _
  · exact Nat.le_add_right _ _
theorem cz_asc (j : Str) (t : LT) {x : Str} (d : Nat) (h : Asc x) : Asc (cz j t x d).1 := by
  unfold cz
  split
  · exact clo_asc h
  · exact h
def teCz (K : PySem.W.Frag) : TE := tIf (tAnd (tTest (tOp rEq (tVar 2) (tC (.str "and")))) (tTest (tOp rEq (tOp (rIxT K) (tVar 6) (tC (.int 0))) (tC (.str "or"))))) (tCall spClo [] E0 (tCons (tVar 7) tNil)) (tVar 7)
section
variable {P : Program} {w : World} {K : PySem.W.Frag} {mg : Str → Option Value} {base : Heap} {ft fs fc fw : Addr}
theorem ok_written {fdw fdt fds fdc : FuncData} (F : Fun K "_law_written" "_law_written" s_written fw fdw) (T : NmWr mg K ft fs fc fw) (b_wr : Binds K fdw ["_law_box_here", "_law_tree"] [])
    (G_take : FnOk P w K mg base CX0 1 ft fdt ["_law_box_here", "_law_many"] spTake) (b_take : Binds K fdt ["_law_box_here", "_law_many"] [])
    (G_shown : FnOk P w K mg base CX0 1 fs fds ["_law_tree"] spShA) (b_shown : Binds K fds ["_law_tree"] [])
    (G_closed : FnOk P w K mg base CX0 1 fc fdc ["_law_found"] spClo) (b_closed : Binds K fdc ["_law_found"] []) : ∀ d, FnOk P w K mg base CX0 (d + 2) fw fdw ["_law_box_here", "_law_tree"] (spWritten d) := by
  intro d
  induction d with
  | zero =>
    exact ⟨fun vs H Q E h => by
      obtain ⟨p, v, t, m, rfl, _⟩ := h
      rfl, fun A outer s H args us vs Q E _ _ _ _ h => by
      obtain ⟨p, v, t, m, _, _, _, _, h1, _⟩ := h
      cases t with
      | «at» ws => exact absurd h1 (by show ¬ 1 ≤ 0; decide)
      | un k u => exact absurd h1 (by show ¬ 1 + NT u ≤ 0; omega)
      | bi j a b => exact absurd h1 (by show ¬ 1 + NT a + NT b ≤ 0; omega)⟩
  | succ d G_wr =>
    refine F.ok sc_written (fun vs H Q E h => ?_) (fun cdv A outer s H vs Q E hr h => ?_)
    · obtain ⟨p, v, t, m, rfl, _⟩ := h
      rfl
    · obtain ⟨p, v, t, m, rfl, hb, hv, hw, hd, hB, hm, q⟩ := h
      have r1 := hr.mono (show 1 ≤ d + 2 by omega)
      refine ⟨_, (pss_cons (ps_set (i := 2) sc_written.nd rfl (.inr rfl) (pe_ix ix_tup (pv 1) pe_int (fun _ _ => rfl)))
        (C8.pss_cut (ps_if (pt_cmpR op_in_seq (pv 2) (pe_tup (pa_cons pe_str (pa_cons pe_str pa_nil))) rfl)
          (pss_cons (ps_par (i := 3) (j := 4) (by rfl) sc_written.nd rfl rfl (by decide) rfl rfl (pa_cons (pe_call G_wr hr rfl T.g__law_written T.k__law_written b_wr .nil pass0 (pa_cons (pv 0) (pa_cons (pe_ix ix_tup (pv 1) pe_int (fun _ _ => rfl)) pa_nil))) (pa_cons (pe_call G_wr hr rfl T.g__law_written T.k__law_written b_wr .nil pass0 (pa_cons (pv 0) (pa_cons (pe_ix ix_tup (pv 1) pe_int (fun _ _ => rfl)) pa_nil))) pa_nil)) (by rfl))
          (pss_cons (ps_set (i := 5) sc_written.nd rfl (.inl rfl) (pe_lst (pa_cons (pe_tup (pa_cons (pe_ix ix_tup (pv 1) pe_int (fun _ _ => rfl)) (pa_cons (pv 3) pa_nil))) (pa_cons (pe_tup (pa_cons (pe_ix ix_tup (pv 1) pe_int (fun _ _ => rfl)) (pa_cons (pv 4) pa_nil))) pa_nil))))
          (pss_cons (ps_setLc (i := 5) (own := [("_law_part", 6), ("_law_text", 7)]) (g := gTup K 2 (gCons (gName 6) (gCons (gName 7) gNil))) (tt := tYes) (te := teCz K) rfl sc_written.nd rfl rfl (sw_true rfl rfl rfl (by decide +kernel)) (pi_list (pv 5)) (blkOk_by (own := [("_law_part", 6), ("_law_text", 7)]) (N := n_written) (sc := defScope s_written) (by decide +kernel)) (fun _ _ _ _ _ => (pg_tup rfl (pgs_cons (pg_name (i := 6) sc_written.nd rfl (.inl rfl)) (pgs_cons (pg_name (i := 7) sc_written.nd rfl (.inl rfl)) pgs_nil)))) (fun _ _ _ _ _ => pts_nil)
            (fun _ _ _ _ _ => (pe_ifExp (PW.pt (pw_and (pt_cmpR op_eq (pv 2) pe_str (nomark _)) (pw_and1 (pt_cmpR op_eq (pe_ix ix_tup (pv 6) pe_int (fun _ _ => rfl)) pe_str (nomark _))))) (pe_call G_closed r1 rfl T.g__law_closed T.k__law_closed b_closed .nil pass0 (pa_cons (pv 7) pa_nil)) (pv 7))))
          (pss_one (ps_set (i := 8) sc_written.nd rfl (.inl rfl) (pe_tup (pa_cons (pe_op op_add_str (pe_op op_add_str (pe_op op_add_str (pe_op op_add_str (pe_ix ix_tup (pe_ix ix_list (pv 5) pe_int (fun _ _ => rfl)) pe_int (fun _ _ => rfl)) pe_str) (pv 2)) pe_str) (pe_ix ix_tup (pe_ix ix_list (pv 5) pe_int (fun _ _ => rfl)) pe_int (fun _ _ => rfl))) (pa_cons (pe_callB (call_max2 rfl) (by rfl) T.n_max (by decide +kernel) (pa_cons (pe_ix ix_tup (pe_ix ix_list (pv 5) pe_int (fun _ _ => rfl)) pe_int (fun _ _ => rfl)) (pa_cons (pe_ix ix_tup (pe_ix ix_list (pv 5) pe_int (fun _ _ => rfl)) pe_int (fun _ _ => rfl)) pa_nil))) pa_nil))))))))
          (pss_one (ps_if (pt_cmpR op_in_seq (pv 2) (pe_tup (pa_cons pe_str (pa_cons pe_str (pa_cons pe_str pa_nil)))) rfl)
            (pss_cons (ps_set (i := 7) sc_written.nd rfl (.inl rfl) (pe_call G_wr hr rfl T.g__law_written T.k__law_written b_wr .nil pass0 (pa_cons (pv 0) (pa_cons (pe_ix ix_tup (pv 1) pe_int (fun _ _ => rfl)) pa_nil))))
            (pss_cons (ps_set (i := 7) sc_written.nd rfl (.inl rfl) (pe_ifExp (pt_cmpR op_in_seq (pe_ix ix_tup (pe_ix ix_tup (pv 1) pe_int (fun _ _ => rfl)) pe_int (fun _ _ => rfl)) (pe_tup (pa_cons pe_str (pa_cons pe_str pa_nil))) rfl) (pe_call G_closed r1 rfl T.g__law_closed T.k__law_closed b_closed .nil pass0 (pa_cons (pv 7) pa_nil)) (pv 7)))
            (pss_one (ps_set (i := 8) sc_written.nd rfl (.inl rfl) (pe_tup (pa_cons (pe_op op_add_str (pe_op op_add_str (pv 2) pe_str) (pe_ix ix_tup (pv 7) pe_int (fun _ _ => rfl))) (pa_cons (pe_op op_add (pe_ix ix_tup (pv 7) pe_int (fun _ _ => rfl)) pe_int) pa_nil)))))))
            (pss_one (ps_set (i := 8) sc_written.nd rfl (.inl rfl) (pe_tup (pa_cons (pe_call G_shown r1 rfl T.g__law_shown T.k__law_shown b_shown .nil pass0 (pa_cons (pv 1) pa_nil)) (pa_cons pe_int pa_nil))))))))
        (pss_one (ps_ret (pe_ifExp (pt_cmpR op_eq (pe_call G_take r1 rfl T.g__law_take T.k__law_take b_take .nil pass0 (pa_cons (pv 0) (pa_cons pe_int pa_nil))) pe_int (nomark _)) (pe_call G_closed r1 rfl T.g__law_closed T.k__law_closed b_closed .nil pass0 (pa_cons (pv 8) pa_nil)) (pv 8)))))), ?_⟩
      obtain ⟨a, xs, rfl, ha, hx0⟩ := hv.hd hw
      refine ⟨_, rfl, a, _, _, _, rfl, rfl, SqT.of ha, hx0, ?_⟩
      refine ⟨fun σ Hx => ∃ (fa : Addr) (z : Str) (dp mx : Nat) (b2 b3 b4 b5 b6 b7 : Option V), σ = [some (.ref p), some (.ref a), b2, b3, b4, b5, b6, b7, some (.ref fa)] ∧ Kp p H Hx ∧ BoxAt Hx p mx ∧ mx + 1 ≤ m + NT t ∧ Hx fa = some (.tup [.str z, .int (dp : Nat)]) ∧ Wr t z dp ∧ z.length + 4 ≤ BT t ∧ Asc z, ?_, ?_⟩
      rotate_left
      · rintro σ Hx ⟨fa, z, dp, mx, b2, b3, b4, b5, b6, b7, rfl, kx, hbx, hmx, ef, hwr, hzl, hA⟩
        refine ⟨_, rfl, p, 7, mx, rfl, hbx, by omega, by decide, by decide, fun d7 H9 d70 d71 hb9 k9 => ⟨rfl, _, rfl, ?_⟩⟩
        have K9 := kx.trans (Kp.eq (p := p) k9)
        have ef9 := kp_tups hbx (Kp.eq k9) _ _ ef
        refine ite2 (fun _ => ?_) (fun _ => ?_)
        · refine ⟨_, rfl, fa, z, dp, rfl, ef9, by omega, fun b H10 S10 e10 => ?_⟩
          exact q b (clo z) (dp + 1) H10 (K9.trans (Kp.of S10)) ((hb9.mono S10).le hmx) e10 (.cl hwr) (by rw [clo_len]; exact hzl) (clo_asc hA)
        · exact ⟨_, rfl, q fa z dp H9 K9 (hb9.le hmx) ef9 hwr (by omega) hA⟩
      · refine ⟨_, rfl, (by show 2 ≤ sizeLine; decide), fun t1 nt1 => ?_⟩
        have S1 := new_same (o := .tup [.str "and", .str "or"]) nt1
        refine ⟨t1, _, rfl, .inr (SqT.of upd_same), rfl, by decide, _, rfl, ?_⟩
        rw [if_neg Bool.false_ne_true, show inV (V.str (hdT t)) [.str "and", .str "or"] = decide (hdT t ∈ Qp.jts) from inV_list (hdT t) Qp.jts]
        have hb1 := hb.mono S1
        have hv1 := hv.mono fun b ys e => S1 b _ e
        have ha1 := S1 _ _ ha
        have K1 : Kp p H (upd H t1 (.tup [.str "and", .str "or"])) := Kp.of S1
        generalize upd H t1 (.tup [.str "and", .str "or"]) = H1 at *
        rcases hd_wf hw with ⟨ws, rfl, hws⟩ | ⟨k, u, rfl, hk, hwu⟩ | ⟨j, ta, tb, rfl, hj, hwa, hwb⟩
        · obtain ⟨x, r, hxr, n1, n2, n3, n4⟩ := at_hd hws
          have hxt : hdT (.at ws) = x := by
            rw [hxr]
            rfl
          rw [hxt, decide_eq_false n1]
          refine iteF ⟨_, rfl, (by show 3 ≤ sizeLine; decide), fun t2 nt2 => ?_⟩
          have S2 := new_same (o := .tup [.str "not", .str "parent", .str "above"]) nt2
          refine ⟨t2, _, rfl, .inr (SqT.of upd_same), rfl, by decide, _, rfl, ?_⟩
          rw [if_neg Bool.false_ne_true, show inV (V.str x) [.str "not", .str "parent", .str "above"] = decide (x ∈ hds) from inV_list x hds, decide_eq_false n2]
          have hb2 := hb1.mono S2
          have hv2 := hv1.mono fun b ys e => S2 b _ e
          have K2 := K1.trans (Kp.of (p := p) S2)
          generalize upd H1 t2 (.tup [.str "not", .str "parent", .str "above"]) = H2 at *
          cases hv2 with
          | @«at» _ _ e =>
            obtain ⟨h12, hA, _⟩ := at_text hws
            refine iteF ⟨_, rfl, a, ws, rfl, e, hws, fun H3 S3 => ?_⟩
            refine ⟨(by show 2 ≤ sizeLine; decide), fun t3 nt3 => ?_⟩
            have S4 := S3.trans (new_same (o := .tup [.str (Str.join " " ws), .int 0]) nt3)
            refine ⟨t3, Str.join " " ws, 0, m, _, _, _, _, _, _, rfl, K2.trans (Kp.of S4), hb2.mono S4, Nat.le_refl _, upd_same, .at, ?_, hA⟩
            show _ ≤ 16
            omega
        · have nj : k ∉ Qp.jts := (hd_no hk).2.1
          rw [show hdT (.un k u) = k from rfl, decide_eq_false nj]
          refine iteF ⟨_, rfl, (by show 3 ≤ sizeLine; decide), fun t2 nt2 => ?_⟩
          have S2 := new_same (o := .tup [.str "not", .str "parent", .str "above"]) nt2
          refine ⟨t2, _, rfl, .inr (SqT.of upd_same), rfl, by decide, _, rfl, ?_⟩
          rw [if_neg Bool.false_ne_true, show inV (V.str k) [.str "not", .str "parent", .str "above"] = decide (k ∈ hds) from inV_list k hds, decide_eq_true hk]
          have hb2 := hb1.mono S2
          have hv2 := hv1.mono fun b ys e => S2 b _ e
          have K2 := K1.trans (Kp.of (p := p) S2)
          generalize upd H1 t2 (.tup [.str "not", .str "parent", .str "above"]) = H2 at *
          have hN : 1 + NT u ≤ d + 1 := hd
          have hB' : k.length + 9 + BT u ≤ 5000 := hB
          have hm' : m + (1 + NT u) ≤ 60000 := hm
          have hkl := hds_len hk
          cases hv2 with
          | @un _ uv _ _ e hu =>
            refine iteT ⟨_, rfl, _, rfl, a, _, _, _, rfl, rfl, SqT.of e, atI_nat (j := 1) rfl, p, uv, u, m, rfl, hb2, hu, hwu, by omega, by omega, by omega, fun r z dp H3 k3 hb3 er hwr hzl hA => ?_⟩
            have tk3 := kp_tups hb2 k3
            have hu3 := hu.mono tk3
            have e3 := tk3 _ _ e
            have K3 := K2.trans k3
            obtain ⟨ua, uxs, rfl, eu, hux⟩ := hu3.hd hwu
            refine ⟨_, rfl, a, _, _, _, rfl, rfl, SqT.of e3, atI_nat (j := 1) rfl, ua, _, _, _, rfl, rfl, SqT.of eu, hux, ?_⟩
            refine ⟨(by show 2 ≤ sizeLine; decide), fun t4 nt4 => ?_⟩
            have S4 := new_same (o := .tup [.str "and", .str "or"]) nt4
            refine ⟨t4, _, rfl, .inr (SqT.of upd_same), rfl, by decide, _, rfl, ?_⟩
            rw [if_neg Bool.false_ne_true, show inV (V.str (hdT u)) [.str "and", .str "or"] = decide (hdT u ∈ Qp.jts) from inV_list (hdT u) Qp.jts]
            have hb4 := hb3.mono S4
            have er4 := S4 _ _ er
            have K4 := K3.trans (Kp.of (p := p) S4)
            generalize upd H3 t4 (.tup [.str "and", .str "or"]) = H4 at *
            have l1 : (k ++ " " : Str).length = k.length + 1 := by rw [len_app, sp1]
            have hNT : m + NT u + 1 ≤ m + NT (.un k u) := by
              show m + NT u + 1 ≤ m + (1 + NT u)
              omega
            by_cases hju : hdT u ∈ Qp.jts
            · rw [decide_eq_true hju]
              refine iteT ⟨_, rfl, r, z, dp, rfl, er4, by omega, fun b H5 S5 e5 => ?_⟩
              have hcl : (clo z).length = z.length + 4 := clo_len z
              refine ⟨_, rfl, _, _, rfl, rfl, by rw [sp1, sizeLine_eq]; omega, _, rfl, b, _, _, _, rfl, rfl, SqT.of e5, atI_nat (j := 0) rfl, _, _, rfl, rfl, by rw [l1, sizeLine_eq]; omega, ?_⟩
              refine ⟨_, rfl, b, _, _, _, rfl, rfl, SqT.of e5, atI_nat (j := 1) rfl, _, _, rfl, rfl, (by show 2 ≤ sizeLine; decide), fun t5 nt5 => ?_⟩
              have S6 := (S5).trans (new_same (o := .tup [.str (k ++ " " ++ clo z), .int (((dp + 1) : Nat) + 1)]) nt5)
              refine ⟨t5, _, (dp + 1) + 1, _, _, _, _, _, _, _, rfl, K4.trans (Kp.of S6), hb4.mono S6, hNT, upd_same, (.unc hwr hju), ?_, app_asc (app_asc (hds_asc hk) (by decide +kernel)) (clo_asc hA)⟩
              rw [len_app, l1]
              show _ ≤ k.length + 9 + BT u
              omega
            · rw [decide_eq_false hju]
              refine iteF ⟨_, rfl, _, rfl, _, _, rfl, rfl, by rw [sp1, sizeLine_eq]; omega, _, rfl, r, _, _, _, rfl, rfl, SqT.of er4, atI_nat (j := 0) rfl, _, _, rfl, rfl, by rw [l1, sizeLine_eq]; omega, ?_⟩
              refine ⟨_, rfl, r, _, _, _, rfl, rfl, SqT.of er4, atI_nat (j := 1) rfl, _, _, rfl, rfl, (by show 2 ≤ sizeLine; decide), fun t5 nt5 => ?_⟩
              have S6 := (Same.refl H4).trans (new_same (o := .tup [.str (k ++ " " ++ z), .int ((dp : Nat) + 1)]) nt5)
              refine ⟨t5, _, dp + 1, _, _, _, _, _, _, _, rfl, K4.trans (Kp.of S6), hb4.mono S6, hNT, upd_same, (.un hwr hju), ?_, app_asc (app_asc (hds_asc hk) (by decide +kernel)) hA⟩
              rw [len_app, l1]
              show _ ≤ k.length + 9 + BT u
              omega
        · rw [show hdT (.bi j ta tb) = j from rfl, decide_eq_true hj]
          have hN : 1 + NT ta + NT tb ≤ d + 1 := hd
          have hB' : j.length + 14 + BT ta + BT tb ≤ 5000 := hB
          have hm' : m + (1 + NT ta + NT tb) ≤ 60000 := hm
          have hjl := jts_len2 hj
          cases hv1 with
          | @bi _ u1 u2 _ _ _ e h1 h2 =>
            refine iteT ⟨_, rfl, _, rfl, a, _, _, _, rfl, rfl, SqT.of e, atI_nat (j := 1) rfl, p, u1, ta, m, rfl, hb1, h1, hwa, by omega, by omega, by omega, fun r1 x d1 H2 k2 hb2 er1 wr1 xl xA => ?_⟩
            have tk2 := kp_tups hb1 k2
            have e2 := tk2 _ _ e
            have h12 := h1.mono tk2
            have h22 := h2.mono tk2
            refine ⟨_, rfl, _, rfl, a, _, _, _, rfl, rfl, SqT.of e2, atI_nat (j := 2) rfl, p, u2, tb, _, rfl, hb2, h22, hwb, by omega, by omega, by omega, fun r2 y d2 H3 k3 hb3 er2 wr2 yl yA => ?_⟩
            have tk3 := kp_tups hb2 k3
            have e3 := tk3 _ _ e2
            have h13 := h12.mono tk3
            have h23 := h22.mono tk3
            have er13 := tk3 _ _ er1
            have K3 := (K1.trans k2).trans k3
            refine ⟨_, _, rfl, ?_⟩
            refine ⟨_, rfl, a, _, _, _, rfl, rfl, SqT.of e3, atI_nat (j := 1) rfl, _, rfl, (by show 2 ≤ sizeLine; decide), fun T1 nT1 => ?_⟩
            have S4 := new_same (o := .tup [u1, .ref r1]) nT1
            have eT1 : upd H3 T1 (.tup [u1, .ref r1]) T1 = some (.tup [u1, .ref r1]) := upd_same
            refine ⟨_, rfl, a, _, _, _, rfl, rfl, SqT.of (S4 _ _ e3), atI_nat (j := 2) rfl, _, rfl, (by show 2 ≤ sizeLine; decide), fun T2 nT2 => ?_⟩
            have S5 := new_same (o := .tup [u2, .ref r2]) nT2
            have eT2 : upd (upd H3 T1 (.tup [u1, .ref r1])) T2 (.tup [u2, .ref r2]) T2 = some (.tup [u2, .ref r2]) := upd_same
            have eT12 := S5 _ _ eT1
            have S35 := S4.trans S5
            generalize upd (upd H3 T1 (.tup [u1, .ref r1])) T2 (.tup [u2, .ref r2]) = H5 at *
            refine ⟨(by show 2 ≤ sizeLine; decide), fun L nL => ?_⟩
            have S6 := new_same (o := .lst [.ref T1, .ref T2]) nL
            have eL : upd H5 L (.lst [.ref T1, .ref T2]) L = some (.lst [.ref T1, .ref T2]) := upd_same
            have S36 := S35.trans S6
            have eT1' := S6 _ _ eT12
            have eT2' := S6 _ _ eT2
            have h1' := h13.mono fun b ys e => S36 b _ e
            have h2' := h23.mono fun b ys e => S36 b _ e
            have er1' := S36 _ _ er13
            have er2' := S36 _ _ er2
            have hb6 := hb3.mono S36
            have K6 := K3.trans (Kp.of (p := p) S36)
            generalize upd H5 L (.lst [.ref T1, .ref T2]) = H6 at *
            refine ⟨_, rfl, L, rfl, ⟨_, SqL.of eL⟩, fun D nD => ?_⟩
            have LD : L ≠ D := ne_of_none eL nD
            have c1l := cz_len j ta x d1
            have c2l := cz_len j tb y d2
            have c1A := cz_asc j ta d1 xA
            have c2A := cz_asc j tb d2 yA
            refine lc_list (K := K) (a := L) (xs := [.ref T1, .ref T2]) (fun i Hi => (∀ b o, b ≠ D → H6 b = some o → Hi b = some o) ∧ ∃ os : List V, Hi D = some (.lst os) ∧ os.length = i ∧ (∀ v : V, os[0]? = some v → ∃ b : Addr, v = .ref b ∧ Hi b = some (.tup [.str (cz j ta x d1).1, .int ((cz j ta x d1).2 : Nat)])) ∧ (∀ v : V, os[1]? = some v → ∃ b : Addr, v = .ref b ∧ Hi b = some (.tup [.str (cz j tb y d2).1, .int ((cz j tb y d2).2 : Nat)])))
              ⟨fun b o z e => (upd_ne z).trans e, [], upd_same, rfl, fun v h => (by cases h), fun v h => (by cases h)⟩ (fun i Hi _ P => SqL.of (P.1 _ _ LD eL)) (fun i v Hi hv P => ?_) (fun Hi P => ?_)
            · obtain ⟨ki, os, eD, los, ho1, ho2⟩ := P
              have up : ∀ {b : Addr} {o : HO}, H6 b = some o → Hi b = some o := fun {b o} e => ki b o (ne_of_none e nD) e
              obtain ⟨T0, uu, r, z0, d0, t0, rfl, eT0, hu, hwu, er0, zl0, hcz⟩ : ∃ (T0 : Addr) (uu : V) (r : Addr) (z0 : Str) (d0 : Nat) (t0 : LT), v = .ref T0 ∧ H6 T0 = some (.tup [uu, .ref r]) ∧ LTAt H6 uu t0 ∧ wfT t0 ∧ H6 r = some (.tup [.str z0, .int (d0 : Nat)]) ∧ z0.length ≤ 5000 ∧ ((i = 0 ∧ cz j t0 z0 d0 = cz j ta x d1) ∨ (i = 1 ∧ cz j t0 z0 d0 = cz j tb y d2)) := by
                match i, hv with
                | 0, hv => exact ⟨T1, u1, r1, x, d1, ta, (Option.some.inj hv).symm, eT1', h1', hwa, er1', by omega, .inl ⟨rfl, rfl⟩⟩
                | 1, hv => exact ⟨T2, u2, r2, y, d2, tb, (Option.some.inj hv).symm, eT2', h2', hwb, er2', by omega, .inr ⟨rfl, rfl⟩⟩
                | i + 2, hv => exact nomatch hv
              obtain ⟨ua, uxs, rfl, eu, hux⟩ := hu.hd hwu
              have snoc : ∀ (b : Addr) (H8 : Hp), Same Hi H8 → H8 b = some (.tup [.str (cz j t0 z0 d0).1, .int ((cz j t0 z0 d0).2 : Nat)]) → ∃ acc, H8 D = some (.lst acc) ∧ acc.length < sizeLine ∧ (∀ b' o, b' ≠ D → H6 b' = some o → upd H8 D (.lst (acc ++ [.ref b])) b' = some o) ∧ ∃ os : List V, upd H8 D (.lst (acc ++ [.ref b])) D = some (.lst os) ∧ os.length = i + 1 ∧ (∀ v, os[0]? = some v → ∃ b', v = .ref b' ∧ upd H8 D (.lst (acc ++ [.ref b])) b' = some (.tup [.str (cz j ta x d1).1, .int ((cz j ta x d1).2 : Nat)])) ∧ (∀ v, os[1]? = some v → ∃ b', v = .ref b' ∧ upd H8 D (.lst (acc ++ [.ref b])) b' = some (.tup [.str (cz j tb y d2).1, .int ((cz j tb y d2).2 : Nat)])) := fun b H8 S8 e8 => by
                have eD8 := S8 _ _ eD
                have tk : ∀ (b' : Addr) (ys : List V), H8 b' = some (.tup ys) → upd H8 D (.lst (os ++ [.ref b])) b' = some (.tup ys) := fun b' ys e => (upd_ne (ne_of e eD8 fun z => nomatch z)).trans e
                refine ⟨os, eD8, by rw [los, sizeLine_eq]; have := (List.getElem?_eq_some_iff.mp hv).1; simp only [List.length_cons, List.length_nil] at this; omega, fun b' o z e => (upd_ne z).trans (S8 _ _ (ki b' o z e)), os ++ [.ref b], upd_same, by rw [List.length_append, los]; rfl, fun v hv' => ?_, fun v hv' => ?_⟩
                · by_cases hl : 0 < os.length
                  · rw [List.getElem?_append_left hl] at hv'
                    obtain ⟨b', rfl, eb'⟩ := ho1 v hv'
                    exact ⟨b', rfl, tk _ _ (S8 _ _ eb')⟩
                  · have h0 : os.length = 0 := by omega
                    have hi0 : i = 0 := by omega
                    rw [List.getElem?_append_right (by omega), h0] at hv'
                    obtain ⟨_, hc⟩ := hcz.resolve_right fun h => by omega
                    rw [hc] at e8
                    exact ⟨b, (Option.some.inj hv').symm, tk _ _ e8⟩
                · by_cases hl : 1 < os.length
                  · rw [List.getElem?_append_left hl] at hv'
                    obtain ⟨b', rfl, eb'⟩ := ho2 v hv'
                    exact ⟨b', rfl, tk _ _ (S8 _ _ eb')⟩
                  · by_cases h0 : os.length = 1
                    · rw [List.getElem?_append_right (by omega), h0] at hv'
                      obtain ⟨_, hc⟩ := hcz.resolve_left fun h => by omega
                      rw [hc] at e8
                      exact ⟨b, (Option.some.inj hv').symm, tk _ _ e8⟩
                    · rw [List.getElem?_eq_none (by rw [List.length_append]; show os.length + 1 ≤ 1; omega)] at hv'
                      exact nomatch hv'
              refine ⟨T0, _, rfl, SqT.of (up eT0), rfl, _, _, rfl, _, _, rfl, rfl, rfl, keep1' ?_⟩
              refine ⟨_, rfl, rfl, _, rfl, ?_⟩
              by_cases hja : j = "and"
              · rw [decide_eq_true (congrArg V.str hja)]
                refine iteT ⟨_, rfl, ua, _, _, _, rfl, rfl, SqT.of (up eu), hux, rfl, _, rfl, ?_⟩
                by_cases hor : hdT t0 = "or"
                · rw [decide_eq_true (congrArg V.str hor)]
                  refine iteT ⟨_, rfl, r, z0, d0, rfl, up er0, by omega, fun b H8 S8 e8 => ?_⟩
                  refine snoc b H8 S8 ?_
                  rw [cz, if_pos ⟨hja, hor⟩]
                  exact e8
                · rw [decide_eq_false (fun e => hor (V.str.inj e))]
                  refine iteF ⟨_, rfl, ?_⟩
                  refine snoc r Hi (Same.refl _) ?_
                  rw [cz, if_neg fun h => hor h.2]
                  exact up er0
              · rw [decide_eq_false (fun e => hja (V.str.inj e))]
                refine iteF ⟨_, rfl, ?_⟩
                refine snoc r Hi (Same.refl _) ?_
                rw [cz, if_neg fun h => hja h.1]
                exact up er0
            · obtain ⟨ki, os, eD, los, ho1, ho2⟩ := P
              have los2 : os.length = 2 := los
              obtain ⟨o1, o2, rfl⟩ : ∃ o1 o2, os = [o1, o2] := by
                match os, los2 with
                | [o1, o2], _ => exact ⟨o1, o2, rfl⟩
              obtain ⟨b1, rfl, eb1⟩ := ho1 o1 rfl
              obtain ⟨b2, rfl, eb2⟩ := ho2 o2 rfl
              have hwr := Wr.bi (x' := (cz j ta x d1).1) (d' := (cz j ta x d1).2) (y' := (cz j tb y d2).1) (e' := (cz j tb y d2).2) wr1 wr2 rfl rfl
              have KD : Kp p H Hi := fun b o z e => by
                have e6 := K6 b o z e
                exact ki b o (ne_of_none e6 nD) e6
              have hbD : BoxAt Hi p (m + NT ta + NT tb) := by
                obtain ⟨c', sd, n', eb, rest⟩ := hb6
                exact ⟨c', sd, n', ki p _ (ne_of_none eb nD) eb, rest⟩
              generalize (cz j ta x d1).1 = x' at *
              generalize (cz j ta x d1).2 = dd at *
              generalize (cz j tb y d2).1 = y' at *
              generalize (cz j tb y d2).2 = ee at *
              refine ⟨_, rfl, D, _, _, _, rfl, rfl, SqL.of eD, atI_nat (j := 0) rfl, b1, _, _, _, rfl, rfl, SqT.of eb1, atI_nat (j := 0) rfl, _, _, rfl, rfl, by rw [sp1, sizeLine_eq]; omega, ?_⟩
              refine ⟨_, rfl, _, _, rfl, rfl, by rw [len_app, sp1, sizeLine_eq]; omega, _, _, rfl, rfl, by rw [len_app, len_app, sp1, sizeLine_eq]; omega, ?_⟩
              refine ⟨_, rfl, D, _, _, _, rfl, rfl, SqL.of eD, atI_nat (j := 1) rfl, b2, _, _, _, rfl, rfl, SqT.of eb2, atI_nat (j := 0) rfl, _, _, rfl, rfl, by rw [len_app, len_app, len_app, sp1, sizeLine_eq]; omega, ?_⟩
              refine ⟨_, rfl, D, _, _, _, rfl, rfl, SqL.of eD, atI_nat (j := 0) rfl, b1, _, _, _, rfl, rfl, SqT.of eb1, atI_nat (j := 1) rfl, ?_⟩
              refine ⟨_, rfl, D, _, _, _, rfl, rfl, SqL.of eD, atI_nat (j := 1) rfl, b2, _, _, _, rfl, rfl, SqT.of eb2, atI_nat (j := 1) rfl, _, _, rfl, ?_⟩
              rw [max_eq]
              refine ⟨(by show 2 ≤ sizeLine; decide), fun t5 nt5 => ?_⟩
              have S7 := new_same (o := .tup [.str (x' ++ " " ++ j ++ " " ++ y'), .int ((max dd ee : Nat) : Int)]) nt5
              refine ⟨t5, _, _, _, _, _, _, _, _, _, rfl, KD.trans (Kp.of S7), hbD.mono S7, ?_, upd_same, hwr, ?_, app_asc (app_asc (app_asc (app_asc c1A (by decide +kernel)) (jts_asc hj)) (by decide +kernel)) c2A⟩
              · show m + NT ta + NT tb + 1 ≤ m + (1 + NT ta + NT tb)
                omega
              · rw [len_app, len_app, len_app, len_app, sp1]
                show _ ≤ j.length + 14 + BT ta + BT tb
                omega
end
end Q2

set_option linter.all false
set_option maxRecDepth 100000
set_option maxHeartbeats 8000000
set_option pp.maxSteps 150
namespace Q2
open PySem PySem.Spec PyProof.Rows L2 Gx Qp Qh
/-! ### what the law reads -/
abbrev s_qr : Stmt := topS 44
abbrev n_qr : List Str := ["_law_text", "_law_found", "e"]
theorem sc_qr : FnScope n_qr ["_law_text"] (defScope s_qr) := ⟨rfl, rfl, rfl, by decide +kernel, rfl, by decide +kernel, by decide +kernel⟩
/-- what the law's reading gives -/
def QRAt (H : Hp) (t : Addr) : QR → Prop
  | .at i => H t = some (.tup [.str "word", .int (i : Nat)])
  | .many m => H t = some (.tup [.str "many", .str m])
  | .ok p => H t = some (.tup [.str "text", .str (txt p)])
def spQR : Sp := fun vs H Q _ => ∃ z : Str, vs = [.str z] ∧ z.length ≤ 3000 ∧ Asc z ∧ ∀ (t : Addr) (H' : Hp), Same H H' → QRAt H' t (readQ (wordsL z)) → Q (.ref t) H'
structure NmQR (mg : Str → Option Value) (K : PySem.W.Frag) (C Cn Ct Ck Cr Cs : Addr) (mc : Value) (ps gs fr : Addr) : Prop where
  g_KeptError : mg "KeptError" = some (.ref Ck)
  g_NoRules : mg "NoRules" = some (.ref Cr)
  g_NoKinds : mg "NoKinds" = some (.ref Cs)
  g_Question : mg "Question" = some (.ref C)
  g_NoQuestion : mg "NoQuestion" = some (.ref Cn)
  g_TooMany : mg "TooMany" = some (.ref Ct)
  cr : ClX.CRead K C mc
  cs : Wc.CSta K C mc "read" ps fr
  str : PySem.W.findIn K (.ref C) "__str__" = some (some (.ref gs))
  isf : PySem.W.isFn K (.ref gs) = true
  e_nn : PySem.W.exmOne K (.ref Cn) (.ref Cn) = some true
  e_tn : PySem.W.exmOne K (.ref Ct) (.ref Cn) = some false
  e_tt : PySem.W.exmOne K (.ref Ct) (.ref Ct) = some true
  x_n : ExcC K Cn
  x_t : ExcC K Ct
  f_n : XfC K Cn
  f_t : XfC K Ct
  no_n : PySem.W.findIn K (.ref Cn) "at" = some none
  no_t : PySem.W.findIn K (.ref Ct) "word" = some none
  k_nk : PySem.W.kitOne K (.ref Cn) (.ref Ck) = some true
  k_nn : PySem.W.kitAny K (.ref Cn) [.ref Cr, .ref Cs] = some false
  n_str : mg "str" = none
  n_isinstance : mg "isinstance" = none
def tsN (K : PySem.W.Frag) (Cn Ck Cr Cs : Addr) : Addr → Value → Option Addr → TS := fun a cls d => tAsg (tIf (tAnd (tB (tCB (rIsD K a cls d) (tCons (tVar 2) (tCons (tC (.ref Ck)) tNil)))) (tNot (tB (tCB (Wc.rIsDT K a cls d) (tCons (tVar 2) (tCons (tTup (tCons (tC (.ref Cr)) (tCons (tC (.ref Cs)) tNil))) tNil)))))) (tTup (tCons (tC (.str "word")) (tCons (tXf a cls d Cn "at" (tVar 2)) tNil))) (tTup (tCons (tC (.str "odd")) tNil))) (gName 1)
def tsT (K : PySem.W.Frag) (Ct : Addr) : Addr → Value → Option Addr → TS := fun a cls d => tAsg (tTup (tCons (tC (.str "many")) (tCons (tXf a cls d Ct "word" (tVar 2)) tNil))) (gName 1)
section
variable {P : Program} {w : World} {K : PySem.W.Frag} {mg : Str → Option Value} {base : Heap}
theorem ok_qr {C Cn Ct Ck Cr Cs ps gs frd f : Addr} {mc : Value} {fd fdr fds : FuncData} (F : Fun K "_law_question_read" "_law_question_read" s_qr f fd) (TR : NmQR mg K C Cn Ct Ck Cr Cs mc ps gs frd)
    (G_read : FnOk P w K mg base (L2.CX P w) 35 frd fdr ["text"] (spQRead C Cn Ct)) (b_read : Binds K fdr ["text"] [])
    (G_str : FnOk P w K mg base CX0 1 gs fds ["self"] (spQStr C)) (b_str : Binds K fds ["self"] []) : FnOk P w K mg base CX0 36 f fd ["_law_text"] spQR := by
  refine F.ok sc_qr (fun vs H Q E h => ?_) (fun cdv A outer s H vs Q E hr h => ?_)
  · obtain ⟨z, rfl, _⟩ := h
    rfl
  · obtain ⟨z, rfl, hz, hA, q⟩ := h
    refine ⟨_, pss_cons (ps_set (i := 1) sc_qr.nd rfl (.inl rfl) (pe_tup (pa_cons pe_str pa_nil)))
      (pss_cons (Tr.ps_try_mix rfl rfl takes0 (fun W pn xe tk _ => by exact pss_one (ps_set (i := 1) sc_qr.nd rfl (.inl rfl) (pe_tup (pa_cons pe_str (pa_cons (pe_callTy (Wc.call_strO TR.str TR.isf G_str (hr.mono (by decide)) b_str pass0) (by rfl) TR.n_str (by decide +kernel) (pa_cons (Wc.pe_statS (pe_glob (v := .ref _) rfl TR.g_Question rfl) TR.cr TR.cs G_read hr b_read (fun σ => passAt tk σ) (pa_cons (pv 0) pa_nil)) pa_nil)) pa_nil)))))
        (l := [(.ref Cn, some 2, tsN K Cn Ck Cr Cs), (.ref Ct, some 2, tsT K Ct)])
        (by exact .as (i := 2) (ts := tsN K Cn Ck Cr Cs) sc_qr.nd rfl rfl ⟨rfl, by decide, .inl TR.g_NoQuestion⟩ (fun a oe cls d pn hzz hff => by exact pss_one (ps_set (i := 1) sc_qr.nd rfl (.inl rfl) (pe_ifExp (PW.pt (pw_and (pt_val (pe_callB (call_isD hzz hff) (by rfl) TR.n_isinstance (by decide +kernel) (pa_cons (pv 2) (pa_cons (pe_glob (v := .ref _) rfl TR.g_KeptError rfl) pa_nil)))) (pw_and1 (pt_not (pt_val (pe_callB (Wc.call_isDT hzz hff) (by rfl) TR.n_isinstance (by decide +kernel) (pa_cons (pv 2) (pa_cons (pe_tup (pa_cons (pe_glob (v := .ref _) rfl TR.g_NoRules rfl) (pa_cons (pe_glob (v := .ref _) rfl TR.g_NoKinds rfl) pa_nil))) pa_nil)))))))) (pe_tup (pa_cons pe_str (pa_cons (pe_xf TR.f_n TR.no_n hzz hff (pv 2)) pa_nil))) (pe_tup (pa_cons pe_str pa_nil))))) (.as (i := 2) (ts := tsT K Ct) sc_qr.nd rfl rfl ⟨rfl, by decide, .inl TR.g_TooMany⟩ (fun a oe cls d pn hzz hff => by exact pss_one (ps_set (i := 1) sc_qr.nd rfl (.inl rfl) (pe_tup (pa_cons pe_str (pa_cons (pe_xf TR.f_t TR.no_t hzz hff (pv 2)) pa_nil))))) .nil)))
      (pss_one (ps_ret (pv 1)))), ?_⟩
    refine ⟨(by show 1 ≤ sizeLine; decide), fun t0 nt0 => ?_⟩
    have S0 := new_same (o := .tup [.str "other"]) nt0
    generalize upd H t0 (.tup [.str "other"]) = H0 at *
    refine ⟨rfl, _, rfl, z, rfl, hz, hA, fun a p H1 s1 na hrd hwf hwt hht hat => ?_, fun i d H1 s1 hrd ed => ?_, fun m d H1 s1 hrd ed => ?_⟩
    · obtain ⟨dx, u, ha, _⟩ := id hat
      refine ⟨a, dx, _, rfl, ha, a, p, rfl, hat, by omega, _, rfl, (by show 2 ≤ sizeLine; decide), fun t nt => ?_⟩
      refine ⟨_, rfl, q t _ ((S0.trans s1).trans (new_same nt)) ?_⟩
      rw [hrd]
      exact upd_same
    · refine ⟨true, TR.e_nn, fun _ a0 na0 => ?_, fun z => nomatch z⟩
      refine ⟨_, rfl, _, d, _, .ref Ck, .ref Ck, true, rfl, rfl, rfl, ed, TR.x_n, (fun u r => r), TR.k_nk, _, rfl, iteT ?_⟩
      refine ⟨_, rfl, (by show 2 ≤ sizeLine; decide), fun tp ntp => ?_⟩
      have s2 := new_same (o := .tup [.ref Cr, .ref Cs]) ntp
      have ed2 := s2 _ _ ed
      refine ⟨_, d, tp, _, _, _, false, rfl, rfl, rfl, ed2, TR.x_n, upd_same, .cons (.own Cr) (.cons (.own Cs) .nil), TR.k_nn, _, rfl, iteT ?_⟩
      refine ⟨_, rfl, rfl, rfl, d, _, _, rfl, ed2, rfl, (by show 2 ≤ sizeLine; decide), fun t nt => ?_⟩
      refine ⟨_, rfl, q t _ (((S0.trans s1).trans s2).trans (new_same nt)) ?_⟩
      rw [hrd]
      exact upd_same
    · refine ⟨false, TR.e_tn, (fun z => nomatch z), fun _ => ⟨true, TR.e_tt, fun _ a0 na0 => ?_, fun z => nomatch z⟩⟩
      refine ⟨_, rfl, rfl, rfl, d, _, _, rfl, ed, rfl, (by show 2 ≤ sizeLine; decide), fun t nt => ?_⟩
      refine ⟨_, rfl, q t _ ((S0.trans s1).trans (new_same nt)) ?_⟩
      rw [hrd]
      exact upd_same
end
end Q2

set_option linter.all false
set_option maxRecDepth 100000
set_option maxHeartbeats 4000000
set_option pp.maxSteps 200
/-! a tree of the law and the condition that is read of it -/
namespace Q2
open PySem PyProof.Rows L2 Gx Qp
/-- the condition that stands for a tree -/
def nrm : LT → Pt
  | .at ws => .atom ws
  | .un h t => .un h (nrm t)
  | .bi j a b => jn j (nrm a) (nrm b)
theorem fl_jn (j : Str) (a b : Pt) : fl j (jn j a b) = fl j a ++ fl j b := by
  show (if j = j then fl j a ++ fl j b else _) = _
  rw [if_pos rfl]
theorem jn_assoc (j : Str) (a b c : Pt) : jn j (jn j a b) c = jn j a (jn j b c) := by
  unfold jn
  rw [show Pt.jo j (fl j a ++ fl j b) = jn j a b from rfl, show Pt.jo j (fl j b ++ fl j c) = jn j b c from rfl, fl_jn, fl_jn, List.append_assoc]
theorem hdP_nrm : ∀ t : LT, hdP (nrm t) = (match t with
    | .at _ => "atom"
    | .un h _ => h
    | .bi j _ _ => j)
  | .at _ => rfl
  | .un _ _ => rfl
  | .bi _ _ _ => rfl
/-! texts -/
def bdB (t : LT) (w : Str) : Bool := decide (hdT t = "or") && !decide (w = "or") || decide (hdT t = "and") && !decide (w ∈ Qp.jts)
def bd (z : Str) (b : Bool) : Str := if b then clo z else z
def shL : LT → Str
  | .at ws => Str.join " " ws
  | .un h t => h ++ " " ++ bd (shL t) (bdB t h)
  | .bi j a b => bd (shL a) (bdB a j) ++ " " ++ j ++ " " ++ bd (shL b) (bdB b j)
theorem at_no {ws : List Str} (h : AtWs ws) : hdT (.at ws) ≠ "or" ∧ hdT (.at ws) ≠ "and" := by
  obtain ⟨x, r, rfl, n1, _⟩ := at_hd h
  exact ⟨fun e => n1 (by rw [show x = "or" from e]; decide +kernel), fun e => n1 (by rw [show x = "and" from e]; decide +kernel)⟩
theorem hd_no2 {h : Str} (k : h ∈ hds) : h ≠ "or" ∧ h ≠ "and" := by
  simp only [List.mem_cons, List.not_mem_nil, or_false] at k
  rcases k with rfl | rfl | rfl <;> decide +kernel
/-- the head of the condition against the head of the tree -/
theorem hd_same {t : LT} (w : wfT t) (j : Str) (hj : j ∈ Qp.jts) : hdP (nrm t) = j ↔ hdT t = j := by
  rcases hd_wf w with ⟨ws, rfl, hws⟩ | ⟨k, u, rfl, _⟩ | ⟨k, a, b, rfl, _⟩
  · obtain ⟨x, r, rfl, n1, _⟩ := at_hd hws
    constructor
    · intro e
      have e' : ("atom" : Str) = j := e
      rw [← e'] at hj
      exact absurd hj (by decide +kernel)
    · intro e
      have e' : x = j := e
      exact absurd hj (by rw [← e']; exact n1)
  · exact Iff.rfl
  · exact Iff.rfl
theorem encl_bd {t : LT} (w : wfT t) {h : Str} (hh : h ≠ "or") : encl (nrm t) h = bdB t h := by
  have e1 : decide (hdP (nrm t) = "or") = decide (hdT t = "or") := decide_eq_decide.mpr (hd_same w "or" (by decide +kernel))
  have e2 : decide (hdP (nrm t) = "and") = decide (hdT t = "and") := decide_eq_decide.mpr (hd_same w "and" (by decide +kernel))
  unfold encl bdB
  rw [e1, e2, decide_eq_false hh]
  simp
/-- what a chain of one joint shows -/
theorem und_txt (p : Pt) (h : Str) : undT p h = bd (txt p) (encl p h) := by
  unfold undT bd clo
  rfl
theorem txts_app (j : Str) (a b : List Pt) : txts j (a ++ b) = txts j a ++ txts j b := by
  induction a with
  | nil => rfl
  | cons p a ih =>
    show (if encl p j then "( " ++ txt p ++ " )" else txt p) :: txts j (a ++ b) = (if encl p j then "( " ++ txt p ++ " )" else txt p) :: (txts j a ++ txts j b)
    rw [ih]
theorem join_cons (y a : Str) {r : List Str} (h : r ≠ []) : Str.join y (a :: r) = a ++ y ++ Str.join y r := by
  cases r with
  | nil => exact absurd rfl h
  | cons b r => rfl
theorem join_app (y : Str) : ∀ {a b : List Str}, a ≠ [] → b ≠ [] → Str.join y (a ++ b) = Str.join y a ++ y ++ Str.join y b
  | [], _, h, _ => absurd rfl h
  | [x], b, _, hb => by
    rw [List.singleton_append, join_cons y x hb]
    rfl
  | x :: z :: a, b, _, hb => by
    have h1 := join_app y (a := z :: a) (List.cons_ne_nil _ _) hb
    rw [List.cons_append, join_cons y x (by rw [List.cons_append]; exact List.cons_ne_nil _ _), h1, join_cons y x (List.cons_ne_nil z a)]
    simp only [Str.append_assoc]
/-- parts of a chain are no chains of the same joint -/
theorem fl_part {j : Str} (hj : j ∈ Qp.jts) {t : LT} (w : wfT t) : (hdT t = j ∧ ∃ ps, nrm t = .jo j ps ∧ fl j (nrm t) = ps) ∨ (hdT t ≠ j ∧ fl j (nrm t) = [nrm t]) := by
  rcases hd_wf w with ⟨ws, rfl, hws⟩ | ⟨k, u, rfl, hk, _⟩ | ⟨k, a, b, rfl, hk, _⟩
  · refine .inr ⟨?_, rfl⟩
    have := at_no hws
    simp only [List.mem_cons, List.not_mem_nil, or_false] at hj
    rcases hj with rfl | rfl
    · exact this.2
    · exact this.1
  · refine .inr ⟨?_, rfl⟩
    have := hd_no2 hk
    simp only [List.mem_cons, List.not_mem_nil, or_false] at hj
    rcases hj with rfl | rfl
    · exact this.2
    · exact this.1
  · by_cases e : k = j
    · subst e
      refine .inl ⟨rfl, _, rfl, ?_⟩
      show (if k = k then _ else _) = _
      rw [if_pos rfl]
    · refine .inr ⟨e, ?_⟩
      show (if k = j then _ else _) = _
      rw [if_neg e]
      rfl
theorem fl_ne {j : Str} (hj : j ∈ Qp.jts) : ∀ {t : LT}, wfT t → fl j (nrm t) ≠ []
  | .at _, _ => List.cons_ne_nil _ _
  | .un _ _, _ => List.cons_ne_nil _ _
  | .bi k a b, w => by
    show (if k = j then fl k (nrm a) ++ fl k (nrm b) else [jn k (nrm a) (nrm b)]) ≠ []
    split
    · intro e
      exact fl_ne (j := k) w.1 w.2.1 (List.append_eq_nil_iff.mp e).1
    · exact List.cons_ne_nil _ _
theorem txts_ne {j : Str} {ps : List Pt} (h : ps ≠ []) : txts j ps ≠ [] := by
  cases ps with
  | nil => exact absurd rfl h
  | cons p ps => exact List.cons_ne_nil _ _
theorem part_txt {j : Str} (hj : j ∈ Qp.jts) {t : LT} (w : wfT t) (ih : txt (nrm t) = shL t) : Str.join (" " ++ j ++ " ") (txts j (fl j (nrm t))) = bd (shL t) (bdB t j) := by
  rcases fl_part hj w with ⟨h1, ps, h2, h3⟩ | ⟨h1, h2⟩
  · rw [h3, ← ih, h2]
    have hb : bdB t j = false := by
      unfold bdB
      rw [h1]
      simp only [List.mem_cons, List.not_mem_nil, or_false] at hj
      rcases hj with rfl | rfl <;> decide +kernel
    rw [hb]
    rfl
  · rw [h2]
    show undT (nrm t) j = _
    rw [und_txt, ih]
    congr 1
    by_cases ho : j = "or"
    · subst ho
      have n1 : decide (hdP (nrm t) = "or") = false := decide_eq_false fun e => h1 ((hd_same w "or" (by decide +kernel)).mp e)
      have n2 : decide (("or" : Str) ∈ Qp.jts) = true := by decide +kernel
      unfold encl bdB
      rw [n1, n2]
      simp
    · exact encl_bd w ho
theorem txt_nrm : ∀ {t : LT}, wfT t → txt (nrm t) = shL t
  | .at ws, _ => rfl
  | .un h t, w => by
    have ih := txt_nrm w.2
    show h ++ " " ++ undT (nrm t) h = h ++ " " ++ bd (shL t) (bdB t h)
    rw [und_txt, ih, encl_bd w.2 (hd_no2 w.1).1]
  | .bi j a b, w => by
    have iha := txt_nrm w.2.1
    have ihb := txt_nrm w.2.2
    show Str.join (" " ++ j ++ " ") (txts j (fl j (nrm a) ++ fl j (nrm b))) = _
    rw [txts_app, join_app _ (txts_ne (fl_ne w.1 w.2.1)) (txts_ne (fl_ne w.1 w.2.2)), part_txt w.1 w.2.1 iha, part_txt w.1 w.2.2 ihb]
    show _ = bd (shL a) (bdB a j) ++ " " ++ j ++ " " ++ bd (shL b) (bdB b j)
    simp only [Str.append_assoc]
end Q2

set_option linter.all false
set_option maxRecDepth 100000
set_option maxHeartbeats 4000000
set_option pp.maxSteps 200
/-! the words of a written tree, read -/
namespace Q2
open PySem PyProof.Rows L2 Gx Qp
def clW (ws : List Str) : List Str := ("(" : Str) :: (ws ++ [(")" : Str)])
def czW (j : Str) (t : LT) (ws : List Str) (d : Nat) (c : Bool) : List Str × Nat × Bool := if j = "and" ∧ hdT t = "or" then (clW ws, d + 1, true) else (ws, d, c)
/-- as Wr, in words; the mark: it stands as one part -/
inductive WrW : LT → List Str → Nat → Bool → Prop
  | at {ws : List Str} : WrW (.at ws) ws 0 true
  | un {h : Str} {t : LT} {ws : List Str} {d : Nat} {c : Bool} : WrW t ws d c → hdT t ∉ Qp.jts → WrW (.un h t) (h :: ws) (d + 1) true
  | unc {h : Str} {t : LT} {ws : List Str} {d : Nat} {c : Bool} : WrW t ws d c → hdT t ∈ Qp.jts → WrW (.un h t) (h :: clW ws) (d + 1 + 1) true
  | bi {j : Str} {a b : LT} {x y : List Str} {d e : Nat} {c c2 : Bool} : WrW a x d c → WrW b y e c2 → WrW (.bi j a b) ((czW j a x d c).1 ++ j :: (czW j b y e c2).1) (max (czW j a x d c).2.1 (czW j b y e c2).2.1) false
  | cl {t : LT} {ws : List Str} {d : Nat} {c : Bool} : WrW t ws d c → WrW t (clW ws) (d + 1) true
theorem runS_app (st : RS) (a b : List Str) (i : Nat) : runS qfs hds st (a ++ b) i = match runS qfs hds st a i with
    | .inl st' => runS qfs hds st' b (i + a.length)
    | .inr n => .inr n := by
  induction a generalizing st i with
  | nil => rfl
  | cons w a ih =>
    rw [List.cons_append, runS, runS]
    cases takeS qfs hds st w with
    | none => rfl
    | some st' =>
      show runS qfs hds st' (a ++ b) (i + 1) = _
      rw [ih, List.length_cons, show i + 1 + a.length = i + (a.length + 1) from by omega]
def foldJ (j : Str) : List Pt → Pt
  | [] => .atom []
  | [p] => p
  | r :: l :: ps => foldJ j (jn j l r :: ps)
  termination_by ps => ps.length
theorem foldJ_two (j : Str) (r l : Pt) (ps : List Pt) : foldJ j (r :: l :: ps) = foldJ j (jn j l r :: ps) := by rw [foldJ]
theorem foldJ_one (j : Str) (p : Pt) : foldJ j [p] = p := by rw [foldJ]
theorem foldJ_cons (j : Str) : ∀ (n : Nat) (ps : List Pt) (r : Pt), ps.length ≤ n → ps ≠ [] → foldJ j (r :: ps) = jn j (foldJ j ps) r
  | _, [], _, _, h => absurd rfl h
  | _, [l], r, _, _ => by rw [foldJ_two, foldJ_one, foldJ_one]
  | 0, _ :: _ :: _, _, h, _ => absurd h (by simp)
  | n + 1, l :: k :: ps, r, hn, _ => by
    have hn' : ps.length + 1 ≤ n := by
      simp only [List.length_cons] at hn
      omega
    rw [foldJ_two, foldJ_two]
    cases ps with
    | nil => rw [foldJ_one, foldJ_two, foldJ_one, jn_assoc]
    | cons q ps =>
      have hn2 : ps.length + 1 + 1 ≤ n := hn'
      rw [foldJ_cons j n (q :: ps) (jn j k (jn j l r)) (by rw [List.length_cons]; omega) (List.cons_ne_nil _ _), foldJ_cons j n (k :: q :: ps) l (by rw [List.length_cons, List.length_cons]; omega) (List.cons_ne_nil _ _), foldJ_cons j n (q :: ps) k (by rw [List.length_cons]; omega) (List.cons_ne_nil _ _), jn_assoc, jn_assoc]
theorem foldJ_c (j : Str) (r : Pt) {ps : List Pt} (h : ps ≠ []) : foldJ j (r :: ps) = jn j (foldJ j ps) r := foldJ_cons j _ ps r (Nat.le_refl _) h
theorem foldJ_app (j : Str) : ∀ (a b : List Pt), a ≠ [] → b ≠ [] → foldJ j (a ++ b) = jn j (foldJ j b) (foldJ j a)
  | [], _, h, _ => absurd rfl h
  | [r], b, _, hb => by rw [List.singleton_append, foldJ_c j r hb, foldJ_one]
  | r :: l :: a, b, _, hb => by
    rw [List.cons_append, foldJ_c j r (by rw [List.cons_append]; exact List.cons_ne_nil _ _), foldJ_app j (l :: a) b (List.cons_ne_nil _ _) hb, foldJ_c j r (List.cons_ne_nil _ _), jn_assoc]
/-- gathering a row of one joint -/
theorem gat_rep {js : List Str} {j : Str} (hj : j ∈ js) (W : List Str) (P : List Pt) : ∀ (k : Nat) (rs : List Pt), rs.length = k + 1 → gat js (List.replicate k j ++ W) (rs ++ P) = gat js W (foldJ j rs :: P)
  | 0, [r], _ => by rw [foldJ_one]; rfl
  | 0, [], h => absurd h (by decide)
  | 0, _ :: _ :: _, h => absurd h (by simp)
  | k + 1, [], h => absurd h (by simp)
  | k + 1, [r], h => absurd h (by simp)
  | k + 1, r :: l :: rs, h => by
    rw [List.replicate_succ, List.cons_append, List.cons_append, List.cons_append, gat_yes hj, ← List.cons_append, gat_rep hj W P k (jn j l r :: rs) (by simpa using h), foldJ_two]
def noHd : List Str → Bool
  | [] => true
  | w :: _ => !decide (w ∈ hds)
def noAnd : List Str → Bool
  | [] => true
  | w :: _ => !decide (w = "and")
theorem put_noHd {W : List Str} (h : noHd W = true) (P : List Pt) (p : Pt) : put hds W P p = ⟨p :: P, W, [], true⟩ := by
  unfold put
  cases W with
  | nil => rfl
  | cons w W =>
    have hw : w ∉ hds := by
      unfold noHd at h
      simpa using h
    rw [putS, if_neg hw]
theorem put_hd {h : Str} (k : h ∈ hds) (W : List Str) (P : List Pt) (p : Pt) : put hds (h :: W) P p = put hds W P (.un h p) := by
  unfold put
  rw [putS, if_pos k]
abbrev stn (W : List Str) (P : List Pt) : RS := ⟨P, W, [], false⟩
theorem take_open (W : List Str) (P : List Pt) : takeS qfs hds (stn W P) "(" = some (stn ("(" :: W) P) := by
  unfold takeS
  rw [if_neg Bool.false_ne_true, if_pos ⟨rfl, .inl rfl⟩]
theorem take_hd {h : Str} (k : h ∈ hds) (W : List Str) (P : List Pt) : takeS qfs hds (stn W P) h = some (stn (h :: W) P) := by
  unfold takeS
  rw [if_neg Bool.false_ne_true, if_pos ⟨rfl, .inr k⟩]
theorem run_at {ws : List Str} (h : AtWs ws) (W : List Str) (P : List Pt) (i : Nat) : runS qfs hds (stn W P) ws i = .inl (put hds W P (.atom ws)) := by
  rcases h with rfl | ⟨x, k, hx, hk, rfl⟩
  · rw [runS]
    have e : takeS qfs hds (stn W P) "root" = some (put hds W P (.atom ["root"])) := by
      have hp := plain_w (w := "root") (.inl rfl)
      unfold takeS
      rw [if_neg Bool.false_ne_true, if_neg (fun z => z.2.elim hp.2.1 hp.1), takeA_root rfl]
    rw [e]
    rfl
  · have hkb : kindB k = true := hk.2.2
    rw [runS]
    have hp := plain_w (w := x) (.inr (.inl hx))
    have e : takeS qfs hds (stn W P) x = some ⟨P, W, [x], false⟩ := by
      unfold takeS
      rw [if_neg Bool.false_ne_true, if_neg (fun z => z.2.elim hp.2.1 hp.1), takeA_kw rfl hx]
    rw [e]
    show runS qfs hds ⟨P, W, [x], false⟩ [k] (i + 1) = _
    rw [runS]
    have e2 : takeS qfs hds ⟨P, W, [x], false⟩ k = some (put hds W P (.atom [x, k])) := by
      unfold takeS
      rw [if_neg Bool.false_ne_true, if_neg (fun z => nomatch z.1), takeA_kind rfl hx hkb]
    rw [e2]
    rfl
end Q2

set_option linter.all false
set_option maxRecDepth 100000
set_option maxHeartbeats 4000000
set_option pp.maxSteps 200
/-! a written tree is read as its condition -/
namespace Q2
open PySem PyProof.Rows L2 Gx Qp
theorem noHd_c {w : Str} {W : List Str} (h : w ∉ hds) : noHd (w :: W) = true := by
  show (!decide (w ∈ hds)) = true
  rw [decide_eq_false h]
  rfl
theorem noAnd_c {w : Str} {W : List Str} (h : w ≠ "and") : noAnd (w :: W) = true := by
  show (!decide (w = "and")) = true
  rw [decide_eq_false h]
  rfl
def Shp (W : List Str) (P : List Pt) (p : Pt) (st : RS) (k m : Nat) (rs ss : List Pt) : Prop :=
  st = ⟨rs ++ (ss ++ P), List.replicate k ("and" : Str) ++ (List.replicate m ("or" : Str) ++ W), [], true⟩ ∧ rs.length = k + 1 ∧ ss.length = m ∧ foldJ "or" (foldJ "and" rs :: ss) = p
theorem shp_one {W : List Str} {P : List Pt} {p : Pt} (h : noHd W = true) : Shp W P p (put hds W P p) 0 0 [p] [] := by
  refine ⟨?_, rfl, rfl, ?_⟩
  · rw [put_noHd h]
    rfl
  · rw [foldJ_one, foldJ_one]
def Parse (t : LT) (ws : List Str) (c : Bool) : Prop := ∀ (W : List Str) (P : List Pt) (i : Nat), (c = true → runS qfs hds (stn W P) ws i = .inl (put hds W P (nrm t))) ∧
  (noHd W = true → (hdT t = "or" ∧ c = false → noAnd W = true) → ∃ st' k m rs ss, runS qfs hds (stn W P) ws i = .inl st' ∧ Shp W P (nrm t) st' k m rs ss ∧ (hdT t ≠ "or" ∨ c = true → m = 0))
theorem parse_prim {t : LT} {ws : List Str} (h : ∀ (W : List Str) (P : List Pt) (i : Nat), runS qfs hds (stn W P) ws i = .inl (put hds W P (nrm t))) : Parse t ws true := fun W P i =>
  ⟨fun _ => h W P i, fun hW _ => ⟨_, 0, 0, _, _, h W P i, shp_one hW, fun _ => rfl⟩⟩
theorem or_jt : ("or" : Str) ∈ Qp.jts := by decide +kernel
theorem run_cons {st st' : RS} {w : Str} (h : takeS qfs hds st w = some st') (ws : List Str) (i : Nat) : runS qfs hds st (w :: ws) i = runS qfs hds st' ws (i + 1) := by
  rw [runS, h]
theorem gat_shp {W : List Str} {P : List Pt} {p : Pt} {st : RS} {k m : Nat} {rs ss : List Pt} (h : Shp W P p st k m rs ss) : gat jts st.wait st.parts = gat jts W (p :: P) := by
  obtain ⟨rfl, hr, hs, hp⟩ := h
  show gat jts (List.replicate k ("and" : Str) ++ (List.replicate m ("or" : Str) ++ W)) (rs ++ (ss ++ P)) = _
  rw [gat_rep and_jt _ _ k rs hr, show foldJ "and" rs :: (ss ++ P) = (foldJ "and" rs :: ss) ++ P from rfl, gat_rep or_jt _ _ m _ (by rw [List.length_cons, hs]), hp]
theorem parse_cl {t : LT} {ws : List Str} {c : Bool} (h : Parse t ws c) (W : List Str) (P : List Pt) (i : Nat) : runS qfs hds (stn W P) (clW ws) i = .inl (put hds W P (nrm t)) := by
  have n1 : noHd (("(" : Str) :: W) = true := noHd_c (by decide +kernel)
  have n2 : noAnd (("(" : Str) :: W) = true := noAnd_c (by decide +kernel)
  obtain ⟨st', k, m, rs, ss, hr, hs, _⟩ := (h (("(" : Str) :: W) P (i + 1)).2 n1 fun _ => n2
  unfold clW
  rw [run_cons (take_open W P), runS_app, hr]
  show runS qfs hds st' [(")" : Str)] _ = _
  have hg := gat_shp hs
  have hg2 : gat jts (("(" : Str) :: W) (nrm t :: P) = (("(" : Str) :: W, nrm t :: P) := gat_no (by decide +kernel)
  have e : takeS qfs hds st' ")" = some (put hds W P (nrm t)) := by
    have hw : st'.whole = true := by rw [hs.1]
    unfold takeS takeB closeS
    rw [if_pos hw, if_pos rfl, hg, hg2]
  rw [run_cons e]
  rfl
theorem oper {j : Str} (hj : j ∈ Qp.jts) {a : LT} {x : List Str} {d : Nat} {c : Bool} (h : Parse a x c) (W : List Str) (P : List Pt) (i : Nat) (hW : noHd W = true) (hO : j = "or" → noAnd W = true) :
    ∃ st' k m rs ss, runS qfs hds (stn W P) (czW j a x d c).1 i = .inl st' ∧ Shp W P (nrm a) st' k m rs ss ∧ (j = "and" → m = 0) := by
  by_cases e : j = "and" ∧ hdT a = "or"
  · refine ⟨_, 0, 0, _, _, ?_, shp_one hW, fun _ => rfl⟩
    unfold czW
    rw [if_pos e]
    exact parse_cl h W P i
  · have hor : hdT a = "or" ∧ c = false → noAnd W = true := fun h => by
      simp only [List.mem_cons, List.not_mem_nil, or_false] at hj
      rcases hj with hj | hj
      · exact absurd ⟨hj, h.1⟩ e
      · exact hO hj
    obtain ⟨st', k, m, rs, ss, hr, hs, hm⟩ := (h W P i).2 hW hor
    refine ⟨st', k, m, rs, ss, ?_, hs, fun ha => hm (.inl fun ho => e ⟨ha, ho⟩)⟩
    unfold czW
    rw [if_neg e]
    exact hr
theorem rep_and (a b : Nat) (W : List Str) (j : Str) : List.replicate a j ++ (j :: (List.replicate b j ++ W)) = List.replicate (a + 1 + b) j ++ W := by
  rw [show j :: (List.replicate b j ++ W) = (List.replicate 1 j ++ List.replicate b j) ++ W from rfl, ← List.append_assoc, ← List.append_assoc, List.replicate_append_replicate, List.replicate_append_replicate]
theorem noAnd_rep {m : Nat} {W : List Str} (h : noAnd W = true) : noAnd (List.replicate m ("or" : Str) ++ W) = true := by
  cases m with
  | zero => exact h
  | succ m =>
    rw [List.replicate_succ]
    exact noAnd_c (by decide +kernel)
theorem gat_noAnd {W : List Str} (h : noAnd W = true) (P : List Pt) : gat ["and"] W P = (W, P) := by
  cases W with
  | nil => rfl
  | cons w W =>
    refine gat_no fun hm => ?_
    have h' : (!decide (w = "and")) = true := h
    rw [decide_eq_true (List.mem_singleton.mp hm)] at h'
    cases h'
theorem parse_all : ∀ {t : LT} {ws : List Str} {d : Nat} {c : Bool}, WrW t ws d c → wfT t → Parse t ws c
  | _, _, _, _, .at, w => parse_prim fun W P i => run_at w W P i
  | _, _, _, _, .un (h := h) (t := t) (ws := ws) hw hj, w => by
    have ih := parse_all hw w.2
    refine parse_prim fun W P i => ?_
    rw [run_cons (take_hd w.1 W P)]
    have hc : runS qfs hds (stn (h :: W) P) ws (i + 1) = .inl (put hds (h :: W) P (nrm t)) := by
      cases hw with
      | «at» => exact (ih (h :: W) P (i + 1)).1 rfl
      | un => exact (ih (h :: W) P (i + 1)).1 rfl
      | unc => exact (ih (h :: W) P (i + 1)).1 rfl
      | bi => exact absurd w.2.1 hj
      | cl => exact (ih (h :: W) P (i + 1)).1 rfl
    rw [hc, put_hd w.1]
    rfl
  | _, _, _, _, .unc (h := h) (t := t) (ws := ws) hw hj, w => by
    have ih := parse_all hw w.2
    refine parse_prim fun W P i => ?_
    rw [run_cons (take_hd w.1 W P), parse_cl ih, put_hd w.1]
    rfl
  | _, _, _, _, .cl (t := t) (ws := ws) hw, w => parse_prim fun W P i => parse_cl (parse_all hw w) W P i
  | _, _, _, _, .bi (j := j) (a := a) (b := b) (x := x) (y := y) (d := d) (e := e) (c := c) (c2 := c2) ha hb, w => by
    have iha := parse_all ha w.2.1
    have ihb := parse_all hb w.2.2
    intro W P i
    refine ⟨(fun z => nomatch z), fun hW hA => ?_⟩
    obtain ⟨st1, ka, ma, rsa, ssa, hr1, ⟨e1, l1, l2, f1⟩, hm1⟩ := oper (d := d) w.1 iha W P i hW fun hj => hA ⟨hj, rfl⟩
    have hjj := w.1
    rw [runS_app, hr1]
    show ∃ st' k m rs ss, runS qfs hds st1 (j :: (czW j b y e c2).1) _ = .inl st' ∧ _ ∧ _
    generalize i + (czW j a x d c).1.length = i2
    simp only [List.mem_cons, List.not_mem_nil, or_false] at hjj
    rcases hjj with hja | hjo
    · subst hja
      obtain rfl := hm1 rfl
      obtain rfl := List.length_eq_zero_iff.mp l2
      have tk : takeS qfs hds st1 "and" = some (stn (("and" : Str) :: (List.replicate ka ("and" : Str) ++ W)) (rsa ++ P)) := by
        rw [e1]
        unfold takeS takeB
        rw [if_pos rfl, if_neg (by decide +kernel), if_pos and_jt, if_neg (by decide +kernel)]
        rfl
      rw [run_cons tk]
      have n1 : noHd (("and" : Str) :: (List.replicate ka ("and" : Str) ++ W)) = true := noHd_c (by decide +kernel)
      obtain ⟨st2, kb, mb, rsb, ssb, hr2, ⟨e2, k1, k2, f2⟩, hm2⟩ := oper (d := e) and_jt ihb _ (rsa ++ P) (i2 + 1) n1 fun z => absurd z (by decide +kernel)
      obtain rfl := hm2 rfl
      obtain rfl := List.length_eq_zero_iff.mp k2
      have hra : rsa ≠ [] := fun z => by
        rw [z] at l1
        cases l1
      have hrb : rsb ≠ [] := fun z => by
        rw [z] at k1
        cases k1
      rw [foldJ_one] at f1 f2
      refine ⟨st2, kb + 1 + ka, 0, rsb ++ rsa, [], hr2, ⟨?_, by rw [List.length_append, k1, l1]; omega, rfl, ?_⟩, fun _ => rfl⟩
      · rw [e2]
        show RS.mk (rsb ++ (rsa ++ P)) (List.replicate kb ("and" : Str) ++ (("and" : Str) :: (List.replicate ka ("and" : Str) ++ W))) [] true = RS.mk (rsb ++ rsa ++ P) (List.replicate (kb + 1 + ka) ("and" : Str) ++ W) [] true
        rw [rep_and, List.append_assoc]
      · rw [foldJ_one, foldJ_app _ _ _ hrb hra, f1, f2]
        rfl
    · subst hjo
      have hNA := hA ⟨rfl, rfl⟩
      have tk : takeS qfs hds st1 "or" = some (stn (("or" : Str) :: (List.replicate ma ("or" : Str) ++ W)) (foldJ "and" rsa :: (ssa ++ P))) := by
        rw [e1]
        unfold takeS takeB
        rw [if_pos rfl, if_neg (by decide +kernel), if_pos or_jt, if_pos rfl]
        show some (RS.mk (gat ["and"] (List.replicate ka ("and" : Str) ++ (List.replicate ma ("or" : Str) ++ W)) (rsa ++ (ssa ++ P))).2 (("or" : Str) :: (gat ["and"] (List.replicate ka ("and" : Str) ++ (List.replicate ma ("or" : Str) ++ W)) (rsa ++ (ssa ++ P))).1) [] false) = _
        rw [gat_rep (List.mem_singleton.mpr rfl) _ _ ka rsa l1, gat_noAnd (noAnd_rep hNA)]
      rw [run_cons tk]
      have n1 : noHd (("or" : Str) :: (List.replicate ma ("or" : Str) ++ W)) = true := noHd_c (by decide +kernel)
      have n2 : noAnd (("or" : Str) :: (List.replicate ma ("or" : Str) ++ W)) = true := noAnd_c (by decide +kernel)
      obtain ⟨st2, kb, mb, rsb, ssb, hr2, ⟨e2, k1, k2, f2⟩, _⟩ := oper (d := e) or_jt ihb _ (foldJ "and" rsa :: (ssa ++ P)) (i2 + 1) n1 fun _ => n2
      refine ⟨st2, kb, mb + 1 + ma, rsb, ssb ++ (foldJ "and" rsa :: ssa), hr2, ⟨?_, k1, by rw [List.length_append, List.length_cons, k2, l2]; omega, ?_⟩, fun z => ?_⟩
      · rw [e2]
        show RS.mk (rsb ++ (ssb ++ (foldJ "and" rsa :: (ssa ++ P)))) (List.replicate kb ("and" : Str) ++ (List.replicate mb ("or" : Str) ++ (("or" : Str) :: (List.replicate ma ("or" : Str) ++ W)))) [] true = RS.mk (rsb ++ (ssb ++ (foldJ "and" rsa :: ssa) ++ P)) (List.replicate kb ("and" : Str) ++ (List.replicate (mb + 1 + ma) ("or" : Str) ++ W)) [] true
        rw [rep_and, List.append_assoc]
        rfl
      · rw [show foldJ "and" rsb :: (ssb ++ (foldJ "and" rsa :: ssa)) = (foldJ "and" rsb :: ssb) ++ (foldJ "and" rsa :: ssa) from rfl, foldJ_app _ _ _ (List.cons_ne_nil _ _) (List.cons_ne_nil _ _), f1, f2]
        rfl
      · rcases z with z | z
        · exact absurd rfl z
        · exact nomatch z
/-- a whole text -/
theorem parse_end {t : LT} {ws : List Str} {d : Nat} {c : Bool} (h : WrW t ws d c) (w : wfT t) : ∃ st, runS qfs hds st0 ws 0 = .inl st ∧ endS st = some (nrm t) := by
  obtain ⟨st', k, m, rs, ss, hr, hs, _⟩ := (parse_all h w [] [] 0).2 rfl fun _ => rfl
  refine ⟨st', hr, ?_⟩
  have hw : st'.whole = true := by rw [hs.1]
  unfold endS
  rw [if_pos hw, gat_shp hs]
  rfl
end Q2

set_option linter.all false
set_option maxRecDepth 100000
set_option maxHeartbeats 4000000
set_option pp.maxSteps 200
/-! what a written tree is read as, and what is too much in it -/
namespace Q2
open PySem PyProof.Rows L2 Gx Qp
def tokL : LT → List LT
  | .at ws => [.at ws]
  | .un h t => (if h ∈ Qp.out then [.un h t] else []) ++ tokL t
  | .bi _ a b => tokL a ++ tokL b
def ouL : LT → Bool
  | .un h _ => decide (h ∈ Qp.out)
  | _ => false
def ouT : LT → Str
  | .un _ u => shL u
  | _ => ""
def outsL (t : LT) : List Str := ((tokL t).filter ouL).map ouT
def exL (t : LT) (d : Nat) : Option Str := if (tokL t).length > 8 then some "atoms" else if d > 6 then some "deep" else if Ws.met (outsL t) (outsL t).length > 2 then some "outer" else none
def cO (j : Str) (t : LT) : Nat := if j = "and" ∧ hdT t = "or" then 1 else 0
def dL : LT → Nat
  | .at _ => 0
  | .un _ t => dL t + 1 + (if hdT t ∈ Qp.jts then 1 else 0)
  | .bi j a b => max (dL a + cO j a) (dL b + cO j b)
theorem atss_app (a b : List Pt) : atss (a ++ b) = atss a ++ atss b := by
  induction a with
  | nil => rfl
  | cons p a ih =>
    show ats p ++ atss (a ++ b) = ats p ++ atss a ++ atss b
    rw [ih, List.append_assoc]
theorem atss_fl (j : Str) (p : Pt) : atss (fl j p) = ats p := by
  have one : atss [p] = ats p := List.append_nil _
  cases p with
  | atom ws => exact one
  | un => exact one
  | jo k ps =>
    show atss (if k = j then ps else [.jo k ps]) = _
    split
    · rfl
    · exact one
theorem ats_nrm : ∀ t : LT, ats (nrm t) = (tokL t).map nrm
  | .at _ => rfl
  | .un h t => by
    show (if h ∈ out then [Pt.un h (nrm t)] else []) ++ ats (nrm t) = ((if h ∈ out then [LT.un h t] else []) ++ tokL t).map nrm
    rw [ats_nrm t, List.map_append]
    split <;> rfl
  | .bi j a b => by
    show atss (fl j (nrm a) ++ fl j (nrm b)) = (tokL a ++ tokL b).map nrm
    rw [atss_app, atss_fl, atss_fl, ats_nrm a, ats_nrm b, List.map_append]
theorem tok_wf : ∀ {t : LT}, wfT t → ∀ x ∈ tokL t, wfT x
  | .at ws, w, x, h => by
    rw [List.mem_singleton.mp h]
    exact w
  | .un h t, w, x, hx => by
    rcases List.mem_append.mp hx with hx | hx
    · split at hx
      · rw [List.mem_singleton.mp hx]
        exact w
      · exact nomatch hx
    · exact tok_wf w.2 x hx
  | .bi j a b, w, x, hx => by
    rcases List.mem_append.mp hx with hx | hx
    · exact tok_wf w.2.1 x hx
    · exact tok_wf w.2.2 x hx
theorem outT_nrm {t : LT} (w : wfT t) : outT (nrm t) = outsL t := by
  unfold outT outsL
  rw [ats_nrm, List.filter_map, List.map_map]
  have e1 : (isOut ∘ nrm) = ouL := by
    funext x
    cases x <;> rfl
  rw [e1]
  refine List.map_congr_left fun x hx => ?_
  have wx := tok_wf w x (List.mem_filter.mp hx).1
  cases x with
  | «at» => rfl
  | un h u => exact txt_nrm wx.2
  | bi => rfl
theorem cntW_app (a b s : List Str) : cntW (a ++ b) s = cntW a s + cntW b s := by
  unfold cntW
  rw [List.filter_append, List.length_append]
theorem cntW_cons (x : Str) (a s : List Str) : cntW (x :: a) s = (if x ∈ s then 1 else 0) + cntW a s := by
  unfold cntW
  rw [List.filter_cons]
  split
  · rename_i h
    rw [if_pos (of_decide_eq_true h), List.length_cons]
    omega
  · rename_i h
    rw [if_neg (fun z => h (decide_eq_true z)), Nat.zero_add]
theorem kind_atw {k : Str} (h : kindB k = true) : k ∉ atw := fun hm => by
  simp only [List.mem_cons, List.not_mem_nil, or_false] at hm
  rcases hm with rfl | rfl | rfl | rfl | rfl | rfl <;> exact absurd h (by decide +kernel)
theorem cnt_clW (ws : List Str) : cntW (clW ws) atw = cntW ws atw := by
  unfold clW
  rw [cntW_cons, if_neg (by decide +kernel), cntW_app, cntW_cons, if_neg (by decide +kernel)]
  show 0 + (_ + (0 + 0)) = _
  omega
theorem cnt_cz (j : Str) (t : LT) (ws : List Str) (d : Nat) (c : Bool) : cntW (czW j t ws d c).1 atw = cntW ws atw := by
  unfold czW
  split
  · exact cnt_clW ws
  · rfl
theorem cnt_hd {h : Str} (k : h ∈ hds) : (if h ∈ atw then 1 else 0) = (if h ∈ Qp.out then 1 else 0) := by
  simp only [List.mem_cons, List.not_mem_nil, or_false] at k
  rcases k with rfl | rfl | rfl <;> decide +kernel
theorem tok_un (h : Str) (t : LT) : (tokL (.un h t)).length = (if h ∈ Qp.out then 1 else 0) + (tokL t).length := by
  show ((if h ∈ Qp.out then [LT.un h t] else []) ++ tokL t).length = _
  rw [List.length_append]
  split <;> rfl
theorem cnt_wr : ∀ {t : LT} {ws : List Str} {d : Nat} {c : Bool}, WrW t ws d c → wfT t → cntW ws atw = (tokL t).length
  | _, _, _, _, .at, w => by
    rcases w with rfl | ⟨x, k, hx, hk, rfl⟩
    · decide +kernel
    · rw [cntW_cons, cntW_cons, if_neg (kind_atw hk.2.2)]
      have : x ∈ atw := by
        simp only [List.mem_cons, List.not_mem_nil, or_false] at hx
        rcases hx with rfl | rfl | rfl <;> decide +kernel
      rw [if_pos this]
      rfl
  | _, _, _, _, .un hw _, w => by rw [cntW_cons, cnt_wr hw w.2, tok_un, cnt_hd w.1]
  | _, _, _, _, .unc hw _, w => by rw [cntW_cons, cnt_clW, cnt_wr hw w.2, tok_un, cnt_hd w.1]
  | _, _, _, _, .bi (j := j) ha hb, w => by
    have hj : j ∉ atw := by
      have hj := w.1
      simp only [List.mem_cons, List.not_mem_nil, or_false] at hj
      rcases hj with rfl | rfl <;> decide +kernel
    rw [cntW_app, cntW_cons, if_neg hj, cnt_cz, cnt_cz, cnt_wr ha w.2.1, cnt_wr hb w.2.2]
    show _ = (tokL _ ++ tokL _).length
    rw [List.length_append]
    omega
  | _, _, _, _, .cl hw, w => by rw [cnt_clW, cnt_wr hw w]
/-! how deep -/
theorem drun_app (d : DS) (a b : List Str) : drun d (a ++ b) = drun (drun d a) b := by
  induction a generalizing d with
  | nil => rfl
  | cons w a ih => exact ih _
def DepW (ws : List Str) (d : Nat) (c : Bool) : Prop := ∀ (m : Nat) (hl : List Nat) (p k : Nat), p + k ≤ m → (c = false → k = 0) → drun ⟨m, hl, p, k⟩ ws = ⟨max m (p + k + d), hl, p, 0⟩
theorem dep_cl {ws : List Str} {d : Nat} {c : Bool} (h : DepW ws d c) : DepW (clW ws) (d + 1) true := fun m hl p k hm _ => by
  unfold clW
  rw [drun, dstep_op, drun_app]
  show drun (drun ⟨max m (p + k + 1 + 0), (k + 1) :: hl, p + k + 1, 0⟩ ws) [")"] = _
  rw [h _ _ _ _ (by omega) (fun _ => rfl), drun, dstep_cl, drun]
  show DS.mk (max (max (max m (p + k + 1 + 0)) (p + k + 1 + 0 + d)) (p + k + 1 - (k + 1) + 0)) hl (p + k + 1 - (k + 1)) 0 = _
  congr 1
  · omega
  · omega
theorem dep_cz {j : Str} {t : LT} {ws : List Str} {d : Nat} {c : Bool} (h : DepW ws d c) : DepW (czW j t ws d c).1 (czW j t ws d c).2.1 false := by
  unfold czW
  split
  · exact fun m hl p k hm hk => dep_cl h m hl p k hm (fun z => nomatch z)
  · exact fun m hl p k hm hk => h m hl p k hm (fun _ => hk rfl)
theorem dep_wr : ∀ {t : LT} {ws : List Str} {d : Nat} {c : Bool}, WrW t ws d c → wfT t → DepW ws d c
  | _, _, _, _, .at, w => fun m hl p k hm _ => by
    rcases w with rfl | ⟨x, y, hx, hk, rfl⟩
    · rw [drun, dstep_pl (plain_w (.inl rfl)), drun]
      show DS.mk (max m (p + 0)) hl p 0 = _
      congr 1
      omega
    · rw [drun, dstep_pl (plain_w (.inr (.inl hx))), drun, dstep_pl (plain_w (.inr (.inr (.inl hk.2.2)))), drun]
      show DS.mk (max (max m (p + 0)) (p + 0)) hl p 0 = _
      congr 1
      omega
  | _, _, _, _, .un (h := h) (t := t) hw hj, w => fun m hl p k hm _ => by
    rw [drun, dstep_hd w.1]
    show drun ⟨max m (p + (k + 1)), hl, p, k + 1⟩ _ = _
    have ih := dep_wr hw w.2 (max m (p + (k + 1))) hl p (k + 1) (by omega) (fun z => by
      cases hw with
      | «at» => exact nomatch z
      | un => exact nomatch z
      | unc => exact nomatch z
      | bi => exact absurd w.2.1 hj
      | cl => exact nomatch z)
    rw [ih]
    congr 1
    omega
  | _, _, _, _, .unc hw hj, w => fun m hl p k hm _ => by
    rw [drun, dstep_hd w.1]
    show drun ⟨max m (p + (k + 1)), hl, p, k + 1⟩ _ = _
    rw [dep_cl (dep_wr hw w.2) (max m (p + (k + 1))) hl p (k + 1) (by omega) (fun z => nomatch z)]
    congr 1
    omega
  | _, _, _, _, .bi (j := j) ha hb, w => fun m hl p k hm hk => by
    obtain rfl := hk rfl
    rw [drun_app, dep_cz (dep_wr ha w.2.1) m hl p 0 hm (fun _ => rfl), drun, dstep_pl (plain_w (.inr (.inr (.inr w.1))))]
    show drun ⟨max (max m (p + 0 + _)) (p + 0), hl, p, 0⟩ _ = _
    rw [dep_cz (dep_wr hb w.2.2) _ hl p 0 (by omega) (fun _ => rfl)]
    congr 1
    omega
  | _, _, _, _, .cl hw, w => dep_cl (dep_wr hw w)
theorem depth_wr {t : LT} {ws : List Str} {d : Nat} {c : Bool} (h : WrW t ws d c) (w : wfT t) : depthW ws = d := by
  unfold depthW
  rw [dep_wr h w 0 [] 0 0 (Nat.le_refl _) (fun _ => rfl)]
  show max 0 (0 + 0 + d) = d
  omega
/-! the words of a text -/
def Wd (x : Str) : Prop := 32 ∉ x.cps.toList ∧ 1 ≤ x.length
theorem join_clW {ws : List Str} (h : ws ≠ []) : Str.join " " (clW ws) = clo (Str.join " " ws) := by
  unfold clW clo
  rw [join_cons _ _ (by simp), join_app _ h (List.cons_ne_nil _ _)]
  show ("(" : Str) ++ " " ++ (Str.join " " ws ++ " " ++ (")" : Str)) = "( " ++ Str.join " " ws ++ " )"
  rw [show ("( " : Str) = "(" ++ " " from by decide +kernel, show (" )" : Str) = " " ++ ")" from by decide +kernel]
  simp only [Str.append_assoc]
theorem wd_hd {h : Str} (k : h ∈ hds) : Wd h := by
  simp only [List.mem_cons, List.not_mem_nil, or_false] at k
  rcases k with rfl | rfl | rfl <;> exact ⟨by decide +kernel, by decide +kernel⟩
theorem wd_jt {h : Str} (k : h ∈ Qp.jts) : Wd h := by
  simp only [List.mem_cons, List.not_mem_nil, or_false] at k
  rcases k with rfl | rfl <;> exact ⟨by decide +kernel, by decide +kernel⟩
theorem wd_at {ws : List Str} (h : AtWs ws) : ws ≠ [] ∧ ∀ x ∈ ws, Wd x := by
  rcases h with rfl | ⟨x, k, hx, hk, rfl⟩
  · exact ⟨List.cons_ne_nil _ _, fun x hx => by
      rw [List.mem_singleton.mp hx]
      exact ⟨by decide +kernel, by decide +kernel⟩⟩
  · refine ⟨List.cons_ne_nil _ _, fun y hy => ?_⟩
    simp only [List.mem_cons, List.not_mem_nil, or_false] at hx hy
    rcases hy with rfl | rfl
    · rcases hx with rfl | rfl | rfl <;> exact ⟨by decide +kernel, by decide +kernel⟩
    · have hk2 := hk.2.2
      unfold consB at hk2
      simp only [Bool.and_eq_true, decide_eq_true_eq, List.all_eq_true] at hk2
      exact ⟨fun z => by have := hk2.2.2 _ z; omega, hk2.1⟩
theorem wd_cl {ws : List Str} (h : ∀ x ∈ ws, Wd x) : ∀ x ∈ clW ws, Wd x := fun x hx => by
  unfold clW at hx
  rcases List.mem_cons.mp hx with rfl | hx
  · exact ⟨by decide +kernel, by decide +kernel⟩
  · rcases List.mem_append.mp hx with hx | hx
    · exact h x hx
    · rw [List.mem_singleton.mp hx]
      exact ⟨by decide +kernel, by decide +kernel⟩
theorem clW_ne (ws : List Str) : clW ws ≠ [] := List.cons_ne_nil _ _
theorem cz_words {j : Str} {t : LT} {z : Str} {ws : List Str} {d : Nat} {c : Bool} {z' : Str} {d' : Nat} (hn : ws ≠ []) (hz : z = Str.join " " ws) (hd : ∀ x ∈ ws, Wd x)
    (e : (z', d') = (if j = "and" ∧ hdT t = "or" then (clo z, d + 1) else (z, d))) : z' = Str.join " " (czW j t ws d c).1 ∧ d' = (czW j t ws d c).2.1 ∧ (czW j t ws d c).1 ≠ [] ∧ ∀ x ∈ (czW j t ws d c).1, Wd x := by
  unfold czW
  split at e
  · rename_i h
    cases e
    rw [if_pos h]
    exact ⟨by rw [join_clW hn, hz], rfl, clW_ne ws, wd_cl hd⟩
  · rename_i h
    cases e
    rw [if_neg h]
    exact ⟨hz, rfl, hn, hd⟩
theorem wr_words : ∀ {t : LT} {z : Str} {d : Nat}, Wr t z d → wfT t → ∃ ws c, WrW t ws d c ∧ ws ≠ [] ∧ z = Str.join " " ws ∧ ∀ x ∈ ws, Wd x
  | _, _, _, .at (ws := ws), w => ⟨ws, true, .at, (wd_at w).1, rfl, (wd_at w).2⟩
  | _, _, _, .un (h := h) hw hj, w => by
    obtain ⟨ws, c, k, hn, hz, hd⟩ := wr_words hw w.2
    refine ⟨h :: ws, true, .un k hj, List.cons_ne_nil _ _, by rw [join_cons _ _ hn, hz], fun x hx => ?_⟩
    rcases List.mem_cons.mp hx with rfl | hx
    · exact wd_hd w.1
    · exact hd x hx
  | _, _, _, .unc (h := h) hw hj, w => by
    obtain ⟨ws, c, k, hn, hz, hd⟩ := wr_words hw w.2
    refine ⟨h :: clW ws, true, .unc k hj, List.cons_ne_nil _ _, by rw [join_cons _ _ (clW_ne ws), join_clW hn, hz], fun x hx => ?_⟩
    rcases List.mem_cons.mp hx with rfl | hx
    · exact wd_hd w.1
    · exact wd_cl hd x hx
  | _, _, _, .bi (j := j) (a := a) (b := b) (d := d) (e := e) ha hb e1 e2, w => by
    obtain ⟨x, c, k, hn, hz, hd⟩ := wr_words ha w.2.1
    obtain ⟨y, c2, k2, hn2, hz2, hd2⟩ := wr_words hb w.2.2
    obtain ⟨p1, p2, p3, p4⟩ := cz_words (c := c) hn hz hd e1
    obtain ⟨q1, q2, q3, q4⟩ := cz_words (c := c2) hn2 hz2 hd2 e2
    refine ⟨(czW j a x d c).1 ++ j :: (czW j b y e c2).1, false, by rw [p2, q2]; exact .bi k k2, by simp, ?_, fun v hv => ?_⟩
    · rw [join_app _ p3 (List.cons_ne_nil _ _), join_cons _ _ q3, p1, q1]
      simp only [Str.append_assoc]
    · rcases List.mem_append.mp hv with hv | hv
      · exact p4 v hv
      · rcases List.mem_cons.mp hv with rfl | hv
        · exact wd_jt w.1
        · exact q4 v hv
  | _, _, _, .cl hw, w => by
    obtain ⟨ws, c, k, hn, hz, hd⟩ := wr_words hw w
    exact ⟨clW ws, true, .cl k, clW_ne ws, by rw [join_clW hn, hz], wd_cl hd⟩
theorem split_ws {ws : List Str} (hn : ws ≠ []) (hd : ∀ x ∈ ws, Wd x) : wordsL (Str.join " " ws) = ws := by
  have hne : ¬ Str.join " " ws = "" := fun z => by
    obtain ⟨x, r, rfl⟩ : ∃ x r, ws = x :: r := by
      cases ws with
      | nil => exact absurd rfl hn
      | cons x r => exact ⟨x, r, rfl⟩
    have h1 := join_ge (ys := x :: r) (y := x) (List.mem_cons_self ..)
    rw [z, show ("" : Str).length = 0 from by decide +kernel] at h1
    have := (hd x (List.mem_cons_self ..)).2
    omega
  rw [wordsL_of hne, ← tjoin]
  obtain ⟨x, r, rfl⟩ : ∃ x r, ws = x :: r := by
    cases ws with
    | nil => exact absurd rfl hn
    | cons x r => exact ⟨x, r, rfl⟩
  exact TL.split_join (s := 32) (S := []) (by decide +kernel) (by decide +kernel) (by simp) fun p hp hm => (hd p hp).1 hm
/-- what is read of a written text -/
theorem read_wr {t : LT} {z : Str} {d : Nat} (h : Wr t z d) (w : wfT t) : readQ (wordsL z) = match exL t d with
    | some m => .many m
    | none => .ok (nrm t) := by
  obtain ⟨ws, c, k, hn, rfl, hd⟩ := wr_words h w
  obtain ⟨st, hr, he⟩ := parse_end k w
  rw [split_ws hn hd]
  unfold readQ
  rw [hr]
  simp only [he]
  have e : manyOf ws (nrm t) = exL t d := by
    unfold manyOf exL
    rw [cnt_wr k w, depth_wr k w, outT_nrm w]
  rw [e]
  all_goals (cases exL t d <;> rfl)
/-! the plain text -/
theorem cO_bd {j : Str} (hj : j ∈ Qp.jts) (t : LT) : bdB t j = decide (j = "and" ∧ hdT t = "or") := by
  unfold bdB
  rw [decide_eq_true hj]
  simp only [List.mem_cons, List.not_mem_nil, or_false] at hj
  rcases hj with rfl | rfl
  · rw [show decide (("and" : Str) = "or") = false from by decide +kernel]
    simp
  · rw [show decide (("or" : Str) = "or") = true from by decide +kernel]
    simp
    exact fun e => absurd e (by decide +kernel)
theorem bd_un {h : Str} (k : h ∈ hds) (t : LT) : bdB t h = decide (hdT t ∈ Qp.jts) := by
  unfold bdB
  have n1 : decide (h = "or") = false := decide_eq_false (hd_no2 k).1
  have n2 : decide (h ∈ Qp.jts) = false := decide_eq_false (hd_no k).2.1
  rw [n1, n2]
  simp only [Bool.not_false, Bool.and_true]
  by_cases e1 : hdT t = "or"
  · rw [e1]
    decide +kernel
  · by_cases e2 : hdT t = "and"
    · rw [e2]
      decide +kernel
    · rw [decide_eq_false e1, decide_eq_false e2, decide_eq_false]
      · rfl
      · intro z
        simp only [List.mem_cons, List.not_mem_nil, or_false] at z
        exact z.elim e2 e1
theorem wr_sh : ∀ {t : LT}, wfT t → Wr t (shL t) (dL t)
  | .at ws, _ => .at
  | .un h t, w => by
    have ih := wr_sh w.2
    show Wr (.un h t) (h ++ " " ++ bd (shL t) (bdB t h)) (dL t + 1 + (if hdT t ∈ Qp.jts then 1 else 0))
    rw [bd_un w.1]
    by_cases e : hdT t ∈ Qp.jts
    · rw [decide_eq_true e, if_pos e]
      exact .unc ih e
    · rw [decide_eq_false e, if_neg e]
      exact .un ih e
  | .bi j a b, w => by
    have ia := wr_sh w.2.1
    have ib := wr_sh w.2.2
    have cz : ∀ t : LT, (bd (shL t) (bdB t j), dL t + cO j t) = (if j = "and" ∧ hdT t = "or" then (clo (shL t), dL t + 1) else (shL t, dL t)) := fun t => by
      rw [cO_bd w.1]
      unfold cO bd
      by_cases e : j = "and" ∧ hdT t = "or"
      · rw [decide_eq_true e, if_pos e, if_pos e]
        rfl
      · rw [decide_eq_false e, if_neg e, if_neg e]
        rfl
    exact .bi ia ib (cz a) (cz b)
theorem dL_le : ∀ {t : LT} {z : Str} {d : Nat}, Wr t z d → dL t ≤ d
  | _, _, _, .at => Nat.le_refl _
  | _, _, _, .un (h := h) (t := t) hw hj => by
    have := dL_le hw
    show dL t + 1 + (if hdT t ∈ Qp.jts then 1 else 0) ≤ _
    rw [if_neg hj]
    omega
  | _, _, _, .unc (h := h) (t := t) hw hj => by
    have := dL_le hw
    show dL t + 1 + (if hdT t ∈ Qp.jts then 1 else 0) ≤ _
    rw [if_pos hj]
    omega
  | _, _, _, .bi (j := j) (a := a) (b := b) (d := d) (e := e) (d' := d') (e' := e') ha hb e1 e2 => by
    have h1 := dL_le ha
    have h2 := dL_le hb
    have one : ∀ {t : LT} {x x' : Str} {d d' : Nat}, dL t ≤ d → (x', d') = (if j = "and" ∧ hdT t = "or" then (clo x, d + 1) else (x, d)) → dL t + cO j t ≤ d' := fun {t x x' d d'} h e => by
      unfold cO
      split at e
      · rename_i k
        cases e
        rw [if_pos k]
        omega
      · rename_i k
        cases e
        rw [if_neg k]
        exact h
    have k1 := one h1 e1
    have k2 := one h2 e2
    show max (dL a + cO j a) (dL b + cO j b) ≤ max d' e'
    omega
  | _, _, _, .cl hw => by
    have := dL_le hw
    omega
theorem read_sh {t : LT} {d : Nat} (w : wfT t) (hd : dL t ≤ d) (h : exL t d = none) : readQ (wordsL (shL t)) = .ok (nrm t) := by
  rw [read_wr (wr_sh w) w]
  have e : exL t (dL t) = none := by
    unfold exL at h ⊢
    split at h
    · cases h
    · rename_i h1
      rw [if_neg h1]
      split at h
      · cases h
      · rename_i h2
        rw [if_neg (by omega)]
        exact h
  rw [e]
/-! trees turned -/
structure Tu (t t' : LT) : Prop where
  wf : wfT t → wfT t'
  nr : nrm t' = nrm t
  tk : tokL t' = tokL t
  dl : dL t' = dL t
  hd : hdT t' = hdT t
  nt : NT t' = NT t
  bt : BT t' = BT t
theorem Tu.refl (t : LT) : Tu t t := ⟨fun h => h, rfl, rfl, rfl, rfl, rfl, rfl⟩
theorem cO_same (j : Str) (a b : LT) : cO j (.bi j a b) = 0 := by
  unfold cO
  rw [if_neg]
  rintro ⟨h1, h2⟩
  have h3 : j = "or" := h2
  rw [h1] at h3
  exact absurd h3 (by decide +kernel)
theorem cO_hd {j : Str} {t t' : LT} (h : hdT t' = hdT t) : cO j t' = cO j t := by
  unfold cO
  rw [h]
theorem Tu.r {j : Str} {a b c a' b' c' : LT} (ha : Tu a a') (hb : Tu b b') (hc : Tu c c') : Tu (.bi j a (.bi j b c)) (.bi j (.bi j a' b') c') := by
  refine ⟨fun h => ⟨h.1, ⟨h.1, ha.wf h.2.1, hb.wf h.2.2.2.1⟩, hc.wf h.2.2.2.2⟩, ?_, ?_, ?_, rfl, ?_, ?_⟩
  · show jn j (jn j (nrm a') (nrm b')) (nrm c') = jn j (nrm a) (jn j (nrm b) (nrm c))
    rw [jn_assoc, ha.nr, hb.nr, hc.nr]
  · show (tokL a' ++ tokL b') ++ tokL c' = tokL a ++ (tokL b ++ tokL c)
    rw [List.append_assoc, ha.tk, hb.tk, hc.tk]
  · show max (max (dL a' + cO j a') (dL b' + cO j b') + cO j (.bi j a' b')) (dL c' + cO j c') = max (dL a + cO j a) (max (dL b + cO j b) (dL c + cO j c) + cO j (.bi j b c))
    rw [cO_same, cO_same, cO_hd ha.hd, cO_hd hb.hd, cO_hd hc.hd, ha.dl, hb.dl, hc.dl]
    omega
  · show 1 + (1 + NT a' + NT b') + NT c' = 1 + NT a + (1 + NT b + NT c)
    rw [ha.nt, hb.nt, hc.nt]
    omega
  · show j.length + 14 + (j.length + 14 + BT a' + BT b') + BT c' = j.length + 14 + BT a + (j.length + 14 + BT b + BT c)
    rw [ha.bt, hb.bt, hc.bt]
    omega
theorem Tu.l {j : Str} {a b c a' b' c' : LT} (ha : Tu a a') (hb : Tu b b') (hc : Tu c c') : Tu (.bi j (.bi j a b) c) (.bi j a' (.bi j b' c')) := by
  refine ⟨fun h => ⟨h.1, ha.wf h.2.1.2.1, ⟨h.1, hb.wf h.2.1.2.2, hc.wf h.2.2⟩⟩, ?_, ?_, ?_, rfl, ?_, ?_⟩
  · show jn j (nrm a') (jn j (nrm b') (nrm c')) = jn j (jn j (nrm a) (nrm b)) (nrm c)
    rw [jn_assoc, ha.nr, hb.nr, hc.nr]
  · show tokL a' ++ (tokL b' ++ tokL c') = (tokL a ++ tokL b) ++ tokL c
    rw [List.append_assoc, ha.tk, hb.tk, hc.tk]
  · show max (dL a' + cO j a') (max (dL b' + cO j b') (dL c' + cO j c') + cO j (.bi j b' c')) = max (max (dL a + cO j a) (dL b + cO j b) + cO j (.bi j a b)) (dL c + cO j c)
    rw [cO_same, cO_same, cO_hd ha.hd, cO_hd hb.hd, cO_hd hc.hd, ha.dl, hb.dl, hc.dl]
    omega
  · show 1 + NT a' + (1 + NT b' + NT c') = 1 + (1 + NT a + NT b) + NT c
    rw [ha.nt, hb.nt, hc.nt]
    omega
  · show j.length + 14 + BT a' + (j.length + 14 + BT b' + BT c') = j.length + 14 + (j.length + 14 + BT a + BT b) + BT c
    rw [ha.bt, hb.bt, hc.bt]
    omega
theorem exL_tu {t t' : LT} (h : Tu t t') (d : Nat) : exL t' d = exL t d := by
  unfold exL outsL
  rw [h.tk]
end Q2

set_option linter.all false
set_option maxRecDepth 100000
set_option maxHeartbeats 8000000
set_option pp.maxSteps 150
namespace Q2
open PySem PySem.Spec PyProof.Rows L2 Gx Qp Qh
/-! ### the law's own texts, whole -/
abbrev s_bound : Stmt := topS 38
abbrev n_bound : List Str := ["_law_tree", "_law_word", "_law_text", "_law_needs"]
theorem sc_bound : FnScope n_bound ["_law_tree", "_law_word"] (defScope s_bound) := ⟨rfl, rfl, rfl, by decide +kernel, rfl, by decide +kernel, by decide +kernel⟩
abbrev s_tokens : Stmt := topS 42
abbrev n_tokens : List Str := ["_law_tree"]
theorem sc_tokens : FnScope n_tokens ["_law_tree"] (defScope s_tokens) := ⟨rfl, rfl, rfl, by decide +kernel, rfl, by decide +kernel, by decide +kernel⟩
theorem bd_len (z : Str) (b : Bool) : (bd z b).length ≤ z.length + 4 := by
  unfold bd
  split
  · rw [clo_len]
    exact Nat.le_refl _
  · omega
theorem sh_len : ∀ {t : LT}, wfT t → (shL t).length ≤ BT t
  | .at ws, w => Nat.le_trans (at_text w).1 (by show 12 ≤ 16; decide)
  | .un h t, w => by
    have := sh_len w.2
    have h2 := bd_len (shL t) (bdB t h)
    show (h ++ " " ++ bd (shL t) (bdB t h)).length ≤ h.length + 9 + BT t
    rw [len_app, len_app, sp1]
    omega
  | .bi j a b, w => by
    have ha := sh_len w.2.1
    have hb := sh_len w.2.2
    have h2 := bd_len (shL a) (bdB a j)
    have h3 := bd_len (shL b) (bdB b j)
    show (bd (shL a) (bdB a j) ++ " " ++ j ++ " " ++ bd (shL b) (bdB b j)).length ≤ j.length + 14 + BT a + BT b
    rw [len_app, len_app, len_app, len_app, sp1]
    omega
theorem bd_asc {z : Str} (b : Bool) (h : Asc z) : Asc (bd z b) := by
  unfold bd
  split
  · exact clo_asc h
  · exact h
theorem sh_asc : ∀ {t : LT}, wfT t → Asc (shL t)
  | .at ws, w => (at_text w).2.1
  | .un h t, w => app_asc (app_asc (hds_asc w.1) (by decide +kernel)) (bd_asc _ (sh_asc w.2))
  | .bi j a b, w => app_asc (app_asc (app_asc (app_asc (bd_asc _ (sh_asc w.2.1)) (by decide +kernel)) (jts_asc w.1)) (by decide +kernel)) (bd_asc _ (sh_asc w.2.2))
def spSh (d : Nat) : Sp := fun vs H Q _ => ∃ (v : V) (t : LT), vs = [v] ∧ LTAt H v t ∧ wfT t ∧ NT t ≤ d ∧ BT t ≤ 5000 ∧ ∀ H' : Hp, Same H H' → Q (.str (shL t)) H'
def spBd (d : Nat) : Sp := fun vs H Q _ => ∃ (v : V) (t : LT) (h : Str), vs = [v, .str h] ∧ LTAt H v t ∧ wfT t ∧ NT t ≤ d ∧ BT t ≤ 5000 ∧ ∀ H' : Hp, Same H H' → Q (.str (bd (shL t) (bdB t h))) H'
structure NmSh (mg : Str → Option Value) (K : PySem.W.Frag) (fb fs : Addr) : Prop where
  g_bound : mg "_law_bound" = some (.ref fb)
  k_bound : PySem.W.keepIn K (.ref fb) = true
  g_shown : mg "_law_shown" = some (.ref fs)
  k_shown : PySem.W.keepIn K (.ref fs) = true
inductive LTsAt (H : Hp) : List V → List LT → Prop
  | nil : LTsAt H [] []
  | cons {v : V} {t : LT} {vs : List V} {ts : List LT} : LTAt H v t → LTsAt H vs ts → LTsAt H (v :: vs) (t :: ts)
theorem LTsAt.mono {H H' : Hp} {vs : List V} {ts : List LT} (h : LTsAt H vs ts) (s : ∀ a xs, H a = some (.tup xs) → H' a = some (.tup xs)) : LTsAt H' vs ts := by
  induction h with
  | nil => exact .nil
  | cons e _ ih => exact .cons (e.mono s) ih
theorem LTsAt.len {H : Hp} {vs : List V} {ts : List LT} (h : LTsAt H vs ts) : vs.length = ts.length := by
  induction h with
  | nil => rfl
  | cons _ _ ih => rw [List.length_cons, List.length_cons, ih]
theorem LTsAt.app {H : Hp} {vs us : List V} {ts rs : List LT} (h : LTsAt H vs ts) (k : LTsAt H us rs) : LTsAt H (vs ++ us) (ts ++ rs) := by
  induction h with
  | nil => exact k
  | cons e _ ih => exact .cons e ih
theorem LTsAt.get {H : Hp} {vs : List V} {ts : List LT} (h : LTsAt H vs ts) : ∀ {i : Nat} {v : V}, vs[i]? = some v → ∃ t, ts[i]? = some t ∧ LTAt H v t := by
  induction h with
  | nil => intro i v hv; simp at hv
  | @cons v t _ _ e _ ih =>
    intro i u hu
    cases i with
    | zero => exact ⟨t, rfl, (Option.some.inj hu) ▸ e⟩
    | succ i => exact ih hu
def spTok (d : Nat) : Sp := fun vs H Q _ => ∃ (v : V) (t : LT), vs = [v] ∧ LTAt H v t ∧ wfT t ∧ NT t ≤ d ∧ NT t ≤ 1000 ∧ ∀ (l : Addr) (us : List V) (H' : Hp), Same H H' → H l = none → H' l = some (.lst us) → LTsAt H' us (tokL t) → Q (.ref l) H'
structure NmTk (mg : Str → Option Value) (K : PySem.W.Frag) (fk : Addr) : Prop where
  g_tokens : mg "_law_tokens" = some (.ref fk)
  k_tokens : PySem.W.keepIn K (.ref fk) = true
  n_int : mg "int" = none
def spTurn (d : Nat) : Sp := fun vs H Q _ => ∃ (v : V) (t : LT), vs = [v] ∧ LTAt H v t ∧ wfT t ∧ NT t ≤ d ∧ ∀ (u : V) (t' : LT) (H' : Hp), Same H H' → LTAt H' u t' → Tu t t' → Q u H'
structure NmTu (mg : Str → Option Value) (K : PySem.W.Frag) (f : Addr) : Prop where
  g_turned : mg "_law_turned" = some (.ref f)
  k_turned : PySem.W.keepIn K (.ref f) = true
theorem tok_len : ∀ t : LT, (tokL t).length ≤ NT t
  | .at _ => Nat.le_refl _
  | .un h t => by
    have := tok_len t
    rw [tok_un]
    show _ ≤ 1 + NT t
    split <;> omega
  | .bi _ a b => by
    have ha := tok_len a
    have hb := tok_len b
    show (tokL a ++ tokL b).length ≤ 1 + NT a + NT b
    rw [List.length_append]
    omega
theorem dec_str (a b : Str) : decide (V.str a = V.str b) = decide (a = b) := decide_eq_decide.mpr ⟨V.str.inj, congrArg V.str⟩
section
variable {P : Program} {w : World} {K : PySem.W.Frag} {mg : Str → Option Value} {base : Heap} {fb fs fk : Addr}
theorem ok_bound {fdb fds : FuncData} {d k : Nat} (F : Fun K "_law_bound" "_law_bound" s_bound fb fdb) (T : NmSh mg K fb fs)
    (G_shown : FnOk P w K mg base CX0 (k + 1) fs fds ["_law_tree"] (spSh d)) (b_shown : Binds K fds ["_law_tree"] []) : FnOk P w K mg base CX0 (k + 1 + 1) fb fdb ["_law_tree", "_law_word"] (spBd d) := by
  refine F.ok sc_bound (fun vs H Q E h => ?_) (fun cdv A outer s H vs Q E hr h => ?_)
  · obtain ⟨v, t, h, rfl, _⟩ := h
    rfl
  · obtain ⟨v, t, h, rfl, hv, hw, hd, hB, q⟩ := h
    refine ⟨_, (pss_cons (ps_set (i := 2) sc_bound.nd rfl (.inl rfl) (pe_call G_shown hr rfl T.g_shown T.k_shown b_shown .nil pass0 (pa_cons (pv 0) pa_nil)))
      (pss_cons (ps_set (i := 3) sc_bound.nd rfl (.inl rfl) (pe_or (pe_and (pe_cmpR op_eq (pe_ix ix_tup (pv 0) pe_int (fun _ _ => rfl)) pe_str (nomark _)) (pe_one (pe_cmpR op_ne (pv 1) pe_str (nomark _))))
        (pe_one (pe_and (pe_cmpR op_eq (pe_ix ix_tup (pv 0) pe_int (fun _ _ => rfl)) pe_str (nomark _)) (pe_one (pe_cmpR op_notIn_seq (pv 1) (pe_tup (pa_cons pe_str (pa_cons pe_str pa_nil))) rfl))))))
      (pss_one (ps_ret (pe_ifExp (pt_val (pv 3)) (pe_op op_add_str (pe_op op_add_str pe_str (pv 2)) pe_str) (pv 2)))))), ?_⟩
    refine ⟨_, rfl, v, t, rfl, hv, hw, hd, hB, fun H1 S1 => ?_⟩
    have hv1 := hv.mono fun b xs e => S1 b _ e
    obtain ⟨a, xs, rfl, ha, hx⟩ := hv1.hd hw
    have hl := sh_len hw
    have fin : ∀ (b : Bool) (H2 : Hp), Same H1 H2 → b = bdB t h → tIf (tB (tVar 3)) (tOp rAddStr (tOp rAddStr (tC (.str "( ")) (tVar 2)) (tC (.str " )"))) (tVar 2) [some (.ref a), some (.str h), some (.str (shL t)), some (.bl b)] H2 Q := fun b H2 S2 hb => by
      have q' := q H2 (S1.trans S2)
      rw [← hb] at q'
      cases b with
      | true =>
        refine ⟨_, rfl, _, rfl, iteT ?_⟩
        exact ⟨_, rfl, _, _, rfl, rfl, by rw [sp2, sizeLine_eq]; omega, _, _, rfl, rfl, by rw [len_app, sp2, sp3, sizeLine_eq]; omega, q'⟩
      | false => exact ⟨_, rfl, _, rfl, iteF ⟨_, rfl, q'⟩⟩
    refine ⟨_, rfl, a, _, _, _, rfl, rfl, SqT.of ha, hx, rfl, _, rfl, ?_⟩
    unfold bdB at fin
    rw [dec_str]
    by_cases h1 : hdT t = "or"
    · rw [decide_eq_true h1] at fin ⊢
      refine iteT ⟨_, rfl, rfl, _, rfl, ?_⟩
      rw [dec_str]
      by_cases h2 : h = "or"
      · rw [decide_eq_true h2] at fin ⊢
        refine iteF ⟨_, rfl, a, _, _, _, rfl, rfl, SqT.of ha, hx, rfl, _, rfl, ?_⟩
        rw [dec_str, h1]
        exact iteF (fin false H1 (Same.refl _) (by rw [h1]; rfl))
      · rw [decide_eq_false h2] at fin ⊢
        exact iteT (fin true H1 (Same.refl _) rfl)
    · rw [decide_eq_false h1] at fin ⊢
      refine iteF ⟨_, rfl, iteF ⟨_, rfl, a, _, _, _, rfl, rfl, SqT.of ha, hx, rfl, _, rfl, ?_⟩⟩
      rw [dec_str]
      by_cases h2 : hdT t = "and"
      · rw [decide_eq_true h2] at fin ⊢
        refine iteT ⟨_, rfl, (by show 2 ≤ sizeLine; decide), fun t1 nt1 => ?_⟩
        refine ⟨t1, _, rfl, .inr (SqT.of upd_same), rfl, by decide, ?_⟩
        rw [if_pos rfl, show inV (V.str h) [.str "and", .str "or"] = decide (h ∈ Qp.jts) from inV_list h Qp.jts]
        exact fin _ _ (new_same nt1) rfl
      · rw [decide_eq_false h2] at fin ⊢
        exact iteF (fin false H1 (Same.refl _) rfl)
theorem ok_shownF {fdb fds : FuncData} (Fb : Fun K "_law_bound" "_law_bound" s_bound fb fdb) (F : Fun K "_law_shown" "_law_shown" s_shown fs fds) (T : NmSh mg K fb fs)
    (b_bound : Binds K fdb ["_law_tree", "_law_word"] []) (b_shown : Binds K fds ["_law_tree"] []) : ∀ d, FnOk P w K mg base CX0 (2 * d + 1) fs fds ["_law_tree"] (spSh d) := by
  intro d
  induction d with
  | zero =>
    exact ⟨fun vs H Q E h => by
      obtain ⟨v, t, rfl, _⟩ := h
      rfl, fun A outer s H args us vs Q E _ _ _ _ h => by
      obtain ⟨v, t, _, _, _, h1, _⟩ := h
      cases t with
      | «at» ws => exact absurd h1 (by show ¬ 1 ≤ 0; decide)
      | un k u => exact absurd h1 (by show ¬ 1 + NT u ≤ 0; omega)
      | bi j a b => exact absurd h1 (by show ¬ 1 + NT a + NT b ≤ 0; omega)⟩
  | succ d IH =>
    have G_bound := ok_bound (k := 2 * d) Fb T IH b_shown
    have G' : FnOk P w K mg base CX0 (2 * d + 1 + 1 + 1) fs fds ["_law_tree"] (spSh (d + 1)) := by
      refine F.ok sc_shown (fun vs H Q E h => ?_) (fun cdv A outer s H vs Q E hr h => ?_)
      · obtain ⟨v, t, rfl, _⟩ := h
        rfl
      · obtain ⟨v, t, rfl, hv, hw, hd, hB, q⟩ := h
        refine ⟨_, (pss_cons (ps_set (i := 1) sc_shown.nd rfl (.inl rfl) (pe_ix ix_tup (pv 0) pe_int (fun _ _ => rfl)))
          (pss_cons (ps_if (pt_cmpR op_in_seq (pv 1) (pe_tup (pa_cons pe_str (pa_cons pe_str pa_nil))) rfl)
            (pss_one (ps_ret (pe_op op_add_str (pe_op op_add_str (pe_op op_add_str (pe_op op_add_str (pe_call G_bound hr rfl T.g_bound T.k_bound b_bound .nil pass0 (pa_cons (pe_ix ix_tup (pv 0) pe_int (fun _ _ => rfl)) (pa_cons (pv 1) pa_nil))) pe_str) (pv 1)) pe_str) (pe_call G_bound hr rfl T.g_bound T.k_bound b_bound .nil pass0 (pa_cons (pe_ix ix_tup (pv 0) pe_int (fun _ _ => rfl)) (pa_cons (pv 1) pa_nil)))))) pss_nil)
          (pss_cons (ps_if (pt_cmpR op_in_seq (pv 1) (pe_tup (pa_cons pe_str (pa_cons pe_str (pa_cons pe_str pa_nil)))) rfl)
            (pss_one (ps_ret (pe_op op_add_str (pe_op op_add_str (pv 1) pe_str) (pe_call G_bound hr rfl T.g_bound T.k_bound b_bound .nil pass0 (pa_cons (pe_ix ix_tup (pv 0) pe_int (fun _ _ => rfl)) (pa_cons (pv 1) pa_nil)))))) pss_nil)
          (pss_cons (ps_if (pt_cmpR op_in_seq (pv 1) (pe_tup (pa_cons pe_str (pa_cons pe_str pa_nil))) rfl) pss_never pss_nil)
          (pss_cons (ps_if (pt_cmpR op_eq (pv 1) pe_str (nomark _)) pss_never pss_nil)
          (pss_one (ps_ret (pe_join pe_str (pv 0))))))))), ?_⟩
        obtain ⟨a, xs, rfl, ha, hx0⟩ := hv.hd hw
        refine ⟨_, rfl, a, _, _, _, rfl, rfl, SqT.of ha, hx0, ?_⟩
        refine ⟨_, rfl, (by show 2 ≤ sizeLine; decide), fun t1 nt1 => ?_⟩
        have S1 := new_same (o := .tup [.str "and", .str "or"]) nt1
        refine ⟨t1, _, rfl, .inr (SqT.of upd_same), rfl, by decide, _, rfl, ?_⟩
        rw [if_neg Bool.false_ne_true, show inV (V.str (hdT t)) [.str "and", .str "or"] = decide (hdT t ∈ Qp.jts) from inV_list (hdT t) Qp.jts]
        have hv1 := hv.mono fun b ys e => S1 b _ e
        generalize upd H t1 (.tup [.str "and", .str "or"]) = H1 at *
        rcases hd_wf hw with ⟨ws, rfl, hws⟩ | ⟨k, u, rfl, hk, hwu⟩ | ⟨j, ta, tb, rfl, hj, hwa, hwb⟩
        · obtain ⟨x, r, hxr, n1, n2, n3, n4⟩ := at_hd hws
          have hxt : hdT (.at ws) = x := by
            rw [hxr]
            rfl
          obtain ⟨_, _, hfit⟩ := at_text hws
          rw [hxt, decide_eq_false n1]
          refine iteF ⟨_, rfl, (by show 3 ≤ sizeLine; decide), fun t2 nt2 => ?_⟩
          have S2 := S1.trans (new_same (o := .tup [.str "not", .str "parent", .str "above"]) nt2)
          have hv2 := hv1.mono fun b ys e => new_same (o := .tup [.str "not", .str "parent", .str "above"]) nt2 b _ e
          refine ⟨t2, _, rfl, .inr (SqT.of upd_same), rfl, by decide, _, rfl, ?_⟩
          rw [if_neg Bool.false_ne_true, show inV (V.str x) [.str "not", .str "parent", .str "above"] = decide (x ∈ hds) from inV_list x hds, decide_eq_false n2]
          generalize upd H1 t2 (.tup [.str "not", .str "parent", .str "above"]) = H2 at *
          refine iteF ⟨_, rfl, (by show 2 ≤ sizeLine; decide), fun t3 nt3 => ?_⟩
          have S3 := S2.trans (new_same (o := .tup [.str "then", .str "next"]) nt3)
          have hv3 := hv2.mono fun b ys e => new_same (o := .tup [.str "then", .str "next"]) nt3 b _ e
          refine ⟨t3, _, rfl, .inr (SqT.of upd_same), rfl, by decide, _, rfl, ?_⟩
          rw [if_neg Bool.false_ne_true, show inV (V.str x) [.str "then", .str "next"] = decide (x ∈ ([("then" : Str), "next"] : List Str)) from inV_list x ["then", "next"], decide_eq_false n3]
          generalize upd H2 t3 (.tup [.str "then", .str "next"]) = H3 at *
          refine iteF ⟨_, rfl, rfl, _, rfl, ?_⟩
          rw [decide_eq_false (fun e => n4 (V.str.inj e))]
          cases hv3 with
          | @«at» _ _ e =>
            refine iteF ⟨⟨_, rfl⟩, _, rfl, _, a, ws, rfl, rfl, .inr (SqT.of e), Nat.le_trans hfit (by decide), ?_⟩
            rw [TL.join_eq]
            exact q H3 S3
        · have nj : k ∉ Qp.jts := (hd_no hk).2.1
          rw [show hdT (.un k u) = k from rfl, decide_eq_false nj]
          refine iteF ⟨_, rfl, (by show 3 ≤ sizeLine; decide), fun t2 nt2 => ?_⟩
          have S2 := S1.trans (new_same (o := .tup [.str "not", .str "parent", .str "above"]) nt2)
          have hv2 := hv1.mono fun b ys e => new_same (o := .tup [.str "not", .str "parent", .str "above"]) nt2 b _ e
          refine ⟨t2, _, rfl, .inr (SqT.of upd_same), rfl, by decide, _, rfl, ?_⟩
          rw [if_neg Bool.false_ne_true, show inV (V.str k) [.str "not", .str "parent", .str "above"] = decide (k ∈ hds) from inV_list k hds, decide_eq_true hk]
          generalize upd H1 t2 (.tup [.str "not", .str "parent", .str "above"]) = H2 at *
          have hN : 1 + NT u ≤ d + 1 := hd
          have hB' : k.length + 9 + BT u ≤ 5000 := hB
          have hkl := hds_len hk
          have hbl := bd_len (shL u) (bdB u k)
          have hul := sh_len hwu
          cases hv2 with
          | @un _ uv _ _ e hu =>
            refine iteT ⟨_, rfl, _, _, rfl, rfl, by rw [sp1, sizeLine_eq]; omega, ?_⟩
            refine ⟨_, rfl, a, _, _, _, rfl, rfl, SqT.of e, atI_nat (j := 1) rfl, _, rfl, uv, u, k, rfl, hu, hwu, by omega, by omega, fun H3 S3 => ?_⟩
            exact ⟨_, _, rfl, rfl, by rw [len_app, sp1, sizeLine_eq]; omega, q H3 (S2.trans S3)⟩
        · rw [show hdT (.bi j ta tb) = j from rfl, decide_eq_true hj]
          have hN : 1 + NT ta + NT tb ≤ d + 1 := hd
          have hB' : j.length + 14 + BT ta + BT tb ≤ 5000 := hB
          have hjl := jts_len2 hj
          have hb1 := bd_len (shL ta) (bdB ta j)
          have hb2 := bd_len (shL tb) (bdB tb j)
          have hl1 := sh_len hwa
          have hl2 := sh_len hwb
          cases hv1 with
          | @bi _ u1 u2 _ _ _ e h1 h2 =>
            refine iteT ⟨_, rfl, a, _, _, _, rfl, rfl, SqT.of e, atI_nat (j := 1) rfl, _, rfl, u1, ta, j, rfl, h1, hwa, by omega, by omega, fun H3 S3 => ?_⟩
            have h23 := h2.mono fun b ys z => S3 b _ z
            refine ⟨_, _, rfl, rfl, by rw [sp1, sizeLine_eq]; omega, _, rfl, _, _, rfl, rfl, by rw [len_app, sp1, sizeLine_eq]; omega, _, _, rfl, rfl, by rw [len_app, len_app, sp1, sizeLine_eq]; omega, ?_⟩
            refine ⟨_, rfl, a, _, _, _, rfl, rfl, SqT.of (S3 _ _ e), atI_nat (j := 2) rfl, _, rfl, u2, tb, j, rfl, h23, hwb, by omega, by omega, fun H4 S4 => ?_⟩
            exact ⟨_, _, rfl, rfl, by rw [len_app, len_app, len_app, sp1, sizeLine_eq]; omega, q H4 ((S1.trans S3).trans S4)⟩
    exact G'
theorem ok_tokens {fdk : FuncData} (F : Fun K "_law_tokens" "_law_tokens" s_tokens fk fdk) (T : NmTk mg K fk) (b_tok : Binds K fdk ["_law_tree"] []) : ∀ d, FnOk P w K mg base CX0 (d + 1) fk fdk ["_law_tree"] (spTok d) := by
  intro d
  induction d with
  | zero =>
    exact ⟨fun vs H Q E h => by
      obtain ⟨v, t, rfl, _⟩ := h
      rfl, fun A outer s H args us vs Q E _ _ _ _ h => by
      obtain ⟨v, t, _, _, _, h1, _⟩ := h
      cases t with
      | «at» ws => exact absurd h1 (by show ¬ 1 ≤ 0; decide)
      | un k u => exact absurd h1 (by show ¬ 1 + NT u ≤ 0; omega)
      | bi j a b => exact absurd h1 (by show ¬ 1 + NT a + NT b ≤ 0; omega)⟩
  | succ d IH =>
    refine F.ok sc_tokens (fun vs H Q E h => ?_) (fun cdv A outer s H vs Q E hr h => ?_)
    · obtain ⟨v, t, rfl, _⟩ := h
      rfl
    · obtain ⟨v, t, rfl, hv, hw, hd, hN, q⟩ := h
      refine ⟨_, (pss_cons (ps_if (pt_cmpR op_in_seq (pe_ix ix_tup (pv 0) pe_int (fun _ _ => rfl)) (pe_tup (pa_cons pe_str (pa_cons pe_str pa_nil))) rfl) (pss_one (ps_ret (pe_op op_cat (pe_call IH hr rfl T.g_tokens T.k_tokens b_tok .nil pass0 (pa_cons (pe_ix ix_tup (pv 0) pe_int (fun _ _ => rfl)) pa_nil)) (pe_call IH hr rfl T.g_tokens T.k_tokens b_tok .nil pass0 (pa_cons (pe_ix ix_tup (pv 0) pe_int (fun _ _ => rfl)) pa_nil))))) pss_nil)
        (pss_cons (ps_if (pt_cmpR op_in_seq (pe_ix ix_tup (pv 0) pe_int (fun _ _ => rfl)) (pe_tup (pa_cons pe_str (pa_cons pe_str (pa_cons pe_str pa_nil)))) rfl) (pss_one (ps_ret (pe_op op_cat (pe_op op_rep (pe_lst (pa_cons (pv 0) pa_nil)) (pe_callTy call_int1 (by rfl) T.n_int (by decide +kernel) (pa_cons (pe_cmpR op_ne (pe_ix ix_tup (pv 0) pe_int (fun _ _ => rfl)) pe_str (nomark _)) pa_nil))) (pe_call IH hr rfl T.g_tokens T.k_tokens b_tok .nil pass0 (pa_cons (pe_ix ix_tup (pv 0) pe_int (fun _ _ => rfl)) pa_nil))))) pss_nil)
        (pss_one (ps_ret (pe_lst (pa_cons (pv 0) pa_nil)))))), ?_⟩
      obtain ⟨a, xs, rfl, ha, hx0⟩ := hv.hd hw
      refine ⟨_, rfl, a, _, _, _, rfl, rfl, SqT.of ha, hx0, (by show 2 ≤ sizeLine; decide), fun t1 nt1 => ?_⟩
      have S1 := new_same (o := .tup [.str "and", .str "or"]) nt1
      refine ⟨t1, _, rfl, .inr (SqT.of upd_same), rfl, by decide, _, rfl, ?_⟩
      rw [if_neg Bool.false_ne_true, show inV (V.str (hdT t)) [.str "and", .str "or"] = decide (hdT t ∈ Qp.jts) from inV_list (hdT t) Qp.jts]
      have hv1 := hv.mono fun b ys e => S1 b _ e
      have ha1 := S1 _ _ ha
      generalize upd H t1 (.tup [.str "and", .str "or"]) = H1 at *
      rcases hd_wf hw with ⟨ws, rfl, hws⟩ | ⟨k, u, rfl, hk, hwu⟩ | ⟨j, ta, tb, rfl, hj, hwa, hwb⟩
      · obtain ⟨x, r, hxr, n1, n2, n3, n4⟩ := at_hd hws
        have hxt : hdT (.at ws) = x := by
          rw [hxr]
          rfl
        rw [hxt] at hx0 ⊢
        rw [decide_eq_false n1]
        refine iteF ⟨_, rfl, a, _, _, _, rfl, rfl, SqT.of ha1, hx0, (by show 3 ≤ sizeLine; decide), fun t2 nt2 => ?_⟩
        have S2 := S1.trans (new_same (o := .tup [.str "not", .str "parent", .str "above"]) nt2)
        have hv2 := hv1.mono fun b ys e => new_same (o := .tup [.str "not", .str "parent", .str "above"]) nt2 b _ e
        refine ⟨t2, _, rfl, .inr (SqT.of upd_same), rfl, by decide, _, rfl, ?_⟩
        rw [if_neg Bool.false_ne_true, show inV (V.str x) [.str "not", .str "parent", .str "above"] = decide (x ∈ hds) from inV_list x hds, decide_eq_false n2]
        generalize upd H1 t2 (.tup [.str "not", .str "parent", .str "above"]) = H2 at *
        refine iteF ⟨_, rfl, (by show 1 ≤ sizeLine; decide), fun l nl => ?_⟩
        have S3 := new_same (o := .lst [.ref a]) nl
        exact q l _ _ (S2.trans S3) (S2.free nl) upd_same (.cons (hv2.mono fun b ys e => S3 b _ e) .nil)
      · have nj : k ∉ Qp.jts := (hd_no hk).2.1
        rw [show hdT (.un k u) = k from rfl] at hx0 ⊢
        rw [decide_eq_false nj]
        refine iteF ⟨_, rfl, a, _, _, _, rfl, rfl, SqT.of ha1, hx0, (by show 3 ≤ sizeLine; decide), fun t2 nt2 => ?_⟩
        have S2 := S1.trans (new_same (o := .tup [.str "not", .str "parent", .str "above"]) nt2)
        have hv2 := hv1.mono fun b ys e => new_same (o := .tup [.str "not", .str "parent", .str "above"]) nt2 b _ e
        refine ⟨t2, _, rfl, .inr (SqT.of upd_same), rfl, by decide, _, rfl, ?_⟩
        rw [if_neg Bool.false_ne_true, show inV (V.str k) [.str "not", .str "parent", .str "above"] = decide (k ∈ hds) from inV_list k hds, decide_eq_true hk]
        have ha2 := new_same (o := .tup [.str "not", .str "parent", .str "above"]) nt2 _ _ ha1
        generalize upd H1 t2 (.tup [.str "not", .str "parent", .str "above"]) = H2 at *
        have hNu : 1 + NT u ≤ d + 1 := hd
        have hN' : 1 + NT u ≤ 1000 := hN
        refine iteT ⟨_, rfl, (by show 1 ≤ sizeLine; decide), fun l1 nl1 => ?_⟩
        have S3 := new_same (o := .lst [.ref a]) nl1
        have el1 : upd H2 l1 (.lst [.ref a]) l1 = some (.lst [.ref a]) := upd_same
        have hv3 := hv2.mono fun b ys e => S3 b _ e
        have ha3 := S3 _ _ ha2
        generalize upd H2 l1 (.lst [.ref a]) = H3 at *
        refine ⟨_, rfl, a, _, _, _, rfl, rfl, SqT.of ha3, hx0, rfl, .inr ⟨_, rfl, ?_⟩⟩
        rw [dec_str]
        have hrep : ∃ n : Nat, n ≤ 1 ∧ (if (!decide (k = "not")) = true then (1 : Int) else 0) = (n : Int) ∧ List.replicate n (LT.un k u) = (if k ∈ Qp.out then [LT.un k u] else []) := by
          by_cases hk0 : k = "not"
          · refine ⟨0, by decide, by rw [decide_eq_true hk0]; rfl, ?_⟩
            rw [if_neg (by rw [hk0]; decide +kernel)]
            rfl
          · refine ⟨1, by decide, by rw [decide_eq_false hk0]; rfl, ?_⟩
            rw [if_pos]
            · rfl
            · simp only [List.mem_cons, List.not_mem_nil, or_false] at hk ⊢
              rcases hk with h | h
              · exact absurd h hk0
              · exact h
        obtain ⟨n, hn1, hn2, hn3⟩ := hrep
        refine ⟨l1, _, _, rfl, rfl, el1, by rw [hn2]; omega, by rw [hn2]; omega, by rw [hn2]; show 1 * _ ≤ _; rw [sizeLine_eq]; omega, fun l2 nl2 => ?_⟩
        rw [hn2, Int.toNat_natCast]
        have el2 : upd H3 l2 (.lst (List.replicate n [V.ref a]).flatten) l2 = some (.lst (List.replicate n [V.ref a]).flatten) := upd_same
        have S4 := new_same (o := .lst (List.replicate n [V.ref a]).flatten) nl2
        have hv4 := hv3.mono fun b ys e => S4 b _ e
        generalize upd H3 l2 (.lst (List.replicate n [V.ref a]).flatten) = H4 at *
        have S14 := ((S2.trans S3).trans S4)
        cases id hv4 with
        | @un _ uv _ _ e hu =>
          refine ⟨_, rfl, a, _, _, _, rfl, rfl, SqT.of e, atI_nat (j := 1) rfl, uv, u, rfl, hu, hwu, by omega, by omega, fun l3 us H5 S5 nl3 el3 hus => ?_⟩
          have hul := hus.len
          have htl := tok_len u
          have hfl : (List.replicate n [V.ref a]).flatten = List.replicate n (V.ref a) := by
            rcases (by omega : n = 0 ∨ n = 1) with rfl | rfl <;> rfl
          refine ⟨l2, l3, _, _, rfl, rfl, S5 _ _ el2, el3, ?_, fun l4 nl4 => ?_⟩
          · rw [hfl, List.length_replicate, sizeLine_eq]
            omega
          · have S6 := new_same (o := .lst ((List.replicate n [V.ref a]).flatten ++ us)) nl4
            refine q l4 _ _ ((S14.trans S5).trans S6) ((S14.trans S5).free nl4) upd_same ?_
            have hv6 := hv4.mono fun b ys e => S6 b _ (S5 b _ e)
            have hus6 := hus.mono fun b ys e => S6 b _ e
            have hrp : LTsAt (upd H5 l4 (.lst ((List.replicate n [V.ref a]).flatten ++ us))) (List.replicate n (V.ref a)) (List.replicate n (LT.un k u)) := by
              rcases (by omega : n = 0 ∨ n = 1) with rfl | rfl
              · exact .nil
              · exact .cons hv6 .nil
            show LTsAt _ _ ((if k ∈ Qp.out then [LT.un k u] else []) ++ tokL u)
            rw [← hn3, hfl] at *
            exact hrp.app hus6
      · rw [show hdT (.bi j ta tb) = j from rfl, decide_eq_true hj]
        have hN2 : 1 + NT ta + NT tb ≤ d + 1 := hd
        have hN' : 1 + NT ta + NT tb ≤ 1000 := hN
        have hta := tok_len ta
        have htb := tok_len tb
        cases hv1 with
        | @bi _ u1 u2 _ _ _ e h1 h2 =>
          refine iteT ⟨_, rfl, a, _, _, _, rfl, rfl, SqT.of e, atI_nat (j := 1) rfl, u1, ta, rfl, h1, hwa, by omega, by omega, fun l1 us1 H2 S2 nl1 el1 hus1 => ?_⟩
          have h22 := h2.mono fun b ys e => S2 b _ e
          have hl1 := hus1.len
          refine ⟨_, rfl, a, _, _, _, rfl, rfl, SqT.of (S2 _ _ e), atI_nat (j := 2) rfl, u2, tb, rfl, h22, hwb, by omega, by omega, fun l2 us2 H3 S3 nl2 el2 hus2 => ?_⟩
          have hl2 := hus2.len
          have S13 := (S1.trans S2).trans S3
          refine ⟨l1, l2, _, _, rfl, rfl, S3 _ _ el1, el2, by rw [sizeLine_eq]; omega, fun l3 nl3 => ?_⟩
          have S4 := new_same (o := .lst (us1 ++ us2)) nl3
          exact q l3 _ _ (S13.trans S4) (S13.free nl3) upd_same (((hus1.mono fun b ys e => S3 b _ e).app hus2).mono fun b ys e => S4 b _ e)
end
end Q2

set_option linter.all false
set_option maxRecDepth 100000
set_option maxHeartbeats 8000000
set_option pp.maxSteps 150
namespace Q2
open PySem PySem.Spec PyProof.Rows L2 Gx Qp Qh
/-! ### the law's own limits -/
abbrev s_excess : Stmt := topS 43
abbrev n_excess : List Str := ["_law_tree", "_law_deep", "_law_atoms", "_law_outer", "_law_some", "_law_atom", "_law_word", "_law_is_so"]
theorem sc_excess : FnScope n_excess ["_law_tree", "_law_deep"] (defScope s_excess) := ⟨rfl, rfl, rfl, by decide +kernel, rfl, by decide +kernel, by decide +kernel⟩
def optS : Option Str → V
  | none => .non
  | some m => .str m
def spEx (d : Nat) : Sp := fun vs H Q _ => ∃ (v : V) (t : LT) (dp : Nat), vs = [v, .int (dp : Nat)] ∧ LTAt H v t ∧ wfT t ∧ NT t ≤ d ∧ BT t ≤ 5000 ∧ ∀ H' : Hp, Same H H' → Q (optS (exL t dp)) H'
structure NmEx (mg : Str → Option Value) (K : PySem.W.Frag) (fs fk fx : Addr) : Prop where
  g_shown : mg "_law_shown" = some (.ref fs)
  k_shown : PySem.W.keepIn K (.ref fs) = true
  g_tokens : mg "_law_tokens" = some (.ref fk)
  k_tokens : PySem.W.keepIn K (.ref fk) = true
  g_excess : mg "_law_excess" = some (.ref fx)
  k_excess : PySem.W.keepIn K (.ref fx) = true
  n_len : mg "len" = none
  n_set : mg "set" = none
def ttOut (K : PySem.W.Frag) : TT := tTest (tOp (rIn K false) (tOp (rIxT K) (tVar 5) (tC (.int 0))) (tTup (tCons (tC (.str "parent")) (tCons (tC (.str "above")) tNil))))
def teOut (K : PySem.W.Frag) : TE := tCall (spSh 40) [] E0 (tCons (tOp (rIxT K) (tVar 5) (tC (.int 1))) tNil)
def exB (t : LT) (dp : Nat) : List (Str × Bool) := [("atoms", decide ((tokL t).length > 8)), ("deep", decide (dp > 6)), ("outer", decide (Ws.met (outsL t) (outsL t).length > 2))]
theorem exB_ex (t : LT) (dp : Nat) : ((((exB t dp).filter (·.2)).map (fun p => V.str p.1)) ++ [V.non])[0]? = some (optS (exL t dp)) := by
  unfold exB exL
  by_cases h1 : (tokL t).length > 8
  · rw [if_pos h1, decide_eq_true h1]
    rfl
  · rw [if_neg h1, decide_eq_false h1]
    by_cases h2 : dp > 6
    · rw [if_pos h2, decide_eq_true h2]
      rfl
    · rw [if_neg h2, decide_eq_false h2]
      by_cases h3 : Ws.met (outsL t) (outsL t).length > 2
      · rw [if_pos h3, decide_eq_true h3]
        rfl
      · rw [if_neg h3, decide_eq_false h3]
        rfl
section
variable {P : Program} {w : World} {K : PySem.W.Frag} {mg : Str → Option Value} {base : Heap} {fs fk fx : Addr}
theorem filt_take (p : LT → Bool) {ts : List LT} {i : Nat} {t : LT} (h : ts[i]? = some t) : (ts.take (i + 1)).filter p = (ts.take i).filter p ++ (if p t then [t] else []) := by
  rw [take_snoc h, List.filter_append, List.filter_cons]
  rfl
theorem tok_in : ∀ {t : LT}, ∀ x ∈ tokL t, NT x ≤ NT t ∧ BT x ≤ BT t
  | .at ws, x, h => by
    rw [List.mem_singleton.mp h]
    exact ⟨Nat.le_refl _, Nat.le_refl _⟩
  | .un h t, x, hx => by
    rcases List.mem_append.mp hx with hx | hx
    · split at hx
      · rw [List.mem_singleton.mp hx]
        exact ⟨Nat.le_refl _, Nat.le_refl _⟩
      · exact nomatch hx
    · have := tok_in x hx
      show NT x ≤ 1 + NT t ∧ BT x ≤ h.length + 9 + BT t
      omega
  | .bi j a b, x, hx => by
    show NT x ≤ 1 + NT a + NT b ∧ BT x ≤ j.length + 14 + BT a + BT b
    rcases List.mem_append.mp hx with hx | hx
    · have := tok_in x hx
      omega
    · have := tok_in x hx
      omega
theorem ou_hd {x : LT} (w : wfT x) : decide (hdT x ∈ Qp.out) = ouL x := by
  rcases hd_wf w with ⟨ws, rfl, hws⟩ | ⟨k, u, rfl, hk, hwu⟩ | ⟨j, ta, tb, rfl, hj, hwa, hwb⟩
  · obtain ⟨y, r, rfl, n1, n2, _⟩ := at_hd hws
    refine decide_eq_false fun h => n2 ?_
    have h' : y ∈ Qp.out := h
    simp only [List.mem_cons, List.not_mem_nil, or_false] at h' ⊢
    exact .inr h'
  · rfl
  · refine decide_eq_false fun h => ?_
    have h' : j ∈ Qp.out := h
    simp only [List.mem_cons, List.not_mem_nil, or_false] at h' hj
    rcases hj with rfl | rfl <;> exact absurd h' (by decide +kernel)
theorem exB_get (t : LT) (dp : Nat) (i : Nat) (h : i < 3) : ∃ p, (exB t dp)[i]? = some p := ⟨_, List.getElem?_eq_getElem (by exact h)⟩
theorem ok_excess {fdx fds fdk : FuncData} (F : Fun K "_law_excess" "_law_excess" s_excess fx fdx) (T : NmEx mg K fs fk fx)
    (G_shown : FnOk P w K mg base CX0 81 fs fds ["_law_tree"] (spSh 40)) (b_shown : Binds K fds ["_law_tree"] [])
    (G_tok : FnOk P w K mg base CX0 41 fk fdk ["_law_tree"] (spTok 40)) (b_tok : Binds K fdk ["_law_tree"] []) : FnOk P w K mg base CX0 82 fx fdx ["_law_tree", "_law_deep"] (spEx 40) := by
  refine F.ok sc_excess (fun vs H Q E h => ?_) (fun cdv A outer s H vs Q E hr h => ?_)
  · obtain ⟨v, t, dp, rfl, _⟩ := h
    rfl
  · obtain ⟨v, t, dp, rfl, hv, hw, hN, hB, q⟩ := h
    have r41 := hr.mono (show 41 ≤ 81 by decide)
    refine ⟨_, (pss_cons (ps_set (i := 2) sc_excess.nd rfl (.inl rfl) (pe_call G_tok r41 rfl T.g_tokens T.k_tokens b_tok .nil pass0 (pa_cons (pv 0) pa_nil)))
      (pss_cons (ps_set (i := 3) sc_excess.nd rfl (.inl rfl) (Ws.pe_lenZ (by rfl) T.n_len (by rfl) T.n_set (pe_lc (own := [("_law_atom", 5)]) (g := gName 5) (tt := ttOut K) (te := teOut K) rfl sc_excess.nd (pi_list (pv 2)) (blkOk_by (own := [("_law_atom", 5)]) (N := n_excess) (sc := defScope s_excess) (by decide +kernel)) (fun _ _ _ _ _ => (pg_name (i := 5) sc_excess.nd rfl (.inl rfl)))
        (fun _ _ _ _ _ => pts_one (pt_cmpR op_in_seq (pe_ix ix_tup (pv 5) pe_int (fun _ _ => rfl)) (pe_tup (pa_cons pe_str (pa_cons pe_str pa_nil))) rfl))
        (fun _ _ _ _ _ => (pe_call G_shown hr rfl T.g_shown T.k_shown b_shown .nil pass0 (pa_cons (pe_ix ix_tup (pv 5) pe_int (fun _ _ => rfl)) pa_nil))))))
      (pss_cons (ps_set (i := 4) sc_excess.nd rfl (.inl rfl) (pe_lst (pa_cons (pe_tup (pa_cons pe_str (pa_cons (pe_cmpR op_gt (pe_callB call_len_seq (by rfl) T.n_len (by decide +kernel) (pa_cons (pv 2) pa_nil)) pe_int (nomark _)) pa_nil))) (pa_cons (pe_tup (pa_cons pe_str (pa_cons (pe_cmpR op_gt (pv 1) pe_int (nomark _)) pa_nil))) (pa_cons (pe_tup (pa_cons pe_str (pa_cons (pe_cmpR op_gt (pv 3) pe_int (nomark _)) pa_nil))) pa_nil)))))
      (pss_one (ps_ret (pe_ix ix_list (pe_op op_cat (pe_lc (own := [("_law_word", 6), ("_law_is_so", 7)]) (g := gTup K 2 (gCons (gName 6) (gCons (gName 7) gNil))) (tt := tTest (tVar 7)) (te := tVar 6) rfl sc_excess.nd (pi_list (pv 4)) (blkOk_by (own := [("_law_word", 6), ("_law_is_so", 7)]) (N := n_excess) (sc := defScope s_excess) (by decide +kernel)) (fun _ _ _ _ _ => (pg_tup rfl (pgs_cons (pg_name (i := 6) sc_excess.nd rfl (.inl rfl)) (pgs_cons (pg_name (i := 7) sc_excess.nd rfl (.inl rfl)) pgs_nil))))
        (fun _ _ _ _ _ => pts_one (pt_val (pv 7))) (fun _ _ _ _ _ => (pv 6))) (pe_lst (pa_cons pe_non pa_nil))) pe_int (fun _ _ => rfl))))))), ?_⟩
    have hul0 := tok_len t
    refine ⟨_, rfl, v, t, rfl, hv, hw, hN, by omega, fun l us H1 S1 nl el hus => ?_⟩
    have hul := hus.len
    refine ⟨_, rfl, l, rfl, ⟨_, SqL.of el⟩, fun D nD => ?_⟩
    have lD : l ≠ D := ne_of_none el nD
    refine lc_list (K := K) (a := l) (xs := us) (fun i Hi => (∀ b o, b ≠ D → H1 b = some o → Hi b = some o) ∧ Hi D = some (.lst (((((tokL t).take i).filter ouL).map ouT).map V.str)))
      ⟨fun b o z e => (upd_ne z).trans e, upd_same⟩ (fun i Hi _ p => SqL.of (p.1 _ _ lD el)) (fun i x Hi hx p => ?_) (fun Hi p => ?_)
    · obtain ⟨ti, hti, hvi⟩ := hus.get hx
      have hmem := List.mem_of_getElem? hti
      have hwi := tok_wf hw ti hmem
      obtain ⟨hNi, hBi⟩ := tok_in ti hmem
      have hvi1 := hvi.mono fun b ys e => p.1 b _ (ne_of_none e nD) e
      obtain ⟨a, xs, rfl, ha, hx0⟩ := hvi1.hd hwi
      refine ⟨rfl, ?_⟩
      refine ⟨_, rfl, a, _, _, _, rfl, rfl, SqT.of ha, hx0, (by show 2 ≤ sizeLine; decide), fun t1 nt1 => ?_⟩
      have T1 := new_same (o := .tup [.str "parent", .str "above"]) nt1
      refine ⟨t1, _, rfl, .inr (SqT.of upd_same), rfl, by decide, _, rfl, ?_⟩
      rw [if_neg Bool.false_ne_true, show inV (V.str (hdT ti)) [.str "parent", .str "above"] = decide (hdT ti ∈ Qp.out) from inV_list (hdT ti) Qp.out, ou_hd hwi]
      have eD1 := T1 _ _ p.2
      have hvi2 := hvi1.mono fun b ys e => T1 b _ e
      have k1 : ∀ b o, b ≠ D → H1 b = some o → upd Hi t1 (.tup [.str "parent", .str "above"]) b = some o := fun b o n e => T1 _ _ (p.1 b o n e)
      generalize upd Hi t1 (.tup [.str "parent", .str "above"]) = Hj at *
      have hft := filt_take ouL hti
      refine ite2 (fun hb => ?_) (fun hb => ?_)
      · rw [if_pos hb] at hft
        match ti, hvi2, hwi, hb, hNi, hBi, hft with
        | .un k u, hvi2, hwi, hb, hNi, hBi, hft =>
          have hNu : 1 + NT u ≤ NT t := hNi
          have hBu : k.length + 9 + BT u ≤ BT t := hBi
          cases hvi2 with
          | @un _ uv _ _ e hu =>
            refine ⟨_, rfl, a, _, _, _, rfl, rfl, SqT.of e, atI_nat (j := 1) rfl, uv, u, rfl, hu, hwi.2, by omega, by omega, fun H3 S3 => ?_⟩
            refine ⟨_, S3 _ _ eD1, ?_, fun b o n e => (upd_ne n).trans (S3 _ _ (k1 b o n e)), ?_⟩
            · have := List.length_filter_le ouL ((tokL t).take i)
              rw [List.length_map, List.length_map, sizeLine_eq]
              rw [List.length_take] at this
              omega
            · rw [upd_same, hft, List.map_append, List.map_append]
              rfl
      · rw [if_neg hb, List.append_nil] at hft
        exact ⟨k1, by rw [hft]; exact eD1⟩
    · obtain ⟨k1, eD⟩ := p
      rw [hul, List.take_length] at eD
      have eD' : Hi D = some (.lst ((outsL t).map V.str)) := eD
      have hol : (outsL t).length ≤ 40 := by
        have := List.length_filter_le ouL (tokL t)
        unfold outsL
        rw [List.length_map]
        omega
      refine ⟨D, outsL t, rfl, SqL.of eD', by omega, ?_⟩
      have S2 : Same H1 Hi := fun b o e => k1 b o (ne_of_none e nD) e
      have el2 := S2 _ _ el
      refine ⟨_, rfl, l, _, rfl, .inl (SqL.of el2), _, _, rfl, rfl, (by show 2 ≤ sizeLine; decide), fun t1 nt1 => ?_⟩
      have T1 := new_same (o := .tup [.str "atoms", .bl (decide (((us.length : Nat) : Int) > 8))]) nt1
      have e1 : upd Hi t1 (.tup [.str "atoms", .bl (decide (((us.length : Nat) : Int) > 8))]) t1 = some (.tup [.str "atoms", .bl (decide ((tokL t).length > 8))]) := by
        rw [upd_same, hul, show decide ((((tokL t).length : Nat) : Int) > 8) = decide ((tokL t).length > 8) from decide_eq_decide.mpr (by omega)]
      generalize upd Hi t1 (.tup [.str "atoms", .bl (decide (((us.length : Nat) : Int) > 8))]) = H3 at *
      refine ⟨_, rfl, _, _, rfl, rfl, (by show 2 ≤ sizeLine; decide), fun t2 nt2 => ?_⟩
      have T2 := new_same (o := .tup [.str "deep", .bl (decide (((dp : Nat) : Int) > 6))]) nt2
      have e2 : upd H3 t2 (.tup [.str "deep", .bl (decide (((dp : Nat) : Int) > 6))]) t2 = some (.tup [.str "deep", .bl (decide (dp > 6))]) := by
        rw [upd_same, show decide (((dp : Nat) : Int) > 6) = decide (dp > 6) from decide_eq_decide.mpr (by omega)]
      have e12 := T2 _ _ e1
      generalize upd H3 t2 (.tup [.str "deep", .bl (decide (((dp : Nat) : Int) > 6))]) = H4 at *
      refine ⟨_, rfl, _, _, rfl, rfl, (by show 2 ≤ sizeLine; decide), fun t3 nt3 => ?_⟩
      have T3 := new_same (o := .tup [.str "outer", .bl (decide (((Ws.met (outsL t) (outsL t).length : Nat) : Int) > 2))]) nt3
      have e3 : upd H4 t3 (.tup [.str "outer", .bl (decide (((Ws.met (outsL t) (outsL t).length : Nat) : Int) > 2))]) t3 = some (.tup [.str "outer", .bl (decide (Ws.met (outsL t) (outsL t).length > 2))]) := by
        rw [upd_same, show decide (((Ws.met (outsL t) (outsL t).length : Nat) : Int) > 2) = decide (Ws.met (outsL t) (outsL t).length > 2) from decide_eq_decide.mpr (by omega)]
      have e13 := T3 _ _ e12
      have e23 := T3 _ _ e2
      generalize upd H4 t3 (.tup [.str "outer", .bl (decide (((Ws.met (outsL t) (outsL t).length : Nat) : Int) > 2))]) = H5 at *
      refine ⟨(by show 3 ≤ sizeLine; decide), fun L nL => ?_⟩
      have T4 := new_same (o := .lst [.ref t1, .ref t2, .ref t3]) nL
      have eL : upd H5 L (.lst [.ref t1, .ref t2, .ref t3]) L = some (.lst [.ref t1, .ref t2, .ref t3]) := upd_same
      have e14 := T4 _ _ e13
      have e24 := T4 _ _ e23
      have e34 := T4 _ _ e3
      have SS := (S1.trans S2).trans ((T1.trans T2).trans (T3.trans T4))
      generalize upd H5 L (.lst [.ref t1, .ref t2, .ref t3]) = H6 at *
      have get : ∀ (i : Nat) (x : V), ([.ref t1, .ref t2, .ref t3] : List V)[i]? = some x → ∃ (T : Addr) (s : Str) (b : Bool), x = .ref T ∧ H6 T = some (.tup [.str s, .bl b]) ∧ (exB t dp)[i]? = some (s, b) := fun i x h => by
        match i, h with
        | 0, h => cases h; exact ⟨_, _, _, rfl, e14, rfl⟩
        | 1, h => cases h; exact ⟨_, _, _, rfl, e24, rfl⟩
        | 2, h => cases h; exact ⟨_, _, _, rfl, e34, rfl⟩
        | n + 3, h => cases h
      refine ⟨_, rfl, L, rfl, ⟨_, SqL.of eL⟩, fun D2 nD2 => ?_⟩
      have LD : L ≠ D2 := ne_of_none eL nD2
      refine lc_list (K := K) (a := L) (xs := [.ref t1, .ref t2, .ref t3]) (fun i Hi => (∀ b o, b ≠ D2 → H6 b = some o → Hi b = some o) ∧ Hi D2 = some (.lst ((((exB t dp).take i).filter (·.2)).map (fun p => V.str p.1))))
        ⟨fun b o z e => (upd_ne z).trans e, upd_same⟩ (fun i Hi _ p => SqL.of (p.1 _ _ LD eL)) (fun i x Hi hx p => ?_) (fun Hi p => ?_)
      · obtain ⟨T, s, b, rfl, eT, hget⟩ := get i x hx
        have hi3 : i < 3 := (List.getElem?_eq_some_iff.mp hx).1
        have eT2 := p.1 _ _ (ne_of_none eT nD2) eT
        have hsn : ((exB t dp).take (i + 1)).filter (·.2) = ((exB t dp).take i).filter (·.2) ++ (if b then [(s, b)] else []) := by
          rw [take_snoc hget, List.filter_append, List.filter_cons]
          rfl
        refine ⟨T, _, rfl, SqT.of eT2, rfl, _, _, rfl, _, _, rfl, rfl, rfl, ?_⟩
        refine ⟨_, rfl, _, rfl, ite2 (fun hb => ?_) (fun hb => ?_)⟩
        · rw [if_pos hb] at hsn
          refine ⟨_, rfl, _, p.2, ?_, fun b o n e => (upd_ne n).trans (p.1 b o n e), ?_⟩
          · have := List.length_filter_le (fun q : Str × Bool => q.2) ((exB t dp).take i)
            rw [List.length_map, sizeLine_eq]
            rw [List.length_take] at this
            omega
          · rw [upd_same, hsn, List.map_append]
            rfl
        · rw [if_neg hb, List.append_nil] at hsn
          exact ⟨p.1, by rw [hsn]; exact p.2⟩
      · obtain ⟨k2, eD2⟩ := p
        have S7 : Same H6 Hi := fun b o e => k2 b o (ne_of_none e nD2) e
        have eD2' : Hi D2 = some (.lst (((exB t dp).filter (·.2)).map (fun p => V.str p.1))) := eD2
        have hl3 : (((exB t dp).filter (·.2)).map (fun p => V.str p.1)).length ≤ 3 := by
          rw [List.length_map]
          exact List.length_filter_le _ _
        refine ⟨(by show 1 ≤ sizeLine; decide), fun l5 nl5 => ?_⟩
        have T5 := new_same (o := .lst [.non]) nl5
        refine ⟨D2, l5, _, _, rfl, rfl, T5 _ _ eD2', upd_same, by rw [sizeLine_eq]; show _ + 1 ≤ _; omega, fun l6 nl6 => ?_⟩
        have T6 := new_same (o := .lst (((exB t dp).filter (·.2)).map (fun p => V.str p.1) ++ [V.non])) nl6
        refine ⟨l6, _, _, _, rfl, rfl, SqL.of upd_same, atI_nat (j := 0) (exB_ex t dp), ?_⟩
        exact q _ ((SS.trans S7).trans (T5.trans T6))
end
end Q2

set_option maxRecDepth 100000
set_option maxHeartbeats 4000000
namespace Q2
open PySem PySem.Spec PyProof.Rows L2 Gx
def repl (z : Str) : Str := Txt.replace (Txt.replace z "( " "") " )" ""
def inn (z : Str) : Str := (Txt.splitMax (repl z) " " 1).getD 1 ""
def okIn (z y : Str) : Bool := decide ((Txt.splitMax (repl z) " " 1)[1]? = some y)
theorem in1 : ∀ c ∈ capsAll, (okIn ("parent is " ++ c) ("is " ++ c) && okIn ("above is " ++ c) ("is " ++ c) && okIn ("parent ( is " ++ c ++ " )") ("is " ++ c)) = true := by decide +kernel
theorem in2 : okIn "parent above root" "above root" = true := by decide +kernel
end Q2

set_option linter.all false
set_option maxRecDepth 100000
set_option maxHeartbeats 4000000
/-! a & b, a | b, ~a by the text's own defs, within a try; a text times a number -/
namespace Wb
open PySem PySem.Spec PyProof.Rows L2
def tBinS (C : Addr) (sp : Sp) (E : L2.St → XK) (ta tb : TE) : TE := fun σ H Q => ta σ H fun x H1 => tb σ H1 fun y H2 => ∃ a b dx dy fs gs, x = .ref a ∧ y = .ref b ∧ H2 a = some (.ins C dx fs) ∧ H2 b = some (.ins C dy gs) ∧ sp [x, y] H2 (fun z G => ∃ r, z = .ref r ∧ Q z G) (E σ)
def tUnS (C : Addr) (sp : Sp) (E : L2.St → XK) (ta : TE) : TE := fun σ H Q => ta σ H fun x H1 => ∃ a dx fs, x = .ref a ∧ H1 a = some (.ins C dx fs) ∧ sp [x] H1 Q (E σ)
section
variable {X : Cx} {CX : CXT} {k : Nat} {C g : Addr} {fd : FuncData} {ps : List Str} {sp : Sp} {E : L2.St → XK} {a b : Expr} {pos : Pos} {ta tb : TE}
theorem pe_binS {op : Operator} (hc : PySem.W.selfFirst X.K C = true) (hs : PySem.W.findIn X.K (.ref C) (PySem.dunder op.info.2) = some (some (.ref g))) (hf : PySem.W.isFn X.K (.ref g) = true) (F : FnOk X.prog X.w X.K X.mg X.base CX k g fd ps sp) (hr : Room k X.A) (hb : Binds X.K fd ps [])
    (hx : ∀ σ, PassesAt CX X σ (E σ)) (pa : PE X a ta) (pb : PE X b tb) : PE X (.BinOp a op b pos) (tBinS C sp E ta tb) := by
  refine ⟨fun pins s σ H Q I h => ?_⟩
  refine wpAny_BinOp (thn (pa.run pins s σ H _ I h) fun v s1 ⟨x, H1, I1, r1, q1⟩ => thn (pb.run pins s1 σ H1 _ I1 q1) fun u s2 ⟨y, H2, I2, r2, q2⟩ => ?_)
  obtain ⟨a', b', dx, dy, fs, gs, rfl, rfl, ea, eb, q⟩ := q2
  cases (show v = Value.ref a' from r1)
  cases (show u = Value.ref b' from r2)
  obtain ⟨_, O, _⟩ := ins_get I2.hok ea
  obtain ⟨od, J, _⟩ := O.look
  obtain ⟨_, O2, _⟩ := ins_get I2.hok eb
  obtain ⟨od2, J2, _⟩ := O2.look
  obtain ⟨m, hF⟩ := I2.fr
  refine PySem.W.binop_K hF I2.ok.mod.kin J J2.type hc hs hf ?_
  apply wpAny_mono (run_fnS (us := [.ref a', .ref b']) (vs := [.ref a', .ref b']) F hr hb (hx σ) I2 (.cons rfl (.cons rfl .nil)) q) _ fun _ _ z => z
  rintro w s' ⟨z, G, J', rz, r, rfl, qz⟩
  cases (show w = Value.ref r from rz)
  exact ⟨.ref r, G, J', rfl, qz⟩
theorem pe_unS (hs : PySem.W.findIn X.K (.ref C) "__invert__" = some (some (.ref g))) (hf : PySem.W.isFn X.K (.ref g) = true) (F : FnOk X.prog X.w X.K X.mg X.base CX k g fd ps sp) (hr : Room k X.A) (hb : Binds X.K fd ps [])
    (hx : ∀ σ, PassesAt CX X σ (E σ)) (pa : PE X a ta) : PE X (.UnaryOp .Invert a pos) (tUnS C sp E ta) := by
  refine ⟨fun pins s σ H Q I h => ?_⟩
  refine UnaryOp_ (thn (pa.run pins s σ H _ I h) fun v s1 ⟨x, H1, I1, r1, q1⟩ => ?_)
  obtain ⟨a', dx, fs, rfl, ea, q⟩ := q1
  cases (show v = Value.ref a' from r1)
  obtain ⟨_, O, _⟩ := ins_get I1.hok ea
  obtain ⟨od, J, _⟩ := O.look
  obtain ⟨m, hF⟩ := I1.fr
  exact PySem.W.ksp_inv hF I1.ok.mod.kin J hs hf (run_fnS (us := [.ref a']) (vs := [.ref a']) F hr hb (hx σ) I1 (.cons rfl .nil) q)
end
/-! a text times a number -/
def repZ (z : Str) : Nat → Str
  | 0 => Str.empty
  | n + 1 => z ++ repZ z n
theorem fold_repZ (z : Str) : ∀ (n : Nat) (a : Array Nat), (List.replicate n z.cps).foldl (· ++ ·) a = a ++ (repZ z n).cps
  | 0, a => by
    show a = a ++ #[]
    simp
  | n + 1, a => by
    rw [List.replicate_succ, List.foldl_cons, fold_repZ z n]
    show a ++ z.cps ++ (repZ z n).cps = a ++ (z.cps ++ (repZ z n).cps)
    rw [Array.append_assoc]
theorem repZ_snoc (z : Str) : ∀ n, repZ z n ++ z = repZ z (n + 1)
  | 0 => by
    show Str.empty ++ z = z ++ Str.empty
    apply congrArg Str.mk
    show #[] ++ z.cps = z.cps ++ #[]
    simp
  | n + 1 => by
    show z ++ repZ z n ++ z = z ++ repZ z (n + 1)
    rw [← repZ_snoc z n, Str.append_assoc]
theorem repZ_len (z : Str) : ∀ n, (repZ z n).length = n * z.length
  | 0 => by rw [Nat.zero_mul]; rfl
  | n + 1 => by
    have h : (z ++ repZ z n).length = z.length + (repZ z n).length := by
      show (z.cps ++ (repZ z n).cps).size = _
      rw [Array.size_append]
      rfl
    show (z ++ repZ z n).length = _
    rw [h, repZ_len z n, Nat.add_mul, Nat.one_mul, Nat.add_comm]
theorem repZ_one (z : Str) : repZ z 1 = z := by
  apply congrArg Str.mk
  show z.cps ++ #[] = z.cps
  simp
def rRepZ : R2 := fun x y H Q => ∃ (z : Str) (n : Nat), x = .str z ∧ y = .int (n : Nat) ∧ 1 ≤ z.length ∧ z.length ≤ 20 ∧ n ≤ 1000 ∧ Q (.str (repZ z n)) H
theorem op_repZ {X : Cx} : OpR X (binaryOp .Mult) rRepZ := by
  intro pins s σ H x y v u Q I rx ry h
  obtain ⟨z, n, rfl, rfl, hz1, hz, h2, q⟩ := h
  obtain ⟨t, rfl⟩ := rx
  obtain ⟨t', rfl⟩ := ry
  refine PySem.P.mul_str ?_ ?_ ?_ ?_
  · rw [decide_eq_false (by omega), decide_eq_false (by omega)]
    rfl
  · intro h0 _ hh
    have hp : (0 : Int) < (n : Nat) := by omega
    have h3 : ((2 : Int) ^ 63 - 1) / (n : Nat) < 20 := by omega
    have h4 : ((2 : Int) ^ 63 - 1) < 20 * (n : Nat) := (Int.ediv_lt_iff_lt_mul hp).mp h3
    omega
  · intro _ _
    rw [Int.toNat_natCast]
    unfold PySem.Builtin.Str.tooLong
    have : z.length * n ≤ 20 * 1000 := Nat.mul_le_mul hz h2
    exact decide_eq_false (by rw [sizeLine_eq]; omega)
  · split
    · rename_i h0
      obtain rfl : n = 0 := by omega
      exact ⟨by show 0 ≤ sizeLine; exact Nat.zero_le _, .str Str.empty, H, I.tok _, ⟨_, rfl⟩, q⟩
    · split
      · rename_i hc
        have e1 : n = 1 := by
          have hz0 : (z.length == 0) = false := by
            rw [beq_eq_false_iff_ne]
            omega
          rw [hz0, Bool.or_false, beq_iff_eq] at hc
          omega
        subst e1
        rw [repZ_one] at q
        exact ⟨.str z, H, I, ⟨_, rfl⟩, q⟩
      · rw [Int.toNat_natCast, fold_repZ, show #[] ++ (repZ z n).cps = (repZ z n).cps from by simp]
        have hl := repZ_len z n
        have : n * z.length ≤ 1000 * 20 := Nat.mul_le_mul h2 hz
        exact ⟨by show (repZ z n).length ≤ sizeLine; rw [sizeLine_eq]; omega, .str (repZ z n), H, I.tok _, ⟨_, rfl⟩, q⟩
end Wb

set_option linter.all false
set_option maxRecDepth 100000
set_option maxHeartbeats 4000000
set_option pp.maxSteps 200
/-! what the law of questions too great hangs on -/
namespace Q2
open PySem PyProof.Rows L2 Gx Qp
/-! how many unlike texts: by what is in them -/
def firsts (zs : List Str) : Nat → List Str
  | 0 => []
  | i + 1 => match zs[i]? with
    | none => firsts zs i
    | some z => if z ∈ zs.take i then firsts zs i else firsts zs i ++ [z]
theorem firsts_mem (zs : List Str) : ∀ (i : Nat) (x : Str), x ∈ firsts zs i ↔ x ∈ zs.take i
  | 0, x => by rw [List.take_zero]; exact Iff.rfl
  | i + 1, x => by
    have ih := firsts_mem zs i x
    rw [List.take_add_one]
    unfold firsts
    cases h : zs[i]? with
    | none => simpa using ih
    | some z =>
      simp only [Option.toList]
      by_cases hz : z ∈ zs.take i
      · rw [if_pos hz, ih, List.mem_append, List.mem_singleton]
        exact ⟨.inl, fun h => h.elim id fun e => e ▸ hz⟩
      · rw [if_neg hz, List.mem_append, List.mem_append, ih]
theorem firsts_nd (zs : List Str) : ∀ i, (firsts zs i).Nodup
  | 0 => List.nodup_nil
  | i + 1 => by
    have ih := firsts_nd zs i
    unfold firsts
    cases h : zs[i]? with
    | none => exact ih
    | some z =>
      by_cases hz : z ∈ zs.take i
      · simp only [if_pos hz]
        exact ih
      · simp only [if_neg hz]
        refine List.nodup_append.mpr ⟨ih, by simp, fun a ha b hb e => hz ?_⟩
        rw [← List.mem_singleton.mp hb, ← e]
        exact (firsts_mem zs i a).mp ha
theorem firsts_len (zs : List Str) : ∀ i, (firsts zs i).length = Ws.met zs i
  | 0 => rfl
  | i + 1 => by
    have ih := firsts_len zs i
    unfold firsts Ws.met
    cases h : zs[i]? with
    | none => exact ih
    | some z =>
      by_cases hz : z ∈ zs.take i
      · simp only [if_pos hz]
        exact ih
      · simp only [if_neg hz]
        rw [List.length_append, ih]
        rfl
theorem met_same {xs ys : List Str} (h : ∀ x, x ∈ xs ↔ x ∈ ys) : Ws.met xs xs.length = Ws.met ys ys.length := by
  rw [← firsts_len, ← firsts_len]
  have mx : ∀ x, x ∈ firsts xs xs.length ↔ x ∈ xs := fun x => by rw [firsts_mem, List.take_length]
  have my : ∀ x, x ∈ firsts ys ys.length ↔ x ∈ ys := fun x => by rw [firsts_mem, List.take_length]
  refine Nat.le_antisymm ?_ ?_
  · exact List.Nodup.length_le_of_subset (firsts_nd _ _) fun x hx => (my x).mpr ((h x).mp ((mx x).mp hx))
  · exact List.Nodup.length_le_of_subset (firsts_nd _ _) fun x hx => (mx x).mpr ((h x).mpr ((my x).mp hx))
/-! deeper and deeper -/
/-- the text stands as one part -/
def Cl (t : LT) (z : Str) (d : Nat) : Prop := (hdT t ∉ Qp.jts ∧ Wr t z d) ∨ ∃ y e, z = clo y ∧ d = e + 1 ∧ Wr t y e
theorem Cl.wr {t : LT} {z : Str} {d : Nat} (h : Cl t z d) : Wr t z d := by
  rcases h with ⟨_, h⟩ | ⟨y, e, rfl, rfl, h⟩
  · exact h
  · exact .cl h
theorem Cl.close {t : LT} {z : Str} {d : Nat} (h : Wr t z d) : Cl t (clo z) (d + 1) := .inr ⟨z, d, rfl, rfl, h⟩
theorem Cl.head {t : LT} {z : Str} {d : Nat} {h : Str} (c : Cl t z d) (k : h ∈ hds) : Cl (.un h t) (h ++ " " ++ z) (d + 1) := by
  refine .inl ⟨(hd_no k).2.1, ?_⟩
  rcases c with ⟨n, w⟩ | ⟨y, e, rfl, rfl, w⟩
  · exact .un w n
  · by_cases j : hdT t ∈ Qp.jts
    · exact .unc w j
    · exact .un (.cl w) j
/-! rows of outer conditions -/
structure One (z : Str) (t : LT) (d : Nat) : Prop where
  wr : Wr t z d
  wf : wfT t
  d2 : d ≤ 2
  tk : (tokL t).length ≤ 2 ∨ z = "parent above root" ∧ (tokL t).length ≤ 3
  ne : hdT t ∉ Qp.jts
  ou : ∀ x, x ∈ outsL t ↔ x = inn z ∨ (inn z = "above root" ∧ x = "root")
  ix : (Txt.splitMax (repl z) " " 1)[1]? = some (inn z)
  len : z.length ≤ 30
  asc : Asc z
theorem okIn_get {z y : Str} (h : okIn z y = true) : (Txt.splitMax (repl z) " " 1)[1]? = some (inn z) ∧ inn z = y := by
  have e := of_decide_eq_true h
  unfold inn
  rw [List.getD_eq_getElem?_getD, e]
  exact ⟨rfl, rfl⟩
theorem ne_ar {c : Str} : ("is " ++ c : Str) ≠ "above root" := fun e => by
  have h : ("is " ++ c : Str).cps.toList[0]? = ("above root" : Str).cps.toList[0]? := by rw [e]
  have h1 : ("is " ++ c : Str).cps.toList[0]? = some 105 := by
    show (("is " : Str).cps ++ c.cps).toList[0]? = _
    rw [Array.toList_append, List.getElem?_append_left (by decide +kernel)]
    decide +kernel
  rw [h1] at h
  exact absurd h (by decide +kernel)
theorem is_in {c : Str} : Str.join " " [("is" : Str), c] = "is " ++ c := by
  show ("is" : Str) ++ " " ++ c = "is " ++ c
  rw [show ("is " : Str) = "is" ++ " " from by decide +kernel]
theorem one_is {h c : Str} (hc : CapX c) (hh : h ∈ Qp.out) {z : Str} {d : Nat} (w : Wr (.un h (.at ["is", c])) z d) (hd : d ≤ 2) (ho : okIn z ("is " ++ c) = true) (hl : z.length ≤ 30) (hA : Asc z) : One z (.un h (.at ["is", c])) d := by
  obtain ⟨i1, i2⟩ := okIn_get ho
  have hm : h ∈ hds := by
    simp only [List.mem_cons, List.not_mem_nil, or_false] at hh ⊢
    exact .inr hh
  refine ⟨w, ⟨hm, .inr ⟨"is", c, by decide +kernel, hc.1, rfl⟩⟩, hd, ?_, (hd_no hm).2.1, fun x => ?_, i1, hl, hA⟩
  · rw [tok_un, if_pos hh]
    exact .inl (Nat.le_refl 2)
  · have e : outsL (.un h (.at ["is", c])) = ["is " ++ c] := by
      unfold outsL
      show (((if h ∈ Qp.out then [LT.un h (.at ["is", c])] else []) ++ [LT.at ["is", c]]).filter ouL).map ouT = _
      rw [if_pos hh, List.singleton_append, List.filter_cons, List.filter_cons, if_pos (show ouL (.un h (.at ["is", c])) = true from decide_eq_true hh), if_neg (show ¬ ouL (.at ["is", c]) = true from Bool.false_ne_true)]
      show [Str.join " " [("is" : Str), c]] = _
      rw [is_in]
    rw [e, i2, List.mem_singleton]
    exact ⟨.inl, fun h => h.elim id fun h => absurd h.1 ne_ar⟩
theorem in_parts {c : Str} (hc : CapX c) : okIn ("parent is " ++ c) ("is " ++ c) = true ∧ okIn ("above is " ++ c) ("is " ++ c) = true ∧ okIn ("parent ( is " ++ c ++ " )") ("is " ++ c) = true := by
  have h := in1 c hc.2
  simp only [Bool.and_eq_true] at h
  exact ⟨h.1.1, h.1.2, h.2⟩
theorem one_p {c : Str} (hc : CapX c) : ∃ t d, One ("parent is " ++ c) t d := by
  have w : Wr (.un "parent" (.at ["is", c])) ("parent" ++ " " ++ Str.join " " [("is" : Str), c]) (0 + 1) := .un .at (by show ("is" : Str) ∉ Qp.jts; decide +kernel)
  rw [is_in, show ("parent" ++ " " ++ ("is " ++ c) : Str) = "parent is " ++ c from by rw [← Str.append_assoc, show ("parent" ++ " " ++ "is " : Str) = "parent is " from by decide +kernel]] at w
  refine ⟨_, _, one_is hc (by decide +kernel) w (by decide) (in_parts hc).1 ?_ (app_asc (by decide +kernel) hc.1.2.1)⟩
  have := hc.1.1
  rw [len_app, show ("parent is " : Str).length = 10 from by decide +kernel]
  omega
theorem one_a {c : Str} (hc : CapX c) : ∃ t d, One ("above is " ++ c) t d := by
  have w : Wr (.un "above" (.at ["is", c])) ("above" ++ " " ++ Str.join " " [("is" : Str), c]) (0 + 1) := .un .at (by show ("is" : Str) ∉ Qp.jts; decide +kernel)
  rw [is_in, show ("above" ++ " " ++ ("is " ++ c) : Str) = "above is " ++ c from by rw [← Str.append_assoc, show ("above" ++ " " ++ "is " : Str) = "above is " from by decide +kernel]] at w
  refine ⟨_, _, one_is hc (by decide +kernel) w (by decide) (in_parts hc).2.1 ?_ (app_asc (by decide +kernel) hc.1.2.1)⟩
  have := hc.1.1
  rw [len_app, show ("above is " : Str).length = 9 from by decide +kernel]
  omega
theorem one_c {c : Str} (hc : CapX c) : ∃ t d, One ("parent ( is " ++ c ++ " )") t d := by
  have w : Wr (.un "parent" (.at ["is", c])) ("parent" ++ " " ++ clo (Str.join " " [("is" : Str), c])) (0 + 1 + 1) := .un (.cl .at) (by show ("is" : Str) ∉ Qp.jts; decide +kernel)
  rw [is_in, show ("parent" ++ " " ++ clo ("is " ++ c) : Str) = "parent ( is " ++ c ++ " )" from by
    unfold clo
    rw [show ("parent ( is " : Str) = "parent" ++ " " ++ "( " ++ "is " from by decide +kernel]
    simp only [Str.append_assoc]] at w
  refine ⟨_, _, one_is hc (by decide +kernel) w (by decide) (in_parts hc).2.2 ?_ (app_asc (app_asc (by decide +kernel) hc.1.2.1) (by decide +kernel))⟩
  have := hc.1.1
  rw [len_app, len_app, sp3, show ("parent ( is " : Str).length = 12 from by decide +kernel]
  omega
theorem one_r : ∃ t d, One "parent above root" t d := by
  obtain ⟨i1, i2⟩ := okIn_get in2
  have w : Wr (.un "parent" (.un "above" (.at ["root"]))) ("parent" ++ " " ++ ("above" ++ " " ++ Str.join " " [("root" : Str)])) (0 + 1 + 1) := .un (.un .at (by show ("root" : Str) ∉ Qp.jts; decide +kernel)) (by show ("above" : Str) ∉ Qp.jts; decide +kernel)
  rw [show ("parent" ++ " " ++ ("above" ++ " " ++ Str.join " " [("root" : Str)]) : Str) = "parent above root" from by decide +kernel] at w
  refine ⟨_, _, w, ⟨by decide +kernel, by decide +kernel, .inl rfl⟩, by decide, .inr ⟨rfl, by decide +kernel⟩, by show ("parent" : Str) ∉ Qp.jts; decide +kernel, fun x => ?_, i1, by decide +kernel, by decide +kernel⟩
  rw [show outsL (.un "parent" (.un "above" (.at ["root"]))) = ([("above root" : Str), ("root" : Str)] : List Str) from by decide +kernel, i2]
  simp only [List.mem_cons, List.not_mem_nil, or_false, true_and]
theorem outs_bi (j : Str) (a b : LT) : outsL (.bi j a b) = outsL a ++ outsL b := by
  show (((tokL a ++ tokL b).filter ouL).map ouT) = _
  rw [List.filter_append, List.map_append]
  rfl
theorem cz_no {j : Str} {t : LT} {x : Str} {d : Nat} (h : ¬ (j = "and" ∧ hdT t = "or")) : (x, d) = (if j = "and" ∧ hdT t = "or" then (clo x, d + 1) else (x, d)) := (if_neg h).symm
theorem or_no {t : LT} : ¬ (("or" : Str) = "and" ∧ hdT t = "or") := fun h => absurd h.1 (by decide +kernel)
theorem or_sep (x y : Str) : x ++ " " ++ "or" ++ " " ++ y = x ++ " or " ++ y := by
  rw [show (" or " : Str) = " " ++ "or" ++ " " from by decide +kernel]
  simp only [Str.append_assoc]
/-- a row of them, joined -/
theorem rows_one : ∀ zs : List Str, zs ≠ [] → (∀ z ∈ zs, ∃ t d, One z t d) → ∃ T d, Wr T (Str.join " or " zs) d ∧ wfT T ∧ d ≤ 2 ∧ (tokL T).length ≤ 2 * zs.length + zs.count ("parent above root" : Str) ∧ (∀ x, x ∈ outsL T ↔ x ∈ zs.map inn ∨ (("above root" : Str) ∈ zs.map inn ∧ x = "root")) ∧ (Str.join " or " zs).length ≤ 40 * zs.length ∧ Asc (Str.join " or " zs)
  | [], h, _ => absurd rfl h
  | [z], _, h => by
    obtain ⟨t, d, o⟩ := h z (List.mem_cons_self ..)
    refine ⟨t, d, o.wr, o.wf, o.d2, ?_, fun x => ?_, ?_, o.asc⟩
    · rcases o.tk with k | ⟨e, k⟩
      · show _ ≤ 2 * 1 + _
        omega
      · rw [e, List.count_cons_self, List.count_nil]
        exact k
    · rw [o.ou, List.map_cons, List.map_nil, List.mem_singleton, List.mem_singleton]
      exact ⟨fun h => h.imp id fun h => ⟨h.1.symm, h.2⟩, fun h => h.imp id fun h => ⟨h.1.symm, h.2⟩⟩
    · have := o.len
      show z.length ≤ 40
      omega
  | z :: y :: zs, _, h => by
    obtain ⟨t, d, o⟩ := h z (List.mem_cons_self ..)
    obtain ⟨T, e, w, wf, e2, tk, ou, le, as⟩ := rows_one (y :: zs) (List.cons_ne_nil _ _) fun x hx => h x (List.mem_cons_of_mem _ hx)
    refine ⟨.bi "or" t T, max d e, ?_, ⟨or_jt, o.wf, wf⟩, ?_, ?_, fun x => ?_, ?_, ?_⟩
    · have k := Wr.bi (j := "or") (x' := z) (d' := d) (y' := Str.join " or " (y :: zs)) (e' := e) o.wr w (cz_no or_no) (cz_no or_no)
      rw [or_sep] at k
      exact k
    · have := o.d2
      omega
    · show (tokL t ++ tokL T).length ≤ 2 * (zs.length + 1 + 1) + _
      rw [List.length_append]
      rw [List.length_cons] at tk
      rcases o.tk with k | ⟨e, k⟩
      · have := List.count_le_count_cons (a := ("parent above root" : Str)) (b := z) (l := y :: zs)
        omega
      · rw [e, List.count_cons_self]
        omega
    · rw [outs_bi, List.mem_append, o.ou, ou, List.map_cons]
      constructor
      · rintro ((h | ⟨h1, h2⟩) | (h | ⟨h1, h2⟩))
        · exact .inl (h ▸ List.mem_cons_self ..)
        · exact .inr ⟨h1 ▸ List.mem_cons_self .., h2⟩
        · exact .inl (List.mem_cons_of_mem _ h)
        · exact .inr ⟨List.mem_cons_of_mem _ h1, h2⟩
      · rintro (h | ⟨h1, h2⟩)
        · rcases List.mem_cons.mp h with h | h
          · exact .inl (.inl h)
          · exact .inr (.inl h)
        · rcases List.mem_cons.mp h1 with h | h
          · exact .inl (.inr ⟨h.symm, h2⟩)
          · exact .inr (.inr ⟨h, h2⟩)
    · have := o.len
      show (z ++ " or " ++ Str.join " or " (y :: zs)).length ≤ _
      rw [len_app, len_app, show (" or " : Str).length = 4 from by decide +kernel]
      simp only [List.length_cons] at le ⊢
      omega
    · exact app_asc (app_asc o.asc (by decide +kernel)) as
/-- what is read of a row -/
theorem rows_read {zs : List Str} (hn : zs ≠ []) (h3 : zs.length ≤ 3) (hc1 : zs.count ("parent above root" : Str) ≤ 1) (h : ∀ z ∈ zs, ∃ t d, One z t d) (us : List Str) (hus : ∀ x, x ∈ us ↔ x ∈ zs.map inn ∨ (("above root" : Str) ∈ zs.map inn ∧ x = "root")) :
    (Ws.met us us.length > 2 ∧ readQ (wordsL (Str.join " or " zs)) = .many "outer") ∨ (¬ Ws.met us us.length > 2 ∧ ∃ p, readQ (wordsL (Str.join " or " zs)) = .ok p) := by
  obtain ⟨T, d, w, wf, d2, tk, ou, _, _⟩ := rows_one zs hn h
  rw [read_wr w wf]
  have e : Ws.met us us.length = Ws.met (outsL T) (outsL T).length := met_same fun x => (hus x).trans (ou x).symm
  rw [e]
  unfold exL
  rw [if_neg (by omega), if_neg (by omega)]
  by_cases k : Ws.met (outsL T) (outsL T).length > 2
  · rw [if_pos k]
    exact .inl ⟨k, rfl⟩
  · rw [if_neg k]
    exact .inr ⟨k, _, rfl⟩
/-! two of the same -/
def sam1 (a b : Str) : Str := "parent ( " ++ a ++ " and ( " ++ b ++ " and root ) )"
def sam2 (a b : Str) : Str := "above ( ( " ++ a ++ " and " ++ b ++ " ) and root )"
theorem at_and {ws : List Str} (h : AtWs ws) : ¬ (("and" : Str) = "and" ∧ hdT (.at ws) = "or") := fun k => (at_no h).1 k.2
theorem same_read {a b : Str} (ha : CapX a) (hb : CapX b) : ∃ p, readQ (wordsL (sam1 ("is " ++ a) ("is " ++ b) ++ " or " ++ sam2 ("is " ++ a) ("is " ++ b))) = .ok p := by
  have wa : AtWs ["is", a] := .inr ⟨"is", a, by decide +kernel, ha.1, rfl⟩
  have wb : AtWs ["is", b] := .inr ⟨"is", b, by decide +kernel, hb.1, rfl⟩
  have wr : AtWs [("root" : Str)] := .inl rfl
  have A : Wr (.at ["is", a]) ("is " ++ a) 0 := is_in (c := a) ▸ .at
  have B : Wr (.at ["is", b]) ("is " ++ b) 0 := is_in (c := b) ▸ .at
  have R : Wr (.at ["root"]) "root" 0 := (.at : Wr (.at [("root" : Str)]) (Str.join " " [("root" : Str)]) 0)
  have nb : ∀ {x y : LT}, ¬ (("and" : Str) = "and" ∧ hdT (.bi "and" x y) = "or") := fun k => absurd (show ("and" : Str) = "or" from k.2) (by decide +kernel)
  have BR := Wr.bi (j := "and") B R (cz_no (at_and wb)) (cz_no (at_and wr))
  have ABR := Wr.bi (j := "and") A (.cl BR) (cz_no (at_and wa)) (cz_no nb)
  have AB := Wr.bi (j := "and") A B (cz_no (at_and wa)) (cz_no (at_and wb))
  have ABR2 := Wr.bi (j := "and") (.cl AB) R (cz_no nb) (cz_no (at_and wr))
  have S1 : Wr (.un "parent" _) _ _ := .unc ABR (by show ("and" : Str) ∈ Qp.jts; decide +kernel)
  have S2 : Wr (.un "above" _) _ _ := .unc ABR2 (by show ("and" : Str) ∈ Qp.jts; decide +kernel)
  have e1 : ("parent" ++ " " ++ clo ("is " ++ a ++ " " ++ "and" ++ " " ++ clo ("is " ++ b ++ " " ++ "and" ++ " " ++ "root")) : Str) = sam1 ("is " ++ a) ("is " ++ b) := by
    unfold clo sam1
    rw [show ("parent ( " : Str) = "parent" ++ " " ++ "( " from by decide +kernel, show (" and ( " : Str) = " " ++ "and" ++ " " ++ "( " from by decide +kernel, show (" and root ) )" : Str) = " " ++ "and" ++ " " ++ "root" ++ " )" ++ " )" from by decide +kernel]
    simp only [Str.append_assoc]
  have e2 : ("above" ++ " " ++ clo (clo ("is " ++ a ++ " " ++ "and" ++ " " ++ ("is " ++ b)) ++ " " ++ "and" ++ " " ++ "root") : Str) = sam2 ("is " ++ a) ("is " ++ b) := by
    unfold clo sam2
    rw [show ("above ( ( " : Str) = "above" ++ " " ++ "( " ++ "( " from by decide +kernel, show (" and " : Str) = " " ++ "and" ++ " " from by decide +kernel, show (" ) and root )" : Str) = " )" ++ " " ++ "and" ++ " " ++ "root" ++ " )" from by decide +kernel]
    simp only [Str.append_assoc]
  rw [e1] at S1
  rw [e2] at S2
  have W := Wr.bi (j := "or") S1 S2 (cz_no or_no) (cz_no or_no)
  rw [or_sep] at W
  have pj : ("parent" : Str) ∈ hds := by decide +kernel
  have aj : ("above" : Str) ∈ hds := by decide +kernel
  rw [read_wr W ⟨or_jt, ⟨pj, and_jt, wa, and_jt, wb, wr⟩, ⟨aj, and_jt, ⟨and_jt, wa, wb⟩, wr⟩⟩]
  have tk : ∀ x y : LT, (tokL (.bi "or" x y)).length = (tokL x).length + (tokL y).length := fun x y => List.length_append
  have tl : (tokL (.bi "or" (.un "parent" (.bi "and" (.at ["is", a]) (.bi "and" (.at ["is", b]) (.at ["root"])))) (.un "above" (.bi "and" (.bi "and" (.at ["is", a]) (.at ["is", b])) (.at ["root"]))))).length = 8 := by
    rw [tk, tok_un, tok_un, if_pos (by decide +kernel), if_pos (by decide +kernel)]
    rfl
  have ol : (outsL (.bi "or" (.un "parent" (.bi "and" (.at ["is", a]) (.bi "and" (.at ["is", b]) (.at ["root"])))) (.un "above" (.bi "and" (.bi "and" (.at ["is", a]) (.at ["is", b])) (.at ["root"]))))).length ≤ 2 := by
    rw [outs_bi, List.length_append]
    have one : ∀ (h : Str) (u : LT), ((tokL u).filter ouL).length = 0 → (outsL (.un h u)).length ≤ 1 := fun h u h0 => by
      unfold outsL
      show ((((if h ∈ Qp.out then [LT.un h u] else []) ++ tokL u).filter ouL).map ouT).length ≤ 1
      rw [List.length_map, List.filter_append, List.length_append, h0]
      split
      · exact List.length_filter_le _ _
      · exact Nat.zero_le _
    have o1 := one "parent" (.bi "and" (.at ["is", a]) (.bi "and" (.at ["is", b]) (.at ["root"]))) rfl
    have o2 := one "above" (.bi "and" (.bi "and" (.at ["is", a]) (.at ["is", b])) (.at ["root"])) rfl
    omega
  have ml := Ws.met_le (outsL (.bi "or" (.un "parent" (.bi "and" (.at ["is", a]) (.bi "and" (.at ["is", b]) (.at ["root"])))) (.un "above" (.bi "and" (.bi "and" (.at ["is", a]) (.at ["is", b])) (.at ["root"]))))) (outsL (.bi "or" (.un "parent" (.bi "and" (.at ["is", a]) (.bi "and" (.at ["is", b]) (.at ["root"])))) (.un "above" (.bi "and" (.bi "and" (.at ["is", a]) (.at ["is", b])) (.at ["root"]))))).length
  unfold exL
  rw [if_neg (by omega), if_neg (by decide), if_neg (by omega)]
  exact ⟨_, rfl⟩
end Q2

set_option linter.all false
set_option maxRecDepth 100000
set_option maxHeartbeats 4000000
set_option pp.maxSteps 200
namespace Q2
open PySem PyProof.Rows L2 Gx Qp
/-! far to the right -/
def isM (q : QR) (m : Str) : Bool := match q with
  | .many x => decide (x = m)
  | _ => false
def isA (q : QR) (n : Nat) : Bool := match q with
  | .at i => decide (i = n)
  | _ => false
def W4 : List Str := ["not ", "( ", "not ( ", "parent not "]
def farT (w : Str) : Str := Wb.repZ w 20 ++ "root" ++ Wb.repZ " )" ((Txt.count w "(").toNat * 20)
def isP (w : Str) : Bool := decide (w.cps.toList[0]? = some 112)
def ascB (z : Str) : Bool := z.cps.toList.all fun c => decide (c < 128)
def farB (w : Str) : Bool := isM (readQ (wordsL (farT w))) (if isP w then "atoms" else "deep") && (isA (readQ (wordsL (farT w ++ " )"))) (Txt.split (farT w) " ").length && (isA (readQ (wordsL (Wb.repZ w 20))) ((Txt.split (Wb.repZ w 20) " ").length - 1)
  && (decide (1 ≤ (Txt.split (Wb.repZ w 20) " ").length) && (decide ((farT w).length ≤ 1000) && (decide (1 ≤ w.length) && (decide (w.length ≤ 20) && ((decide (0 ≤ Txt.count w "(") && decide (Txt.count w "(" ≤ 1)) && (ascB (farT w) && (ascB (Wb.repZ w 20) && decide (w.cps.toList[0]? ≠ none))))))))))
set_option maxHeartbeats 200000000
theorem far1a : isM (readQ (wordsL (farT "not "))) (if isP "not " then "atoms" else "deep") = true := by decide +kernel
theorem far1b : isA (readQ (wordsL (farT "not " ++ " )"))) (Txt.split (farT "not ") " ").length = true := by decide +kernel
theorem far1c : isA (readQ (wordsL (Wb.repZ "not " 20))) ((Txt.split (Wb.repZ "not " 20) " ").length - 1) = true := by decide +kernel
theorem far1d : (decide (1 ≤ (Txt.split (Wb.repZ ("not " : Str) 20) " ").length) && (decide ((farT "not ").length ≤ 1000) && (decide (1 ≤ ("not " : Str).length) && (decide (("not " : Str).length ≤ 20) && ((decide (0 ≤ Txt.count ("not " : Str) "(") && decide (Txt.count ("not " : Str) "(" ≤ 1)) && (ascB (farT "not ") && (ascB (Wb.repZ "not " 20) && decide (("not " : Str).cps.toList[0]? ≠ none)))))))) = true := by decide +kernel
theorem far1 : farB "not " = true := by
  unfold farB
  rw [far1a, far1b, far1c, far1d]
  rfl
theorem far2a : isM (readQ (wordsL (farT "( "))) (if isP "( " then "atoms" else "deep") = true := by decide +kernel
theorem far2b : isA (readQ (wordsL (farT "( " ++ " )"))) (Txt.split (farT "( ") " ").length = true := by decide +kernel
theorem far2c : isA (readQ (wordsL (Wb.repZ "( " 20))) ((Txt.split (Wb.repZ "( " 20) " ").length - 1) = true := by decide +kernel
theorem far2d : (decide (1 ≤ (Txt.split (Wb.repZ ("( " : Str) 20) " ").length) && (decide ((farT "( ").length ≤ 1000) && (decide (1 ≤ ("( " : Str).length) && (decide (("( " : Str).length ≤ 20) && ((decide (0 ≤ Txt.count ("( " : Str) "(") && decide (Txt.count ("( " : Str) "(" ≤ 1)) && (ascB (farT "( ") && (ascB (Wb.repZ "( " 20) && decide (("( " : Str).cps.toList[0]? ≠ none)))))))) = true := by decide +kernel
theorem far2 : farB "( " = true := by
  unfold farB
  rw [far2a, far2b, far2c, far2d]
  rfl
theorem far3a : isM (readQ (wordsL (farT "not ( "))) (if isP "not ( " then "atoms" else "deep") = true := by decide +kernel
theorem far3b : isA (readQ (wordsL (farT "not ( " ++ " )"))) (Txt.split (farT "not ( ") " ").length = true := by decide +kernel
theorem far3c : isA (readQ (wordsL (Wb.repZ "not ( " 20))) ((Txt.split (Wb.repZ "not ( " 20) " ").length - 1) = true := by decide +kernel
theorem far3d : (decide (1 ≤ (Txt.split (Wb.repZ ("not ( " : Str) 20) " ").length) && (decide ((farT "not ( ").length ≤ 1000) && (decide (1 ≤ ("not ( " : Str).length) && (decide (("not ( " : Str).length ≤ 20) && ((decide (0 ≤ Txt.count ("not ( " : Str) "(") && decide (Txt.count ("not ( " : Str) "(" ≤ 1)) && (ascB (farT "not ( ") && (ascB (Wb.repZ "not ( " 20) && decide (("not ( " : Str).cps.toList[0]? ≠ none)))))))) = true := by decide +kernel
theorem far3 : farB "not ( " = true := by
  unfold farB
  rw [far3a, far3b, far3c, far3d]
  rfl
theorem far4a : isM (readQ (wordsL (farT "parent not "))) (if isP "parent not " then "atoms" else "deep") = true := by decide +kernel
theorem far4b : isA (readQ (wordsL (farT "parent not " ++ " )"))) (Txt.split (farT "parent not ") " ").length = true := by decide +kernel
theorem far4c : isA (readQ (wordsL (Wb.repZ "parent not " 20))) ((Txt.split (Wb.repZ "parent not " 20) " ").length - 1) = true := by decide +kernel
theorem far4d : (decide (1 ≤ (Txt.split (Wb.repZ ("parent not " : Str) 20) " ").length) && (decide ((farT "parent not ").length ≤ 1000) && (decide (1 ≤ ("parent not " : Str).length) && (decide (("parent not " : Str).length ≤ 20) && ((decide (0 ≤ Txt.count ("parent not " : Str) "(") && decide (Txt.count ("parent not " : Str) "(" ≤ 1)) && (ascB (farT "parent not ") && (ascB (Wb.repZ "parent not " 20) && decide (("parent not " : Str).cps.toList[0]? ≠ none)))))))) = true := by decide +kernel
theorem far4 : farB "parent not " = true := by
  unfold farB
  rw [far4a, far4b, far4c, far4d]
  rfl
theorem far_ok : ∀ w ∈ W4, farB w = true := fun w h => by
  simp only [W4, List.mem_cons, List.not_mem_nil, or_false] at h
  rcases h with rfl | rfl | rfl | rfl
  · exact far1
  · exact far2
  · exact far3
  · exact far4
end Q2

set_option linter.all false
set_option maxRecDepth 100000
set_option maxHeartbeats 8000000
set_option pp.maxSteps 150
namespace Q2
open PySem PySem.Spec PyProof.Rows L2 Gx Qp Qh
/-! ### deeper texts, texts that lean far to the right -/
abbrev s_deeper : Stmt := topS 46
abbrev n_deeper : List Str := ["_law_box_here", "_law_found", "_law_text", "_law_deep", "_law_more", "_law_turn", "_law_word"]
theorem sc_deeper : FnScope n_deeper ["_law_box_here", "_law_found"] (defScope s_deeper) := ⟨rfl, rfl, rfl, by decide +kernel, rfl, by decide +kernel, by decide +kernel⟩
abbrev s_far : Stmt := topS 47
abbrev n_far : List Str := ["_law_many", "_law_word", "_law_closed_here", "_law_text", "_law_due"]
theorem sc_far : FnScope n_far ["_law_many"] (defScope s_far) := ⟨rfl, rfl, rfl, by decide +kernel, rfl, by decide +kernel, by decide +kernel⟩
def spDeeper : Sp := fun vs H Q _ => ∃ (p fa : Addr) (z : Str) (d : Nat) (t : LT) (m : Nat), vs = [.ref p, .ref fa] ∧ BoxAt H p m ∧ m ≤ 40000 ∧ H fa = some (.tup [.str z, .int (d : Nat)]) ∧ Wr t z d ∧ wfT t ∧ z.length ≤ 1000 ∧ Asc z ∧
  ∀ (r : Addr) (z' : Str) (d' more : Nat) (t' : LT) (H' : Hp), Kp p H H' → BoxAt H' p (m + 10) → H' r = some (.tup [.str z', .int (d' : Nat), .int (more : Nat)]) → Wr t' z' d' → wfT t' → (tokL t').length = (tokL t).length + more → z'.length ≤ z.length + 110 → Asc z' → Q (.ref r) H'
def spFar : Sp := fun vs H Q _ => vs = [.int 20] ∧ ∀ H' : Hp, Same H H' → Q (.bl true) H'
structure NmDe (mg : Str → Option Value) (K : PySem.W.Frag) (ft fp : Addr) : Prop where
  g__law_take : mg "_law_take" = some (.ref ft)
  k__law_take : PySem.W.keepIn K (.ref ft) = true
  g__law_pick : mg "_law_pick" = some (.ref fp)
  k__law_pick : PySem.W.keepIn K (.ref fp) = true
  n_range : mg "range" = none
  n_int : mg "int" = none
theorem ite_r {b : Bool} {A B : TE} {σ : L2.St} {H : Hp} {Kx : V → Hp → Prop} {R : V → Hp → Prop} (hA : b = true → ∀ Kx : V → Hp → Prop, (∀ u G, R u G → Kx u G) → A σ H Kx) (hB : b = false → ∀ Kx : V → Hp → Prop, (∀ u G, R u G → Kx u G) → B σ H Kx) (h : ∀ u G, R u G → Kx u G) : if b = true then A σ H Kx else B σ H Kx := by
  cases b with
  | true => exact iteT (hA rfl _ h)
  | false => exact iteF (hB rfl _ h)
theorem str_lay {z : Str} (h : Asc z) : (PyData.str z).canLay0 = true := by
  show z.cps.all _ = true
  rw [← Array.all_toList, List.all_eq_true]
  intro c hc
  have := h c hc
  exact decide_eq_true (by omega)
def pairD (x y : Str) : PyData := .tuple [.str x, .str y]
theorem pairD_shaped {x y : Str} (hx : Asc x) (hy : Asc y) : SeqAt.shaped (pairD x y) = true := by
  unfold SeqAt.shaped pairD
  rw [Bool.and_eq_true]
  refine ⟨?_, decide_eq_true ?_⟩
  · show PyData.canLayAll0 [.str x, .str y] = true
    rw [PyData.canLayAll0, PyData.canLayAll0, PyData.canLayAll0, str_lay hx, str_lay hy]
    rfl
  · simp only [PyData.depth, PyData.depthAll]
    omega
theorem pairD_eqv (x y a b : Str) : PyData.eqv (pairD x y) (pairD a b) = (decide (x = a) && decide (y = b)) := by
  show PyData.eqvAll [.str x, .str y] [.str a, .str b] = _
  simp [PyData.eqvAll, PyData.eqv]
  congr 1 <;> (first | rfl | exact decide_eq_decide.mpr Iff.rfl | (rw [Bool.eq_iff_iff]; simp))
def wordD (i : Nat) : PyData := .tuple [.str "word", .int (i : Nat)]
theorem wordD_shaped (i : Nat) : SeqAt.shaped (wordD i) = true := by
  unfold SeqAt.shaped wordD
  rw [Bool.and_eq_true]
  refine ⟨?_, decide_eq_true ?_⟩
  · show PyData.canLayAll0 [.str "word", .int _] = true
    rw [PyData.canLayAll0, PyData.canLayAll0, PyData.canLayAll0, show (PyData.str "word").canLay0 = true from by decide +kernel]
    rfl
  · simp only [PyData.depth, PyData.depthAll]
    omega
theorem wordD_eqv (i : Nat) : PyData.eqv (wordD i) (wordD i) = true := by
  show PyData.eqvAll [.str "word", .int _] [.str "word", .int _] = true
  simp [PyData.eqvAll, PyData.eqv]
theorem isM_eq {q : QR} {m : Str} (h : isM q m = true) : q = .many m := by
  cases q with
  | many x =>
    have e : x = m := of_decide_eq_true h
    rw [e]
  | «at» i => exact nomatch h
  | ok p => exact nomatch h
theorem isA_eq {q : QR} {n : Nat} (h : isA q n = true) : q = .at n := by
  cases q with
  | «at» i =>
    have e : i = n := of_decide_eq_true h
    rw [e]
  | many x => exact nomatch h
  | ok p => exact nomatch h
theorem asc_of {z : Str} (h : ascB z = true) : Asc z := fun c hc => by
  unfold ascB at h
  rw [List.all_eq_true] at h
  have := of_decide_eq_true (h c hc)
  omega
section
variable {P : Program} {w : World} {K : PySem.W.Frag} {mg : Str → Option Value} {base : Heap}
theorem ok_far {f fq : Addr} {fd fdq : FuncData} (F : Fun K "_law_far_right" "_law_far_right" s_far f fd) (g_qr : mg "_law_question_read" = some (.ref fq)) (k_qr : PySem.W.keepIn K (.ref fq) = true) (n_len : mg "len" = none)
    (G_qr : FnOk P w K mg base CX0 36 fq fdq ["_law_text"] spQR) (b_qr : Binds K fdq ["_law_text"] []) : FnOk P w K mg base CX0 37 f fd ["_law_many"] spFar := by
  refine F.ok sc_far (fun vs H Q E h => ?_) (fun cdv A outer s H vs Q E hr h => ?_)
  · obtain ⟨rfl, _⟩ := h
    rfl
  · obtain ⟨rfl, q⟩ := h
    have hu64 := hr.units
    refine ⟨_, (pss_cons (ps_for PassesOwn.never rfl (pi_tup (pe_tup (pa_cons pe_str (pa_cons pe_str (pa_cons pe_str (pa_cons pe_str pa_nil)))))) (pg_name (i := 1) sc_far.nd rfl (.inl rfl))
  (pss_cons (ps_set (i := 2) sc_far.nd rfl (.inl rfl) (pe_op op_mul (pe_m1 PySem.F.slot_str_count PySem.F.type_str_count mt_count (pv 1) pe_str) (pv 0)))
  (pss_cons (ps_set (i := 3) sc_far.nd rfl (.inl rfl) (pe_op op_add_str (pe_op op_add_str (pe_op Wb.op_repZ (pv 1) (pv 0)) pe_str) (pe_op Wb.op_repZ pe_str (pv 2))))
  (pss_cons (ps_set (i := 4) sc_far.nd rfl (.inl rfl) (pe_tup (pa_cons pe_str (pa_cons (pe_ifExp (pt_cmpR op_eq (pe_ix ix_str (pv 1) pe_int (fun _ _ => rfl)) pe_str (nomark _)) pe_str pe_str) pa_nil))))
  (pss_cons (ps_if (PW.pt (pw_or (pt_cmpR (op_neD hu64) (pe_call G_qr hr rfl g_qr k_qr b_qr .nil pass0 (pa_cons (pv 3) pa_nil)) (pv 4) (nomark _)) (pw_or1 (pt_cmpR (op_neD hu64) (pe_call G_qr hr rfl g_qr k_qr b_qr .nil pass0 (pa_cons (pe_op op_add_str (pv 3) pe_str) pa_nil)) (pe_tup (pa_cons pe_str (pa_cons (pe_callB call_len_seq (by rfl) n_len (by decide +kernel) (pa_cons (pe_split (pv 3) pe_str) pa_nil)) pa_nil))) (nomark _))))) (pss_one (ps_ret pe_bl)) pss_nil)
  (pss_one (ps_if (pt_cmpR (op_neD hu64) (pe_call G_qr hr rfl g_qr k_qr b_qr .nil pass0 (pa_cons (pe_op Wb.op_repZ (pv 1) (pv 0)) pa_nil)) (pe_tup (pa_cons pe_str (pa_cons (pe_op op_sub (pe_callB call_len_seq (by rfl) n_len (by decide +kernel) (pa_cons (pe_split (pe_op Wb.op_repZ (pv 1) (pv 0)) pe_str) pa_nil)) pe_int) pa_nil))) (nomark _)) (pss_one (ps_ret pe_bl)) pss_nil)))))))
  (pss_one (ps_ret pe_bl))), ?_⟩
    refine ⟨(by show 4 ≤ sizeLine; decide), fun T nT => ?_⟩
    have S0 := new_same (o := .tup [.str "not ", .str "( ", .str "not ( ", .str "parent not "]) nT
    have eT : upd H T (.tup [.str "not ", .str "( ", .str "not ( ", .str "parent not "]) T = some (.tup [.str "not ", .str "( ", .str "not ( ", .str "parent not "]) := upd_same
    generalize upd H T (.tup [.str "not ", .str "( ", .str "not ( ", .str "parent not "]) = H1 at *
    refine ⟨T, rfl, ⟨_, SqT.of eT⟩, ?_⟩
    refine for_tup (K := K) (a := T) (xs := [.str "not ", .str "( ", .str "not ( ", .str "parent not "]) (fun _ σ Hx => Same H1 Hx ∧ ∃ b1 b2 b3 b4 : Option V, σ = [some (.int 20), b1, b2, b3, b4])
      ⟨Same.refl _, _, _, _, _, rfl⟩ (fun i σ Hx _ P => SqT.of (P.1 _ _ eT)) (fun i x σ Hx hx P => ?_) (fun σ Hx P => ?_)
    · obtain ⟨sx, b1, b2, b3, b4, rfl⟩ := P
      obtain ⟨wd, rfl, hw⟩ : ∃ wd : Str, x = .str wd ∧ wd ∈ W4 := by
        match i, hx with
        | 0, h => cases h; exact ⟨_, rfl, by decide +kernel⟩
        | 1, h => cases h; exact ⟨_, rfl, by decide +kernel⟩
        | 2, h => cases h; exact ⟨_, rfl, by decide +kernel⟩
        | 3, h => cases h; exact ⟨_, rfl, by decide +kernel⟩
        | n + 4, h => cases h
      have hf := far_ok wd hw
      unfold farB at hf
      simp only [Bool.and_eq_true, decide_eq_true_eq] at hf
      obtain ⟨f1, f2, f3, f4, f5, f6, f7, ⟨f8, f9⟩, f10, f11, f12⟩ := hf
      have r1 := isM_eq f1
      have r2 := isA_eq f2
      have r3 := isA_eq f3
      have a1 := asc_of f10
      have a2 := asc_of f11
      obtain ⟨cn, hcn⟩ : ∃ cn : Nat, Txt.count wd "(" = (cn : Int) := ⟨(Txt.count wd "(").toNat, by omega⟩
      have hcn1 : cn ≤ 1 := by omega
      obtain ⟨c0, hc0⟩ : ∃ c, wd.cps.toList[0]? = some c := Option.ne_none_iff_exists'.mp f12
      refine ⟨_, rfl, ⟨_, rfl⟩, wd, "(", rfl, rfl, _, rfl, _, _, rfl, rfl, .inl ⟨by omega, by omega⟩, ?_⟩
      have l1 := Wb.repZ_len wd 20
      have l2 := Wb.repZ_len " )" (cn * 20)
      rw [sp3] at l2
      refine ⟨_, rfl, _, rfl, wd, 20, rfl, rfl, f6, f7, by decide, _, _, rfl, rfl, by rw [show ("root" : Str).length = 4 from by decide +kernel, sizeLine_eq]; omega, _, rfl, " )", cn * 20, rfl, ?_, by decide +kernel, by decide +kernel, by omega, _, _, rfl, rfl, by rw [len_app, show ("root" : Str).length = 4 from by decide +kernel, sizeLine_eq]; omega, ?_⟩
      · rw [hcn]
        congr 1
      have eF : Wb.repZ wd 20 ++ "root" ++ Wb.repZ " )" (cn * 20) = farT wd := by
        unfold farT
        rw [hcn, Int.toNat_natCast]
      rw [eF]
      refine ⟨_, rfl, wd, 0, c0, rfl, rfl, by rw [sizeLine_eq]; omega, atI_nat (j := 0) hc0, rfl, _, rfl, ?_⟩
      have hd : decide (V.str ⟨#[c0]⟩ = V.str "p") = isP wd := by
        unfold isP
        rw [hc0, dec_str]
        refine decide_eq_decide.mpr ⟨fun h => ?_, fun h => ?_⟩
        · have h2 : (⟨#[c0]⟩ : Str).cps.toList = ("p" : Str).cps.toList := by rw [h]
          rw [show ("p" : Str).cps.toList = [112] from by decide +kernel] at h2
          have h3 : [c0] = [112] := h2
          rw [List.cons.inj h3 |>.1]
        · rw [Option.some.inj h]
          decide +kernel
      rw [hd]
      refine ite_r (A := tC (.str "atoms")) (B := tC (.str "deep")) (R := fun u G => G = Hx ∧ u = .str (if isP wd = true then "atoms" else "deep")) (fun h Kx k => ?_) (fun h Kx k => ?_) (fun u G R => ?_)
      · exact k _ _ ⟨rfl, by rw [if_pos h]⟩
      · exact k _ _ ⟨rfl, by rw [h, if_neg Bool.false_ne_true]⟩
      obtain ⟨rfl, rfl⟩ := R
      refine ⟨(by show 2 ≤ sizeLine; decide), fun td ntd => ?_⟩
      have dwA : Asc (if isP wd = true then "atoms" else "deep" : Str) := by split <;> decide +kernel
      generalize hdw : (if isP wd = true then "atoms" else "deep" : Str) = dw at *
      have S1 := new_same (o := .tup [.str "many", .str dw]) ntd
      have ed : upd G td (.tup [.str "many", .str dw]) td = some (.tup [.str "many", .str dw]) := upd_same
      generalize upd G td (.tup [.str "many", .str dw]) = H2 at *
      refine ⟨_, rfl, farT wd, rfl, by omega, a1, fun q1 H3 S3 hq1 => ?_⟩
      rw [r1] at hq1
      have e1 : H3 q1 = some (.tup [.str "many", .str dw]) := hq1
      refine ⟨_, rfl, pairD "many" dw, pairD "many" dw, .tup (SqT.of e1) (.cons (.str _) (.cons (.str _) .nil)), .tup (SqT.of (S3 _ _ ed)) (.cons (.str _) (.cons (.str _) .nil)), pairD_shaped (by decide +kernel) dwA, pairD_shaped (by decide +kernel) dwA, _, rfl, ?_⟩
      rw [pairD_eqv, decide_eq_true rfl, decide_eq_true rfl]
      refine iteF ?_
      refine ⟨_, rfl, _, _, rfl, rfl, by rw [sp3, sizeLine_eq]; omega, farT wd ++ " )", rfl, by rw [len_app, sp3]; omega, app_asc a1 (by decide +kernel), fun q2 H4 S4 hq2 => ?_⟩
      rw [r2] at hq2
      have e2 : H4 q2 = some (.tup [.str "word", .int (((Txt.split (farT wd) " ").length : Nat) : Int)]) := hq2
      refine ⟨_, rfl, ⟨_, rfl⟩, _, _, rfl, rfl, by decide +kernel, by rw [sizeLine_eq]; omega, fun L nL => ?_⟩
      have S5 := new_same (o := .lst ((Txt.split (farT wd) " ").map V.str)) nL
      refine ⟨L, _, rfl, .inl (SqL.of upd_same), (by show 2 ≤ sizeLine; decide), fun t2 nt2 => ?_⟩
      rw [List.length_map]
      have S6 := new_same (o := .tup [.str "word", .int (((Txt.split (farT wd) " ").length : Nat) : Int)]) nt2
      refine ⟨wordD _, wordD _, .tup (SqT.of (S6 _ _ (S5 _ _ e2))) (.cons (.str _) (.cons (.int _) .nil)), .tup (SqT.of upd_same) (.cons (.str _) (.cons (.int _) .nil)), wordD_shaped _, wordD_shaped _, _, rfl, ?_⟩
      rw [wordD_eqv]
      refine iteF ?_
      refine ⟨_, rfl, _, rfl, wd, 20, rfl, rfl, f6, f7, by decide, Wb.repZ wd 20, rfl, by omega, a2, fun q3 H7 S7 hq3 => ?_⟩
      rw [r3] at hq3
      have e3 : H7 q3 = some (.tup [.str "word", .int (((Txt.split (Wb.repZ wd 20) " ").length - 1 : Nat) : Int)]) := hq3
      refine ⟨_, rfl, _, rfl, wd, 20, rfl, rfl, f6, f7, by decide, ⟨_, rfl⟩, _, _, rfl, rfl, by decide +kernel, by rw [sizeLine_eq]; omega, fun L2 nL2 => ?_⟩
      have S8 := new_same (o := .lst ((Txt.split (Wb.repZ wd 20) " ").map V.str)) nL2
      refine ⟨L2, _, rfl, .inl (SqL.of upd_same), _, _, rfl, rfl, (by show 2 ≤ sizeLine; decide), fun t3 nt3 => ?_⟩
      have e1n : ((((Txt.split (Wb.repZ wd 20) " ").map V.str).length : Nat) : Int) - 1 = (((Txt.split (Wb.repZ wd 20) " ").length - 1 : Nat) : Int) := by
        rw [List.length_map]
        omega
      have eob : HO.tup [.str "word", .int (((((Txt.split (Wb.repZ wd 20) " ").map V.str).length : Nat) : Int) - 1)] = HO.tup [.str "word", .int (((Txt.split (Wb.repZ wd 20) " ").length - 1 : Nat) : Int)] := by rw [e1n]
      have S9 := new_same (o := HO.tup [.str "word", .int (((((Txt.split (Wb.repZ wd 20) " ").map V.str).length : Nat) : Int) - 1)]) nt3
      refine ⟨wordD _, wordD _, .tup (SqT.of (S9 _ _ (S8 _ _ e3))) (.cons (.str _) (.cons (.int _) .nil)), .tup (SqT.of (xs := [.str "word", .int (((Txt.split (Wb.repZ wd 20) " ").length - 1 : Nat) : Int)]) (by rw [← eob]; exact upd_same)) (.cons (.str _) (.cons (.int _) .nil)), wordD_shaped _, wordD_shaped _, _, rfl, ?_⟩
      rw [wordD_eqv]
      refine iteF ?_
      exact ⟨sx.trans ((((S1.trans S3).trans S4).trans (S5.trans S6)).trans (S7.trans (S8.trans S9))), _, _, _, _, rfl⟩
    · obtain ⟨sx, b1, b2, b3, b4, rfl⟩ := P
      exact q Hx (S0.trans sx)
theorem ok_deeper {f ft fp : Addr} {fd fdt fdp : FuncData} (F : Fun K "_law_deeper" "_law_deeper" s_deeper f fd) (T : NmDe mg K ft fp)
    (G_take : FnOk P w K mg base CX0 1 ft fdt ["_law_box_here", "_law_many"] spTake) (b_take : Binds K fdt ["_law_box_here", "_law_many"] [])
    (G_pick : FnOk P w K mg base CX0 2 fp fdp ["_law_box_here", "_law_items"] spPick) (b_pick : Binds K fdp ["_law_box_here", "_law_items"] []) : FnOk P w K mg base CX0 3 f fd ["_law_box_here", "_law_found"] spDeeper := by
  refine F.ok sc_deeper (fun vs H Q E h => ?_) (fun cdv A outer s H vs Q E hr h => ?_)
  · obtain ⟨p, fa, z, d, t, m, rfl, _⟩ := h
    rfl
  · obtain ⟨p, fa, z, d, t, m, rfl, hb, hm, hfa, hwr, hwf, hz, hA, q⟩ := h
    have r1 := hr.mono (show 1 ≤ 2 by decide)
    refine ⟨_, (pss_cons (ps_par3 (i := 2) (j := 3) (l := 4) (by rfl) sc_deeper.nd rfl rfl rfl (by decide) (by decide) (by decide) rfl rfl rfl (pa_cons (pe_ix ix_tup (pv 1) pe_int (fun _ _ => rfl)) (pa_cons (pe_ix ix_tup (pv 1) pe_int (fun _ _ => rfl)) (pa_cons pe_int pa_nil))) (by rfl))
      (pss_cons (ps_for PassesOwn.never rfl (pi_range1 (by rfl) T.n_range (pa_cons (pe_call G_take r1 rfl T.g__law_take T.k__law_take b_take .nil pass0 (pa_cons (pv 0) (pa_cons pe_int pa_nil))) pa_nil)) (pg_name (i := 5) sc_deeper.nd rfl (.inl rfl))
        (pss_cons (ps_set (i := 6) sc_deeper.nd rfl (.inl rfl) (pe_call G_pick hr rfl T.g__law_pick T.k__law_pick b_pick .nil pass0 (pa_cons (pv 0) (pa_cons (pe_lst (pa_cons pe_str (pa_cons pe_str (pa_cons pe_str (pa_cons pe_str (pa_cons pe_str (pa_cons pe_str pa_nil))))))) pa_nil))))
        (pss_cons (ps_set (i := 2) sc_deeper.nd rfl (.inl rfl) (pe_ifExp (PW.pt (pw_or (pt_cmpR op_eq (pv 6) pe_str (nomark _)) (pw_or1 (pt_cmpR op_eq (pv 5) pe_int (nomark _))))) (pe_op op_add_str (pe_op op_add_str pe_str (pv 2)) pe_str) (pv 2)))
        (pss_cons (ps_par (i := 3) (j := 4) (by rfl) sc_deeper.nd rfl rfl (by decide) rfl rfl (pa_cons (pe_op op_add (pv 3) (pe_callTy call_int1 (by rfl) T.n_int (by decide +kernel) (pa_cons (pe_or (pe_cmpR op_eq (pv 6) pe_str (nomark _)) (pe_one (pe_cmpR op_eq (pv 5) pe_int (nomark _)))) pa_nil))) (pa_cons (pe_op op_add (pv 4) (pe_callTy call_int1 (by rfl) T.n_int (by decide +kernel) (pa_cons (pe_cmpR op_in_seq (pv 6) (pe_tup (pa_cons pe_str (pa_cons pe_str pa_nil))) rfl) pa_nil))) pa_nil)) (by rfl))
        (pss_one (ps_if (pt_cmpR op_ne (pv 6) pe_str (nomark _)) (pss_one (ps_par (i := 2) (j := 3) (by rfl) sc_deeper.nd rfl rfl (by decide) rfl rfl (pa_cons (pe_op op_add_str (pe_op op_add_str (pv 6) pe_str) (pv 2)) (pa_cons (pe_op op_add (pv 3) pe_int) pa_nil)) (by rfl))) pss_nil))))))
      (pss_one (ps_ret (pe_tup (pa_cons (pv 2) (pa_cons (pv 3) (pa_cons (pv 4) pa_nil)))))))), ?_⟩
    refine ⟨_, rfl, fa, _, _, _, rfl, rfl, SqT.of hfa, atI_nat (j := 0) rfl, _, rfl, fa, _, _, _, rfl, rfl, SqT.of hfa, atI_nat (j := 1) rfl, _, _, _, rfl, ?_⟩
    refine ⟨_, rfl, p, 9, m, rfl, hb, by omega, by decide, by decide, fun e H1 e0 e1 b1 k1 => ?_⟩
    obtain ⟨n, rfl⟩ : ∃ n : Nat, e = (n : Int) := ⟨e.toNat, by omega⟩
    refine ⟨_, rfl, by omega, by omega, ?_⟩
    rw [Int.toNat_natCast]
    refine for_range (lo := 0) (n := n) (fun i σ Hi => BoxAt Hi p (m + 1 + i) ∧ Kp p H Hi ∧ ∃ (zz : Str) (dd mm : Nat) (t' : LT) (b5 b6 : Option V), (i = 0 → Wr t' zz dd) ∧ (0 < i → Cl t' zz dd) ∧ wfT t' ∧ (tokL t').length = (tokL t).length + mm ∧ zz.length ≤ z.length + 12 * i ∧ Asc zz ∧
        σ = [some (.ref p), some (.ref fa), some (.str zz), some (.int (dd : Nat)), some (.int (mm : Nat)), b5, b6])
      ⟨b1, Kp.eq k1, z, d, 0, t, _, _, fun _ => hwr, fun h => absurd h (Nat.lt_irrefl 0), hwf, rfl, Nat.le_refl _, hA, rfl⟩ (fun i σ Hi hi Pi => ?_) (fun σ Hi Pi => ?_)
    · obtain ⟨bi, ki, zz, dd, mm, t', b5, b6, w0, w1, wf', tk', zl, zA, rfl⟩ := Pi
      have wrz : Wr t' zz dd := by
        by_cases h : i = 0
        · exact w0 h
        · exact (w1 (by omega)).wr
      refine ⟨_, rfl, (by show 6 ≤ sizeLine; decide), fun l nl => ?_⟩
      have S1 := new_same (o := .lst [.str "not", .str "(", .str "(", .str "not", .str "above", .str "parent"]) nl
      have bi1 := bi.mono S1
      have pl := bi.ne nl
      refine ⟨p, l, _, _, rfl, bi1, upd_same, Ne.symm pl, by decide, by decide, by omega, fun x H2 hx b2 k2 => ?_⟩
      have K2 := (ki.trans (Kp.of S1)).trans k2
      obtain ⟨wd, rfl, hwd, hwl, hwA⟩ : ∃ wd : Str, x = .str wd ∧ (wd = "(" ∨ wd ∈ hds) ∧ wd.length ≤ 6 ∧ Asc wd := by
        simp only [List.mem_cons, List.not_mem_nil, or_false] at hx
        rcases hx with rfl | rfl | rfl | rfl | rfl | rfl
        · exact ⟨_, rfl, .inr (by decide +kernel), by decide +kernel, by decide +kernel⟩
        · exact ⟨_, rfl, .inl rfl, by decide +kernel, by decide +kernel⟩
        · exact ⟨_, rfl, .inl rfl, by decide +kernel, by decide +kernel⟩
        · exact ⟨_, rfl, .inr (by decide +kernel), by decide +kernel, by decide +kernel⟩
        · exact ⟨_, rfl, .inr (by decide +kernel), by decide +kernel, by decide +kernel⟩
        · exact ⟨_, rfl, .inr (by decide +kernel), by decide +kernel, by decide +kernel⟩
      -- closed or not
      obtain ⟨cb, hcb⟩ : ∃ cb : Bool, cb = (decide (wd = "(") || decide (i = 0)) := ⟨_, rfl⟩
      obtain ⟨z1, d1, hz1, hd1, c1, l1, A1⟩ : ∃ (z1 : Str) (d1 : Nat), z1 = (if cb = true then clo zz else zz) ∧ (d1 : Int) = (dd : Nat) + (if cb = true then (1 : Int) else 0) ∧ Cl t' z1 d1 ∧ z1.length ≤ zz.length + 4 ∧ Asc z1 := by
        cases cb with
        | true => exact ⟨clo zz, dd + 1, rfl, by simp, Cl.close wrz, by rw [clo_len]; exact Nat.le_refl _, clo_asc zA⟩
        | false =>
          have hi0 : ¬ i = 0 := fun h => by
            rw [decide_eq_true h, Bool.or_true] at hcb
            cases hcb
          exact ⟨zz, dd, rfl, by simp, w1 (by omega), by omega, zA⟩
      have tif : ∀ Kx : V → Hp → Prop, Kx (.str z1) H2 → tIf (tOr (tTest (tOp rEq (tVar 6) (tC (.str "(")))) (tTest (tOp rEq (tVar 5) (tC (.int 0))))) (tOp rAddStr (tOp rAddStr (tC (.str "( ")) (tVar 2)) (tC (.str " )"))) (tVar 2) [some (.ref p), some (.ref fa), some (.str zz), some (.int (dd : Nat)), some (.int (mm : Nat)), some (.int (0 + (i : Nat))), some (.str wd)] H2 Kx := fun Kx kx => by
        have yes : cb = true → (tOp rAddStr (tOp rAddStr (tC (.str "( ")) (tVar 2)) (tC (.str " )"))) [some (.ref p), some (.ref fa), some (.str zz), some (.int (dd : Nat)), some (.int (mm : Nat)), some (.int (0 + (i : Nat))), some (.str wd)] H2 Kx := fun h => by
          rw [hz1, if_pos h] at kx
          exact ⟨_, rfl, _, _, rfl, rfl, by rw [sp2, sizeLine_eq]; omega, _, _, rfl, rfl, by rw [len_app, sp2, sp3, sizeLine_eq]; omega, kx⟩
        refine ⟨_, rfl, rfl, _, rfl, ?_⟩
        rw [dec_str]
        by_cases h1 : wd = "("
        · rw [decide_eq_true h1] at hcb ⊢
          exact iteT (yes hcb)
        · rw [decide_eq_false h1] at hcb ⊢
          refine iteF ⟨_, rfl, rfl, _, rfl, ?_⟩
          by_cases h2 : i = 0
          · rw [decide_eq_true h2] at hcb
            rw [decide_eq_true (show V.int (0 + (i : Nat)) = V.int 0 by rw [h2]; rfl)]
            exact iteT (yes hcb)
          · rw [decide_eq_false h2] at hcb
            rw [decide_eq_false (fun h => h2 (by have := V.int.inj h; omega))]
            rw [hz1, hcb, if_neg (by decide)] at kx
            exact iteF ⟨_, rfl, kx⟩
      refine tif _ ?_
      have tor : ∀ Kx : V → Hp → Prop, Kx (.bl cb) H2 → tOrV (tOp rEq (tVar 6) (tC (.str "("))) (tOp rEq (tVar 5) (tC (.int 0))) [some (.ref p), some (.ref fa), some (.str z1), some (.int (dd : Nat)), some (.int (mm : Nat)), some (.int (0 + (i : Nat))), some (.str wd)] H2 Kx := fun Kx kx => by
        refine ⟨_, rfl, rfl, _, rfl, ?_⟩
        rw [dec_str]
        by_cases h1 : wd = "("
        · rw [decide_eq_true h1, Bool.true_or] at hcb
          rw [decide_eq_true h1]
          rw [hcb] at kx
          exact iteT kx
        · rw [decide_eq_false h1, Bool.false_or] at hcb
          rw [decide_eq_false h1]
          refine iteF ⟨_, rfl, rfl, ?_⟩
          rw [show decide (V.int (0 + (i : Nat)) = V.int 0) = cb from by rw [hcb]; exact decide_eq_decide.mpr ⟨fun h => by have := V.int.inj h; omega, fun h => by rw [h]; rfl⟩]
          exact kx
      refine ⟨_, rfl, ?_⟩
      refine tor _ ?_
      refine .inr ⟨cb, rfl, _, _, rfl, rfl, ?_⟩
      dsimp only
      rw [← hd1]
      refine ⟨_, rfl, _, rfl, (by show 2 ≤ sizeLine; decide), fun t1 nt1 => ?_⟩
      have S3 := new_same (o := .tup [.str "above", .str "parent"]) nt1
      refine ⟨t1, _, rfl, .inr (SqT.of upd_same), rfl, by decide, .inr ⟨_, rfl, _, _, rfl, rfl, _, _, rfl, ?_⟩⟩
      rw [if_neg Bool.false_ne_true, show inV (V.str wd) [.str "above", .str "parent"] = decide (wd ∈ ([("above" : Str), "parent"] : List Str)) from inV_list wd ["above", "parent"]]
      have b3 := b2.mono S3
      have K3 := K2.trans (Kp.of (p := p) S3)
      generalize upd H2 t1 (.tup [.str "above", .str "parent"]) = H3 at *
      have hmem : wd ∈ ([("above" : Str), "parent"] : List Str) ↔ wd ∈ Qp.out := by
        simp only [List.mem_cons, List.not_mem_nil, or_false]
        exact Or.comm
      refine ⟨_, rfl, rfl, _, rfl, ?_⟩
      rw [dec_str]
      by_cases h1 : wd = "("
      · rw [decide_eq_true h1]
        have nin : ¬ wd ∈ ([("above" : Str), "parent"] : List Str) := by
          rw [h1]
          decide +kernel
        rw [decide_eq_false nin]
        refine iteF ⟨b3.le (by omega), K3, z1, d1, mm, t', some (.int (0 + (i : Nat))), some (.str wd), fun h => absurd h (by omega), fun _ => c1, wf', tk', by omega, A1, ?_⟩
        dsimp only
        rw [if_neg Bool.false_ne_true, show ((mm : Nat) : Int) + 0 = (mm : Nat) from Int.add_zero _]
        rfl
      · have hwh : wd ∈ hds := hwd.resolve_left h1
        rw [decide_eq_false h1]
        obtain ⟨m1, hm1, hm1e⟩ : ∃ m1 : Nat, ((mm : Nat) : Int) + (if decide (wd ∈ ([("above" : Str), "parent"] : List Str)) = true then 1 else 0) = (m1 : Nat) ∧ m1 = mm + (if wd ∈ Qp.out then 1 else 0) := by
          by_cases k : wd ∈ Qp.out
          · exact ⟨mm + 1, by rw [if_pos (decide_eq_true (hmem.mpr k))]; rfl, by rw [if_pos k]⟩
          · exact ⟨mm, by rw [if_neg (fun z => k (hmem.mp (of_decide_eq_true z)))]; exact Int.add_zero _, by rw [if_neg k]; rfl⟩
        dsimp only
        rw [hm1]
        refine iteT ⟨_, rfl, _, _, rfl, rfl, by rw [sp1, sizeLine_eq]; omega, _, rfl, _, _, rfl, rfl, by rw [len_app, sp1, sizeLine_eq]; omega, ?_⟩
        refine ⟨_, rfl, _, _, rfl, rfl, _, _, rfl, ?_⟩
        refine ⟨b3.le (by omega), K3, wd ++ " " ++ z1, d1 + 1, m1, .un wd t', _, _, fun h => absurd h (by omega), fun _ => c1.head hwh, ⟨hwh, wf'⟩, ?_, ?_, app_asc (app_asc hwA (by decide +kernel)) A1, rfl⟩
        · rw [tok_un, tk', hm1e]
          omega
        · rw [len_app, len_app, sp1]
          omega
    · obtain ⟨bi, ki, zz, dd, mm, t', b5, b6, w0, w1, wf', tk', zl, zA, rfl⟩ := Pi
      refine ⟨_, rfl, _, rfl, _, rfl, (by show 3 ≤ sizeLine; decide), fun r nr => ?_⟩
      have wrz : Wr t' zz dd := by
        by_cases h : n = 0
        · exact w0 h
        · exact (w1 (by omega)).wr
      have S1 := new_same (o := .tup [.str zz, .int (dd : Nat), .int (mm : Nat)]) nr
      exact q r zz dd mm t' _ (ki.trans (Kp.of S1)) ((bi.mono S1).le (by omega)) upd_same wrz wf' tk' (by omega) zA
end
end Q2

set_option linter.all false
set_option maxRecDepth 100000
set_option maxHeartbeats 4000000
/-! comprehensions whose element wants a token to be out; how a token comes to be out -/
namespace Wt
open PySem PySem.Spec PyProof.Rows L2
/-- behind it a token is out -/
def PE1 (X : Cx) (e : Expr) (te : TE) : Prop := ∀ (pins : List (Addr × Obj)) (s : Shared) (σ : L2.St) (H : Hp) (Q : VK), Inv X pins σ H s → te σ H Q →
  wpAny (model X.prog X.w) X.A (eval e X.env) (fun v s1 => 1 ≤ s1.toks ∧ EP X pins σ Q v s1) X.xe s
theorem out {α : Type} {M : Model} {A : Around} {s : Shared} {t : Sem α} {Q : α → Shared → Prop} {E : Value → Shared → Prop} (hn : 1 ≤ s.toks) (h : wpAny M A t Q E s) : wpAny M A t (fun a s' => 1 ≤ s'.toks ∧ Q a s') E s :=
  wpAny_mono (PySem.wpAny_toks_of hn h) (fun _ _ q => q) fun _ _ q => q.2
section
variable {X : Cx} {a b e : Expr} {es : List Expr} {ta tb te : TE} {ts : TA} {pos : Pos}
theorem pe1_str {x : Str} {j : Nat} : PE1 X (.Constant (.str x) j pos) (tC (.str x)) := fun pins s σ H Q I h => Calls.Constant_str ⟨Nat.le_add_left 1 _, .str x, H, I.tok _, ⟨_, rfl⟩, h⟩
theorem pe1_op {op : Operator} {r : R2} (ho : OpR X (binaryOp op) r) (pa : PE1 X a ta) (pb : PE X b tb) : PE1 X (.BinOp a op b pos) (tOp r ta tb) := fun pins s σ H Q I h =>
  wpAny_BinOp (thn (pa pins s σ H _ I h) fun v s1 ⟨k, x, H1, I1, r1, q1⟩ => wpAny_mono (out k (pb.run pins s1 σ H1 _ I1 q1)) (fun u s2 ⟨k2, y, H2, I2, r2, q2⟩ => out k2 (ho pins s2 σ H2 x y v u Q I2 r1 r2 q2)) fun _ _ z => z)
/-- a list whose first item gives one out -/
theorem pe1_lst (pa : PE1 X e te) (pr : PA X es ts) (hs : starEach (e :: es) X.env = (false, eval e X.env) :: starEach es X.env := by rfl) : PE1 X (.List (e :: es) pos) (tLst (tCons te ts)) := by
  intro pins s σ H Q I h
  refine wpAny_List_spliced ?_
  rw [hs]
  refine Calls.spliced_cons (thn (pa pins s σ H _ I h) fun v s1 q => ?_)
  obtain ⟨k, x, H1, I1, rx, q1⟩ := q
  refine wpAny_mono (out k (pr.run pos pins s1 σ H1 _ I1 q1)) (fun us s2 q2 => ?_) fun _ _ z => z
  obtain ⟨k2, xs, H2, I2, rs, z, q3⟩ := q2
  have nf : H2 s2.heap.objs.size = none := I2.hok.fresh (Nat.le_refl _)
  have rv : Vals (x :: xs) (v :: us) := .cons rx rs
  refine ⟨by rw [← rv.length]; exact z, k2, .ref s2.heap.objs.size, upd H2 s2.heap.objs.size (.lst (x :: xs)), I2.laid (t' := s2.toks) (fun c o w => Heap.get?_push_of_some _ w) (Nat.le_refl _) ⟨z, v :: us, 0, rv, Heap.get?_push_size _ rfl⟩, rfl, q3 _ nf⟩
/-- name = e, and then a token is out -/
theorem pss_set1 {i : Nat} {x : Str} {pos' : Pos} {rest : List Stmt} {u : TS} (hN : X.N.Nodup) (hi : X.N[i]? = some x) (hx : Loc X.env.scope x) (he : PE1 X e te) (h2 : PSsT X rest u) (hs : swapsWith e (some (.Name x pos')) pos.line X.env = pure false := by rfl)
    (hf : X.fn x = true ∨ X.env.scope.names.lookup x = some .local := by first | exact .inl rfl | exact .inr rfl | assumption) : PSs X (.Assign [.Name x pos'] e pos :: rest) (tSeq (tAsg te (gName i)) u) := by
  refine ⟨fun pins s σ H D I h => ?_⟩
  refine wpAny_execs_cons (wpAny_Assign_Name (thn (he pins s σ H _ I h) fun v s1 q => ?_) hs)
  obtain ⟨k, y, H1, I1, ry, q1⟩ := q
  refine wpAny_mono (out k (store_ok (v := y) (u := v) (Q := fun _ s2 => Inv X pins (σ.set i (some y)) H1 s2) I1 hN hi hx ry (fun _ I2 => I2) hf)) (fun _ s2 q2 => ?_) fun _ _ z => z
  exact h2 pins s2 _ H1 D q2.1 q2.2 q1
end
/-! [elt for target in iter], elt wants a token -/
section
variable {X : Cx} {pins : List (Addr × Obj)} {s : Shared} {σ : L2.St} {H : Hp} {Q : VK} {elt tg iter : Expr} {scope : Scope} {own : List (Str × Nat)} {pos pos' : Pos} {wi : TI} {g : TG} {te : TE} {use : Option (Value → Sem Unit)} {Qf : Value → Shared → Prop}
/-- the context of the block -/
abbrev Bk (X : Cx) (scope : Scope) (s : Shared) (H : Hp) (C : Addr) (cl : List (Str × Addr)) (fp : List Addr) : Cx := X.blk s H scope (compEnvC scope cl C X.env) fp
theorem turns (hc : X.calm = true) {it D C : Addr} {fp : List Addr} {tn : Nat → Heap → Prop} {J : It} {s3 s4 : Shared} {H3 : Hp} {cl : List (Str × Addr)} {W : Nat → Nat → Hp → Prop} {m0 : Nat}
    (T : Turn X.prog X.w X.K tg J fp it tn) (pg : PG (Bk X scope s3 H3 C cl fp) tg g) (pe : PET (Bk X scope s3 H3 C cl fp) elt te)
    (step : ∀ i m Hx, W i m Hx → (J.stop i Hx ∧ Q (.ref D) Hx) ∨ (J.go i Hx ∧ ∃ Nx : Hp → Prop, (∀ H', Nx H' → ∃ m', m' < m ∧ W (i + 1) m' H') ∧ ∀ x H', J.yld i Hx x H' → g x (wipe σ (own.map (·.2))) H' fun σ2 H2 => wipe σ2 (own.map (·.2)) = wipe σ (own.map (·.2)) ∧
      te σ2 H2 fun y H4 => ∃ acc, H4 D = some (.lst acc) ∧ acc.length < sizeLine ∧ Nx (upd H4 D (.lst (acc ++ [y])))))
    {R : Result → Shared → Prop} (fin : ∀ (s' : Shared) (H' : Hp), Inv (Bk X scope s3 H3 C cl fp) [] (wipe σ (own.map (·.2))) H' s' → Q (.ref D) H' → R (.ok .next) s')
    (I4 : Inv (Bk X scope s3 H3 C cl fp) [] (wipe σ (own.map (·.2))) H3 s4) (k4 : 1 ≤ s4.toks) (t4 : tn 0 s4.heap) (n4 : ∀ b ∈ fp, H3 b = none) (w4 : W 0 m0 H3) :
    codeAny (model X.prog X.w) X.A (.compLoop (.ListComp elt [⟨tg, iter, [], 0⟩] scope pos) 0 (.ref it) (.ref D) (compEnvC scope cl C X.env)) R s4 := by
  have foot : ∀ {σx : L2.St} {Hx : Hp} {sx : Shared}, Inv (Bk X scope s3 H3 C cl fp) [] σx Hx sx → (∀ b ∈ fp, Hx b = none) → ∀ b ∈ fp, FpOk (Bk X scope s3 H3 C cl fp) [] Hx b := fun Ix nx b hb =>
    ⟨nx b hb, (Ix.ok.exf b hb).1, Ix.ok.exfs b hb, .inl hb, fun x c w => (Ix.ok.exf b hb).2 x c w, fun p hp => absurd (show p ∈ ([] : List (Addr × Obj)) ++ [] from hp) (by simp)⟩
  refine compLoop_any (fun n sx => 1 ≤ sx.toks ∧ ∃ i Hx, Inv (Bk X scope s3 H3 C cl fp) [] (wipe σ (own.map (·.2))) Hx sx ∧ tn i sx.heap ∧ (∀ b ∈ fp, Hx b = none) ∧ W i n Hx) ?_ m0 ⟨k4, 0, H3, I4, t4, n4, w4⟩
  rintro n s5 ⟨k5, i, H5, I5, t5, n5, w5⟩
  rcases step i n H5 w5 with ⟨stop, qq⟩ | ⟨go, Nx, hNx, nxt⟩
  · refine thnF (T.done (Bk X scope s3 H3 C cl fp) rfl rfl rfl hc i [] s5 _ H5 (fun _ _ => False) I5 (foot I5 n5) t5 stop) ?_
    rintro r s6 ⟨rfl, I6⟩
    exact fin s6 H5 I6 qq
  · refine thnF (out k5 (T.item (Bk X scope s3 H3 C cl fp) rfl rfl rfl hc i [] s5 _ H5 (fun _ _ => False) I5 (foot I5 n5) t5 go)) ?_
    rintro r s6 ⟨k6, u, rfl, h6⟩
    refine thnF (out k6 h6) ?_
    rintro _ s7 ⟨k7, x, H7, I7, r7, y7, t7, n7⟩
    have J7 := I7.pinned (foot I7 n7) (T.obj _ _ t7)
    refine wpAny_mono (out k7 (pg.run _ s7 _ H7 x u _ J7 r7 (nxt x H7 y7))) ?_ fun _ _ z => False.elim z
    rintro _ s8 ⟨k8, σ8, H8, I8, hw8, q8⟩
    refine wpAny_tests_nil ?_
    rw [if_pos rfl]
    refine wpAny_mono (out k8 (pe _ s8 σ8 H8 _ k8 I8 q8)) ?_ fun _ _ z => False.elim z
    rintro v s9 ⟨k9, y, H9, I9, r9, acc, eD, hz, nx⟩
    refine wpAny_mono (out k9 (app_ok (E := fun _ _ => False) (Q := fun _ sx => ∃ Ix : Inv (Bk X scope s3 H3 C cl fp) ([] ++ pinsAt fp s7.heap) σ8 (upd H9 D (.lst (acc ++ [y]))) sx, True) (X := Bk X scope s3 H3 C cl fp) I9 eD hz r9 fun sx Ix => ⟨Ix, trivial⟩)) ?_ fun _ _ z => False.elim z
    rintro _ s10 ⟨k10, I10, _⟩
    obtain ⟨m', hm, w'⟩ := hNx _ nx
    have hold : ∀ b ∈ fp, ∀ o, s7.heap.get? b = some o → s10.heap.get? b = some o ∧ (upd H9 D (.lst (acc ++ [y]))) b = none := fun b hb o w => by
      have z := I10.pin (b, o) (List.mem_append_right _ (List.mem_append_right _ (mem_pinsAt hb w)))
      exact ⟨z.1, z.2.1⟩
    have hl : (wipe σ (own.map (·.2))).length = σ8.length := by rw [← hw8, wipe_length]
    refine ⟨m', hm, k10, i + 1, _, (I10.unpinned (pins := [])).weak hl (fun j v2 w => by rw [← hw8] at w; exact (wipe_some w).1), T.keep _ _ _ t7 fun b hb o w => (hold b hb o w).1, fun b hb => ?_, w'⟩
    obtain ⟨o, w, _⟩ := T.obj _ _ t7 b hb
    exact (hold b hb o w).2
theorem walk (hc : X.calm = true) (hN : X.N.Nodup) (I : Inv X pins σ H s) (k : 1 ≤ s.toks) (hi : PI X tg iter wi) (ok : BlkOk X.N X.env.scope scope own)
    (hg : ∀ (s : Shared) (H : Hp) (C : Addr) (cl : List (Str × Addr)) (fp : List Addr), PG (Bk X scope s H C cl fp) tg g) (he : ∀ (s : Shared) (H : Hp) (C : Addr) (cl : List (Str × Addr)) (fp : List Addr), PET (Bk X scope s H C cl fp) elt te)
    (fold : ∀ x, foldedSetIterable iter X.env x = pure x) (h : tLc wi g tYes te (own.map (·.2)) σ H Q)
    (back : ∀ D C sx m Hx, Inv X pins σ Hx sx → Q (.ref D) Hx → sx.heap.Ns C m → FpOk X pins Hx C → compPost (model X.prog X.w) X.A X.xe use Qf (.ref D) C (.ok .next) sx) :
    wpAny (model X.prog X.w) X.A (comprehension (.ListComp elt [⟨tg, iter, [], 0⟩] scope pos) scope X.env pos' (newList []) false (eval iter X.env) use) Qf X.xe s := by
  have cells : ∀ y ∈ scope.names, y.2 = .free → ∃ c, X.env.cells.lookup y.1 = some c := fun y hy w => (ok.free y hy w).elim (fun z => I.ok.has _ (.inl z)) (fun z => I.ok.has _ (.inr z))
  apply wpAny_comprehension_free (use := use) rfl fold (closure_ok cells) ok.kind fun y hy w => by rw [ok.uniq y hy, w]
  refine wpAny_mono (out k (hi.run pins s σ H _ I h)) (fun xv s1 ⟨k1, hx⟩ => wpAny_mono (out k1 hx) (fun itv s2 ⟨k2, h2⟩ => ?_) fun _ _ z => z) fun _ _ z => z
  obtain ⟨it, fp, tn, J, H2, rfl, I2, T, st2, f2, q⟩ := h2
  refine wpAny_newObj_type (newEnv_comp ?_) (Nat.zero_le _)
  have nD : H2 s2.heap.objs.size = none := I2.hok.fresh (Nat.le_refl _)
  generalize eD : s2.heap.objs.size = D at nD
  obtain ⟨W, ⟨m0, w0⟩, step⟩ := q D nD
  generalize e3 : ({ s2 with heap := s2.heap.push { cls := .type "list", data := .seq ([] : List Value).toArray } } : Shared) = s3
  have p3 : s3.heap = s2.heap.push { cls := .type "list", data := .seq ([] : List Value).toArray } := by rw [← e3]
  have k3 : 1 ≤ s3.toks := by
    rw [← e3]
    exact k2
  have I3 : Inv X pins σ (upd H2 D (.lst [])) s3 := by
    rw [← e3]
    refine I2.laid (t' := s2.toks) (fun c o w => Heap.get?_push_of_some _ w) (Nat.le_of_eq eD) ⟨Nat.zero_le _, [], 0, .nil, ?_⟩
    rw [← eD]
    exact Heap.get?_push_size _ rfl
  have low : ∀ c ∈ fp, c < s2.heap.objs.size := fun c hc => by
    obtain ⟨o, w, _⟩ := T.obj _ _ st2 c hc
    exact Heap.lt_size w
  have f3 : ∀ c ∈ fp, FpOk X pins (upd H2 D (.lst [])) c ∧ c < s3.heap.objs.size := fun c hc => by
    have lc := low c hc
    refine ⟨⟨(upd_ne (by rw [← eD]; exact Nat.ne_of_lt lc)).trans (f2 c hc).1, (f2 c hc).2⟩, ?_⟩
    rw [p3, Heap.size_push]
    exact Nat.lt_succ_of_lt lc
  have t3 : tn 0 s3.heap := T.keep _ _ _ st2 fun c _ o w => by
    rw [p3]
    exact Heap.get?_push_of_some _ w
  have I4 := block_start I3 ok hN f3
  generalize hcl : cellsFrom (s3.heap.objs.size + 1) scope.names (cloFrom X.env.cells scope.names []) = cl at I4
  generalize eC : s3.heap.objs.size = C at I4
  generalize e4 : ({ s3 with heap := pushCells (s3.heap.push { cls := .type "dict", data := .dict #[] }) scope.names } : Shared) = s4 at I4
  have k4 : 1 ≤ s4.toks := by
    rw [← e4]
    exact k3
  have t4 : tn 0 s4.heap := T.keep _ _ _ t3 fun c _ o w => by
    rw [← e4]
    exact pushCells_keeps _ _ _ _ (Heap.get?_push_of_some _ w)
  have cl0 : cellsFrom (s3.heap.objs.size + 1) scope.names (cloFrom X.env.cells scope.names []) = cl := hcl
  have body : codeAny (model X.prog X.w) X.A (.compLoop (.ListComp elt [⟨tg, iter, [], 0⟩] scope pos) 0 (.ref it) (.ref D) (compEnvC scope cl C X.env)) (compPost (model X.prog X.w) X.A X.xe use Qf (.ref D) C) s4 := by
    refine turns (Q := Q) (own := own) (σ := σ) (H3 := upd H2 D (.lst [])) (s3 := s3) (W := W) hc T (hg _ _ _ _ _) (he _ _ _ _ _) (fun i m Hx w => ?_) (fun sx Hx Ix qx => ?_) I4 k4 t4 (fun c hc => (f3 c hc).1.1) w0
    · exact step i m Hx w
    · have I7 : Inv X pins σ Hx sx := I3.call' (ch := fp) Ix.os Ix.base Ix.hok Ix.bare fun c hc => ⟨(f3 c hc).1.2.2.2.1, (f3 c hc).1.2.1, (f3 c hc).1.2.2.2.2.1, (f3 c hc).1.2.2.2.2.2⟩
      have nC : Hx C = none := Ix.free
      obtain ⟨m, ns, _⟩ := Ix.loc
      exact back D C sx m Hx I7 qx ns (I3.fpOk (Nat.le_of_eq eC) nC)
  have all := codeAny_compStart_list body (T.self X.A 0 _ _ _ t4 body)
  exact all
/-- name = [elt for target in iter], a token being out -/
theorem pst_setLc {i : Nat} {y : Str} {py spos : Pos} (hc : X.calm = true) (hN : X.N.Nodup) (hy : X.N[i]? = some y) (hl : X.env.scope.names.lookup y = some .local) (sw : swapsWith (.ListComp elt [⟨tg, iter, [], 0⟩] scope pos) (some (.Name y py)) spos.line X.env = pure true)
    (hi : PI X tg iter wi) (ok : BlkOk X.N X.env.scope scope own) (hg : ∀ (s : Shared) (H : Hp) (C : Addr) (cl : List (Str × Addr)) (fp : List Addr), PG (Bk X scope s H C cl fp) tg g)
    (he : ∀ (s : Shared) (H : Hp) (C : Addr) (cl : List (Str × Addr)) (fp : List Addr), PET (Bk X scope s H C cl fp) elt te) (fold : ∀ x, foldedSetIterable iter X.env x = pure x := by intro _; rfl) :
    PST X (.Assign [.Name y py] (.ListComp elt [⟨tg, iter, [], 0⟩] scope pos) spos) (tAsg (tLc wi g tYes te (own.map (·.2))) (gName i)) := by
  intro pins s σ H Dn k I h
  rw [exec_Assign_Name_used _ _ _ _ sw]
  refine wpAny_bind (wpAny_standAt (wpAny_bind (wpAny_bind ?_)))
  have h' : tLc wi g tYes te (own.map (·.2)) σ H (fun x H1 => gName i x σ H1 Dn.nx) := h
  refine thn (walk (Qf := fun _ sx => SP X pins Dn .next sx) hc hN I k hi ok hg he fold h' fun L C sx m Hx Ix q ns f => ?_) fun _ sx hq => wpAny_pure (wpAny_pure hq)
  obtain ⟨f0, f1, f2, f3, f4, f5⟩ := f
  refine wpAny_assign_Name (store_ok2 (v := V.ref L) Ix hN hy (.inl hl) rfl (fun s2 I2 ⟨c, sb, hx⟩ => ?_) (.inr hl))
  have nc : C ≠ c := hx.elim (fun z => by rw [z]; exact f1) (fun z w => f4 y c z w.symm)
  refine ⟨m, ns.sameBut sb nc, fun h3 sb3 => ?_⟩
  exact ⟨_, Hx, I2.turned (t' := s2.toks) (fun b o hb w => (sb3.2 b hb).trans w) f0 f1 f3 f4 f5, q⟩
end
/-! what is done with a text that wants a token -/
def tM2 (r : V → List V → Hp → VK → Prop) (to te tf : TE) : TE := fun σ H Q => to σ H fun x H1 => (∃ a, x = .str a) ∧ te σ H1 fun y H2 => tf σ H2 fun z H3 => r x [y, z] H3 Q
section
variable {X : Cx} {o e f : Expr} {to te tf : TE}
theorem pet_m2 {id : String} {name : Str} {apos pos : Pos} {r : V → List V → Hp → VK → Prop} (slot : Slot "str" name id) (ty : typeOf (.builtin id) = pure (.type "method_descriptor")) (rule : MtR X id r) (po : PET X o to) (pe : PE X e te) (pf : PE X f tf)
    (hs : starEach [e, f] X.env = [(false, eval e X.env), (false, eval f X.env)] := by rfl) (hb : attributeBase o name X.env (eval o X.env) = eval o X.env := by rfl) (hl : (apos.endLine == pos.line) = true := by rfl) :
    PET X (.Call (.Attribute o name apos) [e, f] [] pos) (tM2 r to te tf) := by
  intro pins s σ H Q k I h
  refine PySem.Call_method2 hb hs hl (thn (po pins s σ H _ k I h) fun v s1 ⟨x, H1, I1, r1, q1⟩ => ?_)
  obtain ⟨⟨a, rfl⟩, q1⟩ := q1
  obtain ⟨t, rfl⟩ := _root_.id r1
  refine ⟨"str", _, PySem.F.plainAttrs_str, slot, ty, typeIs_str _ _ _, (fun _ w => nomatch w), Calls.callWith_builtin rfl (Calls.evalArgs_plain (Calls.spliced_cons ?_))⟩
  refine thn (pe.run pins s1 σ H1 _ I1 q1) fun u s2 ⟨y, H2, I2, r2, q2⟩ => Calls.spliced_cons (thn (pf.run pins s2 σ H2 _ I2 q2) fun u3 s3 ⟨z, H3, I3, r3, q3⟩ => Calls.spliced_nil ?_)
  exact rule pins s3 σ H3 _ [y, z] _ [u, u3] Q I3 r1 (.cons r2 (.cons r3 .nil)) q3
theorem pet_ix {pos : Pos} {r : R2} (hx : IxR X r) (po : PET X o to) (pf : PE X f tf) (hs : PlainIx f) : PET X (.Subscript o f pos) (tOp r to tf) := fun pins s σ H Q k I h =>
  Subscript_ (thn (po pins s σ H _ k I h) fun v s1 ⟨x, H1, I1, r1, q1⟩ => thn (pf.run pins s1 σ H1 _ I1 q1) fun u s2 ⟨y, H2, I2, r2, q2⟩ => hx o f pins s2 σ H2 x y v u Q I2 r1 r2 q2 (hs _ _))
end
end Wt

set_option linter.all false
set_option maxRecDepth 100000
set_option maxHeartbeats 16000000
set_option pp.maxSteps 150
set_option maxErrors 5000
namespace Q2
open PySem PySem.Spec PyProof.Rows L2 Gx Qp Qh
/-! ### the law itself -/
theorem turns_le (n : Nat) : ((if (if (n : Int) < 6 then (n : Int) else 6) > 2 then (if (n : Int) < 6 then (n : Int) else 6) else 2).toNat) ≤ 6 := by split <;> split <;> omega
abbrev s_law : Stmt := topS 48
abbrev n_law : List Str := ["_law_script", "_law_k", "_law_box_here", "_law_caps_here", "_law_turn", "_law_tree", "_law_text", "_law_deep", "_law_excess_here", "_law_plain", "_law_more", "_law_found", "_law_many", "_law_outer", "_law_some", "_law_inner", "_law_unlike", "_law_a", "_law_b", "_law_same", "_law_word"]
theorem sc_law : FnScope n_law ["_law_script"] (defScope s_law) := ⟨rfl, rfl, rfl, by decide +kernel, rfl, by decide +kernel, by decide +kernel⟩
structure NmL (mg : Str → Option Value) (K : PySem.W.Frag) (f_box f_take f_caps f_wish f_wr f_sh f_ex f_qr f_far f_dee f_tok f_mix : Addr) : Prop where
  g_box : mg "_law_box" = some (.ref f_box)
  k_box : PySem.W.keepIn K (.ref f_box) = true
  g_take : mg "_law_take" = some (.ref f_take)
  k_take : PySem.W.keepIn K (.ref f_take) = true
  g_caps : mg "_law_caps" = some (.ref f_caps)
  k_caps : PySem.W.keepIn K (.ref f_caps) = true
  g_wish : mg "_law_wish" = some (.ref f_wish)
  k_wish : PySem.W.keepIn K (.ref f_wish) = true
  g_wr : mg "_law_written" = some (.ref f_wr)
  k_wr : PySem.W.keepIn K (.ref f_wr) = true
  g_sh : mg "_law_shown" = some (.ref f_sh)
  k_sh : PySem.W.keepIn K (.ref f_sh) = true
  g_ex : mg "_law_excess" = some (.ref f_ex)
  k_ex : PySem.W.keepIn K (.ref f_ex) = true
  g_qr : mg "_law_question_read" = some (.ref f_qr)
  k_qr : PySem.W.keepIn K (.ref f_qr) = true
  g_far : mg "_law_far_right" = some (.ref f_far)
  k_far : PySem.W.keepIn K (.ref f_far) = true
  g_dee : mg "_law_deeper" = some (.ref f_dee)
  k_dee : PySem.W.keepIn K (.ref f_dee) = true
  g_tok : mg "_law_tokens" = some (.ref f_tok)
  k_tok : PySem.W.keepIn K (.ref f_tok) = true
  g_mix : mg "_law_mixed" = some (.ref f_mix)
  k_mix : PySem.W.keepIn K (.ref f_mix) = true
  n_range : mg "range" = none
  n_max : mg "max" = none
  n_min : mg "min" = none
  n_len : mg "len" = none
  n_set : mg "set" = none
  n_int : mg "int" = none
def spLaw (K : PySem.W.Frag) : Sp := fun vs H Q _ => ∃ (l : Addr) (ns : List Int), vs = [.ref l] ∧ SqL K H l (ns.map V.int) ∧ ns.length ≤ 100 ∧ ∀ H' : Hp, Q (.bl true) H'
def dueW (t : LT) (d : Nat) : Str × Str := match exL t d with
  | none => ("text", shL t)
  | some m => ("many", m)
theorem exL_asc {t : LT} {d : Nat} {m : Str} (h : exL t d = some m) : Asc m := by
  unfold exL at h
  split at h
  · cases h
    decide +kernel
  · split at h
    · cases h
      decide +kernel
    · split at h
      · cases h
        decide +kernel
      · cases h
theorem dueW_asc {t : LT} (w : wfT t) (d : Nat) : Asc (dueW t d).1 ∧ Asc (dueW t d).2 := by
  unfold dueW
  cases h : exL t d with
  | none => exact ⟨(by decide +kernel : Asc "text"), sh_asc w⟩
  | some m => exact ⟨(by decide +kernel : Asc "many"), exL_asc h⟩
theorem qr_due {H : Hp} {t : Addr} {v : LT} {z : Str} {d : Nat} (wv : wfT v) (hw : Wr v z d) (k : QRAt H t (readQ (wordsL z))) : H t = some (.tup [.str (dueW v d).1, .str (dueW v d).2]) := by
  rw [read_wr hw wv] at k
  unfold dueW
  cases h : exL v d with
  | none =>
    rw [h] at k
    have k' : H t = some (.tup [.str "text", .str (txt (nrm v))]) := k
    rw [k', txt_nrm wv]
  | some m =>
    rw [h] at k
    exact k
/-- one of a row: a question under an outer word; what is in it -/
structure RowZ (z : Str) : Prop where
  one : ∃ t d, One z t d
  ix : (Txt.splitMax (repl z) " " 1)[1]? = some (inn z)
  len : z.length ≤ 30
theorem RowZ.of {z : Str} (h : ∃ t d, One z t d) : RowZ z := by
  obtain ⟨t, d, o⟩ := h
  exact ⟨⟨t, d, o⟩, o.ix, o.len⟩
theorem repl_len (z : Str) : (Txt.replace z "( " "").length ≤ z.length ∧ (repl z).length ≤ z.length := by
  have a := TK.replace_len z "( " ""
  have b := TK.replace_len (Txt.replace z "( " "") " )" ""
  rw [show ("" : Str).length = 0 from by decide +kernel, Nat.mul_zero] at a b
  exact ⟨a, by unfold repl; omega⟩
def row5 (a b : Str) : List Str := ["parent is " ++ a, "above is " ++ b, "above is " ++ a, "parent ( is " ++ b ++ " )", "parent above root"]
theorem row5_one {a b : Str} (ha : CapX a) (hb : CapX b) : ∀ z ∈ row5 a b, ∃ t d, One z t d := fun z hz => by
  simp only [row5, List.mem_cons, List.not_mem_nil, or_false] at hz
  rcases hz with rfl | rfl | rfl | rfl | rfl
  · exact one_p ha
  · exact one_a hb
  · exact one_a ha
  · exact one_c hb
  · exact one_r
theorem inn_of {z y : Str} (h : okIn z y = true) : inn z = y := (okIn_get h).2
theorem row5_count {a b : Str} (ha : CapX a) (hb : CapX b) : (row5 a b).count ("parent above root" : Str) = 1 := by
  have ir : inn "parent above root" = "above root" := inn_of in2
  have ne : ∀ {z c : Str}, okIn z ("is " ++ c) = true → ¬ z = "parent above root" := fun h e => by
    have k := inn_of h
    rw [e, ir] at k
    exact ne_ar k.symm
  have a1 := in_parts ha
  have b1 := in_parts hb
  unfold row5
  rw [List.count_cons_of_ne (ne a1.1), List.count_cons_of_ne (ne b1.2.1), List.count_cons_of_ne (ne a1.2.1), List.count_cons_of_ne (ne b1.2.2), List.count_cons_self, List.count_nil]
theorem due_deep {t : LT} {d : Nat} (h : ¬ (tokL t).length > 8) : (decide ((dueW t d).1 = ("many" : Str)) && decide ((dueW t d).2 = ("deep" : Str))) = decide ((6 : Int) < (d : Nat)) := by
  unfold dueW exL
  rw [if_neg h]
  by_cases k : d > 6
  · rw [if_pos k, decide_eq_true (show (6 : Int) < (d : Nat) by omega)]
    show (decide (("many" : Str) = "many") && decide (("deep" : Str) = "deep")) = true
    decide +kernel
  · rw [if_neg k, decide_eq_false (show ¬ (6 : Int) < (d : Nat) by omega)]
    by_cases m : Ws.met (outsL t) (outsL t).length > 2
    · rw [if_pos m]
      show (decide (("many" : Str) = "many") && decide (("outer" : Str) = "deep")) = false
      decide +kernel
    · rw [if_neg m]
      show (decide (("text" : Str) = "many") && _) = false
      rw [decide_eq_false (by decide +kernel)]
      rfl
theorem due_atoms {t : LT} {d : Nat} (h : (tokL t).length > 8) : dueW t d = (("many" : Str), ("atoms" : Str)) := by
  unfold dueW exL
  rw [if_pos h]
theorem rows_due {zs : List Str} (hn : zs ≠ []) (h3 : zs.length ≤ 3) (hc1 : zs.count ("parent above root" : Str) ≤ 1) (h : ∀ z ∈ zs, ∃ t d, One z t d) (us : List Str) (hus : ∀ x, x ∈ us ↔ x ∈ zs.map inn ∨ (("above root" : Str) ∈ zs.map inn ∧ x = "root")) :
    ∃ a b : Str, Asc a ∧ Asc b ∧ (∀ (H : Hp) (t : Addr), QRAt H t (readQ (wordsL (Str.join " or " zs))) → H t = some (.tup [.str a, .str b])) ∧
      (decide (a = ("many" : Str)) && decide (b = ("outer" : Str))) = decide ((2 : Int) < (Ws.met us us.length : Nat)) ∧ a ≠ "other" ∧ (Str.join " or " zs).length ≤ 40 * zs.length ∧ Asc (Str.join " or " zs) := by
  obtain ⟨T, d, w, wf, d2, tk, ou, le, as⟩ := rows_one zs hn h
  refine ⟨(dueW T d).1, (dueW T d).2, (dueW_asc wf d).1, (dueW_asc wf d).2, fun H t k => qr_due wf w k, ?_, ?_, le, as⟩
  · have e : Ws.met us us.length = Ws.met (outsL T) (outsL T).length := met_same fun x => (hus x).trans (ou x).symm
    rw [e]
    unfold dueW exL
    rw [if_neg (by omega), if_neg (by omega)]
    by_cases k : Ws.met (outsL T) (outsL T).length > 2
    · rw [if_pos k, decide_eq_true (show (2 : Int) < (Ws.met (outsL T) (outsL T).length : Nat) by omega)]
      show (decide (("many" : Str) = "many") && decide (("outer" : Str) = "outer")) = true
      decide +kernel
    · rw [if_neg k, decide_eq_false (show ¬ (2 : Int) < (Ws.met (outsL T) (outsL T).length : Nat) by omega)]
      show (decide (("text" : Str) = "many") && _) = false
      rw [decide_eq_false (by decide +kernel)]
      rfl
  · unfold dueW
    cases exL T d with
    | none => exact (by decide +kernel : ("text" : Str) ≠ "other")
    | some m => exact (by decide +kernel : ("many" : Str) ≠ "other")
theorem size_at {d : Int} (h0 : 0 ≤ d) (h6 : d < 6) : ∃ n : Nat, atI [V.int 7, .int 8, .int 8, .int 9, .int 10, .int 3] d = some (.int (n : Nat)) ∧ 1 ≤ n ∧ n ≤ 10 := by
  have : d = 0 ∨ d = 1 ∨ d = 2 ∨ d = 3 ∨ d = 4 ∨ d = 5 := by omega
  rcases this with rfl | rfl | rfl | rfl | rfl | rfl
  · exact ⟨7, atI_nat (j := 0) rfl, by decide, by decide⟩
  · exact ⟨8, atI_nat (j := 1) rfl, by decide, by decide⟩
  · exact ⟨8, atI_nat (j := 2) rfl, by decide, by decide⟩
  · exact ⟨9, atI_nat (j := 3) rfl, by decide, by decide⟩
  · exact ⟨10, atI_nat (j := 4) rfl, by decide, by decide⟩
  · exact ⟨3, atI_nat (j := 5) rfl, by decide, by decide⟩
theorem sum_len {n : Nat} : ∀ zs : List Str, (∀ z ∈ zs, z.length ≤ n) → (zs.map (·.length)).sum ≤ n * zs.length
  | [], _ => Nat.le_refl _
  | z :: zs, h => by
    have a := sum_len zs fun x hx => h x (List.mem_cons_of_mem _ hx)
    have b := h z (List.mem_cons_self ..)
    rw [List.map_cons, List.sum_cons, List.length_cons, Nat.mul_add]
    omega
theorem flat_strs : ∀ zs : List Str, (zs.map V.str).all flatV = true
  | [] => rfl
  | z :: zs => by
    rw [List.map_cons, List.all_cons, flat_strs zs]
    rfl
theorem take_snoc {zs : List Str} {i : Nat} {z : Str} (h : zs[i]? = some z) : zs.take (i + 1) = zs.take i ++ [z] := by
  rw [List.take_add_one, h]
  rfl
section
variable {P : Program} {w : World} {K : PySem.W.Frag} {mg : Str → Option Value} {base : Heap}
theorem ok_law {f f_box f_take f_caps f_wish f_wr f_sh f_ex f_qr f_far f_dee f_tok f_mix : Addr} {fd fd_box fd_take fd_caps fd_wish fd_wr fd_sh fd_ex fd_qr fd_far fd_dee fd_tok fd_mix : FuncData} (F : Fun K "law" "law" s_law f fd) (T : NmL mg K f_box f_take f_caps f_wish f_wr f_sh f_ex f_qr f_far f_dee f_tok f_mix)
    (G_box : FnOk P w K mg base CX0 1 f_box fd_box ["_law_script", "_law_k", "_law_own"] (spBox K)) (b_box : Binds K fd_box ["_law_script", "_law_k", "_law_own"] [])
    (G_take : FnOk P w K mg base CX0 1 f_take fd_take ["_law_box_here", "_law_many"] spTake) (b_take : Binds K fd_take ["_law_box_here", "_law_many"] [])
    (G_caps : FnOk P w K mg base CX0 3 f_caps fd_caps ["_law_box_here", "_law_many"] spCaps) (b_caps : Binds K fd_caps ["_law_box_here", "_law_many"] [])
    (G_wish : FnOk P w K mg base CX0 12 f_wish fd_wish ["_law_box_here", "_law_caps_here", "_law_size"] (spWish 10)) (b_wish : Binds K fd_wish ["_law_box_here", "_law_caps_here", "_law_size"] [])
    (G_wr : FnOk P w K mg base CX0 42 f_wr fd_wr ["_law_box_here", "_law_tree"] (spWritten 40)) (b_wr : Binds K fd_wr ["_law_box_here", "_law_tree"] [])
    (G_sh : FnOk P w K mg base CX0 81 f_sh fd_sh ["_law_tree"] (spSh 40)) (b_sh : Binds K fd_sh ["_law_tree"] [])
    (G_ex : FnOk P w K mg base CX0 82 f_ex fd_ex ["_law_tree", "_law_deep"] (spEx 40)) (b_ex : Binds K fd_ex ["_law_tree", "_law_deep"] [])
    (G_qr : FnOk P w K mg base CX0 36 f_qr fd_qr ["_law_text"] spQR) (b_qr : Binds K fd_qr ["_law_text"] [])
    (G_far : FnOk P w K mg base CX0 37 f_far fd_far ["_law_many"] spFar) (b_far : Binds K fd_far ["_law_many"] [])
    (G_dee : FnOk P w K mg base CX0 3 f_dee fd_dee ["_law_box_here", "_law_found"] spDeeper) (b_dee : Binds K fd_dee ["_law_box_here", "_law_found"] [])
    (G_tok : FnOk P w K mg base CX0 41 f_tok fd_tok ["_law_tree"] (spTok 40)) (b_tok : Binds K fd_tok ["_law_tree"] [])
    (G_mix : FnOk P w K mg base CX0 2 f_mix fd_mix ["_law_box_here", "_law_items"] spMix) (b_mix : Binds K fd_mix ["_law_box_here", "_law_items"] []) :
    Rg.FnG P w K mg base CX0 83 f fd ["_law_script"] (spLaw K) := by
  refine Rg.okG F sc_law (fun vs H Q E h => ?_) (fun cdv Ar outer s H vs Q E hgu hr h => ?_)
  · obtain ⟨l, ns, rfl, _⟩ := h
    rfl
  · obtain ⟨l, ns, rfl, hl, hn, q⟩ := h
    have hu64 := hr.units
    have r1 := hr.mono (show 1 ≤ 82 by decide)
    have r2 := hr.mono (show 2 ≤ 82 by decide)
    have r3 := hr.mono (show 3 ≤ 82 by decide)
    have r12 := hr.mono (show 12 ≤ 82 by decide)
    have r36 := hr.mono (show 36 ≤ 82 by decide)
    have r37 := hr.mono (show 37 ≤ 82 by decide)
    have r41 := hr.mono (show 41 ≤ 82 by decide)
    have r42 := hr.mono (show 42 ≤ 82 by decide)
    have r81 := hr.mono (show 81 ≤ 82 by decide)
    refine ⟨_, (pss_cons (ps_if (pt_not (pt_val (pe_call G_far r37 rfl T.g_far T.k_far b_far .nil pass0 (pa_cons pe_int pa_nil)))) (pss_one (ps_ret pe_bl)) pss_nil)
  (pss_cons (ps_for PassesOwn.leaving rfl (pi_range1 (by rfl) T.n_range (pa_cons (pe_callB (call_max2 rfl) (by rfl) T.n_max (by decide +kernel) (pa_cons pe_int (pa_cons (pe_callB (call_min2 rfl) (by rfl) T.n_min (by decide +kernel) (pa_cons pe_int (pa_cons (pe_callB call_len_seq (by rfl) T.n_len (by decide +kernel) (pa_cons (pv 0) pa_nil)) pa_nil))) pa_nil))) pa_nil)) (pg_name (i := 1) sc_law.nd rfl (.inl rfl))
  (pss_cons (ps_set (i := 2) sc_law.nd rfl (.inl rfl) (pe_call G_box r1 rfl T.g_box T.k_box b_box .nil pass0 (pa_cons (pv 0) (pa_cons (pv 1) (pa_cons pe_int pa_nil)))))
  (pss_cons (ps_set (i := 3) sc_law.nd rfl (.inl rfl) (pe_call G_caps r3 rfl T.g_caps T.k_caps b_caps .nil pass0 (pa_cons (pv 2) (pa_cons pe_int pa_nil))))
  (pss_cons (ps_for PassesOwn.leaving rfl (pi_range1 (by rfl) T.n_range (pa_cons pe_int pa_nil)) (pg_name (i := 4) sc_law.nd rfl (.inl rfl))
  (pss_cons (ps_set (i := 5) sc_law.nd rfl (.inl rfl) (pe_call G_wish r12 rfl T.g_wish T.k_wish b_wish .nil pass0 (pa_cons (pv 2) (pa_cons (pv 3) (pa_cons (pe_ix ix_list (pe_lst (pa_cons pe_int (pa_cons pe_int (pa_cons pe_int (pa_cons pe_int (pa_cons pe_int (pa_cons pe_int pa_nil))))))) (pe_call G_take r1 rfl T.g_take T.k_take b_take .nil pass0 (pa_cons (pv 2) (pa_cons pe_int pa_nil))) (fun _ _ => rfl)) pa_nil)))))
  (pss_cons (ps_asg (pe_call G_wr r42 rfl T.g_wr T.k_wr b_wr .nil pass0 (pa_cons (pv 2) (pa_cons (pv 5) pa_nil))) (pg_tup rfl (pgs_cons (pg_name (i := 6) sc_law.nd rfl (.inl rfl)) (pgs_cons (pg_name (i := 7) sc_law.nd rfl (.inl rfl)) pgs_nil))))
  (pss_cons (ps_set (i := 8) sc_law.nd rfl (.inl rfl) (pe_call G_ex hr rfl T.g_ex T.k_ex b_ex .nil pass0 (pa_cons (pv 5) (pa_cons (pv 7) pa_nil))))
  (pss_cons (ps_if (pt_cmpR (op_neD hu64) (pe_call G_qr r36 rfl T.g_qr T.k_qr b_qr .nil pass0 (pa_cons (pv 6) pa_nil)) (pe_ifExp (pt_cmpR op_isN (pv 8) pe_non (nomark _)) (pe_tup (pa_cons pe_str (pa_cons (pe_call G_sh r81 rfl T.g_sh T.k_sh b_sh .nil pass0 (pa_cons (pv 5) pa_nil)) pa_nil))) (pe_tup (pa_cons pe_str (pa_cons (pv 8) pa_nil)))) (nomark _)) (pss_one (ps_ret pe_bl)) pss_nil)
  (pss_cons (ps_set (i := 9) sc_law.nd rfl (.inl rfl) (pe_call G_wish r12 rfl T.g_wish T.k_wish b_wish .nil pass0 (pa_cons (pv 2) (pa_cons (pv 3) (pa_cons (pe_op op_add pe_int (pe_call G_take r1 rfl T.g_take T.k_take b_take .nil pass0 (pa_cons (pv 2) (pa_cons pe_int pa_nil)))) pa_nil)))))
  (pss_cons (ps_asg (pe_call G_dee r3 rfl T.g_dee T.k_dee b_dee .nil pass0 (pa_cons (pv 2) (pa_cons (pe_call G_wr r42 rfl T.g_wr T.k_wr b_wr .nil pass0 (pa_cons (pv 2) (pa_cons (pv 9) pa_nil))) pa_nil))) (pg_tup rfl (pgs_cons (pg_name (i := 6) sc_law.nd rfl (.inl rfl)) (pgs_cons (pg_name (i := 7) sc_law.nd rfl (.inl rfl)) (pgs_cons (pg_name (i := 10) sc_law.nd rfl (.inl rfl)) pgs_nil)))))
  (pss_cons (ps_par (i := 11) (j := 12) (by rfl) sc_law.nd rfl rfl (by decide) rfl rfl (pa_cons (pe_call G_qr r36 rfl T.g_qr T.k_qr b_qr .nil pass0 (pa_cons (pv 6) pa_nil)) (pa_cons (pe_op op_add (pe_callB call_len_seq (by rfl) T.n_len (by decide +kernel) (pa_cons (pe_call G_tok r41 rfl T.g_tok T.k_tok b_tok .nil pass0 (pa_cons (pv 9) pa_nil)) pa_nil)) (pv 10)) pa_nil)) (by rfl))
  (pss_cons (ps_if (PW.pt (pw_and (pt_cmpR op_gt (pv 12) pe_int (nomark _)) (pw_and1 (pt_cmpR (op_neD hu64) (pv 11) (pe_tup (pa_cons pe_str (pa_cons pe_str pa_nil))) (nomark _))))) (pss_one (ps_ret pe_bl)) pss_nil)
  (pss_one (ps_if (PW.pt (pw_and (pt_cmpR op_le (pv 12) pe_int (nomark _)) (pw_and1 (pt_cmpR op_ne (pe_cmpR (op_eqD hu64) (pv 11) (pe_tup (pa_cons pe_str (pa_cons pe_str pa_nil))) (nomark _)) (pe_cmpR op_gt (pv 7) pe_int (nomark _)) (nomark _))))) (pss_one (ps_ret pe_bl)) pss_nil)))))))))))
  (Wt.pss_set1 (i := 13) sc_law.nd rfl (.inl rfl) (Wt.pe1_lst (Wt.pe1_op op_add_str Wt.pe1_str (pe_ix ix_list (pv 3) pe_int (fun _ _ => rfl))) (pa_cons (pe_op op_add_str pe_str (pe_ix ix_list (pv 3) pe_int (fun _ _ => rfl))) (pa_cons (pe_op op_add_str pe_str (pe_ix ix_list (pv 3) pe_int (fun _ _ => rfl))) (pa_cons (pe_op op_add_str (pe_op op_add_str pe_str (pe_ix ix_list (pv 3) pe_int (fun _ _ => rfl))) pe_str) pa_nil))))
  (psst_cons (PST.of (ps_set (i := 14) sc_law.nd rfl (.inl rfl) (pe_slice sl_list (pe_call G_mix r2 rfl T.g_mix T.k_mix b_mix .nil pass0 (pa_cons (pv 2) (pa_cons (pe_op op_cat (pv 13) (pe_lst (pa_cons pe_str pa_nil))) pa_nil))) po_none (po_some (pe_op op_add pe_int (pe_call G_take r1 rfl T.g_take T.k_take b_take .nil pass0 (pa_cons (pv 2) (pa_cons pe_int pa_nil))))))))
  (psst_cons (Wt.pst_setLc (i := 15) (own := [("_law_text", 6)]) (g := gName 6) (te := tOp (rIxL K) (Wt.tM2 (fun x xs H Q => ∃ (a b : Str) (k : Int), x = .str a ∧ xs = [.str b, .int k] ∧ (b.length == 0) = false ∧ -(2 ^ 63) ≤ k ∧ k < 2 ^ 63 ∧ a.length + 2 ≤ sizeLine ∧ rNewStrs (Txt.splitMax a b k) H Q) (CwR.tReplC (CwR.tReplC (tVar 6) "( " "") " )" "") (tC (.str " ")) (tC (.int 1))) (tC (.int 1))) rfl sc_law.nd rfl rfl (sw_true rfl rfl rfl (by decide +kernel)) (pi_list (pv 14)) (blkOk_by (own := [("_law_text", 6)]) (N := n_law) (sc := defScope s_law) (by decide +kernel)) (fun _ _ _ _ _ => (pg_name (i := 6) sc_law.nd rfl (.inl rfl))) (fun _ _ _ _ _ => Wt.pet_ix ix_list (Wt.pet_m2 PySem.F.slot_str_split PySem.F.type_str_split mt_splitMax (CwR.pet_replT (CwR.pet_replC (pv 6))) pe_str pe_int) pe_int (fun _ _ => rfl)))
  (PSsT.of (pss_cons (ps_set (i := 16) sc_law.nd rfl (.inl rfl) (Ws.pe_lenZ (by rfl) T.n_len (by rfl) T.n_set (pe_op op_cat (pv 15) (pe_op op_rep (pe_lst (pa_cons pe_str pa_nil)) (pe_callTy call_int1 (by rfl) T.n_int (by decide +kernel) (pa_cons (pe_cmpR op_in_seq pe_str (pv 15) rfl) pa_nil))))))
  (pss_cons (ps_set (i := 11) sc_law.nd rfl (.inl rfl) (pe_call G_qr r36 rfl T.g_qr T.k_qr b_qr .nil pass0 (pa_cons (pe_join pe_str (pv 14)) pa_nil)))
  (pss_cons (ps_if (PW.pt (pw_or (pt_cmpR op_ne (pe_cmpR (op_eqD hu64) (pv 11) (pe_tup (pa_cons pe_str (pa_cons pe_str pa_nil))) (nomark _)) (pe_cmpR op_gt (pv 16) pe_int (nomark _)) (nomark _)) (pw_or1 (pt_cmpR op_eq (pe_ix ix_tup (pv 11) pe_int (fun _ _ => rfl)) pe_str (nomark _))))) (pss_one (ps_ret pe_bl)) pss_nil)
  (pss_cons (ps_asg (pe_lc (own := [("_law_word", 20)]) (g := gName 20) (tt := tYes) rfl sc_law.nd (pi_list (pv 3)) (blkOk_by (own := [("_law_word", 20)]) (N := n_law) (sc := defScope s_law) (by decide +kernel)) (fun _ _ _ _ _ => (pg_name (i := 20) sc_law.nd rfl (.inl rfl))) (fun _ _ _ _ _ => pts_nil) (fun _ _ _ _ _ => (pe_op op_add_str pe_str (pv 20)))) (pg_lst (n := 2) rfl (pgs_cons (pg_name (i := 17) sc_law.nd rfl (.inl rfl)) (pgs_cons (pg_name (i := 18) sc_law.nd rfl (.inl rfl)) pgs_nil))))
  (pss_cons (ps_set (i := 19) sc_law.nd rfl (.inl rfl) (pe_lst (pa_cons (pe_op op_add_str (pe_op op_add_str (pe_op op_add_str (pe_op op_add_str pe_str (pv 17)) pe_str) (pv 18)) pe_str) (pa_cons (pe_op op_add_str (pe_op op_add_str (pe_op op_add_str (pe_op op_add_str pe_str (pv 17)) pe_str) (pv 18)) pe_str) pa_nil))))
  (pss_one (ps_if (pt_cmpR op_ne (pe_ix ix_tup (pe_call G_qr r36 rfl T.g_qr T.k_qr b_qr .nil pass0 (pa_cons (pe_join pe_str (pv 19)) pa_nil)) pe_int (fun _ _ => rfl)) pe_str (nomark _)) (pss_one (ps_ret pe_bl)) pss_nil)))))))))))))))
  (pss_one (ps_ret pe_bl)))), ?_⟩
    refine ⟨rfl, fun H00 S00 => ⟨true, rfl, iteF ?_⟩⟩
    have hl0 := S00.seq hl
    refine ⟨_, rfl, l, ns.map V.int, rfl, .inl hl0, _, _, rfl, ?_⟩
    rw [List.length_map]
    refine ⟨_, _, rfl, _, rfl, by split <;> split <;> omega, by split <;> split <;> omega, ?_⟩
    have hturns := turns_le ns.length
    generalize (if (if (ns.length : Int) < 6 then (ns.length : Int) else 6) > 2 then (if (ns.length : Int) < 6 then (ns.length : Int) else 6) else 2).toNat = turns at *
    refine for_range (lo := 0) (n := turns) (fun _ σ H' => SqL K H' l (ns.map V.int) ∧ ∃ a1 a2 a3 a4 a5 a6 a7 a8 a9 a10 a11 a12 a13 a14 a15 a16 a17 a18 a19 a20 : Option V, σ = [some (.ref l), a1, a2, a3, a4, a5, a6, a7, a8, a9, a10, a11, a12, a13, a14, a15, a16, a17, a18, a19, a20])
      ⟨hl0, _, _, _, _, _, _, _, _, _, _, _, _, _, _, _, _, _, _, _, _, rfl⟩ (fun k σ H hk p => ?_) (fun σ H' p => q H')
    obtain ⟨hl, a1, a2, a3, a4, a5, a6, a7, a8, a9, a10, a11, a12, a13, a14, a15, a16, a17, a18, a19, a20, rfl⟩ := p
    refine ⟨_, rfl, _, rfl, l, ns, k, 20, by rw [Int.zero_add]; rfl, hl, by omega, by decide, fun p H1 np s1 bx => ?_⟩
    refine ⟨_, rfl, p, _, 2, rfl, bx, by decide, by decide, fun c ys H4 nc ec ly hy b4 k4 => ?_⟩
    have cp : c ≠ p := fun z => bx.ne nc z.symm
    obtain ⟨c0, c1, rfl⟩ : ∃ c0 c1, ys = [c0, c1] := by
      match ys, ly with
      | [x, y], _ => exact ⟨x, y, rfl⟩
    have hc0 := hy c0 (List.mem_cons_self ..)
    have hc1 := hy c1 (List.mem_cons_of_mem _ (List.mem_cons_self ..))
    have hys : ∀ y ∈ [c0, c1], CapOk y := fun y h => (hy y h).1
    have eq10 : Same H H1 := s1
    refine ⟨10, rfl, by decide, by decide, ?_⟩
    refine for_range (lo := 0) (n := 10) (fun i σ Hi => BoxAt Hi p (20 + 300 * i) ∧ Kp p H4 Hi ∧ ∃ b4 b5 b6 b7 b8 b9 b10 b11 b12 b13 b14 b15 b16 b17 b18 b19 b20 : Option V, σ = [some (.ref l), some (.int (0 + (k : Nat))), some (.ref p), some (.ref c), b4, b5, b6, b7, b8, b9, b10, b11, b12, b13, b14, b15, b16, b17, b18, b19, b20])
      ⟨b4.le (by omega), Kp.of (Same.refl _), _, _, _, _, _, _, _, _, _, _, _, _, _, _, _, _, _, rfl⟩ (fun i σ Hi hi P => ?_) (fun σ Hi P => ?_)
    · obtain ⟨bi, ki, b4', b5, b6, b7, b8, b9, b10, b11, b12, b13, b14, b15, b16, b17, b18, b19, b20, rfl⟩ := P
      refine ⟨_, rfl, _, rfl, (by show 6 ≤ sizeLine; decide), fun l6 n6 => ?_⟩
      have T1 := new_same (o := .lst [.int 7, .int 8, .int 8, .int 9, .int 10, .int 3]) n6
      have e6 : upd Hi l6 (.lst [.int 7, .int 8, .int 8, .int 9, .int 10, .int 3]) l6 = some (.lst [.int 7, .int 8, .int 8, .int 9, .int 10, .int 3]) := upd_same
      have bi1 := bi.mono T1
      have p6 := bi.ne n6
      have ki1 := ki.trans (Kp.of (p := p) T1)
      generalize upd Hi l6 (.lst [.int 7, .int 8, .int 8, .int 9, .int 10, .int 3]) = Hj at *
      refine ⟨_, rfl, p, 6, _, rfl, bi1, by omega, by decide, by decide, fun e H5 e0 e1 b5' k5 => ?_⟩
      obtain ⟨n, hne, hn1, hn10⟩ := size_at e0 e1
      have K5 := ki1.trans (Kp.eq (p := p) k5)
      have ec5 := K5 c _ cp ec
      refine ⟨l6, _, _, _, rfl, rfl, SqL.of ((k5 l6 (Ne.symm p6)).trans e6), hne, ?_⟩
      refine ⟨p, c, [c0, c1], _, n, rfl, b5', ec5, cp, (show 1 ≤ 2 by decide), (show 2 ≤ 6 by decide), hys, hn1, hn10, by omega, by omega, fun v t m' H6 k6 b6' hm6 hv hw hB hN => ?_⟩
      have K6 := K5.trans k6
      have hN40 : NT t ≤ 40 := by omega
      have hB5 : BT t ≤ 5000 := by omega
      refine ⟨_, rfl, _, rfl, p, v, t, _, rfl, b6', hv, hw, hN40, hB5, by omega, fun wa z dp H7 k7 b7' ea hwr hzl hzA => ?_⟩
      have K7 := K6.trans k7
      have hv7 := hv.mono (kp_tups b6' k7)
      refine ⟨wa, _, rfl, SqT.of ea, rfl, _, _, rfl, _, _, rfl, rfl, ?_⟩
      refine ⟨_, rfl, _, rfl, v, t, dp, rfl, hv7, hw, hN40, hB5, fun H8 S8 => ?_⟩
      have hv8 := hv7.mono (fun b xs e => S8 b _ e)
      have hz3 : z.length ≤ 3000 := by omega
      refine ⟨_, rfl, z, rfl, hz3, hzA, fun q1 H9 S9 hq1 => ?_⟩
      have eq1 := qr_due hw hwr hq1
      have hv9 := hv8.mono (fun b xs e => S9 b _ e)
      have due : ∀ (Kx : V → Hp → Prop), (∀ (td : Addr) (H12 : Hp), Same H9 H12 → H12 td = some (.tup [.str (dueW t dp).1, .str (dueW t dp).2]) → Kx (.ref td) H12) →
          tIf (tTest (tOp (fun x y H Q => y = V.non ∧ Q (V.bl (decide (x = V.non))) H) (tVar 8) (tC .non))) (tTup (tCons (tC (.str "text")) (tCons (tCall (spSh 40) [] E0 (tCons (tVar 5) tNil)) tNil))) (tTup (tCons (tC (.str "many")) (tCons (tVar 8) tNil))) [some (.ref l), some (.int (0 + (k : Nat))), some (.ref p), some (.ref c), some (.int (0 + (i : Nat))), some v, some (.str z), some (.int (dp : Nat)), some (optS (exL t dp)), b9, b10, b11, b12, b13, b14, b15, b16, b17, b18, b19, b20] H9 Kx := fun Kx hx => by
        unfold dueW at hx
        cases hex : exL t dp with
        | none =>
          rw [hex] at hx
          exact ⟨_, rfl, rfl, _, rfl, iteT ⟨_, rfl, v, t, rfl, hv9, hw, hN40, hB5, fun H10 S10 => ⟨(by show 2 ≤ sizeLine; decide), fun td ntd => hx td _ (S10.trans (new_same ntd)) upd_same⟩⟩⟩
        | some m =>
          rw [hex] at hx
          exact ⟨_, rfl, rfl, _, rfl, iteF ⟨_, rfl, (by show 2 ≤ sizeLine; decide), fun td ntd => hx td _ (new_same ntd) upd_same⟩⟩
      refine due _ fun td H10 S10 ed => ?_
      have hdA := dueW_asc hw dp
      have sh := pairD_shaped hdA.1 hdA.2
      have dpx : ∀ {Hx : Hp} {x : Addr} {a b : Str}, Hx x = some (.tup [.str a, .str b]) → Dp K Hx (.ref x) (pairD a b) := fun e => .tup (SqT.of e) (.cons (.str _) (.cons (.str _) .nil))
      refine ⟨_, _, dpx (S10 _ _ eq1), dpx ed, sh, sh, _, rfl, ?_⟩
      rw [pairD_eqv, decide_eq_true rfl, decide_eq_true rfl]
      refine iteF ?_
      -- a deeper one
      have S710 := (S8.trans S9).trans S10
      have K10 := K7.trans (Kp.of (p := p) S710)
      have b10' := b7'.mono S710
      refine ⟨_, rfl, _, rfl, _, rfl, p, 4, _, rfl, b10', by omega, by decide, by decide, fun e2 H11 e20 e21 b11' k11 => ?_⟩
      obtain ⟨en, rfl⟩ : ∃ en : Nat, e2 = (en : Int) := ⟨e2.toNat, by omega⟩
      have K11 := K10.trans (Kp.eq (p := p) k11)
      have ec11 := K11 c _ cp ec
      refine ⟨_, _, rfl, rfl, p, c, [c0, c1], _, en + 1, by show [V.ref p, V.ref c, V.int (1 + (en : Nat))] = _; rw [show ((1 : Int) + (en : Nat)) = ((en + 1 : Nat) : Int) from by omega], b11', ec11, cp, (show 1 ≤ 2 by decide), (show 2 ≤ 6 by decide), hys, by omega, by omega, by omega, by omega, fun v2 t2 m2 H12 k12 b12' hm12 hv2 hw2 hB2 hN2 => ?_⟩
      have K12 := K11.trans k12
      refine ⟨_, rfl, _, rfl, _, rfl, p, v2, t2, _, rfl, b12', hv2, hw2, by omega, by omega, by omega, fun wa2 z2 d2 H13 k13 b13' ea2 hwr2 hzl2 hzA2 => ?_⟩
      have K13 := K12.trans k13
      have hv13 := hv2.mono (kp_tups b12' k13)
      refine ⟨p, wa2, z2, d2, t2, _, rfl, b13', by omega, ea2, hwr2, hw2, by omega, hzA2, fun r z' d' more t' H14 k14 b14' er hwr' hw' htk hzl' hzA' => ?_⟩
      have K14 := K13.trans k14
      have hv14 := hv13.mono (kp_tups b13' k14)
      refine ⟨r, _, rfl, SqT.of er, rfl, _, _, rfl, _, _, rfl, _, _, rfl, rfl, ?_⟩
      refine ⟨_, rfl, z', rfl, by omega, hzA', fun q2 H15 S15 hq2 => ?_⟩
      have eq2 := qr_due hw' hwr' hq2
      have hv15 := hv14.mono (fun b xs e => S15 b _ e)
      refine ⟨_, rfl, v2, t2, rfl, hv15, hw2, by omega, by omega, fun l2 us H16 S16 nl2 el2 hus => ?_⟩
      refine ⟨l2, us, rfl, .inl (SqL.of el2), _, rfl, _, _, rfl, rfl, _, _, rfl, ?_⟩
      have eq16 := S16 _ _ eq2
      have S1416 := S15.trans S16
      have K16 := K14.trans (Kp.of (p := p) S1416)
      have b16' := b14'.mono S1416
      have hmany : ((us.length : Nat) : Int) + (more : Nat) = ((tokL t').length : Nat) := by
        have := hus.len
        omega
      dsimp only
      rw [hmany]
      have hdA' := dueW_asc hw' d'
      have sh' := pairD_shaped hdA'.1 hdA'.2
      by_cases ha : (tokL t').length > 8
      · have hdw := due_atoms (d := d') ha
        rw [hdw] at eq16 sh' hdA'
        refine ⟨_, rfl, _, _, rfl, rfl, _, rfl, ?_⟩
        rw [decide_eq_true (show (8 : Int) < ((tokL t').length : Nat) by omega)]
        refine iteT ⟨_, rfl, (by show 2 ≤ sizeLine; decide), fun tx ntx => ?_⟩
        have SX := new_same (o := .tup [.str "many", .str "atoms"]) ntx
        refine ⟨_, _, dpx (SX _ _ eq16), dpx upd_same, sh', sh', _, rfl, ?_⟩
        rw [pairD_eqv, decide_eq_true rfl, decide_eq_true rfl]
        refine iteF ⟨_, rfl, _, _, rfl, rfl, _, rfl, ?_⟩
        rw [decide_eq_false (show ¬ ((tokL t').length : Int) ≤ 8 by omega)]
        refine iteF ?_
        exact ⟨(b16'.mono SX).le (by omega), K16.trans (Kp.of SX), _, _, _, _, _, _, _, _, _, _, _, _, _, _, _, _, _, rfl⟩
      · have hdw := due_deep (d := d') ha
        refine ⟨_, rfl, _, _, rfl, rfl, _, rfl, ?_⟩
        rw [decide_eq_false (show ¬ (8 : Int) < ((tokL t').length : Nat) by omega)]
        refine iteF ⟨_, rfl, _, _, rfl, rfl, _, rfl, ?_⟩
        rw [decide_eq_true (show ((tokL t').length : Int) ≤ 8 by omega)]
        refine iteT ⟨_, rfl, (by show 2 ≤ sizeLine; decide), fun tx ntx => ?_⟩
        have SX := new_same (o := .tup [.str "many", .str "deep"]) ntx
        refine ⟨_, _, dpx (SX _ _ eq16), dpx upd_same, sh', pairD_shaped (by decide +kernel) (by decide +kernel), _, rfl, _, _, rfl, rfl, rfl, _, rfl, ?_⟩
        rw [pairD_eqv, hdw, decide_eq_true rfl]
        refine iteF ?_
        exact ⟨(b16'.mono SX).le (by omega), K16.trans (Kp.of SX), _, _, _, _, _, _, _, _, _, _, _, _, _, _, _, _, _, rfl⟩
    · obtain ⟨bi, ki, b4', b5, b6, b7, b8, b9, b10, b11, b12, b13, b14, b15, b16, b17, b18, b19, b20, rfl⟩ := P
      have eci := ki c _ cp ec
      have h0 : atI ([c0, c1].map V.str) 0 = some (.str c0) := atI_nat (j := 0) rfl
      have h1 : atI ([c0, c1].map V.str) 1 = some (.str c1) := atI_nat (j := 1) rfl
      have L0 := hc0.1.1
      have L1 := hc1.1.1
      have A0 := hc0.1.2.1
      have A1 := hc1.1.2.1
      have sI : ("parent is " : Str).length = 10 := by decide +kernel
      have sA : ("above is " : Str).length = 9 := by decide +kernel
      have sP : ("parent ( is " : Str).length = 12 := by decide +kernel
      -- what is under an outer word
      refine ⟨_, rfl, c, _, _, _, rfl, rfl, SqL.of eci, h0, _, _, rfl, rfl, by rw [sI, sizeLine_eq]; omega, ?_⟩
      refine ⟨_, rfl, c, _, _, _, rfl, rfl, SqL.of eci, h1, _, _, rfl, rfl, by rw [sA, sizeLine_eq]; omega, ?_⟩
      refine ⟨_, rfl, c, _, _, _, rfl, rfl, SqL.of eci, h0, _, _, rfl, rfl, by rw [sA, sizeLine_eq]; omega, ?_⟩
      refine ⟨_, rfl, c, _, _, _, rfl, rfl, SqL.of eci, h1, _, _, rfl, rfl, by rw [sP, sizeLine_eq]; omega, _, _, rfl, rfl, by rw [len_app, sP, sp3, sizeLine_eq]; omega, ?_⟩
      refine ⟨(by show 4 ≤ sizeLine; decide), fun lo nlo => ?_⟩
      have S1 := new_same (o := .lst [.str ("parent is " ++ c0), .str ("above is " ++ c1), .str ("above is " ++ c0), .str ("parent ( is " ++ c1 ++ " )")]) nlo
      have elo : upd Hi lo (.lst [.str ("parent is " ++ c0), .str ("above is " ++ c1), .str ("above is " ++ c0), .str ("parent ( is " ++ c1 ++ " )")]) lo = some (.lst [.str ("parent is " ++ c0), .str ("above is " ++ c1), .str ("above is " ++ c0), .str ("parent ( is " ++ c1 ++ " )")]) := upd_same
      have bj := bi.mono S1
      generalize upd Hi lo (.lst [.str ("parent is " ++ c0), .str ("above is " ++ c1), .str ("above is " ++ c0), .str ("parent ( is " ++ c1 ++ " )")]) = Hj at *
      refine ⟨_, rfl, _, rfl, (by show 1 ≤ sizeLine; decide), fun l1 nl1 => ?_⟩
      have S2 := new_same (o := .lst [.str "parent above root"]) nl1
      have el1 : upd Hj l1 (.lst [.str "parent above root"]) l1 = some (.lst [.str "parent above root"]) := upd_same
      have elo2 := S2 _ _ elo
      have bj2 := bj.mono S2
      generalize upd Hj l1 (.lst [.str "parent above root"]) = Hk at *
      refine ⟨lo, l1, _, _, rfl, rfl, elo2, el1, (by show 5 ≤ sizeLine; decide), fun lr nlr => ?_⟩
      have S3 := new_same (o := .lst ((row5 c0 c1).map V.str)) nlr
      have elr : upd Hk lr (.lst ((row5 c0 c1).map V.str)) lr = some (.lst ((row5 c0 c1).map V.str)) := upd_same
      have bj3 := bj2.mono S3
      have rA : ∀ z ∈ row5 c0 c1, Asc z := fun z hz => by
        obtain ⟨t, d, o⟩ := row5_one hc0 hc1 z hz
        exact o.asc
      refine ⟨p, lr, row5 c0 c1, _, rfl, bj3, elr, rA, (show 5 ≤ 100 by decide), by omega, fun r5 ys5 H5 nr5 er5 hl5 hperm b5' k5 => ?_⟩
      have hl5' : ys5.length = 5 := hl5
      have b5'' : BoxAt H5 p (20 + 300 * 10 + 5) := b5'
      have ki5 : Kp p Hi H5 := (((Kp.of (p := p) S1).trans (Kp.of S2)).trans (Kp.of S3)).trans k5
      refine ⟨_, rfl, p, 3, _, rfl, b5'', by omega, by decide, by decide, fun d3 H6 d30 d31 b6' k6 => ?_⟩
      obtain ⟨dn, rfl⟩ : ∃ dn : Nat, d3 = (dn : Int) := ⟨d3.toNat, by omega⟩
      have er6 := (k6 r5 (fun h => by
        obtain ⟨_, _, _, e, _⟩ := b5''
        rw [← h, er5] at e
        have z := congrArg List.length (HO.lst.inj (Option.some.inj e))
        rw [List.length_map, hl5'] at z
        exact absurd z (by show ¬ 5 = 3; decide))).trans er5
      refine ⟨_, _, rfl, rfl, _, rfl, r5, _, rfl, SqL.of er6, fun rs nrs => ?_⟩
      rw [show (1 : Int) + (dn : Nat) = ((1 + dn : Nat) : Int) from by omega, cutV_lo]
      have hzn : (ys5.take (1 + dn)).length = 1 + dn := by
        rw [List.length_take]
        omega
      have hz1 : ∀ z ∈ ys5.take (1 + dn), ∃ t d, One z t d := fun z hz => row5_one hc0 hc1 z (hperm.mem_iff.mp (List.mem_of_mem_take hz))
      have hzc : (ys5.take (1 + dn)).count ("parent above root" : Str) ≤ 1 := by
        have a := (List.take_sublist (1 + dn) ys5).count_le ("parent above root" : Str)
        have b := hperm.count_eq ("parent above root" : Str)
        rw [row5_count hc0 hc1] at b
        omega
      generalize ys5.take (1 + dn) = zs at *
      have hzne : zs ≠ [] := fun h => by
        rw [h] at hzn
        simp at hzn
        omega
      have hl30 : ∀ z ∈ zs, z.length ≤ 30 := fun z hz => by
        obtain ⟨t, d, o⟩ := hz1 z hz
        exact o.len
      have S7 := new_same (o := .lst (zs.map V.str)) nrs
      have ers : upd H6 rs (.lst (zs.map V.str)) rs = some (.lst (zs.map V.str)) := upd_same
      have ki7 : Kp p Hi (upd H6 rs (.lst (zs.map V.str))) := (ki5.trans (Kp.eq (p := p) k6)).trans (Kp.of S7)
      have b7' := b6'.mono S7
      generalize upd H6 rs (.lst (zs.map V.str)) = H7 at *
      -- what stands in them
      refine ⟨_, rfl, rs, rfl, ⟨_, SqL.of ers⟩, fun D nD => ?_⟩
      have rsD : rs ≠ D := ne_of_none ers nD
      refine lc_list (K := K) (a := rs) (xs := zs.map V.str) (fun i Hw => (∀ b o, b ≠ D → H7 b = some o → Hw b = some o) ∧ Hw D = some (.lst (((zs.take i).map inn).map V.str)))
        ⟨fun b o n e => (upd_ne n).trans e, upd_same⟩ (fun i Hw _ P => SqL.of (P.1 _ _ rsD ers)) (fun i x Hw hx P => ?_) (fun Hw P => ?_)
      · obtain ⟨kw, eD⟩ := P
        rw [List.getElem?_map] at hx
        obtain ⟨z, hz, rfl⟩ := Option.map_eq_some_iff.mp hx
        have hzm := List.mem_of_getElem? hz
        obtain ⟨t, d, o⟩ := hz1 z hzm
        have l30 := o.len
        have rl := repl_len z
        have s0 : ("" : Str).length = 0 := by decide +kernel
        refine ⟨rfl, keep1' ?_⟩
        refine ⟨_, rfl, z, rfl, by rw [s0]; omega, _, rfl, by rw [s0]; omega, ⟨_, rfl⟩, _, _, _, rfl, rfl, by decide +kernel, by decide, by decide, (by rw [sizeLine_eq]; have := rl.2; unfold repl at this; omega), fun q nq => ?_⟩
        have SQ := new_same (o := .lst ((Txt.splitMax (Txt.replace (Txt.replace z "( " "") " )" "") " " 1).map V.str)) nq
        have qD : D ≠ q := ne_of_none eD nq
        refine ⟨q, _, _, _, rfl, rfl, SqL.of upd_same, atI_nat (j := 1) (v := .str (inn z)) (by rw [List.getElem?_map]; exact congrArg (Option.map V.str) o.ix), ?_⟩
        refine ⟨_, SQ _ _ eD, ?_, fun b o n e => (upd_ne n).trans (SQ _ _ (kw b o n e)), ?_⟩
        · rw [List.length_map, List.length_map, List.length_take, sizeLine_eq]
          omega
        · rw [upd_same, take_snoc hz, List.map_append, List.map_append]
          rfl
      · obtain ⟨kw, eD⟩ := P
        rw [List.length_map, List.take_length] at eD
        have S8 : Same H7 Hw := fun b o e => kw b o (ne_of_none e nD) e
        have ers8 := S8 _ _ ers
        have b8' := b7'.mono S8
        have ki8 := ki7.trans (Kp.of (p := p) S8)
        have hil : (zs.map inn).length ≤ 3 := by
          rw [List.length_map]
          omega
        -- how many unlike
        refine ⟨_, rfl, (by show 1 ≤ sizeLine; decide), fun lw nlw => ?_⟩
        have S9 := new_same (o := .lst [.str "root"]) nlw
        have elw : upd Hw lw (.lst [.str "root"]) lw = some (.lst [.str "root"]) := upd_same
        have eD9 := S9 _ _ eD
        generalize upd Hw lw (.lst [.str "root"]) = H9 at *
        refine ⟨_, rfl, D, _, rfl, .inl (SqL.of eD9), rfl, flat_strs _, ?_⟩
        have hk2 : ∃ ex : List Str, (List.replicate ((if (if false = true then !inV (V.str "above root") ((zs.map inn).map V.str) else inV (V.str "above root") ((zs.map inn).map V.str)) = true then 1 else 0 : Int)).toNat [V.str "root"]).flatten = ex.map V.str ∧
            (∀ x, x ∈ zs.map inn ++ ex ↔ x ∈ zs.map inn ∨ (("above root" : Str) ∈ zs.map inn ∧ x = "root")) ∧ ex.length ≤ 1 ∧ -(2 ^ 63) ≤ (if (if false = true then !inV (V.str "above root") ((zs.map inn).map V.str) else inV (V.str "above root") ((zs.map inn).map V.str)) = true then 1 else 0 : Int) ∧
            (if (if false = true then !inV (V.str "above root") ((zs.map inn).map V.str) else inV (V.str "above root") ((zs.map inn).map V.str)) = true then 1 else 0 : Int) < 2 ^ 63 ∧ 1 * (if (if false = true then !inV (V.str "above root") ((zs.map inn).map V.str) else inV (V.str "above root") ((zs.map inn).map V.str)) = true then 1 else 0 : Int).toNat ≤ sizeLine := by
          rw [if_neg Bool.false_ne_true, inV_list]
          by_cases m : ("above root" : Str) ∈ zs.map inn
          · rw [decide_eq_true m, if_pos rfl]
            exact ⟨["root"], rfl, fun x => by rw [List.mem_append, List.mem_singleton, and_iff_right m], Nat.le_refl _, by decide, by decide, by show 1 * 1 ≤ sizeLine; decide⟩
          · rw [decide_eq_false m, if_neg Bool.false_ne_true]
            exact ⟨[], rfl, fun x => by rw [List.append_nil]; exact ⟨.inl, fun h => h.elim id fun h => absurd h.1 m⟩, by decide, by decide, by decide, by show 1 * 0 ≤ sizeLine; decide⟩
        obtain ⟨ex, hex, hus, hxl, g1, g2, g3⟩ := hk2
        refine .inr ⟨_, rfl, lw, _, _, rfl, rfl, elw, g1, g2, g3, fun lp nlp => ?_⟩
        rw [hex]
        have S10 := new_same (o := .lst (ex.map V.str)) nlp
        have elp : upd H9 lp (.lst (ex.map V.str)) lp = some (.lst (ex.map V.str)) := upd_same
        have eD10 := S10 _ _ eD9
        generalize upd H9 lp (.lst (ex.map V.str)) = H10 at *
        refine ⟨D, lp, _, _, rfl, rfl, eD10, elp, by simp only [List.length_map]; rw [sizeLine_eq]; omega, fun lu nlu => ?_⟩
        rw [← List.map_append]
        have S11 := new_same (o := .lst ((zs.map inn ++ ex).map V.str)) nlu
        have elu : upd H10 lu (.lst ((zs.map inn ++ ex).map V.str)) lu = some (.lst ((zs.map inn ++ ex).map V.str)) := upd_same
        have hul : (zs.map inn ++ ex).length ≤ 4000 := by
          rw [List.length_append]
          omega
        generalize zs.map inn ++ ex = us at *
        generalize upd H10 lu (.lst (us.map V.str)) = H11 at *
        refine ⟨lu, us, rfl, SqL.of elu, hul, ?_⟩
        have S811 := (S9.trans S10).trans S11
        have ki11 := ki8.trans (Kp.of (p := p) S811)
        have ers11 := S811 _ _ ers8
        obtain ⟨fa, fb, fA, fB, fq, fo, fn, fl, fj⟩ := rows_due hzne (by omega) hzc hz1 us hus
        -- what is read of the row
        refine ⟨⟨_, rfl⟩, _, rfl, _, rs, zs, rfl, rfl, .inl (SqL.of ers11), ?_, ?_⟩
        · have := sum_len zs hl30
          rw [show (" or " : Str).length = 4 from by decide +kernel]
          omega
        rw [TL.join_eq]
        refine ⟨_, rfl, by omega, fj, fun q3 H12 S12 hq3 => ?_⟩
        have e3 := fq _ _ hq3
        have sh := pairD_shaped fA fB
        have dpx : ∀ {Hx : Hp} {x : Addr} {a b : Str}, Hx x = some (.tup [.str a, .str b]) → Dp K Hx (.ref x) (pairD a b) := fun e => .tup (SqT.of e) (.cons (.str _) (.cons (.str _) .nil))
        refine ⟨_, rfl, (by show 2 ≤ sizeLine; decide), fun tx ntx => ?_⟩
        have S13 := new_same (o := .tup [.str "many", .str "outer"]) ntx
        have e3' := S13 _ _ e3
        refine ⟨_, _, dpx e3', dpx upd_same, sh, pairD_shaped (by decide +kernel) (by decide +kernel), _, rfl, _, _, rfl, rfl, rfl, _, rfl, ?_⟩
        rw [pairD_eqv, fo, decide_eq_true rfl]
        refine iteF ⟨_, rfl, q3, _, _, _, rfl, rfl, SqT.of e3', atI_nat (j := 0) rfl, rfl, _, rfl, ?_⟩
        rw [dec_str, decide_eq_false fn]
        refine iteF ?_
        generalize upd H12 tx (.tup [.str "many", .str "outer"]) = H13 at *
        have ki13 := (ki11.trans (Kp.of (p := p) S12)).trans (Kp.of S13)
        have ec13 := ki13 c _ cp eci
        -- two of the same
        refine ⟨_, rfl, c, rfl, ⟨_, SqL.of ec13⟩, fun W nW => ?_⟩
        have cW : c ≠ W := ne_of_none ec13 nW
        refine lc_list (K := K) (a := c) (xs := [c0, c1].map V.str) (fun i Hw => (∀ b o, b ≠ W → H13 b = some o → Hw b = some o) ∧ Hw W = some (.lst ((([c0, c1].take i).map fun z => ("is " : Str) ++ z).map V.str)))
          ⟨fun b o n e => (upd_ne n).trans e, upd_same⟩ (fun i Hw _ P => SqL.of (P.1 _ _ cW ec13)) (fun i x Hw hx P => ?_) (fun Hw P => ?_)
        · obtain ⟨kw, eW⟩ := P
          rw [List.getElem?_map] at hx
          obtain ⟨z, hz, rfl⟩ := Option.map_eq_some_iff.mp hx
          have hzl := (hy z (List.mem_of_getElem? hz)).1.1
          refine ⟨rfl, keep1' ?_⟩
          refine ⟨_, rfl, _, _, rfl, rfl, by rw [show ("is " : Str).length = 3 from by decide +kernel, sizeLine_eq]; omega, ?_⟩
          refine ⟨_, eW, ?_, fun b o n e => (upd_ne n).trans (kw b o n e), ?_⟩
          · rw [List.length_map, List.length_map, List.length_take, sizeLine_eq]
            show min i 2 < _
            omega
          · rw [upd_same, take_snoc hz, List.map_append, List.map_append]
            rfl
        · obtain ⟨kw, eW⟩ := P
          have S14 : Same H13 Hw := fun b o e => kw b o (ne_of_none e nW) e
          have ki14 := ki13.trans (Kp.of (p := p) S14)
          have eW' : Hw W = some (.lst [.str ("is " ++ c0), .str ("is " ++ c1)]) := eW
          refine ⟨W, _, rfl, SqL.of eW', rfl, _, _, rfl, _, _, rfl, rfl, ?_⟩
          have i0 : ("is " ++ c0 : Str).length ≤ 7 := by
            rw [len_app, show ("is " : Str).length = 3 from by decide +kernel]
            omega
          have i1 : ("is " ++ c1 : Str).length ≤ 7 := by
            rw [len_app, show ("is " : Str).length = 3 from by decide +kernel]
            omega
          have j0 : Asc ("is " ++ c0 : Str) := app_asc (by decide +kernel) A0
          have j1 : Asc ("is " ++ c1 : Str) := app_asc (by decide +kernel) A1
          obtain ⟨pq, hpq⟩ := same_read hc0 hc1
          generalize ("is " ++ c0 : Str) = x0 at *
          generalize ("is " ++ c1 : Str) = x1 at *
          have m1 : ("parent ( " : Str).length = 9 := by decide +kernel
          have m2 : (" and ( " : Str).length = 7 := by decide +kernel
          have m3 : (" and root ) )" : Str).length = 13 := by decide +kernel
          have m4 : ("above ( ( " : Str).length = 10 := by decide +kernel
          have m5 : (" and " : Str).length = 5 := by decide +kernel
          have m6 : (" ) and root )" : Str).length = 13 := by decide +kernel
          refine ⟨_, rfl, _, _, rfl, rfl, by rw [m1, sizeLine_eq]; omega, _, _, rfl, rfl, by rw [len_app, m1, m2, sizeLine_eq]; omega, _, rfl, _, _, rfl, rfl, by rw [len_app, len_app, m1, m2, sizeLine_eq]; omega, _, _, rfl, rfl, by rw [len_app, len_app, len_app, m1, m2, m3, sizeLine_eq]; omega, ?_⟩
          refine ⟨_, rfl, _, _, rfl, rfl, by rw [m4, sizeLine_eq]; omega, _, _, rfl, rfl, by rw [len_app, m4, m5, sizeLine_eq]; omega, _, rfl, _, _, rfl, rfl, by rw [len_app, len_app, m4, m5, sizeLine_eq]; omega, _, _, rfl, rfl, by rw [len_app, len_app, len_app, m4, m5, m6, sizeLine_eq]; omega, ?_⟩
          refine ⟨(by show 2 ≤ sizeLine; decide), fun lx nlx => ?_⟩
          have S15 := new_same (o := .lst (([sam1 x0 x1, sam2 x0 x1] : List Str).map V.str)) nlx
          have elx : upd Hw lx (.lst (([sam1 x0 x1, sam2 x0 x1] : List Str).map V.str)) lx = some (.lst (([sam1 x0 x1, sam2 x0 x1] : List Str).map V.str)) := upd_same
          have ki15 := ki14.trans (Kp.of (p := p) S15)
          have n1 : (sam1 x0 x1).length ≤ 50 := by
            unfold sam1
            rw [len_app, len_app, len_app, len_app, m1, m2, m3]
            omega
          have n2 : (sam2 x0 x1).length ≤ 50 := by
            unfold sam2
            rw [len_app, len_app, len_app, len_app, m4, m5, m6]
            omega
          have k1 : Asc (sam1 x0 x1) := app_asc (app_asc (app_asc (app_asc (by decide +kernel) j0) (by decide +kernel)) j1) (by decide +kernel)
          have k2 : Asc (sam2 x0 x1) := app_asc (app_asc (app_asc (app_asc (by decide +kernel) j0) (by decide +kernel)) j1) (by decide +kernel)
          refine ⟨⟨_, rfl⟩, _, rfl, _, lx, [sam1 x0 x1, sam2 x0 x1], rfl, rfl, .inl (SqL.of elx), ?_, ?_⟩
          · show (sam1 x0 x1).length + ((sam2 x0 x1).length + 0) + 2 * (" or " : Str).length ≤ 16777216
            rw [show (" or " : Str).length = 4 from by decide +kernel]
            omega
          rw [TL.join_eq]
          refine ⟨sam1 x0 x1 ++ " or " ++ sam2 x0 x1, rfl, by rw [len_app, len_app, show (" or " : Str).length = 4 from by decide +kernel]; omega, app_asc (app_asc k1 (by decide +kernel)) k2, fun q4 H16 S16 hq4 => ?_⟩
          rw [hpq] at hq4
          have e4 : H16 q4 = some (.tup [.str "text", .str (txt pq)]) := hq4
          refine ⟨q4, _, _, _, rfl, rfl, SqT.of e4, atI_nat (j := 0) rfl, rfl, _, rfl, ?_⟩
          rw [dec_str, decide_eq_true rfl]
          refine iteF ?_
          have ki16 := ki15.trans (Kp.of (p := p) S16)
          have SE : Same H H16 := fun b o e => by
            have bp : b ≠ p := ne_of_none e np
            exact ki16 b o bp (ki b o bp (k4 b o bp (s1 _ _ e)))
          exact ⟨SE.seq hl, _, _, _, _, _, _, _, _, _, _, _, _, _, _, _, _, _, _, _, _, rfl⟩
end
end Q2

set_option linter.all false
set_option maxRecDepth 100000
set_option maxHeartbeats 16000000
namespace Q2
open PySem PySem.Spec PyProof.Rows L2 Gx Qp Qh
/-! ### what the top has written -/
abbrev Lw : PySem.W.OpenLaw := PySem.Challenge.rw_keptnomore_k20_questions_too_great
def clsB (K : PySem.W.Frag) (C : Addr) (B i : String) : Bool :=
  decide (PySem.W.findIn K (.ref C) "__setattr__" = some (some (.builtin "object.__setattr__"))) && (decide (PySem.W.subIn K (.ref C) (.type "BaseException") = some true) && (decide (PySem.W.typeIn K (.ref C) = some (.type "type")) && (PySem.W.keepIn K (.ref C)
  && (decide (PySem.W.findIn K (.ref C) "__getattribute__" = some (some (.builtin "BaseException.__getattribute__"))) && (decide (PySem.W.findIn K (.ref C) "__getattr__" = some none) && (PySem.W.hasDictIn K C
  && (decide (PySem.W.findIn K (.ref C) "__class__" = some (some (.builtin "object.__class__"))) && (decide (PySem.W.mroIn K C (.type "object") = some true) && (decide (PySem.W.ks_superIn K C C "__init__" = some (some (.builtin i)))
  && (decide (PySem.W.subIn K (.ref C) (.type B) = some true) && decide (PySem.W.mroIn K C (.ref C) = some true)))))))))))
structure ClsF (K : PySem.W.Frag) (C : Addr) (B i : String) : Prop where
  sa : PySem.W.findIn K (.ref C) "__setattr__" = some (some (.builtin "object.__setattr__"))
  exC : PySem.W.subIn K (.ref C) (.type "BaseException") = some true
  tyC : PySem.W.typeIn K (.ref C) = some (.type "type")
  kC : PySem.W.keepIn K (.ref C) = true
  ga : PySem.W.findIn K (.ref C) "__getattribute__" = some (some (.builtin "BaseException.__getattribute__"))
  gg : PySem.W.findIn K (.ref C) "__getattr__" = some none
  hd : PySem.W.hasDictIn K C = true
  ha : PySem.W.findIn K (.ref C) "__class__" = some (some (.builtin "object.__class__"))
  ho : PySem.W.mroIn K C (.type "object") = some true
  al : PySem.W.ks_superIn K C C "__init__" = some (some (.builtin i))
  sB : PySem.W.subIn K (.ref C) (.type B) = some true
  mC : PySem.W.mroIn K C (.ref C) = some true
theorem clsB_ok {K : PySem.W.Frag} {C : Addr} {B i : String} (h : clsB K C B i = true) : ClsF K C B i := by
  unfold clsB at h
  simp only [Bool.and_eq_true, decide_eq_true_eq] at h
  obtain ⟨h1, h2, h3, h4, h5, h6, h7, h8, h9, h10, h11, h12⟩ := h
  exact ⟨h1, h2, h3, h4, h5, h6, h7, h8, h9, h10, h11, h12⟩
theorem ClsF.exc {K : PySem.W.Frag} {C : Addr} {B i : String} (h : ClsF K C B i) (hn : PySem.W.specialIn K (.builtin "object.__class__") "__get__" = some (some (.builtin "getset_descriptor.__get__")))
    (ht : PySem.W.takesIn K (.builtin "object.__class__") = some true) : ExcC K C := ⟨h.ga, h.gg, h.exC, h.hd, h.ha, hn, ht, h.ho⟩
theorem ClsF.xf {K : PySem.W.Frag} {C : Addr} {B i : String} (h : ClsF K C B i) : XfC K C := ⟨h.ga, h.gg, h.exC, h.hd⟩
theorem refs16 (a : Addr) : PySem.HandSPX.refsVE [.ref a, .type "ValueError", .type "Exception", .type "BaseException", .type "object"] = true := by
  show PySem.HandSPX.refsVE [.type "ValueError", .type "Exception", .type "BaseException", .type "object"] = true
  decide +kernel
def tabB (K : PySem.W.Frag) (A B D R S : Addr) : Bool := decide (PySem.W.exmOne K (.ref A) (.ref A) = some true) && decide (PySem.W.exmOne K (.ref B) (.ref A) = some false) && decide (PySem.W.exmOne K (.ref B) (.ref B) = some true) && decide (PySem.W.kitOne K (.ref A) (.ref D) = some true) && decide (PySem.W.kitAny K (.ref A) [.ref R, .ref S] = some false)
structure TabF (K : PySem.W.Frag) (A B D R S : Addr) : Prop where
  e_nn : PySem.W.exmOne K (.ref A) (.ref A) = some true
  e_tn : PySem.W.exmOne K (.ref B) (.ref A) = some false
  e_tt : PySem.W.exmOne K (.ref B) (.ref B) = some true
  k_nk : PySem.W.kitOne K (.ref A) (.ref D) = some true
  k_nn : PySem.W.kitAny K (.ref A) [.ref R, .ref S] = some false
theorem tabB_ok {K : PySem.W.Frag} {A B D R S : Addr} (h : tabB K A B D R S = true) : TabF K A B D R S := by
  unfold tabB at h
  simp only [Bool.and_eq_true, decide_eq_true_eq] at h
  obtain ⟨⟨⟨⟨h0, h1⟩, h2⟩, h3⟩, h4⟩ := h
  exact ⟨h0, h1, h2, h3, h4⟩
theorem all_mk {w : World} {K : PySem.W.Frag} {h : Heap} {mg : Str → Option Value} {fa : Addr} (X : K.In h) (G : h.Ns mainGlobals mg) (hfa : mg "law" = some (.ref fa))
    {a0 f0 cc0 cda0 N0 a1 f1 cc1 cda1 N1 ak fF_own fF_words_in fF_consists fF_is_kind_name fF_fits fF_count_of fF_joined fF_encl fF_tunder fF_tof fF_depth fF_ato fF_outx fF_refuse fF_box fF_take fF_mixed fF_pick fF_caps fF_bound fF_shown fF_written fF_closed fF_tokens fF_excess fF_qr fF_wish fF_deeper fF_far fF_law Cr fF_dinit fF_dtake fF_dended fF_datom fF_dbehind fF_dclose fF_dput fF_dgather C fF_qinit rec_qread fF_qread fF_qstr fT_j fT_o fT_h fT_w : Addr}
    {od0 an0 dd0 cld0 cdd0 od1 an1 dd1 cld1 cdd1 odF_own anF_own odF_words_in anF_words_in odF_consists anF_consists odF_is_kind_name anF_is_kind_name odF_fits anF_fits odF_count_of anF_count_of odF_joined anF_joined odF_encl anF_encl odF_tunder anF_tunder odF_tof anF_tof odF_depth anF_depth odF_ato anF_ato odF_outx anF_outx odF_refuse anF_refuse odF_box anF_box odF_take anF_take odF_mixed anF_mixed odF_pick anF_pick odF_caps anF_caps odF_bound anF_bound odF_shown anF_shown odF_written anF_written odF_closed anF_closed odF_tokens anF_tokens odF_excess anF_excess odF_qr anF_qr odF_wish anF_wish odF_deeper anF_deeper odF_far anF_far odF_law anF_law odF_dinit anF_dinit odF_dtake anF_dtake odF_dended anF_dended odF_datom anF_datom odF_dbehind anF_dbehind odF_dclose anF_dclose odF_dput anF_dput odF_dgather anF_dgather odF_qinit anF_qinit odF_qread anF_qread odF_qstr anF_qstr odT_j odT_o odT_h odT_w : Option Addr}
    {oc0 dc0 pm0 ct0 cl0 ccl0 oc1 dc1 pm1 ct1 cl1 ccl1 ocF_own kVF_own dcF_own pmF_own cdF_own ctF_own ocF_words_in kVF_words_in dcF_words_in pmF_words_in cdF_words_in ctF_words_in ocF_consists kVF_consists dcF_consists pmF_consists cdF_consists ctF_consists ocF_is_kind_name kVF_is_kind_name dcF_is_kind_name pmF_is_kind_name cdF_is_kind_name ctF_is_kind_name ocF_fits kVF_fits dcF_fits pmF_fits cdF_fits ctF_fits ocF_count_of kVF_count_of dcF_count_of pmF_count_of cdF_count_of ctF_count_of ocF_joined kVF_joined dcF_joined pmF_joined cdF_joined ctF_joined ocF_encl kVF_encl dcF_encl pmF_encl cdF_encl ctF_encl ocF_tunder kVF_tunder dcF_tunder pmF_tunder cdF_tunder ctF_tunder ocF_tof kVF_tof dcF_tof pmF_tof cdF_tof ctF_tof ocF_depth kVF_depth dcF_depth pmF_depth cdF_depth ctF_depth ocF_ato kVF_ato dcF_ato pmF_ato cdF_ato ctF_ato ocF_outx kVF_outx dcF_outx pmF_outx cdF_outx ctF_outx ocF_refuse kVF_refuse dcF_refuse pmF_refuse cdF_refuse ctF_refuse ocF_box kVF_box dcF_box pmF_box cdF_box ctF_box ocF_take kVF_take dcF_take pmF_take cdF_take ctF_take ocF_mixed kVF_mixed dcF_mixed pmF_mixed cdF_mixed ctF_mixed ocF_pick kVF_pick dcF_pick pmF_pick cdF_pick ctF_pick ocF_caps kVF_caps dcF_caps pmF_caps cdF_caps ctF_caps ocF_bound kVF_bound dcF_bound pmF_bound cdF_bound ctF_bound ocF_shown kVF_shown dcF_shown pmF_shown cdF_shown ctF_shown ocF_written kVF_written dcF_written pmF_written cdF_written ctF_written ocF_closed kVF_closed dcF_closed pmF_closed cdF_closed ctF_closed ocF_tokens kVF_tokens dcF_tokens pmF_tokens cdF_tokens ctF_tokens ocF_excess kVF_excess dcF_excess pmF_excess cdF_excess ctF_excess ocF_qr kVF_qr dcF_qr pmF_qr cdF_qr ctF_qr ocF_wish kVF_wish dcF_wish pmF_wish cdF_wish ctF_wish ocF_deeper kVF_deeper dcF_deeper pmF_deeper cdF_deeper ctF_deeper ocF_far kVF_far dcF_far pmF_far cdF_far ctF_far ocF_law kVF_law dcF_law pmF_law cdF_law ctF_law ocF_dinit kVF_dinit dcF_dinit pmF_dinit cdF_dinit ctF_dinit ocF_dtake kVF_dtake dcF_dtake pmF_dtake cdF_dtake ctF_dtake ocF_dended kVF_dended dcF_dended pmF_dended cdF_dended ctF_dended ocF_datom kVF_datom dcF_datom pmF_datom cdF_datom ctF_datom ocF_dbehind kVF_dbehind dcF_dbehind pmF_dbehind cdF_dbehind ctF_dbehind ocF_dclose kVF_dclose dcF_dclose pmF_dclose cdF_dclose ctF_dclose ocF_dput kVF_dput dcF_dput pmF_dput cdF_dput ctF_dput ocF_dgather kVF_dgather dcF_dgather pmF_dgather cdF_dgather ctF_dgather ocF_qinit kVF_qinit dcF_qinit pmF_qinit cdF_qinit ctF_qinit ocF_qread kVF_qread dcF_qread pmF_qread cdF_qread ctF_qread ocF_qstr kVF_qstr dcF_qstr pmF_qstr cdF_qstr ctF_qstr : Value}
    {osl0 csl0 ccs0 osl1 csl1 ccs1 slF_own slF_words_in slF_consists slF_is_kind_name slF_fits slF_count_of slF_joined slF_encl slF_tunder slF_tof slF_depth slF_ato slF_outx slF_refuse slF_box slF_take slF_mixed slF_pick slF_caps slF_bound slF_shown slF_written slF_closed slF_tokens slF_excess slF_qr slF_wish slF_deeper slF_far slF_law slF_dinit slF_dtake slF_dended slF_datom slF_dbehind slF_dclose slF_dput slF_dgather slF_qinit slF_qread slF_qstr : Array (Option Value)}
    {nm0 q0 file0 nm1 q1 file1 : Str} {bs0 sub0 bs1 sub1 : List Value} {sn0 sn1 : List Str} {ab0 ab1 : Bool} {col0 col1 : Option Bool}
    {k0_0 k1_0 k2_0 k3_0 k5_0 k0_1 k1_1 k2_1 k3_1 k5_1 : Option Value}
    {vs0 vs1 : Array Value} {tf0 tf1 : Tok}
    {rest_qread : List Value}
    {tk_j0 tk_j1 : Tok} {nT_j : Nat} {slT_j : Array (Option Value)}
    {tk_o0 tk_o1 : Tok} {nT_o : Nat} {slT_o : Array (Option Value)}
    {tk_h0 tk_h1 tk_h2 : Tok} {nT_h : Nat} {slT_h : Array (Option Value)}
    {tk_w0 tk_w1 tk_w2 tk_w3 tk_w4 tk_w5 : Tok} {nT_w : Nat} {slT_w : Array (Option Value)}
    {cNR cNK : Addr}
    {fQ qf0 qf1 qf2 qf3 : Addr} {odQ od_q0 od_q1 od_q2 od_q3 : Option Addr} {nQ n_q0 n_q1 n_q2 n_q3 : Nat} {slQ sl_q0 sl_q1 sl_q2 sl_q3 : Array (Option Value)} {tq0 tq0k tq1 tq2 tq2k tq3 tq3k : Tok}
    (g0 : PySem.W.nsIn K mainGlobals "NoQuestion" = some (some (.ref a0)))
    (g1 : PySem.W.nsIn K mainGlobals "TooMany" = some (some (.ref a1)))
    (gk : PySem.W.nsIn K mainGlobals "KeptError" = some (some (.ref ak)))
    (x0 : K.lookup a0 = some (excClassObj nm0 q0 a0 N0 bs0 [.ref ak, .type "ValueError", .type "Exception", .type "BaseException", .type "object"] true sn0 sub0 ab0 col0 dd0 k0_0 k1_0 k2_0 k3_0 k5_0 "ValueError.__new__"))
    (i0 : PySem.W.findIn K (.ref a0) "__init__" = some (some (.ref f0)))
    (t0 : PySem.W.typeIn K (.ref f0) = some (.type "function"))
    (l0 : K.lookup f0 = some ⟨oc0, od0, .func (PySem.W.fnX "__init__" "NoQuestion.__init__" (defArgs s_NoQuestion) (defBody s_NoQuestion) (defScope s_NoQuestion) [("__class__", cc0)] .none .none dc0 pm0 an0 (.ref cda0) ct0), osl0⟩)
    (c0 : PySem.W.codeIn K (.ref cda0) "NoQuestion.__init__" = true)
    (u0 : K.lookup cc0 = some ⟨cl0, cld0, .cell (some (.ref a0)), csl0⟩)
    (w0 : K.lookup cda0 = some ⟨ccl0, cdd0, .fields vs0, ccs0⟩)
    (y0 : vs0[2]? = some (.str file0 tf0))
    (z0 : ((Lw.prog.main.file : Str) == file0) = true)
    (b0 : clsB K a0 "ValueError" "ValueError.__init__" = true)
    (n0at : PySem.W.findIn K (.ref a0) "at" = some none)
    (x1 : K.lookup a1 = some (excClassObj nm1 q1 a1 N1 bs1 [.ref ak, .type "ValueError", .type "Exception", .type "BaseException", .type "object"] true sn1 sub1 ab1 col1 dd1 k0_1 k1_1 k2_1 k3_1 k5_1 "ValueError.__new__"))
    (i1 : PySem.W.findIn K (.ref a1) "__init__" = some (some (.ref f1)))
    (t1 : PySem.W.typeIn K (.ref f1) = some (.type "function"))
    (l1 : K.lookup f1 = some ⟨oc1, od1, .func (PySem.W.fnX "__init__" "TooMany.__init__" (defArgs s_TooMany) (defBody s_TooMany) (defScope s_TooMany) [("__class__", cc1)] .none .none dc1 pm1 an1 (.ref cda1) ct1), osl1⟩)
    (c1 : PySem.W.codeIn K (.ref cda1) "TooMany.__init__" = true)
    (u1 : K.lookup cc1 = some ⟨cl1, cld1, .cell (some (.ref a1)), csl1⟩)
    (w1 : K.lookup cda1 = some ⟨ccl1, cdd1, .fields vs1, ccs1⟩)
    (y1 : vs1[2]? = some (.str file1 tf1))
    (z1 : ((Lw.prog.main.file : Str) == file1) = true)
    (b1 : clsB K a1 "ValueError" "ValueError.__init__" = true)
    (n1word : PySem.W.findIn K (.ref a1) "word" = some none)
    (hn : PySem.W.specialIn K (.builtin "object.__class__") "__get__" = some (some (.builtin "getset_descriptor.__get__")))
    (ht : PySem.W.takesIn K (.builtin "object.__class__") = some true)
    (th : PySem.W.nsIn K PySem.cStatics "thirdparty.any" = some none)
    (htop : (Lw.prog.main.scope.names.lookup ("super" : Str)).isSome = false)
    (aF_own : PySem.W.nsIn K mainGlobals "own_copy" = some (some (.ref fF_own)))
    (lF_own : K.lookup fF_own = some ⟨ocF_own, odF_own, .func (PySem.W.fnOf "own_copy" "own_copy" (defArgs s_own) (defBody s_own) (defScope s_own) .none kVF_own dcF_own pmF_own anF_own cdF_own ctF_own), slF_own⟩)
    (cF_own : PySem.W.codeIn K cdF_own "own_copy" = true)
    (kF_own : PySem.W.keepIn K (.ref fF_own) = true)
    (aF_words_in : PySem.W.nsIn K mainGlobals "words_in" = some (some (.ref fF_words_in)))
    (lF_words_in : K.lookup fF_words_in = some ⟨ocF_words_in, odF_words_in, .func (PySem.W.fnOf "words_in" "words_in" (defArgs s_words_in) (defBody s_words_in) (defScope s_words_in) .none kVF_words_in dcF_words_in pmF_words_in anF_words_in cdF_words_in ctF_words_in), slF_words_in⟩)
    (cF_words_in : PySem.W.codeIn K cdF_words_in "words_in" = true)
    (kF_words_in : PySem.W.keepIn K (.ref fF_words_in) = true)
    (aF_consists : PySem.W.nsIn K mainGlobals "consists_of" = some (some (.ref fF_consists)))
    (lF_consists : K.lookup fF_consists = some ⟨ocF_consists, odF_consists, .func (PySem.W.fnOf "consists_of" "consists_of" (defArgs s_consists) (defBody s_consists) (defScope s_consists) .none kVF_consists dcF_consists pmF_consists anF_consists cdF_consists ctF_consists), slF_consists⟩)
    (cF_consists : PySem.W.codeIn K cdF_consists "consists_of" = true)
    (kF_consists : PySem.W.keepIn K (.ref fF_consists) = true)
    (aF_is_kind_name : PySem.W.nsIn K mainGlobals "is_kind_name" = some (some (.ref fF_is_kind_name)))
    (lF_is_kind_name : K.lookup fF_is_kind_name = some ⟨ocF_is_kind_name, odF_is_kind_name, .func (PySem.W.fnOf "is_kind_name" "is_kind_name" (defArgs s_is_kind_name) (defBody s_is_kind_name) (defScope s_is_kind_name) .none kVF_is_kind_name dcF_is_kind_name pmF_is_kind_name anF_is_kind_name cdF_is_kind_name ctF_is_kind_name), slF_is_kind_name⟩)
    (cF_is_kind_name : PySem.W.codeIn K cdF_is_kind_name "is_kind_name" = true)
    (kF_is_kind_name : PySem.W.keepIn K (.ref fF_is_kind_name) = true)
    (aF_fits : PySem.W.nsIn K mainGlobals "fits" = some (some (.ref fF_fits)))
    (lF_fits : K.lookup fF_fits = some ⟨ocF_fits, odF_fits, .func (PySem.W.fnOf "fits" "fits" (defArgs s_fits) (defBody s_fits) (defScope s_fits) .none kVF_fits dcF_fits pmF_fits anF_fits cdF_fits ctF_fits), slF_fits⟩)
    (cF_fits : PySem.W.codeIn K cdF_fits "fits" = true)
    (kF_fits : PySem.W.keepIn K (.ref fF_fits) = true)
    (aF_count_of : PySem.W.nsIn K mainGlobals "count_of" = some (some (.ref fF_count_of)))
    (lF_count_of : K.lookup fF_count_of = some ⟨ocF_count_of, odF_count_of, .func (PySem.W.fnOf "count_of" "count_of" (defArgs s_count_of) (defBody s_count_of) (defScope s_count_of) .none kVF_count_of dcF_count_of pmF_count_of anF_count_of cdF_count_of ctF_count_of), slF_count_of⟩)
    (cF_count_of : PySem.W.codeIn K cdF_count_of "count_of" = true)
    (kF_count_of : PySem.W.keepIn K (.ref fF_count_of) = true)
    (aF_joined : PySem.W.nsIn K mainGlobals "joined" = some (some (.ref fF_joined)))
    (lF_joined : K.lookup fF_joined = some ⟨ocF_joined, odF_joined, .func (PySem.W.fnOf "joined" "joined" (defArgs s_joined) (defBody s_joined) (defScope s_joined) .none kVF_joined dcF_joined pmF_joined anF_joined cdF_joined ctF_joined), slF_joined⟩)
    (cF_joined : PySem.W.codeIn K cdF_joined "joined" = true)
    (kF_joined : PySem.W.keepIn K (.ref fF_joined) = true)
    (aF_encl : PySem.W.nsIn K mainGlobals "is_enclosed" = some (some (.ref fF_encl)))
    (lF_encl : K.lookup fF_encl = some ⟨ocF_encl, odF_encl, .func (PySem.W.fnOf "is_enclosed" "is_enclosed" (defArgs s_encl) (defBody s_encl) (defScope s_encl) .none kVF_encl dcF_encl pmF_encl anF_encl cdF_encl ctF_encl), slF_encl⟩)
    (cF_encl : PySem.W.codeIn K cdF_encl "is_enclosed" = true)
    (kF_encl : PySem.W.keepIn K (.ref fF_encl) = true)
    (aF_tunder : PySem.W.nsIn K mainGlobals "text_under" = some (some (.ref fF_tunder)))
    (lF_tunder : K.lookup fF_tunder = some ⟨ocF_tunder, odF_tunder, .func (PySem.W.fnOf "text_under" "text_under" (defArgs s_tunder) (defBody s_tunder) (defScope s_tunder) .none kVF_tunder dcF_tunder pmF_tunder anF_tunder cdF_tunder ctF_tunder), slF_tunder⟩)
    (cF_tunder : PySem.W.codeIn K cdF_tunder "text_under" = true)
    (kF_tunder : PySem.W.keepIn K (.ref fF_tunder) = true)
    (aF_tof : PySem.W.nsIn K mainGlobals "text_of" = some (some (.ref fF_tof)))
    (lF_tof : K.lookup fF_tof = some ⟨ocF_tof, odF_tof, .func (PySem.W.fnOf "text_of" "text_of" (defArgs s_tof) (defBody s_tof) (defScope s_tof) .none kVF_tof dcF_tof pmF_tof anF_tof cdF_tof ctF_tof), slF_tof⟩)
    (cF_tof : PySem.W.codeIn K cdF_tof "text_of" = true)
    (kF_tof : PySem.W.keepIn K (.ref fF_tof) = true)
    (aF_depth : PySem.W.nsIn K mainGlobals "depth_of" = some (some (.ref fF_depth)))
    (lF_depth : K.lookup fF_depth = some ⟨ocF_depth, odF_depth, .func (PySem.W.fnOf "depth_of" "depth_of" (defArgs s_depth) (defBody s_depth) (defScope s_depth) .none kVF_depth dcF_depth pmF_depth anF_depth cdF_depth ctF_depth), slF_depth⟩)
    (cF_depth : PySem.W.codeIn K cdF_depth "depth_of" = true)
    (kF_depth : PySem.W.keepIn K (.ref fF_depth) = true)
    (aF_ato : PySem.W.nsIn K mainGlobals "atoms_of" = some (some (.ref fF_ato)))
    (lF_ato : K.lookup fF_ato = some ⟨ocF_ato, odF_ato, .func (PySem.W.fnOf "atoms_of" "atoms_of" (defArgs s_ato) (defBody s_ato) (defScope s_ato) .none kVF_ato dcF_ato pmF_ato anF_ato cdF_ato ctF_ato), slF_ato⟩)
    (cF_ato : PySem.W.codeIn K cdF_ato "atoms_of" = true)
    (kF_ato : PySem.W.keepIn K (.ref fF_ato) = true)
    (aF_outx : PySem.W.nsIn K mainGlobals "outer_texts" = some (some (.ref fF_outx)))
    (lF_outx : K.lookup fF_outx = some ⟨ocF_outx, odF_outx, .func (PySem.W.fnOf "outer_texts" "outer_texts" (defArgs s_outx) (defBody s_outx) (defScope s_outx) .none kVF_outx dcF_outx pmF_outx anF_outx cdF_outx ctF_outx), slF_outx⟩)
    (cF_outx : PySem.W.codeIn K cdF_outx "outer_texts" = true)
    (kF_outx : PySem.W.keepIn K (.ref fF_outx) = true)
    (aF_refuse : PySem.W.nsIn K mainGlobals "refuse_many" = some (some (.ref fF_refuse)))
    (lF_refuse : K.lookup fF_refuse = some ⟨ocF_refuse, odF_refuse, .func (PySem.W.fnOf "refuse_many" "refuse_many" (defArgs s_refuse) (defBody s_refuse) (defScope s_refuse) .none kVF_refuse dcF_refuse pmF_refuse anF_refuse cdF_refuse ctF_refuse), slF_refuse⟩)
    (cF_refuse : PySem.W.codeIn K cdF_refuse "refuse_many" = true)
    (kF_refuse : PySem.W.keepIn K (.ref fF_refuse) = true)
    (aF_box : PySem.W.nsIn K mainGlobals "_law_box" = some (some (.ref fF_box)))
    (lF_box : K.lookup fF_box = some ⟨ocF_box, odF_box, .func (PySem.W.fnOf "_law_box" "_law_box" (defArgs s_box) (defBody s_box) (defScope s_box) .none kVF_box dcF_box pmF_box anF_box cdF_box ctF_box), slF_box⟩)
    (cF_box : PySem.W.codeIn K cdF_box "_law_box" = true)
    (kF_box : PySem.W.keepIn K (.ref fF_box) = true)
    (aF_take : PySem.W.nsIn K mainGlobals "_law_take" = some (some (.ref fF_take)))
    (lF_take : K.lookup fF_take = some ⟨ocF_take, odF_take, .func (PySem.W.fnOf "_law_take" "_law_take" (defArgs s_take) (defBody s_take) (defScope s_take) .none kVF_take dcF_take pmF_take anF_take cdF_take ctF_take), slF_take⟩)
    (cF_take : PySem.W.codeIn K cdF_take "_law_take" = true)
    (kF_take : PySem.W.keepIn K (.ref fF_take) = true)
    (aF_mixed : PySem.W.nsIn K mainGlobals "_law_mixed" = some (some (.ref fF_mixed)))
    (lF_mixed : K.lookup fF_mixed = some ⟨ocF_mixed, odF_mixed, .func (PySem.W.fnOf "_law_mixed" "_law_mixed" (defArgs s_mixed) (defBody s_mixed) (defScope s_mixed) .none kVF_mixed dcF_mixed pmF_mixed anF_mixed cdF_mixed ctF_mixed), slF_mixed⟩)
    (cF_mixed : PySem.W.codeIn K cdF_mixed "_law_mixed" = true)
    (kF_mixed : PySem.W.keepIn K (.ref fF_mixed) = true)
    (aF_pick : PySem.W.nsIn K mainGlobals "_law_pick" = some (some (.ref fF_pick)))
    (lF_pick : K.lookup fF_pick = some ⟨ocF_pick, odF_pick, .func (PySem.W.fnOf "_law_pick" "_law_pick" (defArgs s_pick) (defBody s_pick) (defScope s_pick) .none kVF_pick dcF_pick pmF_pick anF_pick cdF_pick ctF_pick), slF_pick⟩)
    (cF_pick : PySem.W.codeIn K cdF_pick "_law_pick" = true)
    (kF_pick : PySem.W.keepIn K (.ref fF_pick) = true)
    (aF_caps : PySem.W.nsIn K mainGlobals "_law_caps" = some (some (.ref fF_caps)))
    (lF_caps : K.lookup fF_caps = some ⟨ocF_caps, odF_caps, .func (PySem.W.fnOf "_law_caps" "_law_caps" (defArgs s_caps) (defBody s_caps) (defScope s_caps) .none kVF_caps dcF_caps pmF_caps anF_caps cdF_caps ctF_caps), slF_caps⟩)
    (cF_caps : PySem.W.codeIn K cdF_caps "_law_caps" = true)
    (kF_caps : PySem.W.keepIn K (.ref fF_caps) = true)
    (aF_bound : PySem.W.nsIn K mainGlobals "_law_bound" = some (some (.ref fF_bound)))
    (lF_bound : K.lookup fF_bound = some ⟨ocF_bound, odF_bound, .func (PySem.W.fnOf "_law_bound" "_law_bound" (defArgs s_bound) (defBody s_bound) (defScope s_bound) .none kVF_bound dcF_bound pmF_bound anF_bound cdF_bound ctF_bound), slF_bound⟩)
    (cF_bound : PySem.W.codeIn K cdF_bound "_law_bound" = true)
    (kF_bound : PySem.W.keepIn K (.ref fF_bound) = true)
    (aF_shown : PySem.W.nsIn K mainGlobals "_law_shown" = some (some (.ref fF_shown)))
    (lF_shown : K.lookup fF_shown = some ⟨ocF_shown, odF_shown, .func (PySem.W.fnOf "_law_shown" "_law_shown" (defArgs s_shown) (defBody s_shown) (defScope s_shown) .none kVF_shown dcF_shown pmF_shown anF_shown cdF_shown ctF_shown), slF_shown⟩)
    (cF_shown : PySem.W.codeIn K cdF_shown "_law_shown" = true)
    (kF_shown : PySem.W.keepIn K (.ref fF_shown) = true)
    (aF_written : PySem.W.nsIn K mainGlobals "_law_written" = some (some (.ref fF_written)))
    (lF_written : K.lookup fF_written = some ⟨ocF_written, odF_written, .func (PySem.W.fnOf "_law_written" "_law_written" (defArgs s_written) (defBody s_written) (defScope s_written) .none kVF_written dcF_written pmF_written anF_written cdF_written ctF_written), slF_written⟩)
    (cF_written : PySem.W.codeIn K cdF_written "_law_written" = true)
    (kF_written : PySem.W.keepIn K (.ref fF_written) = true)
    (aF_closed : PySem.W.nsIn K mainGlobals "_law_closed" = some (some (.ref fF_closed)))
    (lF_closed : K.lookup fF_closed = some ⟨ocF_closed, odF_closed, .func (PySem.W.fnOf "_law_closed" "_law_closed" (defArgs s_closed) (defBody s_closed) (defScope s_closed) .none kVF_closed dcF_closed pmF_closed anF_closed cdF_closed ctF_closed), slF_closed⟩)
    (cF_closed : PySem.W.codeIn K cdF_closed "_law_closed" = true)
    (kF_closed : PySem.W.keepIn K (.ref fF_closed) = true)
    (aF_tokens : PySem.W.nsIn K mainGlobals "_law_tokens" = some (some (.ref fF_tokens)))
    (lF_tokens : K.lookup fF_tokens = some ⟨ocF_tokens, odF_tokens, .func (PySem.W.fnOf "_law_tokens" "_law_tokens" (defArgs s_tokens) (defBody s_tokens) (defScope s_tokens) .none kVF_tokens dcF_tokens pmF_tokens anF_tokens cdF_tokens ctF_tokens), slF_tokens⟩)
    (cF_tokens : PySem.W.codeIn K cdF_tokens "_law_tokens" = true)
    (kF_tokens : PySem.W.keepIn K (.ref fF_tokens) = true)
    (aF_excess : PySem.W.nsIn K mainGlobals "_law_excess" = some (some (.ref fF_excess)))
    (lF_excess : K.lookup fF_excess = some ⟨ocF_excess, odF_excess, .func (PySem.W.fnOf "_law_excess" "_law_excess" (defArgs s_excess) (defBody s_excess) (defScope s_excess) .none kVF_excess dcF_excess pmF_excess anF_excess cdF_excess ctF_excess), slF_excess⟩)
    (cF_excess : PySem.W.codeIn K cdF_excess "_law_excess" = true)
    (kF_excess : PySem.W.keepIn K (.ref fF_excess) = true)
    (aF_qr : PySem.W.nsIn K mainGlobals "_law_question_read" = some (some (.ref fF_qr)))
    (lF_qr : K.lookup fF_qr = some ⟨ocF_qr, odF_qr, .func (PySem.W.fnOf "_law_question_read" "_law_question_read" (defArgs s_qr) (defBody s_qr) (defScope s_qr) .none kVF_qr dcF_qr pmF_qr anF_qr cdF_qr ctF_qr), slF_qr⟩)
    (cF_qr : PySem.W.codeIn K cdF_qr "_law_question_read" = true)
    (kF_qr : PySem.W.keepIn K (.ref fF_qr) = true)
    (aF_wish : PySem.W.nsIn K mainGlobals "_law_wish" = some (some (.ref fF_wish)))
    (lF_wish : K.lookup fF_wish = some ⟨ocF_wish, odF_wish, .func (PySem.W.fnOf "_law_wish" "_law_wish" (defArgs s_wish) (defBody s_wish) (defScope s_wish) .none kVF_wish dcF_wish pmF_wish anF_wish cdF_wish ctF_wish), slF_wish⟩)
    (cF_wish : PySem.W.codeIn K cdF_wish "_law_wish" = true)
    (kF_wish : PySem.W.keepIn K (.ref fF_wish) = true)
    (aF_deeper : PySem.W.nsIn K mainGlobals "_law_deeper" = some (some (.ref fF_deeper)))
    (lF_deeper : K.lookup fF_deeper = some ⟨ocF_deeper, odF_deeper, .func (PySem.W.fnOf "_law_deeper" "_law_deeper" (defArgs s_deeper) (defBody s_deeper) (defScope s_deeper) .none kVF_deeper dcF_deeper pmF_deeper anF_deeper cdF_deeper ctF_deeper), slF_deeper⟩)
    (cF_deeper : PySem.W.codeIn K cdF_deeper "_law_deeper" = true)
    (kF_deeper : PySem.W.keepIn K (.ref fF_deeper) = true)
    (aF_far : PySem.W.nsIn K mainGlobals "_law_far_right" = some (some (.ref fF_far)))
    (lF_far : K.lookup fF_far = some ⟨ocF_far, odF_far, .func (PySem.W.fnOf "_law_far_right" "_law_far_right" (defArgs s_far) (defBody s_far) (defScope s_far) .none kVF_far dcF_far pmF_far anF_far cdF_far ctF_far), slF_far⟩)
    (cF_far : PySem.W.codeIn K cdF_far "_law_far_right" = true)
    (kF_far : PySem.W.keepIn K (.ref fF_far) = true)
    (aF_law : PySem.W.nsIn K mainGlobals "law" = some (some (.ref fF_law)))
    (lF_law : K.lookup fF_law = some ⟨ocF_law, odF_law, .func (PySem.W.fnOf "law" "law" (defArgs s_law) (defBody s_law) (defScope s_law) .none kVF_law dcF_law pmF_law anF_law cdF_law ctF_law), slF_law⟩)
    (cF_law : PySem.W.codeIn K cdF_law "law" = true)
    (kF_law : PySem.W.keepIn K (.ref fF_law) = true)
    (g_Cr : PySem.W.nsIn K mainGlobals "Reading" = some (some (.ref Cr)))
    (pg_Cr : PySem.W.plainGet K Cr Str.empty = true)
    (hd_Cr : PySem.W.hasDictIn K Cr = true)
    (po_Cr : PySem.W.plainOver K Cr = true)
    (sa_Cr : PySem.W.findIn K (.ref Cr) "__setattr__" = some (some (.builtin "object.__setattr__")))
    (mk_Cr : PySem.W.makesIn K Cr = true)
    (kc_Cr : PySem.W.keepIn K (.ref Cr) = true)
    (ha_Cr : PySem.W.findIn K (.ref Cr) "__class__" = some (some (.builtin "object.__class__")))
    (hm_Cr : PySem.W.mroIn K Cr (.type "object") = some true)
    (na_Cr__forms : PySem.W.findIn K (.ref Cr) "_forms" = some none)
    (na_Cr__heads : PySem.W.findIn K (.ref Cr) "_heads" = some none)
    (na_Cr__parts : PySem.W.findIn K (.ref Cr) "_parts" = some none)
    (na_Cr__waiting : PySem.W.findIn K (.ref Cr) "_waiting" = some none)
    (na_Cr__begun : PySem.W.findIn K (.ref Cr) "_begun" = some none)
    (na_Cr__is_whole : PySem.W.findIn K (.ref Cr) "_is_whole" = some none)
    (aF_dinit : PySem.W.findIn K (.ref Cr) "__init__" = some (some (.ref fF_dinit)))
    (iF_dinit : PySem.W.isFn K (.ref fF_dinit) = true)
    (lF_dinit : K.lookup fF_dinit = some ⟨ocF_dinit, odF_dinit, .func (PySem.W.fnOf "__init__" "Reading.__init__" (defArgs s_dinit) (defBody s_dinit) (defScope s_dinit) .none kVF_dinit dcF_dinit pmF_dinit anF_dinit cdF_dinit ctF_dinit), slF_dinit⟩)
    (cF_dinit : PySem.W.codeIn K cdF_dinit "Reading.__init__" = true)
    (kF_dinit : PySem.W.keepIn K (.ref fF_dinit) = true)
    (aF_dtake : PySem.W.findIn K (.ref Cr) "take" = some (some (.ref fF_dtake)))
    (iF_dtake : PySem.W.isFn K (.ref fF_dtake) = true)
    (lF_dtake : K.lookup fF_dtake = some ⟨ocF_dtake, odF_dtake, .func (PySem.W.fnOf "take" "Reading.take" (defArgs s_dtake) (defBody s_dtake) (defScope s_dtake) .none kVF_dtake dcF_dtake pmF_dtake anF_dtake cdF_dtake ctF_dtake), slF_dtake⟩)
    (cF_dtake : PySem.W.codeIn K cdF_dtake "Reading.take" = true)
    (kF_dtake : PySem.W.keepIn K (.ref fF_dtake) = true)
    (aF_dended : PySem.W.findIn K (.ref Cr) "ended" = some (some (.ref fF_dended)))
    (iF_dended : PySem.W.isFn K (.ref fF_dended) = true)
    (lF_dended : K.lookup fF_dended = some ⟨ocF_dended, odF_dended, .func (PySem.W.fnOf "ended" "Reading.ended" (defArgs s_dended) (defBody s_dended) (defScope s_dended) .none kVF_dended dcF_dended pmF_dended anF_dended cdF_dended ctF_dended), slF_dended⟩)
    (cF_dended : PySem.W.codeIn K cdF_dended "Reading.ended" = true)
    (kF_dended : PySem.W.keepIn K (.ref fF_dended) = true)
    (aF_datom : PySem.W.findIn K (.ref Cr) "_take_in_atom" = some (some (.ref fF_datom)))
    (iF_datom : PySem.W.isFn K (.ref fF_datom) = true)
    (lF_datom : K.lookup fF_datom = some ⟨ocF_datom, odF_datom, .func (PySem.W.fnOf "_take_in_atom" "Reading._take_in_atom" (defArgs s_datom) (defBody s_datom) (defScope s_datom) .none kVF_datom dcF_datom pmF_datom anF_datom cdF_datom ctF_datom), slF_datom⟩)
    (cF_datom : PySem.W.codeIn K cdF_datom "Reading._take_in_atom" = true)
    (kF_datom : PySem.W.keepIn K (.ref fF_datom) = true)
    (aF_dbehind : PySem.W.findIn K (.ref Cr) "_take_behind" = some (some (.ref fF_dbehind)))
    (iF_dbehind : PySem.W.isFn K (.ref fF_dbehind) = true)
    (lF_dbehind : K.lookup fF_dbehind = some ⟨ocF_dbehind, odF_dbehind, .func (PySem.W.fnOf "_take_behind" "Reading._take_behind" (defArgs s_dbehind) (defBody s_dbehind) (defScope s_dbehind) .none kVF_dbehind dcF_dbehind pmF_dbehind anF_dbehind cdF_dbehind ctF_dbehind), slF_dbehind⟩)
    (cF_dbehind : PySem.W.codeIn K cdF_dbehind "Reading._take_behind" = true)
    (kF_dbehind : PySem.W.keepIn K (.ref fF_dbehind) = true)
    (aF_dclose : PySem.W.findIn K (.ref Cr) "_close" = some (some (.ref fF_dclose)))
    (iF_dclose : PySem.W.isFn K (.ref fF_dclose) = true)
    (lF_dclose : K.lookup fF_dclose = some ⟨ocF_dclose, odF_dclose, .func (PySem.W.fnOf "_close" "Reading._close" (defArgs s_dclose) (defBody s_dclose) (defScope s_dclose) .none kVF_dclose dcF_dclose pmF_dclose anF_dclose cdF_dclose ctF_dclose), slF_dclose⟩)
    (cF_dclose : PySem.W.codeIn K cdF_dclose "Reading._close" = true)
    (kF_dclose : PySem.W.keepIn K (.ref fF_dclose) = true)
    (aF_dput : PySem.W.findIn K (.ref Cr) "_put" = some (some (.ref fF_dput)))
    (iF_dput : PySem.W.isFn K (.ref fF_dput) = true)
    (lF_dput : K.lookup fF_dput = some ⟨ocF_dput, odF_dput, .func (PySem.W.fnOf "_put" "Reading._put" (defArgs s_dput) (defBody s_dput) (defScope s_dput) .none kVF_dput dcF_dput pmF_dput anF_dput cdF_dput ctF_dput), slF_dput⟩)
    (cF_dput : PySem.W.codeIn K cdF_dput "Reading._put" = true)
    (kF_dput : PySem.W.keepIn K (.ref fF_dput) = true)
    (aF_dgather : PySem.W.findIn K (.ref Cr) "_gather" = some (some (.ref fF_dgather)))
    (iF_dgather : PySem.W.isFn K (.ref fF_dgather) = true)
    (lF_dgather : K.lookup fF_dgather = some ⟨ocF_dgather, odF_dgather, .func (PySem.W.fnOf "_gather" "Reading._gather" (defArgs s_dgather) (defBody s_dgather) (defScope s_dgather) .none kVF_dgather dcF_dgather pmF_dgather anF_dgather cdF_dgather ctF_dgather), slF_dgather⟩)
    (cF_dgather : PySem.W.codeIn K cdF_dgather "Reading._gather" = true)
    (kF_dgather : PySem.W.keepIn K (.ref fF_dgather) = true)
    (g_C : PySem.W.nsIn K mainGlobals "Question" = some (some (.ref C)))
    (pg_C : PySem.W.plainGet K C Str.empty = true)
    (hd_C : PySem.W.hasDictIn K C = true)
    (po_C : PySem.W.plainOver K C = true)
    (sa_C : PySem.W.findIn K (.ref C) "__setattr__" = some (some (.builtin "object.__setattr__")))
    (mk_C : PySem.W.makesIn K C = true)
    (kc_C : PySem.W.keepIn K (.ref C) = true)
    (ha_C : PySem.W.findIn K (.ref C) "__class__" = some (some (.builtin "object.__class__")))
    (hm_C : PySem.W.mroIn K C (.type "object") = some true)
    (na_C_part : PySem.W.findIn K (.ref C) "part" = some none)
    (na_C__text : PySem.W.findIn K (.ref C) "_text" = some none)
    (aF_qinit : PySem.W.findIn K (.ref C) "__init__" = some (some (.ref fF_qinit)))
    (iF_qinit : PySem.W.isFn K (.ref fF_qinit) = true)
    (lF_qinit : K.lookup fF_qinit = some ⟨ocF_qinit, odF_qinit, .func (PySem.W.fnOf "__init__" "Question.__init__" (defArgs s_qinit) (defBody s_qinit) (defScope s_qinit) .none kVF_qinit dcF_qinit pmF_qinit anF_qinit cdF_qinit ctF_qinit), slF_qinit⟩)
    (cF_qinit : PySem.W.codeIn K cdF_qinit "Question.__init__" = true)
    (kF_qinit : PySem.W.keepIn K (.ref fF_qinit) = true)
    (aF_qread : PySem.W.findCls K (.ref C) (.type "type") "read" = some (.get (.builtin "staticmethod.__get__") (.ref rec_qread) .none (.ref C)))
    (rF_qread : PySem.W.recIn K rec_qread "staticmethod" = some (.ref fF_qread :: rest_qread))
    (lF_qread : K.lookup fF_qread = some ⟨ocF_qread, odF_qread, .func (PySem.W.fnOf "read" "Question.read" (defArgs s_qread) (defBody s_qread) (defScope s_qread) .none kVF_qread dcF_qread pmF_qread anF_qread cdF_qread ctF_qread), slF_qread⟩)
    (cF_qread : PySem.W.codeIn K cdF_qread "Question.read" = true)
    (kF_qread : PySem.W.keepIn K (.ref fF_qread) = true)
    (aF_qstr : PySem.W.findIn K (.ref C) "__str__" = some (some (.ref fF_qstr)))
    (iF_qstr : PySem.W.isFn K (.ref fF_qstr) = true)
    (lF_qstr : K.lookup fF_qstr = some ⟨ocF_qstr, odF_qstr, .func (PySem.W.fnOf "__str__" "Question.__str__" (defArgs s_qstr) (defBody s_qstr) (defScope s_qstr) .none kVF_qstr dcF_qstr pmF_qstr anF_qstr cdF_qstr ctF_qstr), slF_qstr⟩)
    (cF_qstr : PySem.W.codeIn K cdF_qstr "Question.__str__" = true)
    (kF_qstr : PySem.W.keepIn K (.ref fF_qstr) = true)
    (rd_C : PySem.W.readsIn K C (.type "type") = true)
    (ga_C : PySem.W.specialIn K (.ref C) "__getattribute__" = some (some (.builtin "type.__getattribute__")))
    (aT_j : PySem.W.nsIn K mainGlobals "JOINTS" = some (some (.ref fT_j)))
    (lT_j : K.lookup fT_j = some ⟨.type "tuple", odT_j, .seq #[.str "and" tk_j0, .str "or" tk_j1] nT_j, slT_j⟩)
    (aT_o : PySem.W.nsIn K mainGlobals "OUTER" = some (some (.ref fT_o)))
    (lT_o : K.lookup fT_o = some ⟨.type "tuple", odT_o, .seq #[.str "parent" tk_o0, .str "above" tk_o1] nT_o, slT_o⟩)
    (aT_h : PySem.W.nsIn K mainGlobals "HEADS" = some (some (.ref fT_h)))
    (lT_h : K.lookup fT_h = some ⟨.type "tuple", odT_h, .seq #[.str "not" tk_h0, .str "parent" tk_h1, .str "above" tk_h2] nT_h, slT_h⟩)
    (aT_w : PySem.W.nsIn K mainGlobals "ATOM_WORDS" = some (some (.ref fT_w)))
    (lT_w : K.lookup fT_w = some ⟨.type "tuple", odT_w, .seq #[.str "is" tk_w0, .str "root" tk_w1, .str "earlier" tk_w2, .str "later" tk_w3, .str "parent" tk_w4, .str "above" tk_w5] nT_w, slT_w⟩)
    (n_len : PySem.W.nsIn K mainGlobals "len" = some none)
    (n_abs : PySem.W.nsIn K mainGlobals "abs" = some none)
    (n_int : PySem.W.nsIn K mainGlobals "int" = some none)
    (n_isinstance : PySem.W.nsIn K mainGlobals "isinstance" = some none)
    (n_list : PySem.W.nsIn K mainGlobals "list" = some none)
    (n_tuple : PySem.W.nsIn K mainGlobals "tuple" = some none)
    (n_dict : PySem.W.nsIn K mainGlobals "dict" = some none)
    (n_range : PySem.W.nsIn K mainGlobals "range" = some none)
    (n_max : PySem.W.nsIn K mainGlobals "max" = some none)
    (n_min : PySem.W.nsIn K mainGlobals "min" = some none)
    (n_enumerate : PySem.W.nsIn K mainGlobals "enumerate" = some none)
    (n_super : PySem.W.nsIn K mainGlobals "super" = some none)
    (n_all : PySem.W.nsIn K mainGlobals "all" = some none)
    (n_str : PySem.W.nsIn K mainGlobals "str" = some none)
    (n_zip : PySem.W.nsIn K mainGlobals "zip" = some none)
    (n_set : PySem.W.nsIn K mainGlobals "set" = some none)
    (tab : tabB K a0 a1 ak cNR cNK = true)
    (gNR : PySem.W.nsIn K mainGlobals "NoRules" = some (some (.ref cNR)))
    (gNK : PySem.W.nsIn K mainGlobals "NoKinds" = some (some (.ref cNK)))
    (gQ : PySem.W.nsIn K mainGlobals "QUESTION_FORMS" = some (some (.ref fQ)))
    (lQ : K.lookup fQ = some ⟨.type "tuple", odQ, .seq #[.ref qf0, .ref qf1, .ref qf2, .ref qf3] nQ, slQ⟩)
    (lq0 : K.lookup qf0 = some ⟨.type "tuple", od_q0, .seq #[.str "is" tq0, .str "K" tq0k] n_q0, sl_q0⟩)
    (lq1 : K.lookup qf1 = some ⟨.type "tuple", od_q1, .seq #[.str "root" tq1] n_q1, sl_q1⟩)
    (lq2 : K.lookup qf2 = some ⟨.type "tuple", od_q2, .seq #[.str "earlier" tq2, .str "K" tq2k] n_q2, sl_q2⟩)
    (lq3 : K.lookup qf3 = some ⟨.type "tuple", od_q3, .seq #[.str "later" tq3, .str "K" tq3k] n_q3, sl_q3⟩) :
    ∃ fd : FuncData, (∀ (s : Shared) (v : Value), BindsTo s fd ⟨[v], []⟩ [("_law_script", v)]) ∧ ∀ base : Heap, K.In base → base.Ns mainGlobals mg → Rg.FnG Lw.prog w K mg base CX0 83 fa fd ["_law_script"] (spLaw K) := by
  have e := hfa.symm.trans (PySem.W.mg_of X G aF_law)
  cases e
  have m_len := PySem.W.mg_none_of X G n_len
  have m_abs := PySem.W.mg_none_of X G n_abs
  have m_int := PySem.W.mg_none_of X G n_int
  have m_isinstance := PySem.W.mg_none_of X G n_isinstance
  have m_list := PySem.W.mg_none_of X G n_list
  have m_tuple := PySem.W.mg_none_of X G n_tuple
  have m_dict := PySem.W.mg_none_of X G n_dict
  have m_range := PySem.W.mg_none_of X G n_range
  have m_max := PySem.W.mg_none_of X G n_max
  have m_min := PySem.W.mg_none_of X G n_min
  have m_enumerate := PySem.W.mg_none_of X G n_enumerate
  have m_super := PySem.W.mg_none_of X G n_super
  have m_all := PySem.W.mg_none_of X G n_all
  have m_str := PySem.W.mg_none_of X G n_str
  have m_zip := PySem.W.mg_none_of X G n_zip
  have m_set := PySem.W.mg_none_of X G n_set
  have TT := tabB_ok tab
  have m_j := PySem.W.mg_of X G aT_j
  have q_j : ∀ H : Hp, SqT K H fT_j [.str "and", .str "or"] := fun H => .inr ⟨_, _, _, lT_j, rfl, rfl, (by show 2 ≤ sizeLine; decide), (.cons ⟨_, rfl⟩ (.cons ⟨_, rfl⟩ .nil))⟩
  have m_o := PySem.W.mg_of X G aT_o
  have q_o : ∀ H : Hp, SqT K H fT_o [.str "parent", .str "above"] := fun H => .inr ⟨_, _, _, lT_o, rfl, rfl, (by show 2 ≤ sizeLine; decide), (.cons ⟨_, rfl⟩ (.cons ⟨_, rfl⟩ .nil))⟩
  have m_h := PySem.W.mg_of X G aT_h
  have q_h : ∀ H : Hp, SqT K H fT_h [.str "not", .str "parent", .str "above"] := fun H => .inr ⟨_, _, _, lT_h, rfl, rfl, (by show 3 ≤ sizeLine; decide), (.cons ⟨_, rfl⟩ (.cons ⟨_, rfl⟩ (.cons ⟨_, rfl⟩ .nil)))⟩
  have m_w := PySem.W.mg_of X G aT_w
  have q_w : ∀ H : Hp, SqT K H fT_w [.str "is", .str "root", .str "earlier", .str "later", .str "parent", .str "above"] := fun H => .inr ⟨_, _, _, lT_w, rfl, rfl, (by show 6 ≤ sizeLine; decide), (.cons ⟨_, rfl⟩ (.cons ⟨_, rfl⟩ (.cons ⟨_, rfl⟩ (.cons ⟨_, rfl⟩ (.cons ⟨_, rfl⟩ (.cons ⟨_, rfl⟩ .nil))))))⟩
  have F_own := fun_mk (st := s_own) lF_own cF_own kF_own
  have m_own := PySem.W.mg_of X G aF_own
  have B_own := F_own.binds (ps := ["value"]) fun _ _ _ _ _ _ us hl => match us, hl with | [_], _ => rfl
  have F_words_in := fun_mk (st := s_words_in) lF_words_in cF_words_in kF_words_in
  have m_words_in := PySem.W.mg_of X G aF_words_in
  have B_words_in := F_words_in.binds (ps := ["row"]) fun _ _ _ _ _ _ us hl => match us, hl with | [_], _ => rfl
  have F_consists := fun_mk (st := s_consists) lF_consists cF_consists kF_consists
  have m_consists := PySem.W.mg_of X G aF_consists
  have B_consists := F_consists.binds (ps := ["word", "low", "high", "most"]) fun _ _ _ _ _ _ us hl => match us, hl with | [_, _, _, _], _ => rfl
  have F_is_kind_name := fun_mk (st := s_is_kind_name) lF_is_kind_name cF_is_kind_name kF_is_kind_name
  have m_is_kind_name := PySem.W.mg_of X G aF_is_kind_name
  have B_is_kind_name := F_is_kind_name.binds (ps := ["word"]) fun _ _ _ _ _ _ us hl => match us, hl with | [_], _ => rfl
  have F_fits := fun_mk (st := s_fits) lF_fits cF_fits kF_fits
  have m_fits := PySem.W.mg_of X G aF_fits
  have B_fits := F_fits.binds (ps := ["form", "words"]) fun _ _ _ _ _ _ us hl => match us, hl with | [_, _], _ => rfl
  have F_count_of := fun_mk (st := s_count_of) lF_count_of cF_count_of kF_count_of
  have m_count_of := PySem.W.mg_of X G aF_count_of
  have B_count_of := F_count_of.binds (ps := ["words", "wanted"]) fun _ _ _ _ _ _ us hl => match us, hl with | [_, _], _ => rfl
  have F_joined := fun_mk (st := s_joined) lF_joined cF_joined kF_joined
  have m_joined := PySem.W.mg_of X G aF_joined
  have B_joined := F_joined.binds (ps := ["joint", "parts"]) fun _ _ _ _ _ _ us hl => match us, hl with | [_, _], _ => rfl
  have F_encl := fun_mk (st := s_encl) lF_encl cF_encl kF_encl
  have m_encl := PySem.W.mg_of X G aF_encl
  have B_encl := F_encl.binds (ps := ["part", "head"]) fun _ _ _ _ _ _ us hl => match us, hl with | [_, _], _ => rfl
  have F_tunder := fun_mk (st := s_tunder) lF_tunder cF_tunder kF_tunder
  have m_tunder := PySem.W.mg_of X G aF_tunder
  have B_tunder := F_tunder.binds (ps := ["part", "head"]) fun _ _ _ _ _ _ us hl => match us, hl with | [_, _], _ => rfl
  have F_tof := fun_mk (st := s_tof) lF_tof cF_tof kF_tof
  have m_tof := PySem.W.mg_of X G aF_tof
  have B_tof := F_tof.binds (ps := ["part"]) fun _ _ _ _ _ _ us hl => match us, hl with | [_], _ => rfl
  have F_depth := fun_mk (st := s_depth) lF_depth cF_depth kF_depth
  have m_depth := PySem.W.mg_of X G aF_depth
  have B_depth := F_depth.binds (ps := ["words"]) fun _ _ _ _ _ _ us hl => match us, hl with | [_], _ => rfl
  have F_ato := fun_mk (st := s_ato) lF_ato cF_ato kF_ato
  have m_ato := PySem.W.mg_of X G aF_ato
  have B_ato := F_ato.binds (ps := ["part"]) fun _ _ _ _ _ _ us hl => match us, hl with | [_], _ => rfl
  have F_outx := fun_mk (st := s_outx) lF_outx cF_outx kF_outx
  have m_outx := PySem.W.mg_of X G aF_outx
  have B_outx := F_outx.binds (ps := ["part"]) fun _ _ _ _ _ _ us hl => match us, hl with | [_], _ => rfl
  have F_refuse := fun_mk (st := s_refuse) lF_refuse cF_refuse kF_refuse
  have m_refuse := PySem.W.mg_of X G aF_refuse
  have B_refuse := F_refuse.binds (ps := ["words", "part"]) fun _ _ _ _ _ _ us hl => match us, hl with | [_, _], _ => rfl
  have F_box := fun_mk (st := s_box) lF_box cF_box kF_box
  have m_box := PySem.W.mg_of X G aF_box
  have B_box := F_box.binds (ps := ["_law_script", "_law_k", "_law_own"]) fun _ _ _ _ _ _ us hl => match us, hl with | [_, _, _], _ => rfl
  have F_take := fun_mk (st := s_take) lF_take cF_take kF_take
  have m_take := PySem.W.mg_of X G aF_take
  have B_take := F_take.binds (ps := ["_law_box_here", "_law_many"]) fun _ _ _ _ _ _ us hl => match us, hl with | [_, _], _ => rfl
  have F_mixed := fun_mk (st := s_mixed) lF_mixed cF_mixed kF_mixed
  have m_mixed := PySem.W.mg_of X G aF_mixed
  have B_mixed := F_mixed.binds (ps := ["_law_box_here", "_law_items"]) fun _ _ _ _ _ _ us hl => match us, hl with | [_, _], _ => rfl
  have F_pick := fun_mk (st := s_pick) lF_pick cF_pick kF_pick
  have m_pick := PySem.W.mg_of X G aF_pick
  have B_pick := F_pick.binds (ps := ["_law_box_here", "_law_items"]) fun _ _ _ _ _ _ us hl => match us, hl with | [_, _], _ => rfl
  have F_caps := fun_mk (st := s_caps) lF_caps cF_caps kF_caps
  have m_caps := PySem.W.mg_of X G aF_caps
  have B_caps := F_caps.binds (ps := ["_law_box_here", "_law_many"]) fun _ _ _ _ _ _ us hl => match us, hl with | [_, _], _ => rfl
  have F_bound := fun_mk (st := s_bound) lF_bound cF_bound kF_bound
  have m_bound := PySem.W.mg_of X G aF_bound
  have B_bound := F_bound.binds (ps := ["_law_tree", "_law_word"]) fun _ _ _ _ _ _ us hl => match us, hl with | [_, _], _ => rfl
  have F_shown := fun_mk (st := s_shown) lF_shown cF_shown kF_shown
  have m_shown := PySem.W.mg_of X G aF_shown
  have B_shown := F_shown.binds (ps := ["_law_tree"]) fun _ _ _ _ _ _ us hl => match us, hl with | [_], _ => rfl
  have F_written := fun_mk (st := s_written) lF_written cF_written kF_written
  have m_written := PySem.W.mg_of X G aF_written
  have B_written := F_written.binds (ps := ["_law_box_here", "_law_tree"]) fun _ _ _ _ _ _ us hl => match us, hl with | [_, _], _ => rfl
  have F_closed := fun_mk (st := s_closed) lF_closed cF_closed kF_closed
  have m_closed := PySem.W.mg_of X G aF_closed
  have B_closed := F_closed.binds (ps := ["_law_found"]) fun _ _ _ _ _ _ us hl => match us, hl with | [_], _ => rfl
  have F_tokens := fun_mk (st := s_tokens) lF_tokens cF_tokens kF_tokens
  have m_tokens := PySem.W.mg_of X G aF_tokens
  have B_tokens := F_tokens.binds (ps := ["_law_tree"]) fun _ _ _ _ _ _ us hl => match us, hl with | [_], _ => rfl
  have F_excess := fun_mk (st := s_excess) lF_excess cF_excess kF_excess
  have m_excess := PySem.W.mg_of X G aF_excess
  have B_excess := F_excess.binds (ps := ["_law_tree", "_law_deep"]) fun _ _ _ _ _ _ us hl => match us, hl with | [_, _], _ => rfl
  have F_qr := fun_mk (st := s_qr) lF_qr cF_qr kF_qr
  have m_qr := PySem.W.mg_of X G aF_qr
  have B_qr := F_qr.binds (ps := ["_law_text"]) fun _ _ _ _ _ _ us hl => match us, hl with | [_], _ => rfl
  have F_wish := fun_mk (st := s_wish) lF_wish cF_wish kF_wish
  have m_wish := PySem.W.mg_of X G aF_wish
  have B_wish := F_wish.binds (ps := ["_law_box_here", "_law_caps_here", "_law_size"]) fun _ _ _ _ _ _ us hl => match us, hl with | [_, _, _], _ => rfl
  have F_deeper := fun_mk (st := s_deeper) lF_deeper cF_deeper kF_deeper
  have m_deeper := PySem.W.mg_of X G aF_deeper
  have B_deeper := F_deeper.binds (ps := ["_law_box_here", "_law_found"]) fun _ _ _ _ _ _ us hl => match us, hl with | [_, _], _ => rfl
  have F_far := fun_mk (st := s_far) lF_far cF_far kF_far
  have m_far := PySem.W.mg_of X G aF_far
  have B_far := F_far.binds (ps := ["_law_many"]) fun _ _ _ _ _ _ us hl => match us, hl with | [_], _ => rfl
  have F_law := fun_mk (st := s_law) lF_law cF_law kF_law
  have m_law := PySem.W.mg_of X G aF_law
  have cl_Cr : Cls K Cr := ⟨pg_Cr, hd_Cr, po_Cr, sa_Cr⟩
  have m_Cr := PySem.W.mg_of X G g_Cr
  have F_dinit := fun_mk (st := s_dinit) lF_dinit cF_dinit kF_dinit
  have B_dinit := F_dinit.binds (ps := ["self", "forms", "heads"]) fun _ _ _ _ _ _ us hl => match us, hl with | [_, _, _], _ => rfl
  have F_dtake := fun_mk (st := s_dtake) lF_dtake cF_dtake kF_dtake
  have B_dtake := F_dtake.binds (ps := ["self", "word"]) fun _ _ _ _ _ _ us hl => match us, hl with | [_, _], _ => rfl
  have F_dended := fun_mk (st := s_dended) lF_dended cF_dended kF_dended
  have B_dended := F_dended.binds (ps := ["self"]) fun _ _ _ _ _ _ us hl => match us, hl with | [_], _ => rfl
  have F_datom := fun_mk (st := s_datom) lF_datom cF_datom kF_datom
  have B_datom := F_datom.binds (ps := ["self", "word"]) fun _ _ _ _ _ _ us hl => match us, hl with | [_, _], _ => rfl
  have F_dbehind := fun_mk (st := s_dbehind) lF_dbehind cF_dbehind kF_dbehind
  have B_dbehind := F_dbehind.binds (ps := ["self", "word"]) fun _ _ _ _ _ _ us hl => match us, hl with | [_, _], _ => rfl
  have F_dclose := fun_mk (st := s_dclose) lF_dclose cF_dclose kF_dclose
  have B_dclose := F_dclose.binds (ps := ["self"]) fun _ _ _ _ _ _ us hl => match us, hl with | [_], _ => rfl
  have F_dput := fun_mk (st := s_dput) lF_dput cF_dput kF_dput
  have B_dput := F_dput.binds (ps := ["self", "part"]) fun _ _ _ _ _ _ us hl => match us, hl with | [_, _], _ => rfl
  have F_dgather := fun_mk (st := s_dgather) lF_dgather cF_dgather kF_dgather
  have B_dgather := F_dgather.binds (ps := ["self", "joints"]) fun _ _ _ _ _ _ us hl => match us, hl with | [_, _], _ => rfl
  have cl_C : Cls K C := ⟨pg_C, hd_C, po_C, sa_C⟩
  have m_C := PySem.W.mg_of X G g_C
  have F_qinit := fun_mk (st := s_qinit) lF_qinit cF_qinit kF_qinit
  have B_qinit := F_qinit.binds (ps := ["self", "part"]) fun _ _ _ _ _ _ us hl => match us, hl with | [_, _], _ => rfl
  have F_qread := fun_mk (st := s_qread) lF_qread cF_qread kF_qread
  have B_qread := F_qread.binds (ps := ["text"]) fun _ _ _ _ _ _ us hl => match us, hl with | [_], _ => rfl
  have cs_qread : Wc.CSta K C (.type "type") "read" rec_qread fF_qread := ⟨aF_qread, ⟨_, rF_qread⟩, kF_qread⟩
  have F_qstr := fun_mk (st := s_qstr) lF_qstr cF_qstr kF_qstr
  have B_qstr := F_qstr.binds (ps := ["self"]) fun _ _ _ _ _ _ us hl => match us, hl with | [_], _ => rfl
  have cr_C : ClX.CRead K C (.type "type") := ⟨rd_C, ga_C⟩
  refine ⟨PySem.W.fnOf "law" "law" (defArgs s_law) (defBody s_law) (defScope s_law) .none kVF_law dcF_law pmF_law anF_law cdF_law ctF_law, fun s v => .of_eq rfl, fun base hKb hNb => ?_⟩
  have mk_ := PySem.W.mg_of X G gk
  have nO : NmO mg K fF_own := ⟨m_own, kF_own, m_isinstance, m_list, m_tuple, m_dict⟩
  have G_own := ok_own (P := Lw.prog) (w := w) (base := base) F_own nO
  have C0 := clsB_ok b0
  have ma0 := PySem.W.mg_of X G g0
  have O0 : OexC K a0 := ⟨⟨_, _, _, _, _, _, _, _, _, _, _, _, _, _, _, x0, refs16 _⟩, C0.sa, C0.exC, C0.tyC, C0.kC⟩
  have mw0 := Sup.mwOk_ve O0
  have mk0 := Exv.mkOk_ve (prog := Lw.prog) (w := w) O0 i0 t0
  have ec0 := Exg.ecC_ve O0
  have D0 : Sup.SupF Lw.prog K "ValueError" "ValueError.__init__" a0 cc0 cda0 := ⟨PySem.W.kxs_ValueError, mw0, ⟨_, _, _, _, _, _, _, _, _, _, _, _, _, _, _, _, x0⟩, C0.al, C0.sB, C0.mC, ⟨_, _, _, u0⟩, ⟨_, _, _, _, _, _, w0, y0, z0⟩, th⟩
  have I0 := ok_NoQuestion (w := w) (base := base) l0 c0 D0 ec0 n0at m_super htop nO G_own B_own
  have bi0 : Binds K (PySem.W.fnX "__init__" "NoQuestion.__init__" (defArgs s_NoQuestion) (defBody s_NoQuestion) (defScope s_NoQuestion) [("__class__", cc0)] .none .none dc0 pm0 an0 (.ref cda0) ct0) ["self", "at"] [] := .all fun us hl => match us, hl with | [_, _], _ => rfl
  have C1 := clsB_ok b1
  have ma1 := PySem.W.mg_of X G g1
  have O1 : OexC K a1 := ⟨⟨_, _, _, _, _, _, _, _, _, _, _, _, _, _, _, x1, refs16 _⟩, C1.sa, C1.exC, C1.tyC, C1.kC⟩
  have mw1 := Sup.mwOk_ve O1
  have mk1 := Exv.mkOk_ve (prog := Lw.prog) (w := w) O1 i1 t1
  have ec1 := Exg.ecC_ve O1
  have D1 : Sup.SupF Lw.prog K "ValueError" "ValueError.__init__" a1 cc1 cda1 := ⟨PySem.W.kxs_ValueError, mw1, ⟨_, _, _, _, _, _, _, _, _, _, _, _, _, _, _, _, x1⟩, C1.al, C1.sB, C1.mC, ⟨_, _, _, u1⟩, ⟨_, _, _, _, _, _, w1, y1, z1⟩, th⟩
  have I1 := ok_TooMany (w := w) (base := base) l1 c1 D1 ec1 n1word m_super htop nO G_own B_own
  have bi1 : Binds K (PySem.W.fnX "__init__" "TooMany.__init__" (defArgs s_TooMany) (defBody s_TooMany) (defScope s_TooMany) [("__class__", cc1)] .none .none dc1 pm1 an1 (.ref cda1) ct1) ["self", "word"] [] := .all fun us hl => match us, hl with | [_, _], _ => rfl
  have mNR := PySem.W.mg_of X G gNR
  have mNK := PySem.W.mg_of X G gNK
  have mQ := PySem.W.mg_of X G gQ
  have hk_j : HdK K fT_j Qp.jts := ⟨q_j⟩
  have hk_o : HdK K fT_o Qp.out := ⟨q_o⟩
  have hk_h : HdK K fT_h hds := ⟨q_h⟩
  have hk_w : HdK K fT_w atw := ⟨q_w⟩
  have s0 : ∀ H : Hp, SqT K H qf0 [.str "is", .str "K"] := fun H => .inr ⟨_, _, _, lq0, rfl, rfl, (by show 2 ≤ sizeLine; decide), .cons ⟨_, rfl⟩ (.cons ⟨_, rfl⟩ .nil)⟩
  have s1 : ∀ H : Hp, SqT K H qf1 [.str "root"] := fun H => .inr ⟨_, _, _, lq1, rfl, rfl, (by show 1 ≤ sizeLine; decide), .cons ⟨_, rfl⟩ .nil⟩
  have s2 : ∀ H : Hp, SqT K H qf2 [.str "earlier", .str "K"] := fun H => .inr ⟨_, _, _, lq2, rfl, rfl, (by show 2 ≤ sizeLine; decide), .cons ⟨_, rfl⟩ (.cons ⟨_, rfl⟩ .nil)⟩
  have s3 : ∀ H : Hp, SqT K H qf3 [.str "later", .str "K"] := fun H => .inr ⟨_, _, _, lq3, rfl, rfl, (by show 2 ≤ sizeLine; decide), .cons ⟨_, rfl⟩ (.cons ⟨_, rfl⟩ .nil)⟩
  have sQ : ∀ H : Hp, SqT K H fQ [.ref qf0, .ref qf1, .ref qf2, .ref qf3] := fun H => .inr ⟨_, _, _, lQ, rfl, rfl, (by show 4 ≤ sizeLine; decide), .cons rfl (.cons rfl (.cons rfl (.cons rfl .nil)))⟩
  have hfm : FmK K fQ qfs := ⟨_, rfl, sQ, fun i f h => match i, h with | 0, h => (by cases h; exact ⟨qf0, rfl, s0⟩) | 1, h => (by cases h; exact ⟨qf1, rfl, s1⟩) | 2, h => (by cases h; exact ⟨qf2, rfl, s2⟩) | 3, h => (by cases h; exact ⟨qf3, rfl, s3⟩) | _ + 4, h => nomatch h⟩
  have TA : NmA mg K fF_consists fF_is_kind_name fF_fits fF_joined := ⟨m_consists, kF_consists, m_is_kind_name, kF_is_kind_name, m_fits, kF_fits, m_joined, kF_joined, m_len, m_all, m_zip, m_tuple⟩
  have TRd : NmRd mg K Cr fT_j fF_datom fF_dbehind fF_dclose fF_dput fF_dgather := ⟨cl_Cr, na_Cr__forms, na_Cr__heads, na_Cr__parts, na_Cr__waiting, na_Cr__begun, na_Cr__is_whole, m_j, hk_j, ⟨aF_datom, iF_datom, kF_datom⟩, ⟨aF_dbehind, iF_dbehind, kF_dbehind⟩, ⟨aF_dclose, iF_dclose, kF_dclose⟩, ⟨aF_dput, iF_dput, kF_dput⟩, ⟨aF_dgather, iF_dgather, kF_dgather⟩⟩
  have TTx : NmTx mg K fF_encl fF_tunder fF_tof fT_j := ⟨m_encl, kF_encl, m_tunder, kF_tunder, m_tof, kF_tof, m_j, hk_j⟩
  have TAt : NmAt mg K fF_ato fT_o := ⟨m_ato, kF_ato, m_o, hk_o⟩
  have TQ : NmQ Lw.prog w mg K fF_count_of fF_depth fF_outx fF_words_in fF_refuse C a0 a1 Cr f0 f1 fQ fT_h fT_w fF_dtake fF_dended := ⟨m_count_of, kF_count_of, m_depth, kF_depth, m_outx, kF_outx, m_words_in, kF_words_in, m_refuse, kF_refuse, m_w, hk_w, mQ, hfm, m_h, hk_h, m_Cr, cl_Cr, ⟨aF_dtake, iF_dtake, kF_dtake⟩, ⟨aF_dended, iF_dended, kF_dended⟩, m_C, cl_C, na_C_part, na_C__text, ma0, C0.kC, C0.exC, C0.tyC, mk0, ma1, C1.kC, C1.exC, C1.tyC, mk1, m_len, m_set, m_enumerate⟩
  have MR : Mk K Cr fF_dinit := ⟨mk_Cr, aF_dinit, iF_dinit, kc_Cr⟩
  have MQ : Mk K C fF_qinit := ⟨mk_C, aF_qinit, iF_qinit, kc_C⟩
  have G_words_in := ok_words_in (P := Lw.prog) (w := w) (mg := mg) (base := base) F_words_in
  have G_consists := ok_consists (P := Lw.prog) (w := w) (mg := mg) (base := base) F_consists ⟨m_len, m_all⟩
  have G_is_kind_name := ok_is_kind_name (P := Lw.prog) (w := w) (mg := mg) (base := base) F_is_kind_name TA G_consists B_consists
  have G_fits := ok_fits (P := Lw.prog) (w := w) (mg := mg) (base := base) F_fits TA G_is_kind_name B_is_kind_name
  have G_count := ok_count_of (P := Lw.prog) (w := w) (mg := mg) (base := base) F_count_of TA
  have G_joined := ok_joined (P := Lw.prog) (w := w) (mg := mg) (base := base) F_joined TA
  have G_gather := ok_dgather (P := Lw.prog) (w := w) (mg := mg) (base := base) F_dgather TA TRd G_joined B_joined
  have G_put := ok_dput (P := Lw.prog) (w := w) (mg := mg) (base := base) F_dput TRd
  have G_close := ok_dclose (P := Lw.prog) (w := w) (mg := mg) (base := base) F_dclose TRd G_gather B_dgather G_put B_dput
  have G_ended := ok_dended (P := Lw.prog) (w := w) (mg := mg) (base := base) F_dended TRd G_gather B_dgather
  have G_datom := ok_datom (P := Lw.prog) (w := w) (mg := mg) (base := base) F_datom TA TRd G_fits B_fits G_put B_dput
  have G_dinit := ok_dinit (P := Lw.prog) (w := w) (mg := mg) (base := base) F_dinit TRd
  have G_behind := ok_dbehind (P := Lw.prog) (w := w) (mg := mg) (base := base) F_dbehind TRd G_gather B_dgather G_close B_dclose
  have G_dtake := ok_dtake (P := Lw.prog) (w := w) (mg := mg) (base := base) F_dtake TRd G_datom B_datom G_behind B_dbehind
  have G_encl := ok_encl (P := Lw.prog) (w := w) (mg := mg) (base := base) F_encl TTx
  have G_tof := ok_tof (P := Lw.prog) (w := w) (mg := mg) (base := base) F_tof F_tunder TTx G_encl B_encl B_tof B_tunder 15
  have G_ato := ok_ato (P := Lw.prog) (w := w) (mg := mg) (base := base) F_ato TTx TAt B_ato 15
  have G_outx := ok_outx (P := Lw.prog) (w := w) (mg := mg) (base := base) F_outx TTx TAt G_ato B_ato G_tof B_tof
  have G_depth := ok_depth (P := Lw.prog) (w := w) (mg := mg) (base := base) F_depth ⟨m_h, hk_h, m_max⟩
  have G_refuse := ok_refuse (P := Lw.prog) (w := w) (mg := mg) (base := base) F_refuse TQ G_count B_count_of G_depth B_depth G_outx B_outx I1 bi1
  have G_qinit := ok_qinit (P := Lw.prog) (w := w) (mg := mg) (base := base) F_qinit TQ TTx G_tof B_tof
  have G_qstr := ok_qstr (P := Lw.prog) (w := w) (mg := mg) (base := base) F_qstr TQ
  have G_qread := ok_qread (P := Lw.prog) (w := w) (mg := mg) (base := base) F_qread TQ G_words_in B_words_in MR G_dinit B_dinit G_dtake B_dtake G_ended B_dended G_refuse B_refuse MQ G_qinit B_qinit I0 bi0
  have TR : NmQR mg K C a0 a1 ak cNR cNK (.type "type") rec_qread fF_qstr fF_qread := ⟨mk_, mNR, mNK, m_C, ma0, ma1, cr_C, cs_qread, aF_qstr, iF_qstr, TT.e_nn, TT.e_tn, TT.e_tt, C0.exc hn ht, C1.exc hn ht, C0.xf, C1.xf, n0at, n1word, TT.k_nk, TT.k_nn, m_str, m_isinstance⟩
  have G_box := ok_box (P := Lw.prog) (w := w) (mg := mg) (base := base) F_box ⟨m_len, m_abs, m_int⟩
  have G_take := ok_take (P := Lw.prog) (w := w) (mg := mg) (base := base) F_take
  have TM : NmM mg K fF_take fF_mixed := ⟨m_take, kF_take, m_mixed, kF_mixed, m_list, m_len, m_range⟩
  have G_mixed := ok_mixed (P := Lw.prog) (w := w) (mg := mg) (base := base) F_mixed TM G_take B_take
  have G_pick := ok_pick (P := Lw.prog) (w := w) (mg := mg) (base := base) F_pick TM G_take B_take
  have G_caps := ok_caps (P := Lw.prog) (w := w) (mg := mg) (base := base) F_caps TM (G_take.mono (by decide)) B_take G_mixed B_mixed
  have G_closed := ok_closed (P := Lw.prog) (w := w) (mg := mg) (base := base) F_closed
  have G_shown := ok_shown (P := Lw.prog) (w := w) (mg := mg) (base := base) F_shown
  have G_wr := ok_written (P := Lw.prog) (w := w) (mg := mg) (base := base) F_written ⟨m_take, kF_take, m_shown, kF_shown, m_closed, kF_closed, m_written, kF_written, m_max⟩ B_written G_take B_take G_shown B_shown G_closed B_closed 40
  have G_wish := ok_wish (P := Lw.prog) (w := w) (mg := mg) (base := base) F_wish ⟨m_take, kF_take, m_pick, kF_pick, m_wish, kF_wish⟩ B_wish G_take B_take G_pick B_pick 10
  have G_qr := ok_qr (P := Lw.prog) (w := w) (mg := mg) (base := base) F_qr TR G_qread B_qread G_qstr B_qstr
  have TSh : NmSh mg K fF_bound fF_shown := ⟨m_bound, kF_bound, m_shown, kF_shown⟩
  have G_shF := ok_shownF (P := Lw.prog) (w := w) (mg := mg) (base := base) F_bound F_shown TSh B_bound B_shown 40
  have G_tok := ok_tokens (P := Lw.prog) (w := w) (mg := mg) (base := base) F_tokens ⟨m_tokens, kF_tokens, m_int⟩ B_tokens 40
  have G_ex := ok_excess (P := Lw.prog) (w := w) (mg := mg) (base := base) F_excess ⟨m_shown, kF_shown, m_tokens, kF_tokens, m_excess, kF_excess, m_len, m_set⟩ G_shF B_shown G_tok B_tokens
  have G_dee := ok_deeper (P := Lw.prog) (w := w) (mg := mg) (base := base) F_deeper ⟨m_take, kF_take, m_pick, kF_pick, m_range, m_int⟩ G_take B_take G_pick B_pick
  have G_far := ok_far (P := Lw.prog) (w := w) (mg := mg) (base := base) F_far m_qr kF_qr m_len G_qr B_qr
  exact ok_law F_law ⟨m_box, kF_box, m_take, kF_take, m_caps, kF_caps, m_wish, kF_wish, m_written, kF_written, m_shown, kF_shown, m_excess, kF_excess, m_qr, kF_qr, m_far, kF_far, m_deeper, kF_deeper, m_tokens, kF_tokens, m_mixed, kF_mixed, m_range, m_max, m_min, m_len, m_set, m_int⟩ G_box B_box G_take B_take G_caps B_caps G_wish B_wish G_wr B_written G_shF B_shown G_ex B_excess G_qr B_qr G_far B_far G_dee B_deeper G_tok B_tokens G_mixed B_mixed
end Q2

set_option linter.all false
open PySem PySem.W PyProof.Rows
set_option maxRecDepth 100000 in
set_option maxHeartbeats 0 in
theorem PySem.Challenge.cw_keptnomore_k20_questions_too_great_holds : PySem.Challenge.rw_keptnomore_k20_questions_too_great.Holds := by
  w_on; o_law; k_head; (case hw => w_witness2)
  k_fill
  refine Rg.walkG (l := PySem.Challenge.rw_keptnomore_k20_questions_too_great) (n := 63) (k := 83) (x := "_law_script") (CX := fun _ => L2.CX0) (sp := fun w => Q2.spLaw _) rfl (by decide) rfl ⟨rfl, by decide, by decide⟩ (fun w h Y => PySem.W.kIn_of Y) ?F
    (fun _ _ a ns hl _ _ hS => ⟨a, ns, rfl, hS, Nat.le_trans hl (by decide), fun _ => rfl⟩) (fun _ _ _ _ _ z => z)
  case F =>
    intro w mg fa h KX G hmg
    refine' Q2.all_mk KX G hmg ?kk_g0 ?kk_g1 ?kk_gk ?kk_x0 ?kk_i0 ?kk_t0 ?kk_l0 ?kk_c0 ?kk_u0 ?kk_w0 ?kk_y0 ?kk_z0 ?kk_b0 ?kk_n0at ?kk_x1 ?kk_i1 ?kk_t1 ?kk_l1 ?kk_c1 ?kk_u1 ?kk_w1 ?kk_y1 ?kk_z1 ?kk_b1 ?kk_n1word ?kk_hn ?kk_ht ?kk_th ?kk_htop ?kk_aF_own ?kk_lF_own ?kk_cF_own ?kk_kF_own ?kk_aF_words_in ?kk_lF_words_in ?kk_cF_words_in ?kk_kF_words_in ?kk_aF_consists ?kk_lF_consists ?kk_cF_consists ?kk_kF_consists ?kk_aF_is_kind_name ?kk_lF_is_kind_name ?kk_cF_is_kind_name ?kk_kF_is_kind_name ?kk_aF_fits ?kk_lF_fits ?kk_cF_fits ?kk_kF_fits ?kk_aF_count_of ?kk_lF_count_of ?kk_cF_count_of ?kk_kF_count_of ?kk_aF_joined ?kk_lF_joined ?kk_cF_joined ?kk_kF_joined ?kk_aF_encl ?kk_lF_encl ?kk_cF_encl ?kk_kF_encl ?kk_aF_tunder ?kk_lF_tunder ?kk_cF_tunder ?kk_kF_tunder ?kk_aF_tof ?kk_lF_tof ?kk_cF_tof ?kk_kF_tof ?kk_aF_depth ?kk_lF_depth ?kk_cF_depth ?kk_kF_depth ?kk_aF_ato ?kk_lF_ato ?kk_cF_ato ?kk_kF_ato ?kk_aF_outx ?kk_lF_outx ?kk_cF_outx ?kk_kF_outx ?kk_aF_refuse ?kk_lF_refuse ?kk_cF_refuse ?kk_kF_refuse ?kk_aF_box ?kk_lF_box ?kk_cF_box ?kk_kF_box ?kk_aF_take ?kk_lF_take ?kk_cF_take ?kk_kF_take ?kk_aF_mixed ?kk_lF_mixed ?kk_cF_mixed ?kk_kF_mixed ?kk_aF_pick ?kk_lF_pick ?kk_cF_pick ?kk_kF_pick ?kk_aF_caps ?kk_lF_caps ?kk_cF_caps ?kk_kF_caps ?kk_aF_bound ?kk_lF_bound ?kk_cF_bound ?kk_kF_bound ?kk_aF_shown ?kk_lF_shown ?kk_cF_shown ?kk_kF_shown ?kk_aF_written ?kk_lF_written ?kk_cF_written ?kk_kF_written ?kk_aF_closed ?kk_lF_closed ?kk_cF_closed ?kk_kF_closed ?kk_aF_tokens ?kk_lF_tokens ?kk_cF_tokens ?kk_kF_tokens ?kk_aF_excess ?kk_lF_excess ?kk_cF_excess ?kk_kF_excess ?kk_aF_qr ?kk_lF_qr ?kk_cF_qr ?kk_kF_qr ?kk_aF_wish ?kk_lF_wish ?kk_cF_wish ?kk_kF_wish ?kk_aF_deeper ?kk_lF_deeper ?kk_cF_deeper ?kk_kF_deeper ?kk_aF_far ?kk_lF_far ?kk_cF_far ?kk_kF_far ?kk_aF_law ?kk_lF_law ?kk_cF_law ?kk_kF_law ?kk_g_Cr ?kk_pg_Cr ?kk_hd_Cr ?kk_po_Cr ?kk_sa_Cr ?kk_mk_Cr ?kk_kc_Cr ?kk_ha_Cr ?kk_hm_Cr ?kk_na_Cr__forms ?kk_na_Cr__heads ?kk_na_Cr__parts ?kk_na_Cr__waiting ?kk_na_Cr__begun ?kk_na_Cr__is_whole ?kk_aF_dinit ?kk_iF_dinit ?kk_lF_dinit ?kk_cF_dinit ?kk_kF_dinit ?kk_aF_dtake ?kk_iF_dtake ?kk_lF_dtake ?kk_cF_dtake ?kk_kF_dtake ?kk_aF_dended ?kk_iF_dended ?kk_lF_dended ?kk_cF_dended ?kk_kF_dended ?kk_aF_datom ?kk_iF_datom ?kk_lF_datom ?kk_cF_datom ?kk_kF_datom ?kk_aF_dbehind ?kk_iF_dbehind ?kk_lF_dbehind ?kk_cF_dbehind ?kk_kF_dbehind ?kk_aF_dclose ?kk_iF_dclose ?kk_lF_dclose ?kk_cF_dclose ?kk_kF_dclose ?kk_aF_dput ?kk_iF_dput ?kk_lF_dput ?kk_cF_dput ?kk_kF_dput ?kk_aF_dgather ?kk_iF_dgather ?kk_lF_dgather ?kk_cF_dgather ?kk_kF_dgather ?kk_g_C ?kk_pg_C ?kk_hd_C ?kk_po_C ?kk_sa_C ?kk_mk_C ?kk_kc_C ?kk_ha_C ?kk_hm_C ?kk_na_C_part ?kk_na_C__text ?kk_aF_qinit ?kk_iF_qinit ?kk_lF_qinit ?kk_cF_qinit ?kk_kF_qinit ?kk_aF_qread ?kk_rF_qread ?kk_lF_qread ?kk_cF_qread ?kk_kF_qread ?kk_aF_qstr ?kk_iF_qstr ?kk_lF_qstr ?kk_cF_qstr ?kk_kF_qstr ?kk_rd_C ?kk_ga_C ?kk_aT_j ?kk_lT_j ?kk_aT_o ?kk_lT_o ?kk_aT_h ?kk_lT_h ?kk_aT_w ?kk_lT_w ?kk_n_len ?kk_n_abs ?kk_n_int ?kk_n_isinstance ?kk_n_list ?kk_n_tuple ?kk_n_dict ?kk_n_range ?kk_n_max ?kk_n_min ?kk_n_enumerate ?kk_n_super ?kk_n_all ?kk_n_str ?kk_n_zip ?kk_n_set ?kk_tab ?kk_gNR ?kk_gNK ?kk_gQ ?kk_lQ ?kk_lq0 ?kk_lq1 ?kk_lq2 ?kk_lq3
    (case kk_g0 => k_is)
    (case kk_g1 => k_is)
    (case kk_gk => k_is)
    (case kk_x0 => k_is)
    (case kk_i0 => k_is)
    (case kk_t0 => k_is)
    (case kk_l0 => k_is)
    (case kk_c0 => k_is)
    (case kk_u0 => k_is)
    (case kk_w0 => k_is)
    (case kk_y0 => exact rfl)
    (case kk_z0 => decide +kernel)
    (case kk_b0 => kernel_rfl)
    (case kk_n0at => k_is)
    (case kk_x1 => k_is)
    (case kk_i1 => k_is)
    (case kk_t1 => k_is)
    (case kk_l1 => k_is)
    (case kk_c1 => k_is)
    (case kk_u1 => k_is)
    (case kk_w1 => k_is)
    (case kk_y1 => exact rfl)
    (case kk_z1 => decide +kernel)
    (case kk_b1 => kernel_rfl)
    (case kk_n1word => k_is)
    (case kk_hn => k_is)
    (case kk_ht => k_is)
    (case kk_th => k_is)
    (case kk_htop => decide +kernel)
    (case kk_aF_own => k_is)
    (case kk_lF_own => k_is)
    (case kk_cF_own => k_is)
    (case kk_kF_own => k_is)
    (case kk_aF_words_in => k_is)
    (case kk_lF_words_in => k_is)
    (case kk_cF_words_in => k_is)
    (case kk_kF_words_in => k_is)
    (case kk_aF_consists => k_is)
    (case kk_lF_consists => k_is)
    (case kk_cF_consists => k_is)
    (case kk_kF_consists => k_is)
    (case kk_aF_is_kind_name => k_is)
    (case kk_lF_is_kind_name => k_is)
    (case kk_cF_is_kind_name => k_is)
    (case kk_kF_is_kind_name => k_is)
    (case kk_aF_fits => k_is)
    (case kk_lF_fits => k_is)
    (case kk_cF_fits => k_is)
    (case kk_kF_fits => k_is)
    (case kk_aF_count_of => k_is)
    (case kk_lF_count_of => k_is)
    (case kk_cF_count_of => k_is)
    (case kk_kF_count_of => k_is)
    (case kk_aF_joined => k_is)
    (case kk_lF_joined => k_is)
    (case kk_cF_joined => k_is)
    (case kk_kF_joined => k_is)
    (case kk_aF_encl => k_is)
    (case kk_lF_encl => k_is)
    (case kk_cF_encl => k_is)
    (case kk_kF_encl => k_is)
    (case kk_aF_tunder => k_is)
    (case kk_lF_tunder => k_is)
    (case kk_cF_tunder => k_is)
    (case kk_kF_tunder => k_is)
    (case kk_aF_tof => k_is)
    (case kk_lF_tof => k_is)
    (case kk_cF_tof => k_is)
    (case kk_kF_tof => k_is)
    (case kk_aF_depth => k_is)
    (case kk_lF_depth => k_is)
    (case kk_cF_depth => k_is)
    (case kk_kF_depth => k_is)
    (case kk_aF_ato => k_is)
    (case kk_lF_ato => k_is)
    (case kk_cF_ato => k_is)
    (case kk_kF_ato => k_is)
    (case kk_aF_outx => k_is)
    (case kk_lF_outx => k_is)
    (case kk_cF_outx => k_is)
    (case kk_kF_outx => k_is)
    (case kk_aF_refuse => k_is)
    (case kk_lF_refuse => k_is)
    (case kk_cF_refuse => k_is)
    (case kk_kF_refuse => k_is)
    (case kk_aF_box => k_is)
    (case kk_lF_box => k_is)
    (case kk_cF_box => k_is)
    (case kk_kF_box => k_is)
    (case kk_aF_take => k_is)
    (case kk_lF_take => k_is)
    (case kk_cF_take => k_is)
    (case kk_kF_take => k_is)
    (case kk_aF_mixed => k_is)
    (case kk_lF_mixed => k_is)
    (case kk_cF_mixed => k_is)
    (case kk_kF_mixed => k_is)
    (case kk_aF_pick => k_is)
    (case kk_lF_pick => k_is)
    (case kk_cF_pick => k_is)
    (case kk_kF_pick => k_is)
    (case kk_aF_caps => k_is)
    (case kk_lF_caps => k_is)
    (case kk_cF_caps => k_is)
    (case kk_kF_caps => k_is)
    (case kk_aF_bound => k_is)
    (case kk_lF_bound => k_is)
    (case kk_cF_bound => k_is)
    (case kk_kF_bound => k_is)
    (case kk_aF_shown => k_is)
    (case kk_lF_shown => k_is)
    (case kk_cF_shown => k_is)
    (case kk_kF_shown => k_is)
    (case kk_aF_written => k_is)
    (case kk_lF_written => k_is)
    (case kk_cF_written => k_is)
    (case kk_kF_written => k_is)
    (case kk_aF_closed => k_is)
    (case kk_lF_closed => k_is)
    (case kk_cF_closed => k_is)
    (case kk_kF_closed => k_is)
    (case kk_aF_tokens => k_is)
    (case kk_lF_tokens => k_is)
    (case kk_cF_tokens => k_is)
    (case kk_kF_tokens => k_is)
    (case kk_aF_excess => k_is)
    (case kk_lF_excess => k_is)
    (case kk_cF_excess => k_is)
    (case kk_kF_excess => k_is)
    (case kk_aF_qr => k_is)
    (case kk_lF_qr => k_is)
    (case kk_cF_qr => k_is)
    (case kk_kF_qr => k_is)
    (case kk_aF_wish => k_is)
    (case kk_lF_wish => k_is)
    (case kk_cF_wish => k_is)
    (case kk_kF_wish => k_is)
    (case kk_aF_deeper => k_is)
    (case kk_lF_deeper => k_is)
    (case kk_cF_deeper => k_is)
    (case kk_kF_deeper => k_is)
    (case kk_aF_far => k_is)
    (case kk_lF_far => k_is)
    (case kk_cF_far => k_is)
    (case kk_kF_far => k_is)
    (case kk_aF_law => k_is)
    (case kk_lF_law => k_is)
    (case kk_cF_law => k_is)
    (case kk_kF_law => k_is)
    (case kk_g_Cr => k_is)
    (case kk_pg_Cr => k_is)
    (case kk_hd_Cr => k_is)
    (case kk_po_Cr => k_is)
    (case kk_sa_Cr => k_is)
    (case kk_mk_Cr => k_is)
    (case kk_kc_Cr => k_is)
    (case kk_ha_Cr => k_is)
    (case kk_hm_Cr => k_is)
    (case kk_na_Cr__forms => k_is)
    (case kk_na_Cr__heads => k_is)
    (case kk_na_Cr__parts => k_is)
    (case kk_na_Cr__waiting => k_is)
    (case kk_na_Cr__begun => k_is)
    (case kk_na_Cr__is_whole => k_is)
    (case kk_aF_dinit => k_is)
    (case kk_iF_dinit => k_is)
    (case kk_lF_dinit => k_is)
    (case kk_cF_dinit => k_is)
    (case kk_kF_dinit => k_is)
    (case kk_aF_dtake => k_is)
    (case kk_iF_dtake => k_is)
    (case kk_lF_dtake => k_is)
    (case kk_cF_dtake => k_is)
    (case kk_kF_dtake => k_is)
    (case kk_aF_dended => k_is)
    (case kk_iF_dended => k_is)
    (case kk_lF_dended => k_is)
    (case kk_cF_dended => k_is)
    (case kk_kF_dended => k_is)
    (case kk_aF_datom => k_is)
    (case kk_iF_datom => k_is)
    (case kk_lF_datom => k_is)
    (case kk_cF_datom => k_is)
    (case kk_kF_datom => k_is)
    (case kk_aF_dbehind => k_is)
    (case kk_iF_dbehind => k_is)
    (case kk_lF_dbehind => k_is)
    (case kk_cF_dbehind => k_is)
    (case kk_kF_dbehind => k_is)
    (case kk_aF_dclose => k_is)
    (case kk_iF_dclose => k_is)
    (case kk_lF_dclose => k_is)
    (case kk_cF_dclose => k_is)
    (case kk_kF_dclose => k_is)
    (case kk_aF_dput => k_is)
    (case kk_iF_dput => k_is)
    (case kk_lF_dput => k_is)
    (case kk_cF_dput => k_is)
    (case kk_kF_dput => k_is)
    (case kk_aF_dgather => k_is)
    (case kk_iF_dgather => k_is)
    (case kk_lF_dgather => k_is)
    (case kk_cF_dgather => k_is)
    (case kk_kF_dgather => k_is)
    (case kk_g_C => k_is)
    (case kk_pg_C => k_is)
    (case kk_hd_C => k_is)
    (case kk_po_C => k_is)
    (case kk_sa_C => k_is)
    (case kk_mk_C => k_is)
    (case kk_kc_C => k_is)
    (case kk_ha_C => k_is)
    (case kk_hm_C => k_is)
    (case kk_na_C_part => k_is)
    (case kk_na_C__text => k_is)
    (case kk_aF_qinit => k_is)
    (case kk_iF_qinit => k_is)
    (case kk_lF_qinit => k_is)
    (case kk_cF_qinit => k_is)
    (case kk_kF_qinit => k_is)
    (case kk_aF_qread => k_is)
    (case kk_rF_qread => k_is)
    (case kk_lF_qread => k_is)
    (case kk_cF_qread => k_is)
    (case kk_kF_qread => k_is)
    (case kk_aF_qstr => k_is)
    (case kk_iF_qstr => k_is)
    (case kk_lF_qstr => k_is)
    (case kk_cF_qstr => k_is)
    (case kk_kF_qstr => k_is)
    (case kk_rd_C => k_is)
    (case kk_ga_C => k_is)
    (case kk_aT_j => k_is)
    (case kk_lT_j => k_is)
    (case kk_aT_o => k_is)
    (case kk_lT_o => k_is)
    (case kk_aT_h => k_is)
    (case kk_lT_h => k_is)
    (case kk_aT_w => k_is)
    (case kk_lT_w => k_is)
    (case kk_n_len => k_is)
    (case kk_n_abs => k_is)
    (case kk_n_int => k_is)
    (case kk_n_isinstance => k_is)
    (case kk_n_list => k_is)
    (case kk_n_tuple => k_is)
    (case kk_n_dict => k_is)
    (case kk_n_range => k_is)
    (case kk_n_max => k_is)
    (case kk_n_min => k_is)
    (case kk_n_enumerate => k_is)
    (case kk_n_super => k_is)
    (case kk_n_all => k_is)
    (case kk_n_str => k_is)
    (case kk_n_zip => k_is)
    (case kk_n_set => k_is)
    (case kk_tab => kernel_rfl)
    (case kk_gNR => k_is)
    (case kk_gNK => k_is)
    (case kk_gQ => k_is)
    (case kk_lQ => k_is)
    (case kk_lq0 => k_is)
    (case kk_lq1 => k_is)
    (case kk_lq2 => k_is)
    (case kk_lq3 => k_is)


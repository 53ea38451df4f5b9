import PyProof.Rows.All
import Wide.All
import OpenK.AllK
import Wide.FinOn
import PyProof.ReprRoads
import HandS.ForMost
import HandS.EndBits
import HandS.Codes
import HandS.IsInst
import HandS.ClsMeth
import HandS.SlotsOwn
import KE.KCallOwn
import PyProof.InstNe
import HandS.ExcInit
import HandS.ExcField
import HandS.ExcIs
import HandS.Nested
import KE.KExcSuper
import KE.KExcIs
import HandS.ExcOwn
import HandS.OwnIter
import HandS.IterVal
import HandS.Style
import KE.KOwnIter
import HandS.Strs
import HandS.SetKeys
import HandS.Set
import HandS.SetBool
import HandS.More
import PyProof.EqAt
import PyProof.TupleCall
import HandS.Base
import HandS.Call
import HandS.List
import HandS.Comp
import HandS.Walk
import KE.KOpsOwn
import HandS.ExcSuper
import HandS.Exc
import HandS.TryMany
import PyProof.StrOps2
import HandS.Deep
import HandS.FStr
import HandS.WordsExc
import PySem.Challenge.RW_keptnomore_k07_kinds_shown
import HandS.Zip
import KE.GoesZip
import KE.GoesMore
import KE.KTurns
import HandS.TupAny
import PyProof.Rows.StrMeet
set_option Elab.async false
set_option linter.all false
set_option maxRecDepth 100000
set_option maxHeartbeats 4000000
/-! repr of data; promises of defs that say repr: they stand where no repr is under way -/
namespace Rg
open PySem PySem.Spec PyProof.Rows L2
/-- a promise that is kept where no repr is under way -/
structure FnG (P : Program) (w : World) (K : PySem.W.Frag) (mg : Str → Option Value) (base : Heap) (CX : CXT) (k : Nat) (f : Addr) (fd : FuncData) (ps : List Str) (sp : Sp) : Prop where
  len : ∀ vs H Q E, sp vs H Q E → vs.length = ps.length
  run : ∀ (A : Around) (outer : List Env) (s : Shared) (H : Hp) (args : Args) (us : List Value) (vs : List V) (Q : VK) (E : XK), A.guards = some [] → Room k A → Env0 P w K mg base A outer s H → BindsTo s fd args (ps.zip us) → Vals vs us → sp vs H Q E →
    codeAny (model P w) A (.call (.ref f) args) (CR CX outer P w H s Q E) s
theorem FnG.of {P : Program} {w : World} {K : PySem.W.Frag} {mg : Str → Option Value} {base : Heap} {CX : CXT} {k : Nat} {f : Addr} {fd : FuncData} {ps : List Str} {sp : Sp} (F : FnOk P w K mg base CX k f fd ps sp) : FnG P w K mg base CX k f fd ps sp :=
  ⟨F.len, fun A outer s H args us vs Q E _ => F.run A outer s H args us vs Q E⟩
theorem FnG.mono {P : Program} {w : World} {K : PySem.W.Frag} {mg : Str → Option Value} {base : Heap} {CX : CXT} {j k : Nat} {f : Addr} {fd : FuncData} {ps : List Str} {sp : Sp} (F : FnG P w K mg base CX j f fd ps sp) (h : j ≤ k) : FnG P w K mg base CX k f fd ps sp :=
  ⟨F.len, fun A outer s H args us vs Q E g hr => F.run A outer s H args us vs Q E g (hr.mono h)⟩
/-- THE RULE for such a def -/
theorem okG {P : Program} {w : World} {K : PySem.W.Frag} {mg : Str → Option Value} {base : Heap} {CX : CXT} {x qual : Str} {st : Stmt} {f : Addr} {fd : FuncData} {N ps : List Str} {k : Nat} {sp : Sp} (F : Fun K x qual st f fd) (S : FnScope N ps (defScope st))
    (len : ∀ vs H Q E, sp vs H Q E → vs.length = ps.length)
    (hbody : ∀ (cdv : Value) (A : Around) (outer : List Env) (s : Shared) (H : Hp) (vs : List V) (Q : VK) (E : XK), A.guards = some [] → Room k (A.deeper (envOfC qual (defScope st) s.heap.objs.size f cdv)) → sp vs H Q E →
      ∃ t, PSs (cxOf CX P w K mg base N qual (defScope st) f cdv A outer s H E) (defBody st) t ∧ t { nx := fun _ H' => Q .non H', rt := Q } (start N vs) H) : FnG P w K mg base CX (k + 1) f fd ps sp := by
  obtain ⟨oc, od, kV, doc, pm, an, cdv, ct, osl, rfl, lk, hcd⟩ := F.ex
  refine ⟨len, fun A outer s H args us vs Q E g hr e0 hb r hsp => ?_⟩
  have hl : vs.length = ps.length := len _ _ _ _ hsp
  have KS : K.In s.heap := e0.mod.kin.keeps fun b o e => (e0.bs b o e).1
  have NL : s.heap.NoLimit := e0.mod.nolimit.keeps fun b o e => (e0.bs b o e).1
  have kinds : ∀ y ∈ ps.zip us, (defScope st).names.lookup y.1 = some .local ∨ ((defScope st).names.lookup y.1 = some .cell ∧ ((cellsFrom (s.heap.objs.size + 1) (defScope st).names []).lookup y.1).isSome = true) := fun ⟨n, v⟩ hy => by
    rcases S.par n (List.of_mem_zip hy).1 with z | z
    · exact .inl z
    · exact .inr ⟨z, PySem.W.cellsFrom_some _ _ _ (.inl z)⟩
  refine codeAny_call_function hr.depth (KS _ _ lk) rfl S.co S.gen rfl (PySem.W.codeRec_of KS hcd) (hb _ _ _ _ (wpAny_newFunctionEnv_cells S.kind kinds fun env he s1 x => ?_))
  subst he
  refine ⟨NL.keeps x.toInCall.keep, codeAny_func ?_⟩
  obtain ⟨t, ht, hq⟩ := hbody cdv A outer s H vs Q E g (hr.deeper _) hsp
  have I : Inv (cxOf CX P w K mg base N qual (defScope st) f cdv A outer s H E) [] (start N vs) H s1 := inv_start S hr.hd e0 hl r x
  refine wpAny_mono (ht.run [] s1 (start N vs) H _ I hq) (fun fl s' hs => ?_) fun _ _ z => z
  match fl, hs with
  | .ret u, ⟨v, σ', H', J, rv, q⟩ => exact ⟨v, H', J.os, J.bare, J.base, J.hok, rv, q⟩
  | .next, ⟨σ', H', J, q⟩ => exact ⟨.non, H', J.os, J.bare, J.base, J.hok, rfl, q⟩
  | .brk, ⟨_, _, _, q⟩ => exact False.elim q
  | .cont, ⟨_, _, _, q⟩ => exact False.elim q
section
variable {X : Cx} {CX : CXT} {k : Nat} {f : Addr} {fd : FuncData} {ps : List Str} {sp : Sp} {E : XK} {x : Str} {p pos : Pos} {e : Expr} {es : List Expr} {t : TA}
theorem run_fnG {pins : List (Addr × Obj)} {σ : L2.St} {H : Hp} {s : Shared} {Q : VK} {us : List Value} {vs : List V} (F : FnG X.prog X.w X.K X.mg X.base CX k f fd ps sp) (hg : X.A.guards = some []) (hr : Room k X.A) (hb : Binds X.K fd ps []) (hx : Passes CX X E)
    (I : Inv X pins σ H s) (r : Vals vs us) (h : sp vs H Q E) : wpAny (model X.prog X.w) X.A (call (.ref f) us) (EP X pins σ Q) X.xe s := by
  have hl : us.length = ps.length := by
    rw [← r.length]
    exact F.len _ _ _ _ h
  have hbb := hb s us I.kIn (by rw [List.append_nil]; exact hl)
  rw [List.append_nil] at hbb
  refine wpAny_call (codeAny_mono (F.run X.A X.stack s H ⟨us, []⟩ us vs Q E hg hr I.env0 hbb r h) fun r s' hq => ?_)
  match r, hq with
  | .error e, hq => exact hx pins σ H s e s' I hq
  | .ok (.ret u), hq => exact I.after hq
  | .ok .next, hq => exact False.elim hq
  | .ok .brk, hq => exact False.elim hq
  | .ok .cont, hq => exact False.elim hq
/-- f(e, ..) -/
theorem pe_callG (F : FnG X.prog X.w X.K X.mg X.base CX k f fd ps sp) (hgu : X.A.guards = some []) (hr : Room k X.A) (hg : Gl X x) (hm : X.mg x = some (.ref f)) (hk : PySem.W.keepIn X.K (.ref f) = true) (hb : Binds X.K fd ps []) (hx : Passes CX X E)
    (ha : PA X (e :: es) t) (hdb : (x == ("__debug__" : Str)) = false := by decide) (he : starEach (e :: es) X.env = (false, eval e X.env) :: starEach es X.env := by rfl) (hpl : (backTo pos (starEach es X.env)).any (·.1) = false := by rfl) :
    PE X (.Call (.Name x p) (e :: es) [] pos) (tCall sp [] E t) := by
  refine ⟨fun pins s σ H Q I h => wpAny_Call_Name_kw (ld_glob I hg hm ?_ hdb)⟩
  refine PySem.W.callWith_K (h₀ := X.base) I.ok.mod.kin hk (thn (ha.run pos pins s σ H _ I h) fun us s1 hh => ?_) he hpl
  obtain ⟨vs, H1, I1, r, q⟩ := hh
  have q' : sp (vs ++ []) H1 Q E := q
  rw [List.append_nil] at q'
  exact ⟨I1.kIn, run_fnG F hgu hr hb hx I1 r q'⟩
/-- repr(e), e a list or a tuple of data -/
def rRepr (K : PySem.W.Frag) : List V → Hp → VK → Prop := fun xs H Q => ∃ (a : Addr) (d : PyData), xs = [.ref a] ∧ Dp K H (.ref a) d ∧ d.showable = true ∧ d.hasDict = false ∧ d.depth ≤ 60 ∧ d.shown.length ≤ sizeLine ∧ Q (.str d.shown) H
theorem call_repr (hg : X.A.guards = some []) (hu : X.A.units + 64 < cLine) : CallR X (.builtin "repr") (rRepr X.K) := by
  intro pins s σ H xs us Q I r h
  obtain ⟨a, d, rfl, hd, hs, hn, hdp, hz, q⟩ := h
  cases r with
  | cons rx rr =>
    cases rr
    cases rx
    obtain ⟨as, hread⟩ := Dp.reads I d _ _ hd rfl
    refine repr_of_reads' hread hs (fun z => absurd (hn.symm.trans z) (by decide)) hg (by omega) (fun _ _ z => z) (fun h' u tk k => ?_) hz
    exact ⟨.str d.shown, H, I.kept (t' := tk) k, ⟨u, rfl⟩, q⟩
end
end Rg

set_option linter.all false
set_option maxRecDepth 100000
set_option maxHeartbeats 4000000
/-! the end of a law whose own def says repr -/
namespace Rg
open PySem PySem.Spec PyProof.Rows L2
theorem lawG {P : Program} {w : World} {K : PySem.W.Frag} {mg mb : Str → Option Value} {CX : CXT} {k : Nat} {fa a : Addr} {fd : FuncData} {x : Str} {sp : Sp} {s1 : Shared} {vs : List Value} {ns : List Int}
    (KI : K.In s1.heap) (hns : s1.heap.Ns mainGlobals mg) (hb : s1.heap.Ns builtinsNs mb) (hbb : ∀ x : Str, x ≠ "__name__" → mb x = bootBuiltins x) (hlim : s1.heap.NoLimit) (hg : s1.gens = #[])
    (ha : s1.heap.get? a = some { cls := .type "list", data := .seq vs.toArray }) (hi : IntsAre vs ns) (hl : ns.length ≤ sizeLine) (hr : Room k callerA)
    (F : ∀ base : Heap, K.In base → base.Ns mainGlobals mg → FnG P w K mg base CX k fa fd [x] sp) (hbind : ∀ (s : Shared) (u : Value), BindsTo s fd ⟨[u], []⟩ [(x, u)])
    (hsp : ∀ H : Hp, Only H → SqL K H a (ns.map V.int) → sp [.ref a] H (fun v _ => v = .bl true) fun _ _ _ => False)
    (hCX : ∀ H e s', CX [] H s1 (fun _ _ _ => False) e s' → False) :
    codeAny (model P w) callerA (.call (.ref fa) ⟨[.ref a], []⟩) (fun r s' => r = .ok (.ret (.bool true)) ∧ OldK s1.heap s'.heap ∧ s'.os = s1.os ∧ AllBare s'.gens) s1 := by
  have rv := vals_ints hi
  have lenV := hi.length
  have core : ∀ H : Hp, Only H → SqL K H a (ns.map V.int) → HOk P w H s1.heap → (∀ b, H b ≠ none → b = a) → (H a ≠ none → K.lookup a = none) →
      codeAny (model P w) callerA (.call (.ref fa) ⟨[.ref a], []⟩) (fun r s' => r = .ok (.ret (.bool true)) ∧ OldK s1.heap s'.heap ∧ s'.os = s1.os ∧ AllBare s'.gens) s1 := by
    intro H hO hS hok hA hK
    have under : ∀ {b : Addr} {o : Obj}, s1.heap.get? b = some o → H b = none → (hidT s1.heap H).get? b = some o := fun e n => hidT_get e n
    have only : ∀ {b : Addr}, H b ≠ none → b = a := fun {b} z => hA b z
    have dictFree : ∀ {b : Addr} {o : Obj} {es : Array DictEntry} {ep : Nat}, s1.heap.get? b = some o → o.data = .dict es ep → H b = none := fun {b o es ep} e d => by
      cases z : H b with
      | none => rfl
      | some u =>
        obtain rfl : b = a := only (by rw [z]; simp)
        rw [ha] at e
        cases e
        have d' : Data.seq vs.toArray _ = Data.dict es ep := d
        cases d'
    have nsUnder : ∀ {b : Addr} {m : Str → Option Value}, s1.heap.Ns b m → (hidT s1.heap H).Ns b m := fun {b m} ⟨o, es, ep, e, d, r⟩ => ⟨o, es, ep, under e (dictFree e d), d, r⟩
    have kUnder : K.In (hidT s1.heap H) := fun b o e => under (KI b o e) (by
      cases z : H b with
      | none => rfl
      | some u =>
        obtain rfl : b = a := only (by rw [z]; simp)
        have n := hK (by rw [z]; simp)
        rw [n] at e
        cases e)
    have md : Mod K mg (hidT s1.heap H) := ⟨kUnder, nsUnder hns, ⟨mb, nsUnder hb, hbb⟩, let ⟨mc, h1, h2⟩ := hlim; ⟨mc, nsUnder h1, h2⟩⟩
    have e0 : Env0 P w K mg (hidT s1.heap H) callerA [] s1 H := ⟨rfl, md, fun b o e => of_hidT e, Nat.le_of_eq (hidT_size _ _), trivial, fun b hb => absurd (show b ∈ ([] : List Addr) from hb) (by simp), hok, .of_eq hg⟩
    refine codeAny_mono ((F _ kUnder (nsUnder hns)).run callerA [] s1 H ⟨[.ref a], []⟩ [.ref a] [.ref a] _ _ rfl hr e0 (hbind s1 (.ref a)) (.cons rfl .nil) (hsp H hO hS)) fun r s' h => ?_
    match r, h with
    | .error e, h => exact (hCX H e s' h).elim
    | .ok .next, h => exact False.elim h
    | .ok .brk, h => exact False.elim h
    | .ok .cont, h => exact False.elim h
    | .ok (.ret u), ⟨v, H', os, bare, un, hok', r', q⟩ =>
      obtain rfl : v = .bl true := q
      obtain rfl : u = Value.bool true := r'
      refine ⟨rfl, OldK.of_keep fun b o e => ?_, os, bare⟩
      cases z : H b with
      | none => exact un.keep b o e z (by intro y; exact absurd (show b ∈ ([] : List Addr) from y) (by simp)) (by simp)
      | some u =>
        rcases hO b with y | ⟨ob, xs, y⟩
        · rw [z] at y
          cases y
        · obtain ⟨e1, _⟩ := hok b _ y
          obtain ⟨e2, _⟩ := hok' b _ (un.frzs b ob _ y)
          rw [e] at e1
          cases e1
          exact e2
  cases hk : K.lookup a with
  | some o =>
    have e := KI a o hk
    rw [ha] at e
    cases e
    exact core (fun _ => none) (fun _ => .inl rfl) (.inr ⟨_, vs.toArray, _, hk, rfl, rfl, rfl, by rw [List.size_toArray, lenV]; exact hl, by simpa using rv⟩)
      (fun b u z => by have z' : (none : Option HO) = some u := z; cases z') (fun b z => absurd rfl z) fun z => absurd rfl z
  | none =>
    refine core (fun b => if b = a then some (.frz { cls := .type "list", data := .seq vs.toArray } (.lst (ns.map V.int))) else none) (fun b => ?_)
      (.inl (.inr ⟨{ cls := .type "list", data := .seq vs.toArray }, if_pos rfl⟩)) (fun b u z => ?_) (fun b z => ?_) fun _ => hk
    · by_cases hb : b = a
      · exact .inr ⟨_, _, if_pos hb⟩
      · exact .inl (if_neg hb)
    · by_cases hb : b = a
      · have y := (if_pos hb).symm.trans z
        cases y
        subst hb
        exact ⟨ha, by rw [List.length_map]; exact hl, vs, _, rv, ha⟩
      · have y := (if_neg hb).symm.trans z
        cases y
    · by_cases hb : b = a
      · exact hb
      · exact absurd (if_neg hb) z
theorem walkG {l : PySem.W.OpenLaw} {n k : Nat} {q : Program} {loose : List Str} {XP : (Str → Option Value) → Heap → Prop} {YP : World → Heap → Prop} {d : DefRec} {K : Params → PySem.W.Frag} {CX : World → CXT} {sp : World → Sp} {x : Str}
    (hn : l.most = some n) (hn2 : n ≤ sizeLine) (hdf : d.params.defaults = []) (hr : Room k callerA) (hY : ∀ (w : World) (h : Heap), YP w h → (K w.params).In h)
    (F : ∀ (w : World) (mg : Str → Option Value) (fa : Addr) (h : Heap), (K w.params).In h → h.Ns mainGlobals mg → mg d.name = some (.ref fa) →
      ∃ fd : FuncData, (∀ (s : Shared) (u : Value), BindsTo s fd ⟨[u], []⟩ [(x, u)]) ∧
        ∀ base : Heap, (K w.params).In base → base.Ns mainGlobals mg → FnG l.prog w (K w.params) mg base (CX w) k fa fd [x] (sp w))
    (hsp : ∀ (w : World) (H : Hp) (a : Addr) (ns : List Int), ns.length ≤ n → (∀ z ∈ ns, Builtin.Int.intBits z ≤ 1048576) → Only H → SqL (K w.params) H a (ns.map V.int) → sp w [.ref a] H (fun v _ => v = .bl true) fun _ _ _ => False)
    (hCX : ∀ (w : World) (H : Hp) (s : Shared) (e : Value) (s' : Shared), CX w [] H s (fun _ _ _ => False) e s' → False) :
    PySem.W.WalkO q loose XP YP l.row.toRowW d [] (fun f vs => PySem.call f vs) := by
  refine Att.attach_callB hn hdf fun w s0 s1 mg mb fa o pm cd doc a vs ns G Y ho hd hcd hmg hobj hints hlen hbits hg => ?_
  have KI := hY w _ Y
  obtain ⟨fd, hb, hF⟩ := F w mg fa _ KI G.T.g hmg
  exact lawG KI G.T.g G.T.b G.T.builtins G.T.nolimit hg hobj hints (Nat.le_trans hlen hn2) hr hF hb (fun H hO hS => hsp w H a ns hlen hbits hO hS) fun H e s' => hCX w H s1 e s'
end Rg

set_option linter.all false
set_option maxRecDepth 100000
set_option maxHeartbeats 4000000
/-! own classes: static methods, str, ==, != by the text's own defs -/
namespace Wc
open PySem PySem.Spec PyProof.Rows L2
/-- C.m is a static method: its record at p, its def at g -/
structure CSta (K : PySem.W.Frag) (C : Addr) (mc : Value) (m : Str) (p g : Addr) : Prop where
  at_ : PySem.W.findCls K (.ref C) mc m = some (.get (.builtin "staticmethod.__get__") (.ref p) .none (.ref C))
  rc : ∃ rest, PySem.W.recIn K p "staticmethod" = some (.ref g :: rest)
  kp : PySem.W.keepIn K (.ref g) = true
def tStat (C : Addr) (sp : Sp) (E : XK) (ta : TE) (t : TA) : TE := fun σ H Q => ta σ H fun x H1 => x = .ref C ∧ t σ H1 fun vs H2 => sp vs H2 Q E
section
variable {X : Cx} {CX : CXT} {k : Nat} {C p g : Addr} {mc : Value} {fd : FuncData} {ps : List Str} {sp : Sp} {E : XK} {o e : Expr} {es : List Expr} {m : Str} {pos apos : Pos} {ta : TE} {t : TA} {pl : Sem Bool}
theorem pe_stat (he : PE X o ta) (r : ClX.CRead X.K C mc) (c : CSta X.K C mc m p g) (F : FnOk X.prog X.w X.K X.mg X.base CX k g fd ps sp) (hr : Room k X.A) (hb : Binds X.K fd ps []) (hx : Passes CX X E) (ha : PA X (e :: es) t)
    (hst : starEach (e :: es) X.env = (false, eval e X.env) :: starEach es X.env := by rfl) (hpl : (backTo pos (starEach es X.env)).any (·.1) = false := by rfl)
    (ht : eval (.Call (.Attribute o m apos) (e :: es) [] pos) X.env = (do
      let ov ← eval o X.env
      standAt apos.atName
      let (f, first) ← holding [ov] (getMethod ov m pl)
      callWith pos f first (backTo pos (starEach (e :: es) X.env)) (backToKw pos (keywordEach [] X.env))) := by rfl) :
    PE X (.Call (.Attribute o m apos) (e :: es) [] pos) (tStat C sp E ta t) := by
  constructor
  intro pins s σ H Q I h
  apply PySem.W.methodCall_KW (pl := pl) _ ht
  apply thn (he.run pins s σ H _ I h)
  rintro u s1 ⟨x, H1, J, rx, rfl, q⟩
  obtain rfl : u = Value.ref C := rx
  obtain ⟨rest, hp⟩ := c.rc
  apply PySem.W.method_cls J.kIn r.ga
  apply PySem.W.cls_bind J.kIn r.rd c.at_
  have J1 : Inv X pins σ H1 { s1 with toks := s1.toks + 1 } := J.tok _
  apply wpAny_call
  apply PySem.W.sm_get J1.kIn hp
  apply PySem.W.handed_on rfl
  refine PySem.W.callWith_K (h₀ := X.base) J1.ok.mod.kin c.kp (thn (ha.run pos pins _ σ H1 _ J1 q) fun us s2 hh => ?_) hst hpl
  obtain ⟨vs, H2, J2, rv, q2⟩ := hh
  have q2' : sp (vs ++ []) H2 Q E := by
    rw [List.append_nil]
    exact q2
  exact ⟨J2.kIn, run_fn F hr hb .nil hx J2 rv q2'⟩
/-- the callee below the running body -/
theorem run_below {pins : List (Addr × Obj)} {σ : L2.St} {H : Hp} {s : Shared} {A : Around} {Q : VK} {us : List Value} {ws : List V} (F : FnOk X.prog X.w X.K X.mg X.base CX k g fd ps sp) (hr : Room k A) (e0 : Env0 X.prog X.w X.K X.mg X.base A X.stack s H)
    (hb : Binds X.K fd ps []) (hx : Passes CX X E) (I : Inv X pins σ H s) (r : Vals ws us) (h : sp ws H Q E) : wpAny (model X.prog X.w) A (call (.ref g) us) (EP X pins σ Q) X.xe s := by
  have hl : us.length = ps.length := by
    rw [← r.length]
    exact F.len _ _ _ _ h
  have z := hb s us I.kIn (by rw [List.append_nil]; exact hl)
  rw [List.append_nil] at z
  apply wpAny_call
  refine codeAny_mono (F.run A X.stack s H ⟨us, []⟩ us ws Q E hr e0 z r h) fun r s' hq => ?_
  match r, hq with
  | .error e, hq => exact hx pins σ H s e s' I hq
  | .ok (.ret u), hq => exact I.after hq
  | .ok .next, hq => exact hq.elim
  | .ok .brk, hq => exact hq.elim
  | .ok .cont, hq => exact hq.elim
end
section
variable {X : Cx} {CX : CXT} {n : Nat} {C g : Addr} {fd : FuncData} {ps : List Str} {sp : Sp} {E : XK}
/-- str(o), o an instance of the class at C -/
def rStrO (C : Addr) (sp : Sp) (E : XK) : List V → Hp → VK → Prop := fun xs H Q => ∃ a dx fs, xs = [V.ref a] ∧ H a = some (.ins C dx fs) ∧ sp [.ref a] H (fun z G => ∃ y, z = .str y ∧ Q z G) E
theorem call_strO (hs : PySem.W.findIn X.K (.ref C) "__str__" = some (some (.ref g))) (hf : PySem.W.isFn X.K (.ref g) = true) (F : FnOk X.prog X.w X.K X.mg X.base CX n g fd ps sp) (hr : Room (n + 2) X.A) (hb : Binds X.K fd ps []) (hx : Passes CX X E) : CallR X (.type "str") (rStrO C sp E) := by
  intro pins s σ H xs us Q I r h
  obtain ⟨a, dx, fs, rfl, ha, q⟩ := h
  obtain ⟨u, rfl, ru⟩ := r.one
  cases (show u = Value.ref a from ru)
  obtain ⟨mA, O, _⟩ := ins_get I.hok ha
  obtain ⟨od, J, _⟩ := O.look
  have hr2 : Room n X.A.in1.in1 := (show Room (n + 1) X.A.in1 from Room.in1 hr).in1
  apply PySem.W.kso_call hr2.units0 I.kIn J hs hf
  apply wpAny_mono (run_below (us := [.ref a]) (ws := [.ref a]) F hr2 I.env0.in1.in1 hb hx I (.cons rfl .nil) q) _ fun _ _ z => z
  rintro w s' ⟨z, G, J', rz, y, rfl, qz⟩
  obtain ⟨t, rfl⟩ := (show ∃ t, w = Value.str y t from rz)
  exact ⟨.str y, G, J', ⟨t, rfl⟩, qz⟩
/-- a comparison whose def is the class's own -/
def rCmpO (K : PySem.W.Frag) (C : Addr) (sp : Sp) (E : XK) : R2 := fun x y H Q => ∃ a dx fs t, x = .ref a ∧ H a = some (.ins C dx fs) ∧ TyX K H y t ∧ PySem.W.notFirst K C t = true ∧ sp [x, y] H (fun z G => ∃ b, z = .bl b ∧ Q z G) E
theorem op_eqO (hs : PySem.W.findIn X.K (.ref C) "__eq__" = some (some (.ref g))) (hf : PySem.W.isFn X.K (.ref g) = true) (F : FnOk X.prog X.w X.K X.mg X.base CX n g fd ps sp) (hr : Room n X.A) (hb : Binds X.K fd ps []) (hx : Passes CX X E) : OpR X (compareOp .Eq) (rCmpO X.K C sp E) := by
  intro pins s σ H x y v u Q I rx ry h
  obtain ⟨a, dx, fs, t, rfl, ha, ty, hn, q⟩ := h
  cases (show v = Value.ref a from rx)
  obtain ⟨mA, O, _⟩ := ins_get I.hok ha
  obtain ⟨od, J, _⟩ := O.look
  obtain ⟨P, Z, p, _⟩ := kit_of I ry ty
  obtain ⟨m, hF⟩ := I.fr
  show wpAny _ _ (richCompare .Eq _ _) _ _ _
  refine PySem.W.cmp_K (op := .Eq) (tb := t) hr.units0 hF I.ok.mod.kin J (Z.ty _ _ I.kIn p) hn hs hf ?_
  apply wpAny_mono (run_below (us := [.ref a, u]) (ws := [.ref a, y]) F hr I.env0 hb hx I (.cons rfl (.cons ry .nil)) q) _ fun _ _ z => z
  rintro w s' ⟨z, G, J', rz, b, rfl, qz⟩
  cases (show w = Value.bool b from rz)
  exact ⟨.bl b, G, J', rfl, qz⟩
end
section
open PySem.W
variable {prog : Program} {w : World} {A : Around} {E : Value → Shared → Prop} {s : Shared} {K : PySem.W.Frag} {x C f : Addr} {ox : Obj} {od : Option Obj} {b tb : Value}
/-- a special method that is a built-in's slot, if bound -/
theorem bound_slot {M : Model} {id : String} {name : Str} {args : List Value} {Q : Option Value → Shared → Prop} (KX : K.In s.heap) (I : InstAt s.heap x ox C od) (hs : findIn K (.ref C) name = some (some (.builtin id)))
    (hb : ∀ self, bindSpecial (.builtin id) self = pure (.builtin id, [self])) (h : wpAny M A (call (.builtin id) (.ref x :: args)) (fun v => Q (some v)) E s) : wpAny M A (callSpecialIfBound? (.ref x) name args) Q E s := by
  simp only [callSpecialIfBound?, bindSpecialIfBound?]
  apply wpAny_holding
  apply wpAny_bind
  apply wpAny_bind
  apply wpAny_bind
  refine I.type.here ((looks_findIn KX hs).here ?_)
  apply wpAny_bind
  refine wpAny_askSetting (wpAny_ite ?_)
  have go : wpAny M A (call (.builtin id) ([.ref x] ++ args) >>= fun v => pure (some v)) Q E s := wpAny_bind (wpAny_mono h (fun _ _ z => wpAny_pure z) fun _ _ z => z)
  split
  · exact wpAny_bind ((Looks.of_pure (hb _)).here (wpAny_pure (by exact go)))
  · exact wpAny_tryCatch (wpAny_bind ((Looks.of_pure (hb _)).here (wpAny_pure (by exact go))))
theorem ne_K {Q : Value → Shared → Prop} (hu : A.units < cLine) (hu1 : A.in1.units < cLine) (KX : K.In s.heap) (I : InstAt s.heap x ox C od) (hb : Looks (model prog w) s.heap (typeOf b) tb) (hn : notFirst K C tb = true)
    (hne : findIn K (.ref C) "__ne__" = some (some (.builtin "object.__ne__"))) (hm : mroIn K C (.type "object") = some true) (hs : findIn K (.ref C) "__eq__" = some (some (.ref f))) (hf : isFn K (.ref f) = true)
    (h : wpAny (model prog w) A.in1 (call (.ref f) [.ref x, b]) (fun v s' => ∃ k, v = .bool k ∧ Q (.bool (!k)) s') E s) : wpAny (model prog w) A (richCompare .NotEq (.ref x) b) Q E s := by
  have inner : wpAny (model prog w) A (call (.builtin "object.__ne__") [.ref x, b]) (fun v s' => ∃ k, v = .bool (!k) ∧ Q (.bool (!k)) s') E s := by
    refine wpAny_call (codeAny_call_builtin PySem.F.cmp_object.ne.plain PySem.F.cmpEntry_ne (check_slot (i := "object.__ne__") (owner := "object") (n := "__ne__") (by decide +kernel) (by decide +kernel) (I.type.andThen (looks_mroIn KX hm)) (PySem.F.cmpArgs_ne _ _) ?_))
    delta Builtin.«object.__ne__»
    repeat (first
      | with_reducible refine wpAny_cRoomFor hu1 ?_
      | (refine wpAny_bind (m := callSpecialIfBound? (.ref x) (Str.ofString "__eq__") [b]) (ifBound_K KX I hs hf (wpAny_mono h (fun r s' hr => by
          obtain ⟨k, rfl, hq⟩ := hr
          repeat (first | exact ⟨k, rfl, hq⟩ | exact wpAny_pure ⟨k, rfl, hq⟩ | exact wpAny_truthy_bool ⟨k, rfl, hq⟩ | (refine wpAny_bind (m := truthy (.bool _)) (wpAny_truthy_bool ?_)) | wp_step)) fun _ _ z => z)))
      | wp_step)
  have one : wpAny (model prog w) A (tryCompare (.ref x) "__ne__" b) (fun r s' => ∃ v, r = some v ∧ Q v s') E s := by
    delta tryCompare
    apply wpAny_bind
    apply bound_slot KX I hne PySem.F.cmp_object.ne.bind
    apply wpAny_mono inner _ fun _ _ z => z
    rintro v s' ⟨k, rfl, hq⟩
    exact wpAny_pure ⟨_, rfl, hq⟩
  delta richCompare
  simp only [oneThing_ref]
  apply wpAny_holding
  apply wpAny_bind
  apply wpAny_cRoomFor hu
  rw [PySem.cmpInfo_NotEq]
  refine wpAny_bind (I.type.here (wpAny_bind (hb.here ?_)))
  split
  · rename_i q
    have e : subIn K tb (.ref C) = some false := by
      rcases Bool.or_eq_true_iff.mp hn with e | e
      · rw [beq_iff_eq.mp e] at q
        simp at q
      · exact beq_iff_eq.mp e
    refine wpAny_bind ((looks_subIn KX e).here ?_)
    simp only [Bool.false_eq_true, if_false]
    apply wpAny_bind
    apply wpAny_mono one _ fun _ _ z => z
    rintro r s' ⟨v, rfl, hq⟩
    exact wpAny_pure hq
  · apply wpAny_bind
    apply wpAny_pure
    simp only [Bool.false_eq_true, if_false]
    apply wpAny_bind
    apply wpAny_mono one _ fun _ _ z => z
    rintro r s' ⟨v, rfl, hq⟩
    exact wpAny_pure hq
end
section
variable {X : Cx} {CX : CXT} {n : Nat} {C g : Addr} {fd : FuncData} {ps : List Str} {sp : Sp} {E : XK}
/-- x != y where the class has an own == alone -/
def rNeO (K : PySem.W.Frag) (C : Addr) (sp : Sp) (E : XK) : R2 := fun x y H Q => ∃ a dx fs t, x = .ref a ∧ H a = some (.ins C dx fs) ∧ TyX K H y t ∧ PySem.W.notFirst K C t = true ∧ sp [x, y] H (fun z G => ∃ b, z = .bl b ∧ Q (.bl (!b)) G) E
theorem op_neO (hne : PySem.W.findIn X.K (.ref C) "__ne__" = some (some (.builtin "object.__ne__"))) (hm : PySem.W.mroIn X.K C (.type "object") = some true) (hs : PySem.W.findIn X.K (.ref C) "__eq__" = some (some (.ref g))) (hf : PySem.W.isFn X.K (.ref g) = true)
    (F : FnOk X.prog X.w X.K X.mg X.base CX n g fd ps sp) (hr : Room (n + 1) X.A) (hb : Binds X.K fd ps []) (hx : Passes CX X E) : OpR X (compareOp .NotEq) (rNeO X.K C sp E) := by
  intro pins s σ H x y v u Q I rx ry h
  obtain ⟨a, dx, fs, t, rfl, ha, ty, hn, q⟩ := h
  cases (show v = Value.ref a from rx)
  obtain ⟨mA, O, _⟩ := ins_get I.hok ha
  obtain ⟨od, J, _⟩ := O.look
  obtain ⟨P, Z, p, _⟩ := kit_of I ry ty
  have hr1 : Room n X.A.in1 := Room.in1 hr
  show wpAny _ _ (richCompare .NotEq _ _) _ _ _
  refine ne_K (tb := t) hr.units0 hr1.units0 I.kIn J (Z.ty _ _ I.kIn p) hn hne hm hs hf ?_
  apply wpAny_mono (run_below (us := [.ref a, u]) (ws := [.ref a, y]) F hr1 I.env0.in1 hb hx I (.cons rfl (.cons ry .nil)) q) _ fun _ _ z => z
  rintro w s' ⟨z, G, J', rz, b, rfl, qz⟩
  cases (show w = Value.bool b from rz)
  exact ⟨b, rfl, .bl (!b), G, J', rfl, qz⟩
end
end Wc

set_option linter.all false
set_option maxRecDepth 100000
set_option maxHeartbeats 4000000
/-! exceptions of own classes with an own __init__, held as values -/
namespace Exv
open PySem PySem.Spec PyProof.Rows L2
/-- the class at C, called, makes an exception and hands it to its __init__ at fI -/
def MkOk (prog : Program) (w : World) (K : PySem.W.Frag) (C fI : Addr) : Prop :=
  ∀ (A : Around) (R : Result → Shared → Prop) (h : Heap) (g : Array GenState) (d : Drawn) (t : Nat) (os : OsState) (rest : List Value), K.In h → rest.length ≤ sizeLine →
    codeAny (model prog w) (A.under (.builtin "type.__call__" ⟨.ref C :: rest, []⟩)) (.call (.ref fI) ⟨.ref (h.objs.size + 1) :: rest, []⟩) (PySem.W.InitBack (h.objs.size + 1) R)
      ⟨(h.push (PySem.W.kdv_tup rest)).push (PySem.HandSPX.excO C h.objs.size), g, d, t, os⟩ →
    codeAny (model prog w) A (.call (.ref C) ⟨rest, []⟩) R ⟨h, g, d, t, os⟩
theorem mkOk_ve {prog : Program} {w : World} {K : PySem.W.Frag} {C fI : Addr} (T : OexC K C) (iC : PySem.W.findIn K (.ref C) "__init__" = some (some (.ref fI)))
    (tI : PySem.W.typeIn K (.ref fI) = some (.type "function")) : MkOk prog w K C fI := fun A R h g d t os rest KX hr q => by
  obtain ⟨nm, qq, N, bs, bm, sn, sub, ab, col, dd, k0, k1, k2, k3, k5, hC, hbm⟩ := T.cls
  exact PySem.HandSPX.call_own PySem.F.excBase_ValueError (fun Y => PySem.HandSPX.refsVE_contains Y bm hbm) (KX _ _ hC) (PySem.W.looks_findIn KX iC) (fun self => PySem.W.bind_fn KX self tI) hr q
/-- C(e, ..), C's own __init__ keeping sp: the exception as a value -/
def tMkV (C : Addr) (sp : Sp) (ta : TA) : TE := fun σ H Q => ta σ H fun vs H1 => vs.length ≤ 1000 ∧ ∀ a, H1 a = none →
  sp (.ref a :: vs) (upd H1 a (exo a C none)) (fun v H2 => v = .non ∧ Q (.ref a) H2) (fun _ _ _ => False)
section
variable {X : Cx}
theorem mkv_run {CX : CXT} {C fI : Addr} {k : Nat} {fd : FuncData} {ps : List Str} {sp : Sp} (MK : MkOk X.prog X.w X.K C fI)
    (F1 : FnOk X.prog X.w X.K X.mg X.base CX k fI fd ps sp) (hr : Room (k + 1) X.A) (hb : Binds X.K fd ps []) (hx : Passes CX X (fun _ _ _ => False))
    {pins : List (Addr × Obj)} {σ : L2.St} {H1 : Hp} {s1 : Shared} {vs : List V} {us : List Value} {Q : VK} (I1 : Inv X pins σ H1 s1) (r1 : Vals vs us) (hz : vs.length ≤ 1000)
    (q1 : ∀ a, H1 a = none → sp (.ref a :: vs) (upd H1 a (exo a C none)) (fun v H2 => v = .non ∧ Q (.ref a) H2) (fun _ _ _ => False)) :
    wpAny (model X.prog X.w) X.A (call (.ref C) us) (EP X pins σ Q) X.xe s1 := by
  obtain ⟨hp, g, dr, tk, os⟩ := s1
  have up1 : hp.objs.size ≤ hp.objs.size + 1 := Nat.le_succ _
  have hq := q1 (hp.objs.size + 1) (I1.hok.fresh up1)
  have kk : ∀ b o, hp.get? b = some o → ((hp.push (PySem.W.kdv_tup us)).push (PySem.HandSPX.excO C hp.objs.size)).get? b = some o := fun b o z =>
    Heap.get?_push_of_some _ (Heap.get?_push_of_some _ z)
  have hat : ((hp.push (PySem.W.kdv_tup us)).push (PySem.HandSPX.excO C hp.objs.size)).get? (hp.objs.size + 1) = some (PySem.HandSPX.excO C hp.objs.size) := by heap_get
  have I2 : Inv X pins σ (upd H1 (hp.objs.size + 1) (exo (hp.objs.size + 1) C none)) ⟨(hp.push (PySem.W.kdv_tup us)).push (PySem.HandSPX.excO C hp.objs.size), g, dr, tk, os⟩ :=
    I1.laid (t' := tk) (a := hp.objs.size + 1) (o := exo (hp.objs.size + 1) C none) (h' := (hp.push (PySem.W.kdv_tup us)).push (PySem.HandSPX.excO C hp.objs.size)) kk up1 (exo_ok hat)
  have r2 : Vals (V.ref (hp.objs.size + 1) :: vs) (Value.ref (hp.objs.size + 1) :: us) := .cons rfl r1
  have hl : (Value.ref (hp.objs.size + 1) :: us).length = ps.length := by
    rw [← r2.length]
    exact F1.len _ _ _ _ hq
  have hus : us.length ≤ sizeLine := by
    rw [← Paired.length r1, sizeLine_eq]
    omega
  refine wpAny_call (MK _ _ hp g dr tk os us I1.kIn hus (codeAny_mono (F1.run _ X.stack _ _ ⟨Value.ref (hp.objs.size + 1) :: us, []⟩ (Value.ref (hp.objs.size + 1) :: us) _ _ (fun _ _ _ => False)
    (hr.make C us []) (I2.env0.make C us []) (by have z := hb _ (Value.ref (hp.objs.size + 1) :: us) I2.kIn (by rw [List.append_nil]; exact hl); rw [List.append_nil] at z; exact z) r2 hq) fun r s' hq' => ?_))
  cases r with
  | error er => exact hx pins σ _ _ er s' I2 hq'
  | ok fl =>
    cases fl with
    | ret u =>
      obtain ⟨v, H2, J, rv, ev, q2⟩ := I2.after hq'
      subst ev
      exact ⟨rv, .ref (hp.objs.size + 1), H2, J, rfl, q2⟩
    | next => exact False.elim hq'
    | brk => exact False.elim hq'
    | cont => exact False.elim hq'
theorem pe_mkv {CX : CXT} {x : Str} {C fI : Addr} {k : Nat} {fd : FuncData} {ps : List Str} {sp : Sp} {e : Expr} {es : List Expr} {ta : TA} {p pos : Pos} (MK : MkOk X.prog X.w X.K C fI) (kC : PySem.W.keepIn X.K (.ref C) = true)
    (F1 : FnOk X.prog X.w X.K X.mg X.base CX k fI fd ps sp) (hr : Room (k + 1) X.A) (hb : Binds X.K fd ps []) (hx : Passes CX X (fun _ _ _ => False)) (hg : Gl X x) (hm : X.mg x = some (.ref C)) (ha : PA X (e :: es) ta)
    (hdb : (x == ("__debug__" : Str)) = false := by decide) (he : starEach (e :: es) X.env = (false, eval e X.env) :: starEach es X.env := by rfl) (hpl : (backTo pos (starEach es X.env)).any (·.1) = false := by rfl) :
    PE X (.Call (.Name x p) (e :: es) [] pos) (tMkV C sp ta) := by
  refine ⟨fun pins s σ H Q I h => wpAny_Call_Name_kw (ld_glob I hg hm ?_ hdb)⟩
  refine PySem.W.callWith_K (h₀ := X.base) I.ok.mod.kin kC (thn (ha.run pos pins s σ H _ I h) fun us s1 hh => ?_) he hpl
  obtain ⟨vs, H1, I1, r1, hz, q1⟩ := hh
  exact ⟨I1.kIn, mkv_run MK F1 hr hb hx I1 r1 hz q1⟩
theorem pe_mkv0 {CX : CXT} {x : Str} {C fI : Addr} {k : Nat} {fd : FuncData} {ps : List Str} {sp : Sp} {p pos : Pos} (MK : MkOk X.prog X.w X.K C fI) (kC : PySem.W.keepIn X.K (.ref C) = true)
    (F1 : FnOk X.prog X.w X.K X.mg X.base CX k fI fd ps sp) (hr : Room (k + 1) X.A) (hb : Binds X.K fd ps []) (hx : Passes CX X (fun _ _ _ => False)) (hg : Gl X x) (hm : X.mg x = some (.ref C))
    (hdb : (x == ("__debug__" : Str)) = false := by decide) :
    PE X (.Call (.Name x p) [] [] pos) (tMkV C sp tNil) := by
  refine ⟨fun pins s σ H Q I h => wpAny_Call_Name_kw (ld_glob I hg hm ?_ hdb)⟩
  exact PySem.W.callWith_K0 I.kIn kC (mkv_run (us := []) MK F1 hr hb hx I .nil h.1 h.2)
/-- e.f, e such an exception -/
def tAtt (C : Addr) (f : Str) (te : TE) : TE := fun σ H Q => te σ H fun x H1 => ∃ (a d : Addr) (fs : List (Str × V)) (v : V), x = .ref a ∧ H1 a = some (exo a C (some d)) ∧ H1 d = some (exd d fs) ∧ fs.lookup f = some v ∧ Q v H1
theorem pe_att {C : Addr} {f : Str} {e : Expr} {te : TE} {pos : Pos} (T : XfC X.K C) (hno : PySem.W.findIn X.K (.ref C) f = some none) (he : PE X e te)
    (hb : attributeBase e f X.env (eval e X.env) = eval e X.env := by rfl) : PE X (.Attribute e f pos) (tAtt C f te) := by
  refine ⟨fun pins s σ H Q I h => attr_of hb (thn (he.run pins s σ H _ I h) fun u s1 hh => ?_)⟩
  obtain ⟨x, H1, I1, rx, a, d, fs, v, ex, ea, ed, l, q⟩ := hh
  subst ex
  obtain rfl : u = Value.ref a := rx
  obtain ⟨t1, ha⟩ := exo_at I1.hok ea
  obtain ⟨mA, hns, hr⟩ := exd_at I1.hok ed
  obtain ⟨od, ho, hl⟩ := lookIn_ns hns
  obtain ⟨u, hu, ru⟩ := RelO.some_of (v := v) (o := mA f) (by rw [← l]; exact hr f)
  have J : PySem.W.InstAt s1.heap a _ C (some od) := ⟨ha, rfl, rfl, ho⟩
  exact PySem.HandSPX.exc_get I1.kIn J T.ga T.gg T.exC (PySem.W.findObj_own T.hdC hno rfl (by rw [hl, hu])) (handed_of ru) ⟨v, H1, I1.tok _, ru, q⟩
/-- isinstance(e, c), e such an exception -/
def rIsX (K : PySem.W.Frag) : List V → Hp → VK → Prop := fun xs H Q => ∃ (a C : Addr) (dd : Option Addr) (c : V) (cv : Value) (b : Bool), xs = [.ref a, c] ∧ H a = some (exo a C dd) ∧
  (dd = none ∨ ∃ d fs, dd = some d ∧ H d = some (exd d fs)) ∧ ExcC K C ∧ (∀ u, RelV c u → u = cv) ∧ PySem.W.kitOne K (.ref C) cv = some b ∧ Q (.bl b) H
theorem call_isX : CallR X (.builtin "isinstance") (rIsX X.K) := by
  intro pins s σ H xs us Q I r h
  obtain ⟨a, C, dd, c, cv, b, rfl, ea, hd, T, hcv, e, q⟩ := h
  cases r with
  | cons rx rr =>
    cases rr with
    | cons rt rr =>
      cases rr
      cases rx
      obtain rfl := hcv _ rt
      obtain ⟨t1, ha⟩ := exo_at I.hok ea
      have hcl : (PySem.W.clsIn X.K C).isSome = true := by
        obtain ⟨cd, hc, _⟩ := PySem.W.any_some T.hd
        rw [hc] <;> rfl
      rcases hd with rfl | ⟨d, fs, rfl, ed⟩
      · have J : PySem.W.InstAt s.heap a _ C none := ⟨ha, rfl, rfl, trivial⟩
        exact PySem.W.kia_one (PySem.W.kitx_exc hcl T.hg T.hk T.hs T.ha T.hn T.ht T.hm) I.kIn J e (fun z => nomatch z) fun tk => ⟨.bl b, H, I.kept (t' := tk) fun _ _ z => z, rfl, q⟩
      · obtain ⟨mA, ⟨o, es, ep, ho, hr⟩, _⟩ := exd_at I.hok ed
        have J : PySem.W.InstAt s.heap a _ C (some o) := ⟨ha, rfl, rfl, ho⟩
        exact PySem.W.kia_one (PySem.W.kitx_exc hcl T.hg T.hk T.hs T.ha T.hn T.ht T.hm) I.kIn J e (fun z => nomatch z) fun tk => ⟨.bl b, H, I.kept (t' := tk) fun _ _ z => z, rfl, q⟩
end
end Exv

set_option linter.all false
set_option maxRecDepth 100000
set_option maxHeartbeats 4000000
/-! static methods that may raise, within a try; isinstance of a caught error against some classes -/
namespace Wc
open PySem PySem.Spec PyProof.Rows L2
def tStatS (C : Addr) (sp : Sp) (E : L2.St → XK) (ta : TE) (t : TA) : TE := fun σ H Q => ta σ H fun x H1 => x = .ref C ∧ t σ H1 fun vs H2 => sp vs H2 Q (E σ)
section
variable {X : Cx} {CX : CXT} {k : Nat} {C p g : Addr} {mc : Value} {fd : FuncData} {ps : List Str} {sp : Sp} {E : L2.St → XK} {o e : Expr} {es : List Expr} {m : Str} {pos apos : Pos} {ta : TE} {t : TA} {pl : Sem Bool}
theorem pe_statS (he : PE X o ta) (r : ClX.CRead X.K C mc) (c : CSta X.K C mc m p g) (F : FnOk X.prog X.w X.K X.mg X.base CX k g fd ps sp) (hr : Room k X.A) (hb : Binds X.K fd ps []) (hx : ∀ σ, PassesAt CX X σ (E σ)) (ha : PA X (e :: es) t)
    (hst : starEach (e :: es) X.env = (false, eval e X.env) :: starEach es X.env := by rfl) (hpl : (backTo pos (starEach es X.env)).any (·.1) = false := by rfl)
    (ht : eval (.Call (.Attribute o m apos) (e :: es) [] pos) X.env = (do
      let ov ← eval o X.env
      standAt apos.atName
      let (f, first) ← holding [ov] (getMethod ov m pl)
      callWith pos f first (backTo pos (starEach (e :: es) X.env)) (backToKw pos (keywordEach [] X.env))) := by rfl) :
    PE X (.Call (.Attribute o m apos) (e :: es) [] pos) (tStatS C sp E ta t) := by
  constructor
  intro pins s σ H Q I h
  apply PySem.W.methodCall_KW (pl := pl) _ ht
  apply thn (he.run pins s σ H _ I h)
  rintro u s1 ⟨x, H1, J, rx, rfl, q⟩
  obtain rfl : u = Value.ref C := rx
  obtain ⟨rest, hp⟩ := c.rc
  apply PySem.W.method_cls J.kIn r.ga
  apply PySem.W.cls_bind J.kIn r.rd c.at_
  have J1 : Inv X pins σ H1 { s1 with toks := s1.toks + 1 } := J.tok _
  apply wpAny_call
  apply PySem.W.sm_get J1.kIn hp
  apply PySem.W.handed_on rfl
  refine PySem.W.callWith_K (h₀ := X.base) J1.ok.mod.kin c.kp (thn (ha.run pos pins _ σ H1 _ J1 q) fun us s2 hh => ?_) hst hpl
  obtain ⟨vs, H2, J2, rv, q2⟩ := hh
  exact ⟨J2.kIn, run_fnS F hr hb (hx σ) J2 rv q2⟩
end
def rIsDT (K : PySem.W.Frag) (a : Addr) (cls : Value) (d : Option Addr) : List V → Hp → VK → Prop := fun xs H Q => ∃ (D dd tp : Addr) (fs : List (Str × V)) (cs : List V) (us : List Value) (b : Bool), xs = [.ref a, .ref tp] ∧ cls = .ref D ∧ d = some dd ∧ H dd = some (.xd fs) ∧ ExcC K D ∧ H tp = some (.tup cs) ∧ Paired ClsV cs us ∧ PySem.W.kitAny K (.ref D) us = some b ∧ Q (.bl b) H
theorem call_isDT {X : Cx} {a : Addr} {cls : Value} {d : Option Addr} {oe : Obj} {pn : List (Addr × Obj)} (hz : Zc cls d oe) (hf : ∃ vs, oe.data = .fields vs) : CallR (X.suite a ((a, oe) :: pn)) (.builtin "isinstance") (rIsDT X.K a cls d) := by
  intro pins s σ H xs us Q I r h
  obtain ⟨D, dd, tp, fs, cs, ws, b, rfl, rfl, rfl, ed, T, hT, k, e, q⟩ := h
  cases r with
  | cons rx rr =>
    cases rr with
    | cons rt rr =>
      cases rr
      cases rx
      cases rt
      have hcl : (PySem.W.clsIn X.K D).isSome = true := by
        obtain ⟨cd, hc, _⟩ := PySem.W.any_some T.hd
        rw [hc] <;> rfl
      obtain ⟨hget, _⟩ := I.pin (a, oe) (List.mem_append.mpr (.inl List.mem_cons_self))
      obtain ⟨vs, hv⟩ := hf
      have hx : ObjOk X.prog X.w H s.heap dd (.xd fs) := I.hok dd _ ed
      obtain ⟨mA, ⟨o, es, ep, ho, hr⟩, _⟩ := hx
      have J : PySem.W.InstAt s.heap a oe D (some o) := ⟨hget, hz.1, by unfold PySem.W.notCls; rw [hv] <;> rfl, by rw [hz.2]; exact ho⟩
      obtain ⟨_, its, rv, ob, h1, h2, n, h3⟩ := (show ObjOk X.prog X.w H s.heap tp (.tup cs) from I.hok tp _ hT)
      have e3 := ClsV.all k rv
      subst e3
      obtain ⟨oc, od, dt, sl⟩ := ob
      simp only at h2 h3
      subst h2 h3
      exact PySem.W.kia_tup (PySem.W.kitx_exc hcl T.hg T.hk T.hs T.ha T.hn T.ht T.hm) I.kIn J h1 e (fun z => nomatch z) fun tk => ⟨.bl b, H, I.kept (t' := tk) fun _ _ z => z, rfl, q⟩
end Wc

set_option linter.all false
set_option maxRecDepth 100000
set_option maxHeartbeats 4000000
/-! in and not in by the class's own __contains__ -/
namespace Wc
open PySem PySem.Spec PyProof.Rows L2
section
variable {X : Cx} {CX : CXT} {n : Nat} {C g : Addr} {fd : FuncData} {ps : List Str} {sp : Sp} {E : XK}
def rInO (C : Addr) (sp : Sp) (E : XK) : R2 := fun x y H Q => ∃ a dx fs, y = .ref a ∧ H a = some (.ins C dx fs) ∧ sp [.ref a, x] H (fun z G => ∃ b, z = .bl b ∧ Q (.bl b) G) E
def rOutO (C : Addr) (sp : Sp) (E : XK) : R2 := fun x y H Q => ∃ a dx fs, y = .ref a ∧ H a = some (.ins C dx fs) ∧ sp [.ref a, x] H (fun z G => ∃ b, z = .bl b ∧ Q (.bl (!b)) G) E
theorem op_inO (hs : PySem.W.findIn X.K (.ref C) "__contains__" = some (some (.ref g))) (hf : PySem.W.isFn X.K (.ref g) = true) (F : FnOk X.prog X.w X.K X.mg X.base CX n g fd ps sp) (hr : Room n X.A) (hb : Binds X.K fd ps []) (hx : Passes CX X E) : OpR X (compareOp .In) (rInO C sp E) := by
  intro pins s σ H x y v u Q I rx ry h
  obtain ⟨a, dx, fs, rfl, ha, q⟩ := h
  cases (show u = Value.ref a from ry)
  obtain ⟨mA, O, _⟩ := ins_get I.hok ha
  obtain ⟨od, J, _⟩ := O.look
  obtain ⟨m, hF⟩ := I.fr
  refine PySem.W.in_K hF I.ok.mod.kin J hs hf ?_
  apply wpAny_mono (run_below (us := [.ref a, v]) (ws := [.ref a, x]) F hr I.env0 hb hx I (.cons rfl (.cons rx .nil)) q) _ fun _ _ z => z
  rintro w s' ⟨z, G, J', rz, b, rfl, qz⟩
  cases (show w = Value.bool b from rz)
  exact wpAny_truthy_bool ⟨.bl b, G, J', rfl, qz⟩
theorem op_outO (hs : PySem.W.findIn X.K (.ref C) "__contains__" = some (some (.ref g))) (hf : PySem.W.isFn X.K (.ref g) = true) (F : FnOk X.prog X.w X.K X.mg X.base CX n g fd ps sp) (hr : Room n X.A) (hb : Binds X.K fd ps []) (hx : Passes CX X E) : OpR X (compareOp .NotIn) (rOutO C sp E) := by
  intro pins s σ H x y v u Q I rx ry h
  obtain ⟨a, dx, fs, rfl, ha, q⟩ := h
  cases (show u = Value.ref a from ry)
  obtain ⟨mA, O, _⟩ := ins_get I.hok ha
  obtain ⟨od, J, _⟩ := O.look
  obtain ⟨m, hF⟩ := I.fr
  refine PySem.W.notIn_K hF I.ok.mod.kin J hs hf ?_
  apply wpAny_mono (run_below (us := [.ref a, v]) (ws := [.ref a, x]) F hr I.env0 hb hx I (.cons rfl (.cons rx .nil)) q) _ fun _ _ z => z
  rintro w s' ⟨z, G, J', rz, b, rfl, qz⟩
  cases (show w = Value.bool b from rz)
  exact wpAny_truthy_bool ⟨.bl (!b), G, J', rfl, qz⟩
end
end Wc

set_option linter.all false
set_option maxRecDepth 100000
set_option maxHeartbeats 4000000
/-! own classes whose __iter__ hands out a tuple's iterator: iter(t), list(o), a walk over o; len(o) -/
namespace Wi
open PySem PySem.Spec PyProof.Rows L2
/-- at it an iterator over the tuple at l, the next place is i -/
def TItO (l it : Addr) (i : Nat) : HO := .ext fun h => h.IsTupleIter it l i
def AnyO (it : Addr) : HO := .ext fun h => ∃ o, h.get? it = some o
section
variable {X : Cx} {pins : List (Addr × Obj)} {σ : L2.St} {H : Hp} {s : Shared} {l it : Addr} {i : Nat}
theorem titO_ok {P : Program} {w : World} {H : Hp} {h : Heap} (e : h.IsTupleIter it l i) : ObjOk P w H h it (TItO l it i) :=
  ⟨e, (let ⟨o, ho, _⟩ := e; ⟨o, ho⟩), fun h1 h2 q k => let ⟨o, ho, r⟩ := q; ⟨o, k o ho, r⟩⟩
theorem anyO_ok {P : Program} {w : World} {H : Hp} {h : Heap} (e : ∃ o, h.get? it = some o) : ObjOk P w H h it (AnyO it) := ⟨e, e, fun h1 h2 q k => let ⟨o, ho⟩ := q; ⟨o, k o ho⟩⟩
theorem titO_get (I : Inv X pins σ H s) (e : H it = some (TItO l it i)) : s.heap.IsTupleIter it l i := (I.hok it _ e).1
def rIterT : List V → Hp → VK → Prop := fun xs H Q => ∃ (l : Addr) (zs : List V), xs = [.ref l] ∧ H l = some (.tup zs) ∧ ∀ it, H it = none → (∀ q o, H q = some o → q < it) → Q (.ref it) (upd H it (TItO l it 0))
theorem call_iterT : CallR X (.builtin "iter") rIterT := by
  intro pins s σ H xs us Q I r h
  obtain ⟨l, zs, rfl, hq, q⟩ := h
  obtain rfl := Vals.ref1 r
  obtain ⟨its, _, pl, _⟩ := I.tuple (SqT.of hq)
  refine Calls.call_function_entry (by decide +kernel) (by decide +kernel) PySem.W.kdk_entry_iter (PySem.W.kdk_args_iter _) ?_
  unfold Builtin.«iter»
  refine wpAny_bind (m := someArgs "iter" 1 2 _) (wpAny_of_eq (a := [Value.ref l]) (by first | rfl | kernel_rfl!) ?_)
  show wpAny _ _ (pyIter (.ref l) >>= _) _ _ _
  refine wpAny_bind (wpAny_pyIter_tuple (show s.heap.IsTuple l its.toArray from pl) ?_)
  refine wpAny_pure ⟨_, rfl, ?_⟩
  exact ⟨.ref s.heap.objs.size, _, I.laid (t' := s.toks) (fun b u e => Heap.get?_push_of_some _ e) (Nat.le_refl _) (titO_ok ⟨_, Heap.get?_push_size _ rfl, rfl, rfl⟩), rfl, q _ (I.hok.fresh (Nat.le_refl _)) fun b o e => I.hok.lt e⟩
end
section
variable {prog : Program} {w : World} {A : Around} {E : Value → Shared → Prop} {s : Shared}
theorem next_tuple_end {it t : Addr} {i : Nat} {items : Array Value} {Q : Option Value → Shared → Prop} (hh : A.handled = none)
    (hit : s.heap.IsTupleIter it t i) (ht : s.heap.IsTuple t items) (hx : items[i]? = none)
    (hQ : ∀ h', Heap.ExtBut it s.heap h' → (∃ o, h'.get? it = some o) → Q none { s with heap := h' }) : wpAny (model prog w) A (pyNext (.ref it)) Q E s := by
  obtain ⟨o, ho, hc, hd⟩ := id hit
  obtain ⟨ol, hol, _, nl, hdl⟩ := ht
  unfold pyNext
  refine wpAny_bind (wpAny_attempt (wpAny_callSpecial?_slot (name := Str.ofString "__next__") hit.typeIs F.slot_tuple_iterator_next
    (wpAny_call_entry F.slot_tuple_iterator_next hit.typeIs F.entry_tuple_iterator_next ?_ (F.args_tuple_iterator_next_1 _))))
  show wpAny _ _ (field (.ref it) 0 >>= _) _ _ s
  refine wpAny_bind (wpAny_field ho hd (x := .ref t) rfl ?_)
  show wpAny _ _ (if (Value.ref t == Value.none) = true then _ else _) _ _ s
  rw [if_neg (show ¬ ((Value.ref t == Value.none) = true) from Bool.false_ne_true)]
  show wpAny _ _ (field (.ref it) 1 >>= _) _ _ s
  refine wpAny_bind (wpAny_field ho hd (x := .int i 0) rfl ?_)
  show wpAny _ _ (seqItems? (.ref t) >>= _) _ _ s
  refine wpAny_bind (wpAny_seqItems hol hdl ?_)
  simp only [Int.toNat_natCast, hx]
  refine wpAny_bind (wpAny_rule (wpAny_bind (wpAny_setField ho hd (by simp) ?_)))
  show wpAny _ _ (newExc (.type "StopIteration") [] >>= _) _ _ _
  refine wpAny_bind ?_
  simp only [newExc, newTuple]
  refine wpAny_bind (wpAny_newObj_type ?_ (by size_fits))
  refine wpAny_bind (m := firstArgMember _ _) (wpAny_of_eq (a := Value.none) (by first | rfl | (simp only [firstArgMember]; rfl)) ?_)
  refine wpAny_newObj_type ?_ (by size_fits)
  simp only [raiseNew]
  refine wpAny_bind (wpAny_handled ?_)
  first | rw [show A.in1.handled = none from hh] | rw [hh]
  refine wpAny_bind (wpAny_pure (wpAny_throw ?_))
  refine wpAny_bind (wpAny_isInstance (T := "StopIteration") (b := true) ⟨_, Heap.get?_push_size _ rfl, rfl⟩ isSubtype_stop ?_)
  exact wpAny_pure (hQ _ (((Heap.SameBut.update ..).extBut.push _).push _) ⟨_, Heap.get?_push_of_some _ (Heap.get?_push_of_some _ (Heap.get?_update_self _ ho (Obj.isFreed_of_fields (Obj.data_mapFields hd _))))⟩)
end
/-- a class whose __iter__ and __len__ are its own defs -/
structure ItT (K : PySem.W.Frag) (C fi fl : Addr) : Prop where
  it : PySem.W.findIn K (.ref C) "__iter__" = some (some (.ref fi))
  itF : PySem.W.isFn K (.ref fi) = true
  ln : PySem.W.findIn K (.ref C) "__len__" = some (some (.ref fl))
  lnF : PySem.W.isFn K (.ref fl) = true
section
variable {X : Cx} {pins : List (Addr × Obj)} {σ : L2.St} {H : Hp} {s : Shared} {C fi fl a q it t : Addr} {fdI fdL : FuncData} {psI psL : List Str} {spI spL : Sp} {EI EL : XK} {CI CL : CXT} {n : Nat} {A1 : Around} {zs : List V}
theorem own_loopT {Rs : Result → Shared → Prop} (sb : Sub X n A1.in1) (hh : A1.in1.handled = none) (hdone : ∀ H' s', Inv X pins σ H' s' → (∀ b o, b ≠ it → b ≠ q → H b = some o → H' b = some o) → H' q = some (.lst zs) → Rs (.ok (.ret .none)) s') (htq : t ≠ q) (hiq : it ≠ q) (hti : t ≠ it) (hz : zs.length ≤ sizeLine) :
    ∀ (m i : Nat) (H1 : Hp) (s1 : Shared), Inv X pins σ H1 s1 → (∀ b o, b ≠ it → b ≠ q → H b = some o → H1 b = some o) → H1 it = some (TItO t it i) → H1 t = some (.tup zs) → H1 q = some (.lst (zs.take i)) → i + m = zs.length →
      codeAny (model X.prog X.w) A1 (.builtin "list.extend.loop" ⟨[.ref q, .ref it, .none], []⟩) Rs s1 := by
  intro m
  induction m with
  | zero =>
    intro i H1 s1 I hk ei et eq hi
    refine codeAny_builtin PySem.F.entry_extend_loop ?_
    rw [Around.under_plainId PySem.F.plain_extend_loop _]
    show wpAny _ A1.in1 (pyNext (.ref it) >>= _) _ _ s1
    obtain ⟨its, rv, p, _⟩ := I.tuple (SqT.of et)
    have hl := rv.length
    have mu : Mut (H1 it) := by rw [ei]; exact True.intro
    refine wpAny_bind (next_tuple_end hh (titO_get I ei) (show s1.heap.IsTuple t its.toArray from p) (by simp; omega) fun h' eb ex => ?_)
    refine wpAny_pure ?_
    refine hdone _ _ (I.write (x := it) (e := it) (t' := s1.toks) (o := AnyO it) mu (.inl rfl) (fun b o nb z => eb b o nb z) ex (anyO_ok ex)) (fun b o b1 b2 e => (upd_ne b1).trans (hk b o b1 b2 e)) ((upd_ne (Ne.symm hiq)).trans ?_)
    rw [eq, List.take_of_length_le (by omega)]
  | succ m ih =>
    intro i H1 s1 I hk ei et eq hi
    refine codeAny_builtin PySem.F.entry_extend_loop ?_
    rw [Around.under_plainId PySem.F.plain_extend_loop _]
    show wpAny _ A1.in1 (pyNext (.ref it) >>= _) _ _ s1
    obtain ⟨its, rv, p, _⟩ := I.tuple (SqT.of et)
    have hx : zs[i]? = some (zs[i]'(by omega)) := List.getElem?_eq_getElem _
    obtain ⟨u, hu, ru⟩ := rv.get hx
    have mu : Mut (H1 it) := by rw [ei]; exact True.intro
    refine wpAny_bind (wpAny_pyNext_tuple_item (titO_get I ei) (show s1.heap.IsTuple t its.toArray from p) (x := u) (by simpa using hu) fun h' st' sb' => ?_)
    have I2 : Inv X pins σ (upd H1 it (TItO t it (i + 1))) { s1 with heap := h' } := I.write (x := it) (e := it) (t' := s1.toks) mu (.inl rfl) (fun b o nb z => (sb'.2 b nb).trans z) (let ⟨o, ho, _⟩ := st'; ⟨o, ho⟩) (titO_ok st')
    have eq2 : upd H1 it (TItO t it (i + 1)) q = some (.lst (zs.take i)) := (upd_ne (Ne.symm hiq)).trans eq
    show wpAny _ A1.in1 (updateSeq q (·.push u) >>= _) _ _ _
    obtain ⟨z, its2, k, r2, hl, e⟩ := I2.lstM eq2
    have hlen : (zs.take i).length = i := by rw [List.length_take]; omega
    refine wpAny_bind (wpAny_updateSeq e rfl (wpAny_pure ⟨plainId_quiet PySem.F.plain_extend_loop _, ?_⟩) (by rw [List.size_toArray]; omega) (by show (its2.toArray.push u).size ≤ sizeLine + 1; rw [Array.size_push, List.size_toArray]; omega))
    refine ih (i + 1) _ _ (I2.lset (its' := its2 ++ [u]) (t' := s1.toks) eq2 e (by simp) (r2.append (.cons ru .nil)) (by rw [List.length_append, List.length_singleton]; omega)) (fun b o b1 b2 e => (upd_ne b2).trans ((upd_ne b1).trans (hk b o b1 b2 e))) ((upd_ne hiq).trans upd_same) ((upd_ne htq).trans ((upd_ne hti).trans et)) ?_ (by omega)
    rw [upd_same, List.take_succ_eq_append_getElem (by omega)]

/-- what __iter__ hands out: a tuple's iterator, none of it gone -/
def GivesIt (G : Hp) (zs : List V) (R : Hp → Addr → Addr → Prop) : VK := fun v G' => ∃ it t, v = .ref it ∧ G it = none ∧ (∀ q o, G q = some o → q < it) ∧ G' it = some (TItO t it 0) ∧ G' t = some (.tup zs) ∧ R G' it t
theorem hintT {Q : Bool → Shared → Prop} {E : Value → Shared → Prop} {ox : Obj} {od : Option Obj} {A : Around} {L : Addr} {m : Str → Option Value} (hc : ItT X.K C fi fl) (hF : Fr X.base L s.heap m) (kin : X.K.In X.base) (J : PySem.W.InstAt s.heap a ox C od)
    (h : wpAny (model X.prog X.w) A.in1 (call (.ref fl) [.ref a]) (PySem.W.LenBack fun v s' => ∃ k t, v = .int k t ∧ k.toNat ≤ 1000000 ∧ ∀ b, Q b s') (fun _ _ => False) s) :
    wpAny (model X.prog X.w) A (Builtin.List.listLengthHint (.ref a)) Q E s := by
  unfold Builtin.List.listLengthHint
  refine wpAny_bind (wpAny_bind (J.type.here ((PySem.W.looks_findIn (kin.keeps hF.keep) hc.ln).here ?_)))
  refine PySem.W.KFB.if_not rfl ?_
  refine PySem.W.KFB.if_so rfl ?_
  refine wpAny_bind (wpAny_rule ?_)
  refine wpAny_bind (wpAny_attempt (PySem.W.len_K hF kin J hc.ln hc.lnF (wpAny_mono h (fun v s' q => ?_) fun _ _ z => z.elim)))
  cases v <;> first | exact q.elim | skip
  rename_i k u
  obtain ⟨hb, k', t', e, hk, q⟩ := q
  cases e
  refine ⟨hb, ?_⟩
  refine wpAny_bind (wpAny_of_eq (a := some k) rfl ?_)
  have ht : Builtin.List.listTooLong k.toNat = false := by
    unfold Builtin.List.listTooLong
    exact decide_eq_false (by rw [sizeLine_eq]; omega)
  exact PySem.W.KFB.if_not ht (wpAny_pure (q _))
/-- list(o) -/
def rListI (C : Addr) (spI spL : Sp) : List V → Hp → VK → Prop := fun xs H Q => ∃ a dx fs, xs = [.ref a] ∧ H a = some (.ins C dx fs) ∧
  ∀ q, H q = none → ∃ zs : List V, zs.length ≤ 100000 ∧ spI [.ref a] (upd H q (.lst [])) (fun v G' => ∃ it t, v = .ref it ∧ upd H q (.lst []) it = none ∧ Same (upd H q (.lst [])) G' ∧ G' it = some (TItO t it 0) ∧ G' t = some (.tup zs) ∧ G' q = some (.lst []) ∧ 
    spL [.ref a] G' (fun v G'' => G'' = G' ∧ ∃ k : Nat, k ≤ 1000000 ∧ v = .int (k : Nat)) (fun _ _ _ => False)) (fun _ _ _ => False) ∧ ∀ H', Same H H' → H' q = some (.lst zs) → Q (.ref q) H'
theorem call_listI (hcalm : X.calm = true) (hc : ItT X.K C fi fl) (FI : FnOk X.prog X.w X.K X.mg X.base CX0 n fi fdI psI spI) (bI : Binds X.K fdI psI [])
    (FL : FnOk X.prog X.w X.K X.mg X.base CX0 n fl fdL psL spL) (bL : Binds X.K fdL psL []) (hr : Room (n + 3) X.A) : CallR X (.type "list") (rListI C spI spL) := by
  intro pins s σ H xs us Q I rv h
  obtain ⟨a, dx, fs, rfl, ha, hq⟩ := h
  obtain ⟨u, rfl, ru⟩ := rv.one
  cases ru
  have sb : Sub X (n + 1) X.A.in1.in1 := (Sub.in1 (Sub.in1 (⟨hr, rfl⟩ : Sub X (n + 3) X.A)))
  have sb0 : Sub X n X.A.in1.in1.in1 := Sub.in1 sb
  refine callType_codes (Q₁ := fun obj s₁ => obj = .ref s.heap.objs.size ∧ s₁ = { s with heap := s.heap.push { cls := .type "list", data := .seq #[] } }) PySem.F.called_list (PySem.F.typeCall_list_1 _) PySem.F.entry_list_init
    (code_list_new _ ⟨rfl, rfl⟩) fun obj s₁ h₁ => ?_
  obtain ⟨rfl, rfl⟩ := h₁
  have hS : (s.heap.push { cls := .type "list", data := .seq #[] }).get? s.heap.objs.size = some { cls := .type "list", data := .seq #[] } := Heap.get?_push_size _ rfl
  refine ⟨⟨_, hS, rfl⟩, PySem.F.args_list_init_2 _ _, ?_⟩
  have fr : H s.heap.objs.size = none := I.hok.fresh (Nat.le_refl _)
  generalize hqq : s.heap.objs.size = q at *
  obtain ⟨zs, hz, hsp, hQ⟩ := hq q fr
  have I1 : Inv X pins σ (upd H q (.lst [])) { s with heap := s.heap.push { cls := .type "list", data := .seq #[] } } := by
    rw [← hqq]
    exact I.lnew (its := []) (t' := s.toks) .nil (Nat.zero_le _)
  show wpAny _ _ (do let old ← Builtin.List.listItems (.ref q); Builtin.List.listUpdate (.ref q) (fun _ => #[]); letGo old.toList.reverse; Builtin.List.listExtendWith (.ref q) (.ref a) .none) _ _ _
  refine wpAny_bind ?_
  unfold Builtin.List.listItems
  refine wpAny_bind (wpAny_seqItems hS rfl (wpAny_pure ?_))
  show wpAny _ _ (updateSeq q (fun _ => #[]) >>= fun _ => letGo (#[] : Array Value).toList.reverse >>= fun _ => Builtin.List.listExtendWith (.ref q) (.ref a) .none) _ _ _
  refine wpAny_bind (wpAny_updateSeq hS rfl ?_)
  have I2 := I1.lset (f := fun _ => #[]) (its := []) (its' := []) (ys := []) (t' := s.toks) upd_same hS rfl .nil (Nat.zero_le _)
  rw [upd_upd] at I2
  refine wpAny_bind (wpAny_letGo ?_)
  have ha2 : upd H q (.lst []) a = some (.ins C dx fs) := by rw [upd_ne (ne_of_none ha fr)]; exact ha
  have eq2 : upd H q (.lst []) q = some (.lst []) := upd_same
  have S0 : Same H (upd H q (.lst [])) := fun b o e => by rw [upd_ne (ne_of_none e fr)]; exact e
  generalize upd H q (.lst []) = H2 at *
  generalize ({ s with heap := (s.heap.push { cls := .type "list", data := .seq #[] }).update q (Obj.mapSeq fun _ => #[]) } : Shared) = s2 at *
  have hne : q ≠ a := ne_of eq2 ha2 (fun z => nomatch z)
  obtain ⟨mA, J, _⟩ := ins_get I2.hok ha2
  obtain ⟨od, J, _⟩ := J.look
  obtain ⟨m0, hF⟩ := I2.fr
  unfold Builtin.List.listExtendWith
  refine wpAny_bind (J.type.here ?_)
  have h1 : Builtin.List.listSameRef (.ref q) (.ref a) = false := by simp [Builtin.List.listSameRef, hne]
  have h2 : (Value.ref C == Value.type "list") = false := rfl
  have h3 : (Value.ref C == Value.type "tuple") = false := rfl
  simp only [h1, h2, h3, Bool.or_false, Bool.false_eq_true, if_false]
  refine wpAny_bind (PySem.W.owit_iter hF I2.ok.mod.kin J hc.it hc.itF ?_)
  have e0 : ∀ {A2 : Around} {j : Nat} {Hx : Hp} {sx : Shared}, Sub X j A2 → Inv X pins σ Hx sx → Env0 X.prog X.w X.K X.mg X.base A2 X.stack sx Hx := fun {A2 j Hx sx} sb Ix => by
    have e := Ix.env0
    exact ⟨by rw [sb.fr]; exact e.frames, e.mod, e.bs, e.bsz, e.funs, e.frf, e.hok, e.bare⟩
  have hl := FI.len _ _ _ _ hsp
  have r2 : Vals [V.ref a] [Value.ref a] := .cons rfl .nil
  refine wpAny_call (codeAny_mono ((FI.mono (Nat.le_succ n)).run X.A.in1.in1 X.stack s2 H2 ⟨[.ref a], []⟩ [.ref a] [.ref a] _ _ sb.room (e0 sb I2) (by
    have := bI s2 [.ref a] I2.kIn (by simpa using hl)
    simpa using this) r2 hsp) fun r s' hq' => ?_)
  cases r with
  | error e => exact False.elim hq'
  | ok fl' =>
    cases fl' with
    | next => exact False.elim hq'
    | brk => exact False.elim hq'
    | cont => exact False.elim hq'
    | ret u =>
      obtain ⟨v, G', I', rv', it, t, ev, nit, S1, eit, et, eq', hspL⟩ := I2.after hq'
      subst ev
      cases rv'
      have ha' := S1 _ _ ha2
      refine wpAny_specialOf (name := Str.ofString "__next__") (titO_get I' eit).typeIs PySem.F.slot_tuple_iterator_next.lookup ?_
      dsimp only
      obtain ⟨mA', J', _⟩ := ins_get I'.hok ha'
      obtain ⟨od', J', _⟩ := J'.look
      obtain ⟨m1, hF'⟩ := I'.fr
      have hiq : it ≠ q := fun z => by rw [z, eq2] at nit; cases nit
      have htq : t ≠ q := ne_of et eq' (fun z => nomatch z)
      have hti : t ≠ it := ne_of et eit (fun z => nomatch z)
      have fin : ∀ s3, Inv X pins σ G' s3 → codeAny (model X.prog X.w) X.A.in1 (.builtin "list.extend.loop" ⟨[.ref q, .ref it, .none], []⟩) (wants (fun r s₂ => r = .none ∧ EP X pins σ Q (.ref q) s₂) X.xe) s3 := fun s3 I3 =>
        own_loopT (H := G') sb (I3.ok.hd hcalm) (fun H' s' Ix hk eqx => ⟨rfl, .ref q, H', Ix, rfl, hQ H' (fun b o e => by
          have bq : b ≠ q := ne_of_none e fr
          have bi : b ≠ it := ne_of_none (S0 _ _ e) nit
          exact hk b o bi bq (S1 _ _ (S0 _ _ e))) eqx⟩) htq hiq hti (by rw [sizeLine_eq]; omega) zs.length 0 G' s3 I3 (fun _ _ _ _ e => e) eit et (by rw [eq', List.take_zero]) (Nat.zero_add _)
      have hl2 := FL.len _ _ _ _ hspL
      refine wpAny_bind (wpAny_holding (hintT hc hF' I'.ok.mod.kin J' (wpAny_call (codeAny_mono (FL.run X.A.in1.in1.in1 X.stack s' G' ⟨[.ref a], []⟩ [.ref a] [.ref a] _ _ sb0.room (e0 sb0 I') (by
        have := bL s' [.ref a] I'.kIn (by simpa using hl2)
        simpa using this) r2 hspL) fun r4 s4 hq4 => ?_))))
      cases r4 with
      | error e => exact False.elim hq4
      | ok fl4 =>
        cases fl4 with
        | next => exact False.elim hq4
        | brk => exact False.elim hq4
        | cont => exact False.elim hq4
        | ret u4 =>
          obtain ⟨v4, G4, I4, rv4, e4, k, hk, ev4⟩ := I'.after hq4
          subst ev4
          rw [e4] at I4
          obtain ⟨t4, rfl⟩ := rv4
          refine ⟨⟨by omega, by omega⟩, _, _, rfl, by omega, fun b => ?_⟩
          have I5 : Inv X pins σ G' { s4 with toks := s4.toks + 1 } := I4.tok _
          obtain ⟨z, its, k3, r3, hl3, e3⟩ := I5.lstM eq'
          cases r3
          refine wpAny_ite_split (fun _ => ?_) (fun _ => wpAny_pure ⟨plainId_quiet PySem.F.plain_extend_loop _, fin _ I5⟩)
          refine wpAny_bind (wpAny_rule ?_)
          refine wpAny_bind ?_
          show wpAny _ _ (updateSeq q (·.push .none) >>= fun _ => updateSeq q (·.pop)) _ _ _
          refine wpAny_bind (wpAny_updateSeq e3 rfl ?_)
          have I6 := I5.lset (f := (·.push Value.none)) (its' := [Value.none]) (ys := [.non]) (t' := s4.toks + 1) eq' e3 (by simp) (.cons rfl .nil) (by rw [List.length_singleton, sizeLine_eq]; decide)
          obtain ⟨z4, its4, k4, r4, hl4, e4⟩ := I6.lstM upd_same
          obtain ⟨u4, rfl, ru4⟩ := r4.one
          refine wpAny_updateSeq e4 rfl ?_ (by show 1 ≤ sizeLine; rw [sizeLine_eq]; decide) (by show 0 ≤ sizeLine + 1; exact Nat.zero_le _)
          refine wpAny_pure ⟨plainId_quiet PySem.F.plain_extend_loop _, fin _ ?_⟩
          have I7 := I6.lset (f := (·.pop)) (its := [u4]) (its' := []) (ys := []) (t' := s4.toks + 1) upd_same e4 (by rfl) .nil (Nat.zero_le _)
          rw [upd_upd] at I7
          have hH : upd G' q (.lst []) = G' := by
            funext b
            by_cases hb : b = q
            · rw [hb, upd_same, eq']
            · rw [upd_ne hb]
          rw [hH] at I7
          exact I7
end
end Wi

set_option linter.all false
set_option maxRecDepth 100000
set_option maxHeartbeats 4000000
/-! len(o), a walk over o, xs.extend(t), t[::-1] -/
namespace Wi
open PySem PySem.Spec PyProof.Rows L2
section
variable {X : Cx} {CX : CXT} {n : Nat} {C g fi fl : Addr} {fd fdI : FuncData} {ps psI : List Str} {sp spI : Sp} {E : XK}
def rLenO (C : Addr) (sp : Sp) (E : XK) : List V → Hp → VK → Prop := fun xs H Q => ∃ a dx fs, xs = [V.ref a] ∧ H a = some (.ins C dx fs) ∧ sp [.ref a] H (fun z G => ∃ k : Nat, k ≤ 1000000 ∧ z = .int (k : Nat) ∧ Q (.int (k : Nat)) G) E
theorem call_lenO (hs : PySem.W.findIn X.K (.ref C) "__len__" = some (some (.ref g))) (hf : PySem.W.isFn X.K (.ref g) = true) (F : FnOk X.prog X.w X.K X.mg X.base CX n g fd ps sp) (hr : Room (n + 1) X.A) (hb : Binds X.K fd ps []) (hx : Passes CX X E) : CallR X (.builtin "len") (rLenO C sp E) := by
  intro pins s σ H xs us Q I r h
  obtain ⟨a, dx, fs, rfl, ha, q⟩ := h
  obtain ⟨u, rfl, ru⟩ := r.one
  cases (show u = Value.ref a from ru)
  obtain ⟨mA, O, _⟩ := ins_get I.hok ha
  obtain ⟨od, J, _⟩ := O.look
  obtain ⟨m, hF⟩ := I.fr
  have hr1 : Room n X.A.in1 := Room.in1 hr
  refine PySem.W.len_K hF I.ok.mod.kin J hs hf ?_
  apply wpAny_mono (Wc.run_below (us := [.ref a]) (ws := [.ref a]) F hr1 I.env0.in1 hb hx I (.cons rfl .nil) q) _ fun _ _ z => z
  rintro w s' ⟨z, G, J', rz, k, hk, rfl, qz⟩
  obtain ⟨t, rfl⟩ := rz
  exact ⟨⟨by omega, by omega⟩, .int (k : Nat), G, J'.tok _, ⟨_, rfl⟩, qz⟩
/-- a walk over o; q0: something young that is tracked -/
def iOwn (K : PySem.W.Frag) (n : Nat) (C : Addr) (spI : Sp) (te : TE) : TI := fun σ H R => te σ H fun x G => ∃ a dx fs q0 o0, x = .ref a ∧ G a = some (.ins C dx fs) ∧ G q0 = some o0 ∧ n ≤ q0 ∧
  spI [.ref a] G (fun v G' => ∃ it t, v = .ref it ∧ q0 < it ∧ G' it = some (TItO t it 0) ∧ R (Itt K t) (ItX.dropH G' it)) (fun _ _ _ => False)
theorem pi_own {tg e : Expr} {te : TE} (he : PE X e te) (hc : ItT X.K C fi fl) (FI : FnOk X.prog X.w X.K X.mg X.base CX0 n fi fdI psI spI) (bI : Binds X.K fdI psI []) (hr : Room n X.A) : PI X tg e (iOwn X.K X.s_0.heap.objs.size C spI te) := by
  refine ⟨fun pins s σ H R I h => ?_⟩
  refine thn (he.run pins s σ H _ I h) fun u s1 ⟨x, G, I1, rx, a, dx, fs, q0, o0, ex, ha, hq0, hn, hsp⟩ => ?_
  subst ex
  cases rx
  obtain ⟨mA, J, _⟩ := ins_get I1.hok ha
  obtain ⟨od, J, _⟩ := J.look
  obtain ⟨m0, hF⟩ := I1.fr
  refine PySem.W.owit_iter hF I1.ok.mod.kin J hc.it hc.itF ?_
  refine wpAny_mono (Wc.run_below (us := [.ref a]) (ws := [.ref a]) FI hr I1.env0 bI pass0 I1 (.cons rfl .nil) hsp) (fun v s2 h2 => ?_) fun _ _ z => z
  obtain ⟨z, G', I2, rz, it, t, ez, hlt, eit, q⟩ := h2
  subst ez
  cases rz
  refine wpAny_specialOf (name := Str.ofString "__next__") (titO_get I2 eit).typeIs PySem.F.slot_tuple_iterator_next.lookup ?_
  dsimp only
  have st := titO_get I2 eit
  have eit' := eit
  unfold TItO at eit'
  refine ⟨it, [it], _, _, ItX.dropH G' it, rfl, ItX.inv_drop I2 eit', turn_tuple t it, st, fun b hb => ?_, q⟩
  have e : b = it := by simpa using hb
  rw [e]
  exact ItX.inv_fp I2 eit (Nat.le_of_lt (Nat.lt_of_le_of_lt hn hlt))
end
section
variable {X : Cx}
def rExtT : V → List V → Hp → VK → Prop := fun x vs H Q => ∃ l b xs zs, x = .ref l ∧ vs = [.ref b] ∧ H l = some (.lst xs) ∧ H b = some (.tup zs) ∧ xs.length + zs.length ≤ sizeLine ∧ Q .non (upd H l (.lst (xs ++ zs)))
theorem mt_extT : MtM X "list.extend" rExtT := by
  intro pins s σ H x vs v us Q I rx rv h
  obtain ⟨l, b, xs, zs, rfl, rfl, hH, hB, hz, q⟩ := h
  cases rx
  obtain ⟨u, rfl, ru⟩ := rv.one
  cases ru
  obtain ⟨z, its, n, r, hl, e⟩ := I.lstM hH
  obtain ⟨its2, r2, ht, hz2⟩ := I.tuple (SqT.of hB)
  have hl2 := r2.length
  obtain ⟨o2, ho2, hc2, n2, hd2⟩ := id ht
  have hsz : its.toArray.size + its2.toArray.size ≤ sizeLine := by rw [List.size_toArray, List.size_toArray]; omega
  have hlong : (!its.toArray.isEmpty && Builtin.List.listTooLong (its.toArray.size + its2.toArray.size)) = false := by
    rw [notLongL hsz, Bool.and_false]
  refine wpAny_call_entry PySem.F.slot_list_extend ⟨_, e, rfl⟩ PySem.F.entry_list_extend ?_ (PySem.F.args_list_extend_2 _ _)
  show wpAny _ _ (selfAndOne "list.extend" ⟨[.ref l, .ref b], []⟩ >>= fun x => Builtin.List.listExtendWith x.1 x.2 .none) _ _ _
  refine wpAny_bind (wpAny_of_eq (a := (Value.ref l, Value.ref b)) (by first | rfl | kernel_rfl) ?_)
  dsimp only
  unfold Builtin.List.listExtendWith
  refine wpAny_bind (wpAny_typeOf ht.typeIs ?_)
  refine PySem.W.KFB.if_so (by rw [show (Value.type "tuple" == Value.type "tuple") = true by decide, Bool.or_true]) ?_
  unfold Builtin.List.listItems
  refine wpAny_bind (wpAny_bind (wpAny_seqItems ho2 hd2 (wpAny_pure ?_)))
  refine wpAny_bind (wpAny_bind (wpAny_seqItems e rfl (wpAny_pure ?_)))
  refine PySem.W.KFB.if_not hlong ?_
  show wpAny _ _ (updateSeq l (· ++ its2.toArray) >>= fun _ => ret .none) _ _ _
  refine wpAny_bind (wpAny_updateSeq e rfl ?_ (by rw [List.size_toArray]; omega) (by rw [Array.size_append]; omega))
  refine wpAny_pure ⟨_, rfl, ?_⟩
  refine ⟨.non, _, I.lset (its' := its ++ its2) (t' := s.toks) hH e (by simp) (r.append r2) ?_, rfl, q⟩
  rw [List.length_append]
  omega

theorem adjust_rev (n : Nat) : Builtin.Slice.sliceAdjust none none (-1) (n : Int) = ((n : Int) - 1, -1) := by
  first | rfl | (unfold Builtin.Slice.sliceAdjust; simp)
theorem places_rev (n : Nat) : Builtin.Slice.slicePlaces ((n : Int) - 1) (-1) (-1) = n := by
  unfold Builtin.Slice.slicePlaces
  have h1 : ¬ ((-1 : Int) > 0) := by decide
  simp only [h1, if_false]
  split
  · have e : ((n : Int) - 1 - -1 - -1 - 1) / (- -1) = (n : Int) := by
      rw [show (- -1 : Int) = 1 by decide, Int.ediv_one]
      omega
    first | omega | simp
  · omega
theorem fm_congr {α β : Type} {f g : α → Option β} : ∀ {l : List α}, (∀ x ∈ l, f x = g x) → l.filterMap f = l.filterMap g
  | [], _ => rfl
  | a :: l, h => by rw [List.filterMap_cons, List.filterMap_cons, h a (List.mem_cons_self ..), fm_congr fun x hx => h x (List.mem_cons_of_mem _ hx)]
theorem pick_rev (xs : Array Value) : ((List.range xs.size).filterMap fun (k : Nat) => xs[(((xs.size : Nat) : Int) - 1 + (k : Int) * (-1)).toNat]?).toArray = xs.toList.reverse.toArray := by
  have e : ((List.range xs.size).filterMap fun (k : Nat) => xs[(((xs.size : Nat) : Int) - 1 + (k : Int) * (-1)).toNat]?) = ((List.range xs.size).map fun k => xs.size - 1 - k).filterMap (xs[·]?) := by
    rw [List.filterMap_map]
    refine fm_congr fun k hk => ?_
    have := List.mem_range.mp hk
    have e2 : (((xs.size : Nat) : Int) - 1 + (k : Int) * (-1)).toNat = xs.size - 1 - k := by omega
    rw [e2]
    rfl
  rw [e, PySem.W.krv_range, List.filterMap_reverse, PySem.W.krv_all]
theorem getItem_tuple_rev {prog : Program} {w : World} {A : Around} {E : Value → Shared → Prop} {s : Shared} {t sl : Addr} {items : Array Value} {vl vu vk : Value} {Q : Value → Shared → Prop} (ht : IsTup s.heap t items) (hs : s.heap.IsSliceOf sl vl vu vk) (pl : IsPart vl none) (pu : IsPart vu none) (pk : IsPart vk (some (-1)))
    (h : Q (.ref s.heap.objs.size) { s with heap := s.heap.push { cls := .type "tuple", data := .seq items.toList.reverse.toArray } })
    (hsz : items.size ≤ sizeLine) : wpAny (model prog w) A (getItem (.ref t) (.ref sl)) Q E s := by
  have htake : sizeOk (.seq items.toList.reverse.toArray) := by
    show items.toList.reverse.toArray.size ≤ sizeLine
    rw [List.size_toArray, List.length_reverse, Array.length_toList]
    omega
  obtain ⟨os, hos, hcs, hds⟩ := id hs
  have hTs : s.TypeIs (.ref sl) "slice" := ⟨os, hos, hcs⟩
  unfold getItem
  try with_reducible refine wpAny_holding ?_
  first | refine wpAny_bind (wpAny_pure ?_) | skip
  refine wpAny_bind (wpAny_sequenceKey ht.typeIs (by decide) ?_)
  refine wpAny_bind (wpAny_callSpecial?_slot (name := Str.ofString "__getitem__") ht.typeIs PyProof.Rows.slot_tuple_getitem
    (wpAny_call_entry PyProof.Rows.slot_tuple_getitem ht.typeIs PyProof.Rows.entry_tuple_getitem ?_ (PyProof.Rows.args_tuple_getitem _ _)))
  show wpAny _ _ (Builtin.Tuple.tupleItemsOf (.ref t) >>= _) _ _ s
  refine wpAny_bind (tupleItemsOf_ ht ?_)
  refine wpAny_bind (wpAny_typeOf hTs ?_)
  rw [if_pos (by decide)]
  have ap : ∀ {Q2 : Int × Int × Nat → Shared → Prop}, Q2 (((items.size : Nat) : Int) - 1, -1, items.size) s → wpAny (model prog w) A.in1 (Builtin.Slice.sliceApplied (.ref sl) (pure (items.size : Int))) Q2 E s := by
    intro Q2 h2
    unfold Builtin.Slice.sliceApplied Builtin.Slice.sliceFields
    refine wpAny_bind (wpAny_bind (wpAny_field hos hds (x := vl) rfl (wpAny_bind (wpAny_field hos hds (x := vu) rfl (wpAny_bind (wpAny_field hos hds (x := vk) rfl (wpAny_pure ?_)))))))
    refine wpAny_bind (HT.slicePart_ pk ?_)
    show wpAny _ _ (if ((-1 : Int) == 0) = true then _ else _) _ _ s
    rw [if_neg (by decide)]
    refine wpAny_bind (HT.slicePart_ pl (wpAny_bind (HT.slicePart_ pu (wpAny_bind (wpAny_pure ?_)))))
    show wpAny _ _ (match Builtin.Slice.sliceAdjust none none (-1) (items.size : Int) with | (lo, hi) => pure (lo, (-1 : Int), Builtin.Slice.slicePlaces lo hi (-1))) _ _ s
    rw [adjust_rev items.size]
    show wpAny _ _ (pure (((items.size : Nat) : Int) - 1, (-1 : Int), Builtin.Slice.slicePlaces (((items.size : Nat) : Int) - 1) (-1) (-1))) _ _ s
    rw [places_rev]
    exact wpAny_pure h2
  refine wpAny_bind (ap ?_)
  have hno : ¬ (((((items.size : Nat) : Int) - 1) == 0 && (-1 : Int) == 1 && items.size == items.size) = true) := by
    rw [show ((-1 : Int) == 1) = false by decide, Bool.and_false, Bool.false_and]
    exact Bool.false_ne_true
  show wpAny _ _ (if ((((items.size : Nat) : Int) - 1) == 0 && (-1 : Int) == 1 && items.size == items.size) = true then _ else _) _ _ s
  rw [if_neg hno, pick_rev]
  first
    | exact wpAny_bind (m := Builtin.Tuple.tupleExact _) (wpAny_newObj_type (wpAny_pure ⟨_, rfl, wpAny_pure h⟩) htake)
    | exact wpAny_bind (m := Builtin.Tuple.tupleExact _) (wpAny_newObj_type (wpAny_bind (wpAny_pure (wpAny_pure ⟨_, rfl, wpAny_pure h⟩))) htake)
    | exact wpAny_bind (wpAny_bind (m := Builtin.Tuple.tupleExact _) (wpAny_newObj_type (wpAny_pure (wpAny_pure ⟨_, rfl, wpAny_pure h⟩)) htake))
    | exact wpAny_bind (wpAny_bind (m := Builtin.Tuple.tupleExact _) (wpAny_newObj_type (wpAny_pure ⟨_, rfl, wpAny_pure h⟩) htake))
def tRevT (K : PySem.W.Frag) (te : TE) : TE := fun σ H Q => te σ H fun x H1 => ∃ a xs, x = .ref a ∧ SqT K H1 a xs ∧ ∀ p, H1 p = none → Q (.ref p) (upd H1 p (.tup xs.reverse))
theorem pe_revT {e : Expr} {te : TE} {k : Nat} {p1 p2 p3 pos : Pos} (he : PE X e te) : PE X (.Subscript e (.Slice none none (some (.UnaryOp .USub (.Constant (.int 1) k p1) p2)) p3) pos) (tRevT X.K te) := by
  refine ⟨fun pins s σ H Q I h => ?_⟩
  refine Subscript_ (thn (he.run pins s σ H _ I h) fun v s1 ⟨x, H1, I1, r1, q1⟩ => ?_)
  obtain ⟨a, xs, ex, hx, q⟩ := q1
  subst ex
  cases r1
  have hst : PO X (some (.UnaryOp .USub (.Constant (.int 1) k p1) p2)) (tPart (tUn (rU fun i => .int (-i)) (tC (.int 1)))) := po_some (pe_un un_neg pe_int)
  refine wpAny_Slice (thn (po_none.run pins s1 σ H1 (fun o H2 => o = none ∧ H2 = H1) I1 ⟨rfl, rfl⟩) fun vl s2 ⟨l, H2, I2, pl, el, e2⟩ => ?_)
  subst el e2
  refine thn (po_none.run pins s2 σ H2 (fun o H3 => o = none ∧ H3 = H2) I2 ⟨rfl, rfl⟩) fun vu s3 ⟨u, H3, I3, pu, eu, e3⟩ => ?_
  subst eu e3
  refine thn (hst.run pins s3 σ H3 (fun o H4 => o = some (-1) ∧ H4 = H3) I3 ⟨1, rfl, -1, rfl, rfl, rfl⟩) fun vs s4 ⟨o, H4, I4, ps, eo, e4⟩ => ?_
  subst eo e4
  have I5 : Inv X pins σ H4 { s4 with heap := s4.heap.push { cls := .type "slice", data := .fields #[vl, vu, vs] } } := I4.kept (t' := s4.toks) fun b ob q => Heap.get?_push_of_some _ q
  obtain ⟨its, r, ht, hz⟩ := I5.tuple hx
  have hlen := r.length
  show wpAny (model X.prog X.w) X.A (subscriptTail e (.Slice none none (some (.UnaryOp .USub (.Constant (.int 1) k p1) p2)) p3) (.ref a) (.ref s4.heap.objs.size)) (EP X pins σ Q) X.xe { s4 with heap := s4.heap.push { cls := .type "slice", data := .fields #[vl, vu, vs] } }
  refine tail_any (ops := [.ref a, .ref s4.heap.objs.size]) ht.typeIs (PyProof.Rows.slot_tuple_getitem.lookup) ?_ (by with_unfolding_all rfl)
  refine getItem_tuple_rev ht (Heap.IsSliceOf.new _ vl vu vs) pl pu ps ?_ (by rw [List.size_toArray]; omega)
  refine ⟨.ref _, _, I5.laid (t' := s4.toks) (o := .tup xs.reverse) (fun b ob q => Heap.get?_push_of_some _ q) (Nat.le_refl _) ?_, rfl, q _ (I5.hok.fresh (Nat.le_refl _))⟩
  exact ⟨by rw [List.length_reverse]; exact hz, _, r.reverse, IsTup.new _ _⟩
end
end Wi

set_option linter.all false
set_option maxRecDepth 100000
set_option maxHeartbeats 4000000
/-! set(xs) of a list of texts; len of it -/
namespace Ws
open PySem PySem.Spec PyProof.Rows L2
/-- how many unlike texts -/
def unl : List Str → List Str
  | [] => []
  | z :: zs => if z ∈ zs then unl zs else z :: unl zs
def inS (zs : List Str) : Str → Bool := fun y => decide (y ∈ zs)
/-- the unlike ones, from the left -/
def met (zs : List Str) : Nat → Nat
  | 0 => 0
  | i + 1 => match zs[i]? with
    | none => met zs i
    | some z => if z ∈ zs.take i then met zs i else met zs i + 1
theorem met_le (zs : List Str) : ∀ i, met zs i ≤ i
  | 0 => Nat.le_refl _
  | i + 1 => by
    have := met_le zs i
    unfold met
    split
    · omega
    · split <;> omega
section
variable {prog : Program} {w : World} {A : Around} {R : Result → Shared → Prop} {I : Addr} {fp wr : List Addr} {G : Array GenState → Array GenState → Prop} {n : Nat} {Pv : Nat → Value → Prop} {St : Nat → Shared → Prop}
theorem loop_any (W : WalksS prog w A.in1 I fp wr G n Pv St) (a : Addr) (ha : a ∉ fp) (zs : List Str) (hz : zs.length = n) (hb : n + 1 < scanBound) (hv : ∀ i v, Pv i v → ∃ z t, zs[i]? = some z ∧ v = .str z t) :
    ∀ (m i : Nat) (s : Shared), n - i = m → i ≤ n → St i s → s.heap.SetOf (PySem.strKind prog w) a (inS (zs.take i)) (met zs i) →
      (∀ s', Moved (a :: wr) G s s' → s'.heap.SetOf (PySem.strKind prog w) a (inS zs) (met zs n) → R (.ok (.ret .none)) s') → codeAny (model prog w) A (.builtin "set.update.loop" ⟨[.ref a, .ref I], []⟩) R s := by
  have awr : a ∉ wr := fun q => ha (W.sub _ q)
  have more : ∀ b ∈ wr, b ∈ a :: wr := fun b q => List.mem_cons_of_mem _ q
  have at_ : ∀ {S : Str → Bool} {c : Nat} {h h' : Heap}, h.SetOf (PySem.strKind prog w) a S c → (∀ o, h.get? a = some o → h'.get? a = some o) → h'.SetOf (PySem.strKind prog w) a S c := fun q k => let ⟨o, es, ep, t, ho, r⟩ := q; ⟨o, es, ep, t, k o ho, r⟩
  intro m
  induction m with
  | zero =>
    intro i s hm hi st q fin
    obtain rfl : i = n := by omega
    refine codeAny_builtin PyProof.Rows.F.entry_set_update_loop ?_
    rw [Around.under_plainId PyProof.Rows.F.plain_set_update_loop _]
    refine wpAny_bind (W.done s _ _ st fun s' mv => ?_)
    rw [List.take_of_length_le (Nat.le_of_eq hz)] at q
    exact wpAny_pure (fin s' (mv.mono more) (at_ q fun o e => mv.heap a o awr e))
  | succ m ih =>
    intro i s hm hi st q fin
    have lt : i < n := by omega
    refine codeAny_builtin PyProof.Rows.F.entry_set_update_loop ?_
    rw [Around.under_plainId PyProof.Rows.F.plain_set_update_loop _]
    refine wpAny_bind (W.item i s _ _ lt st fun v s' pv st' mv => ?_)
    obtain ⟨z, t, ez, rfl⟩ := hv i v pv
    have q' := at_ q fun o e => mv.heap a o awr e
    refine wpAny_bind (wpAny_holding ?_)
    unfold setAdd
    refine wpAny_holding (wpAny_bind ((PySem.strKind prog w).pyHash (k := z) (strKind_is _ _ _ _) ?_))
    have ml := met_le zs i
    refine wpAny_setAddHashed_of (knd := PySem.strKind prog w) (s := { s' with toks := s'.toks + 1 }) (strKind_is _ _ _ _) rfl q' (by omega) fun h' sb q2 => ?_
    have nx : zs.take (i + 1) = zs.take i ++ [z] := by rw [List.take_add_one, ez]; rfl
    have q3 : h'.SetOf (PySem.strKind prog w) a (inS (zs.take (i + 1))) (met zs (i + 1)) := by
      refine SetOf_congr q2 (fun y => ?_) ?_
      · unfold inS
        rw [nx]
        by_cases e : y = z
        · rw [e]
          simp
        · simp [e]
      · unfold inS
        rw [met, ez]
        simp
    refine wpAny_pure ⟨plainId_quiet PyProof.Rows.F.plain_set_update_loop _, ih (i + 1) _ (by omega) lt (W.frame _ s' _ _ st' (Nat.le_succ _) fun b bf o e => ?_) q3 fun s2 mv2 q4 => ?_⟩
    · exact (sb.2 b fun r => ha (r ▸ bf)).trans e
    · refine fin s2 (Moved.trans W.gtrans ((mv.mono more).then_heap (Nat.le_succ _) fun b o nb e => ?_) mv2) q4
      exact (sb.2 b fun r => nb (r ▸ List.mem_cons_self ..)).trans e
end
section
variable {prog : Program} {w : World} {A : Around} {E : Value → Shared → Prop} {s : Shared}
def oSet (b : Bool) : Obj := { cls := .type "set", dict := none, data := .set #[] 0 (.fresh 0 0 b) }
theorem call_any {l : Addr} {items : Array Value} {zs : List Str} {Q : Value → Shared → Prop} (hh : A.handled = none) (hl : s.heap.IsList l items) (hi : PyProof.Rows.StrsAre items.toList zs) (hb : zs.length + 1 < scanBound)
    (h : ∀ (h' : Heap) (tk : Nat), h'.SetOf (PySem.strKind prog w) s.heap.objs.size (inS zs) (met zs zs.length) → (∀ b o, s.heap.get? b = some o → h'.get? b = some o) → Q (.ref s.heap.objs.size) { s with heap := h', toks := tk }) :
    wpAny (model prog w) A (call (.type "set") [.ref l]) Q E s := by
  have hn : zs.length = items.size := by rw [← StrsAre.len_eq hi, Array.length_toList]
  obtain ⟨c, tl, hmro⟩ := PySem.F.called_set.mro
  have m1 := PySem.F.called_set.made
  have m2 := PySem.F.called_set.sub
  have m3 := PySem.F.called_set.notType
  have m4 := PySem.F.called_set.canCreate
  have m5 := PySem.F.typeCall_set_1 (.ref l)
  refine wpAny_call (codeAny_of_tree (wpAny_pure ⟨Code.quiet_builtin _ (by decide +kernel), codeAny_builtin PySem.F.entry_type_call ?_⟩))
  rw [Around.under_plain (weight_type_call_type "set" [.ref l] []) rfl]
  repeat (any_goals (first | assumption | wp_step))
  refine codeAny_mono (code_set_new_1 (.ref l) (E := E) (Q₁ := fun ob s1 => ∃ b : Bool, ob = .ref s.heap.objs.size ∧ s1 = { s with heap := s.heap.push (oSet b) }) fun b => ⟨b, rfl, rfl⟩) fun r s1 q => ?_
  match r, q with
  | .error e, q => exact q
  | .ok .next, q => exact q.elim
  | .ok .brk, q => exact q.elim
  | .ok .cont, q => exact q.elim
  | .ok (.ret ob), q =>
    obtain ⟨b, rfl, rfl⟩ := q
    have g0 : (s.heap.push (oSet b)).get? s.heap.objs.size = some (oSet b) := Heap.get?_push_size _ rfl
    have t0 : Shared.TypeIs { s with heap := s.heap.push (oSet b) } (.ref s.heap.objs.size) "set" := ⟨_, g0, rfl⟩
    have i1 := PySem.F.called_set.init.lookup
    have i2 := PySem.F.called_set.init.bind (.ref s.heap.objs.size)
    repeat (any_goals (first | assumption | wp_step))
    refine codeAny_mono (codeAny_call_builtin (R := wants (fun r s2 => r = .none ∧ ∃ h' tk, s2 = { s with heap := h', toks := tk } ∧ h'.SetOf (PySem.strKind prog w) s.heap.objs.size (inS zs) (met zs zs.length) ∧ (∀ b o, s.heap.get? b = some o → h'.get? b = some o)) E)
      PySem.F.called_set.init.plain PySem.F.entry_set_init (check_set_init_1 t0 ?_)) fun r2 s2 q2 => ?_
    · have ll : l < s.heap.objs.size := by
        obtain ⟨o, e, _⟩ := hl
        exact Heap.lt_size e
      have hl1 : (s.heap.push (oSet b)).IsList l items := hl.push _
      obtain ⟨⟨oc, od, oo, os⟩, e1, e2, e3, e4⟩ := id hl1
      simp only at e2 e4
      subst e2 e4
      have k1 := PySem.F.sub_list_set
      have k2 := PySem.F.sub_list_frozenset
      have k3 : (Value.type "list" == Value.type "dict") = false := by decide
      unfold Builtin.«set.__init__» noKeywords Builtin.Frozenset.updateFrom
      generalize hp : pyIter = pI
      wp_walk
      subst hp
      refine wpAny_pyIter_list hl1 (wpAny_bind (wpAny_runValue ?_))
      have sz1 : (s.heap.push (oSet b)).objs.size = s.heap.objs.size + 1 := Heap.size_push ..
      have d1 : l ≠ (s.heap.push (oSet b)).objs.size := by rw [sz1]; exact Nat.ne_of_lt (Nat.lt_succ_of_lt ll)
      have d2 : s.heap.objs.size ∉ [(s.heap.push (oSet b)).objs.size, l] := by
        rw [sz1]
        simp only [List.mem_cons, List.not_mem_nil, or_false, not_or]
        exact ⟨Nat.ne_of_lt (Nat.lt_succ_self _), Nat.ne_of_gt ll⟩
      have hv : ∀ (i : Nat) (v : Value), items[i]? = some v → ∃ z t, zs[i]? = some z ∧ v = .str z t := fun i v e => by
        have hlt : i < zs.length := by rw [hn]; exact (Array.getElem?_eq_some_iff.mp e).1
        obtain ⟨t, q⟩ := SS.strs_at hi i v (by rw [Array.getElem?_toList]; exact e)
        refine ⟨zs[i], t, List.getElem?_eq_getElem hlt, ?_⟩
        rw [q, List.getD_eq_getElem?_getD, List.getElem?_eq_getElem hlt]
        rfl
      refine loop_any ((Walks.list (by simp [hh]) _ l d1 items).toS) s.heap.objs.size d2 zs hn (by rw [← hn]; exact hb) hv (items.size - 0) 0 _ (by omega) (Nat.zero_le _) ⟨⟨_, Heap.get?_push_size _ rfl, rfl, rfl⟩, hl1.push _⟩ ?c0 ?cR
      case c0 =>
        have g1 : ((s.heap.push (oSet b)).push { cls := .type "list_iterator", data := .fields #[.ref l, .int 0 0] }).get? s.heap.objs.size = some (oSet b) := Heap.get?_push_of_some _ g0
        exact SetOf_congr ((setObjOf_fresh (knd := PySem.strKind prog w) b).setOf g1 (by unfold scanBound; omega)) (fun _ => by simp [inS]) rfl
      case cR =>
        intro s3 mv q3
        obtain ⟨h3, g3, d3, t3, o3⟩ := s3
        obtain rfl : g3 = s.gens := mv.gens
        obtain rfl : d3 = s.drawn := mv.drawn
        obtain rfl : o3 = s.os := mv.os
        refine wpAny_pure (wpAny_pure ⟨rfl, h3, t3, rfl, by rw [hn]; exact q3, fun c o e => ?_⟩)
        have lc := Heap.lt_size e
        exact mv.heap c o (by
          rw [sz1]
          simp only [List.mem_cons, List.not_mem_nil, or_false, not_or]
          exact ⟨Nat.ne_of_lt lc, Nat.ne_of_lt (Nat.lt_succ_of_lt lc)⟩) (Heap.get?_push_of_some _ (Heap.get?_push_of_some _ e))
    · match r2, q2 with
      | .error e, q2 => exact q2
      | .ok .next, q2 => exact q2.elim
      | .ok .brk, q2 => exact q2.elim
      | .ok .cont, q2 => exact q2.elim
      | .ok (.ret r), q2 =>
        obtain ⟨rfl, h', tk, rfl, q3, q4⟩ := q2
        repeat (any_goals (first | assumption | wp_step))
        exact h _ _ q3 q4
end
def tLenZ (K : PySem.W.Frag) (ta : TE) : TE := fun σ H Q => ta σ H fun x G => ∃ (l : Addr) (zs : List Str), x = .ref l ∧ SqL K G l (zs.map V.str) ∧ zs.length ≤ 4000 ∧ Q (.int (met zs zs.length : Nat)) G
/-- len(set(xs)), xs a list of texts -/
theorem pe_lenZ {X : Cx} {e : Expr} {ta : TE} {p p2 pos pos2 : Pos} (h1 : Gl X "len") (h2 : X.mg "len" = none) (h3 : Gl X "set") (h4 : X.mg "set" = none) (ha : PE X e ta) (hc : X.calm = true := by rfl)
    (na : starEach [e] X.env = (false, eval e X.env) :: starEach [] X.env := by rfl) : PE X (.Call (.Name "len" p) [.Call (.Name "set" p2) [e] [] pos2] [] pos) (tLenZ X.K ta) := by
  refine ⟨fun pins s σ H Q I q => Call_ (ld_blt I h1 h2 boot_len (PyProof.Rows.callWith_builtin1 (PyProof.Rows.args_cons (Call_ (ld_blt I h3 h4 boot_set
    (PyProof.Rows.callWith_type1 (PyProof.Rows.args_cons (thn (ha.run pins s σ H _ I q) fun v t ⟨x, G, J, rx, l, zs, ex, hl, hn, q2⟩ => PyProof.Rows.args_nil ?_) na) na rfl))) rfl) rfl rfl))⟩
  subst ex
  cases rx
  obtain ⟨its, rv, pl, _⟩ := J.list hl
  refine call_any (J.ok.hd hc) pl.isList (by simpa using strsAre_of rv) (by unfold scanBound; omega) fun h' tk sq k => PyProof.Rows.args_nil ?_
  obtain ⟨o, es, ep, tb, ho, g1, g2, _, _, _, g3, g4⟩ := sq
  have J2 : Inv X pins σ G { t with heap := h', toks := tk } := J.kept k
  have ml := met_le zs zs.length
  exact call_len_set ho g1 g2 g3 (by rw [g4]; omega) ⟨.int (met zs zs.length : Nat), G, J2.tok _, ⟨_, by rw [g4]⟩, q2⟩
end Ws

set_option linter.all false
set_option maxRecDepth 100000
set_option maxHeartbeats 4000000
/-! sets of texts: a text added, sorted(set), set(xs) -/
namespace Wt
open PySem PySem.Spec PyProof.Rows L2
def txE (e : Int × Value) : Str := match e.2 with
  | .str k _ => k
  | _ => Str.empty
/-- what is in the set behind k -/
def addL (ms : List Str) (k : Str) : List Str := if k ∈ ms then ms else k :: ms
/-- the set of the texts ms stands at a, and it can be walked -/
def TSet (w : World) (h : Heap) (a : Addr) (ms : List Str) : Prop :=
  ∃ (ob : Obj) (en : Array (Int × Value)) (ec : Nat) (tb : SetTable), (h.get? a = some ob ∧ ob.ExactSet ∧ ob.data = .set en ec tb) ∧ (∀ e ∈ en.toList, ∃ (k : Str) (u : Tok), e = (hashStr w k, Value.str k u)) ∧
    (en.toList.map txE).Perm ms ∧ ms.Nodup ∧ en.size < scanBound ∧ tb.fits en.size = true ∧ Ris tb.place.toList ∧ (w.params.followText "set-order" = true ∨ tb.led = true)
section
variable {P : Program} {w : World} {h h' : Heap} {a : Addr} {ms : List Str}
theorem TSet.at (R : TSet w h a ms) (k : ∀ o, h.get? a = some o → h'.get? a = some o) : TSet w h' a ms := by
  obtain ⟨ob, en, ec, tb, ⟨e0, r0⟩, r⟩ := R
  exact ⟨ob, en, ec, tb, ⟨k ob e0, r0⟩, r⟩
theorem is_tx (k : Str) (u : Tok) : (strKind P w).is k (.str k u) = true := by
  show Value.isStrOf k (.str k u) = true
  unfold Value.isStrOf
  simp
theorem is_tx_iff {k j : Str} {u : Tok} : (strKind P w).is k (.str j u) = true ↔ j = k := by
  constructor
  · intro z
    exact (strKind P w).inj _ _ _ (is_tx j u) z
  · rintro rfl
    exact is_tx j u
theorem elems_tx {l : List (Int × Value)} (g : ∀ e ∈ l, ∃ (k : Str) (u : Tok), e = (hashStr w k, Value.str k u)) : ElemsOf (strKind P w) l := fun e he => by
  obtain ⟨k, u, rfl⟩ := g e he
  exact ⟨⟨k, is_tx k u, rfl⟩, rfl⟩
theorem mem_tx {l : List (Int × Value)} (g : ∀ e ∈ l, ∃ (k : Str) (u : Tok), e = (hashStr w k, Value.str k u)) (k : Str) : k ∈ l.map txE ↔ ∃ e ∈ l, (strKind P w).is k e.2 = true := by
  rw [List.mem_map]
  refine exists_congr fun e => and_congr_right fun he => ?_
  obtain ⟨j, u, rfl⟩ := g e he
  exact (is_tx_iff (P := P) (w := w) (k := k) (j := j) (u := u)).symm
theorem TSet.setOf (R : TSet w h a ms) : h.SetOf (strKind P w) a (fun k => decide (k ∈ ms)) ms.length := by
  obtain ⟨ob, en, ec, tb, ⟨e0, ex, ed⟩, g, pm, nu, bd, ft, _, _⟩ := R
  refine ⟨ob, en, ec, tb, e0, ex, ed, elems_tx g, fun k => ?_, bd, ft, ?_⟩
  · rw [decide_eq_true_eq, ← pm.mem_iff]
    exact mem_tx g k
  · rw [← pm.length_eq, List.length_map, Array.length_toList]
end
section
variable {P : Program} {w : World} {A : Around} {E : Value → Shared → Prop} {s : Shared} {a : Addr} {ms : List Str}
theorem stored {h : Heap} {ob : Obj} {en en' : Array (Int × Value)} {ec : Nat} {tb tb' : SetTable} (e0 : h.get? a = some ob) (ed : ob.data = .set en ec tb) : (h.update a (Obj.putSet en' tb')).get? a = some { ob with data := .set en' (ec + 1) tb' } := by
  rw [Heap.get?_update_self (Obj.putSet en' tb') e0 (by rw [putSet_of en' tb' ed]; rfl), putSet_of en' tb' ed]
/-- the new rows are stored, and laid anew where the table is too full -/
theorem tail_tx {gv : Bool → Sem Unit} (hgv : ∀ (b : Bool) (t1 : Shared) (Q1 : Unit → Shared → Prop), Q1 () t1 → wpAny (model P w) A (gv b) Q1 E t1) {ob : Obj} {en en1 : Array (Int × Value)} {ec : Nat} {tb tb1 : SetTable} (e0 : s.heap.get? a = some ob) (ex : ob.ExactSet) (ed : ob.data = .set en ec tb)
    (g : ∀ e ∈ en1.toList, ∃ (k : Str) (u : Tok), e = (hashStr w k, Value.str k u)) (pm : (en1.toList.map txE).Perm ms) (nu : ms.Nodup) (bd : en1.size < scanBound) (ft : tb1.fits en1.size = true) (ri : Ris tb1.place.toList) (ld : w.params.followText "set-order" = true ∨ tb1.led = true) {dm : Bool} {R : Option Bool → Shared → Prop}
    (hR : ∀ h', Heap.SameBut a s.heap h' → TSet w h' a ms → R (some true) { s with heap := h' }) :
    wpAny (model P w) A (do
        storeSet a en1 tb1
        if (!dm && tb1.tooFull) = true then do
            gv (relayAll tb1 en1 (SetTable.grown en1.size)).2.2
            storeSet a (relayAll tb1 en1 (SetTable.grown en1.size)).1 (relayAll tb1 en1 (SetTable.grown en1.size)).2.1
            pure (some true)
          else pure (some true)) R E s := by
  refine wpAny_bind (wpAny_storeSet_of e0 ed ?_ (fits_of_scanBound bd))
  have e1 := stored (en' := en1) (tb' := tb1) e0 ed
  have b1 := Heap.SameBut.update s.heap a (Obj.putSet en1 tb1)
  split
  · have q1 := relayAll_perm tb1 en1 (SetTable.grown en1.size)
    have q2 := relayAll_fits tb1 en1 (SetTable.grown en1.size)
    have q3 := relayAll_ris tb1 en1 (SetTable.grown en1.size)
    have q4 := relayAll_led tb1 en1 (SetTable.grown en1.size)
    generalize relayAll tb1 en1 (SetTable.grown en1.size) = Z at q1 q2 q3 q4 ⊢
    obtain ⟨en2, tb2, gave⟩ := Z
    dsimp only at q1 q2 q3 q4 ⊢
    have sz : en2.size = en1.size := by rw [← Array.length_toList, q1.length_eq, Array.length_toList]
    have bd2 : en2.size < scanBound := sz ▸ bd
    refine wpAny_bind (hgv _ _ _ (wpAny_bind (wpAny_storeSet_of e1 rfl ?_ (fits_of_scanBound bd2))))
    exact wpAny_pure (hR _ (b1.trans (Heap.SameBut.update _ a _)) ⟨_, en2, _, tb2, ⟨stored (en' := en2) (tb' := tb2) e1 rfl, ex, rfl⟩, fun e he => g e (q1.mem_iff.mp he), (q1.map txE).trans pm, nu, bd2, q2, q3, ld.imp id fun z => q4.trans z⟩)
  · exact wpAny_pure (hR _ b1 ⟨_, en1, _, tb1, ⟨e1, ex, rfl⟩, g, pm, nu, bd, ft, ri, ld⟩)
theorem add_tx {k : Str} {u : Tok} {Q : Bool → Shared → Prop} (R : TSet w s.heap a ms) (room : ms.length + 1 < scanBound) (hQ : ∀ h', Heap.SameBut a s.heap h' → TSet w h' a (addL ms k) → Q (!decide (k ∈ ms)) { s with heap := h' }) :
    wpAny (model P w) A (setAddHashed a (.str k u) ((strKind P w).hash k)) Q E s := by
  have R0 := R
  obtain ⟨ob, en, ec, tb, ⟨e0, ex, ed⟩, g, pm, nu, bd, ft, ri, ld⟩ := R
  have hk : (strKind P w).is k (.str k u) = true := is_tx k u
  have el : ElemsOf (strKind P w) en.toList := elems_tx g
  have scn : (Value.str k u).scannable = true := rfl
  unfold setAddHashed
  unfold setAddHashedIn
  refine wpAny_holding (wpAny_bind (wpAny_setState_of e0 ed ft ?_))
  dsimp only
  rw [byScan_of scn bd el]
  simp only [↓reduceIte]
  unfold setAddByScan
  refine wpAny_bind ?_
  refine wpAny_bind (wpAny_rule ?_)
  refine wpAny_bind (wpAny_setScan_of hk e0 ed ft el ?_)
  cases hfi : List.findIdx? (fun e => (strKind P w).is k e.2) en.toList with
  | none =>
    dsimp only
    have nk : k ∉ ms := fun z => by
      obtain ⟨e, he, q⟩ := (mem_tx (P := P) g k).mp (pm.mem_iff.mpr z)
      have := List.findIdx?_eq_none_iff.mp hfi e he
      rw [q] at this
      cases this
    have eL : addL ms k = k :: ms := if_neg nk
    have q1 := layNew_perm tb en ((strKind P w).hash k) (.str k u)
    have q2 := layNew_fits tb en ((strKind P w).hash k) (.str k u)
    have q3 := layNew_ris tb en ((strKind P w).hash k) (.str k u) ri
    have q4 := layNew_led tb en ((strKind P w).hash k) (.str k u)
    generalize layNew tb en ((strKind P w).hash k) (.str k u) = Z at q1 q2 q3 q4 ⊢
    obtain ⟨en1, tb1, dm, gave⟩ := Z
    dsimp only at q1 q2 q3 q4 ⊢
    rw [Array.toList_push] at q1
    have pc : en1.toList.Perm ((hashStr w k, Value.str k u) :: en.toList) := q1.trans (List.perm_append_singleton _ _)
    have g1 : ∀ e ∈ en1.toList, ∃ (k : Str) (u : Tok), e = (hashStr w k, Value.str k u) := fun e he => (List.mem_cons.mp (pc.mem_iff.mp he)).elim (fun z => ⟨k, u, z⟩) (g e)
    have pm1 : (en1.toList.map txE).Perm (addL ms k) := by
      rw [eL]
      exact (pc.map txE).trans (List.Perm.cons k pm)
    have nu1 : (addL ms k).Nodup := by
      rw [eL]
      exact List.nodup_cons.mpr ⟨nk, nu⟩
    have sz : en1.size = ms.length + 1 := by
      rw [← Array.length_toList, pc.length_eq, List.length_cons, ← pm.length_eq, List.length_map]
    have bd1 : en1.size < scanBound := sz ▸ room
    have ld1 : w.params.followText "set-order" = true ∨ tb1.led = true := ld.imp id fun z => q4.trans z
    have fin : ∀ h', Heap.SameBut a s.heap h' → TSet w h' a (addL ms k) → Q true { s with heap := h' } := fun h' sb r => by
      have := hQ h' sb r
      rw [decide_eq_false nk] at this
      exact this
    have hgw : ∀ (b : Bool) (t1 : Shared) (Q1 : Unit → Shared → Prop), Q1 () t1 → wpAny (model P w) A (match b with | true => rule "set.scan.the-table-gave-way" | false => pure ()) Q1 E t1 := fun b t1 Q1 q => by
      cases b
      · exact wpAny_pure q
      · exact wpAny_rule q
    refine wpAny_bind (hgw _ _ _ ?_)
    split
    · refine wpAny_bind ?_
      rw [hashByValue_scannable 8 scn]
      refine wpAny_pure (tail_tx hgw e0 ex ed g1 pm1 nu1 bd1 ?_ ?_ ?_ fun h' sb r => wpAny_pure (fin h' sb r))
      · split
        · exact q2
        · exact SetTable.fits_plain_off q2
      · split <;> exact q3
      · split <;> exact ld1
    · refine wpAny_bind (wpAny_pure ?_)
      simp only [↓reduceIte]
      exact tail_tx hgw e0 ex ed g1 pm1 nu1 bd1 q2 q3 ld1 fun h' sb r => wpAny_pure (fin h' sb r)
  | some j =>
    dsimp only
    obtain ⟨hj, pj, _⟩ := List.findIdx?_eq_some_iff_getElem.mp hfi
    have hm : k ∈ ms := pm.mem_iff.mp ((mem_tx (P := P) g k).mpr ⟨en.toList[j], List.getElem_mem hj, pj⟩)
    refine wpAny_pure (wpAny_pure ?_)
    have q := hQ s.heap (Heap.SameBut.refl a s.heap) (by unfold addL; rw [if_pos hm]; exact R0)
    rw [decide_eq_true hm] at q
    exact q
/-- found.add(k) -/
theorem call_add_tx {k : Str} {u : Tok} {Q : Value → Shared → Prop} (R : TSet w s.heap a ms) (room : ms.length + 1 < scanBound) (hQ : ∀ h', Heap.SameBut a s.heap h' → TSet w h' a (addL ms k) → Q .none { s with heap := h', toks := s.toks + 1 }) :
    wpAny (model P w) A (call (.builtin "set.add") [.ref a, .str k u]) Q E s := by
  have hS : s.heap.SetOf (strKind P w) a (fun k => decide (k ∈ ms)) ms.length := R.setOf
  refine wpAny_call_entry F.slot_set_add hS.typeIs F.entry_set_add ?_ (F.args_set_add_2 _ _)
  unfold Builtin.«set.add»
  unfold Builtin.Frozenset.oneOther
  simp only [List.isEmpty_nil, bind_assoc]
  unfold Builtin.Frozenset.addrOf
  unfold setAdd
  refine wpAny_bind (wpAny_pure ?_)
  try dsimp only
  refine wpAny_bind (wpAny_pure ?_)
  try dsimp only
  refine wpAny_bind (wpAny_holding (wpAny_bind ((strKind P w).pyHash (is_tx k u) ?_)))
  refine add_tx (s := { s with toks := s.toks + 1 }) R room fun h' sb r => ?_
  show wpAny _ _ (ret Value.none) _ _ _
  exact wpAny_pure ⟨_, rfl, hQ h' sb r⟩
theorem fresh_tx {h : Heap} (w : World) : TSet w (h.push { cls := .type "set", dict := none, data := .set #[] 0 (.fresh 0 0 (!w.params.followText "set-order")) }) h.objs.size [] :=
  ⟨_, #[], 0, _, ⟨Heap.get?_push_size _ rfl, ⟨rfl, rfl, rfl⟩, rfl⟩, (fun e he => by simp at he), .nil, List.nodup_nil, (by decide), (by rfl), List.Pairwise.nil, by
    show _ ∨ (!w.params.followText "set-order") = true
    cases w.params.followText "set-order" <;> simp⟩
theorem strs_tx : ∀ (l : List (Int × Value)), (∀ e ∈ l, ∃ (k : Str) (u : Tok), e = (hashStr w k, Value.str k u)) → StrsAre (l.map (·.2)) (l.map txE)
  | [], _ => .nil
  | e :: l, g => by
    obtain ⟨k, u, rfl⟩ := g e List.mem_cons_self
    exact .cons k u (strs_tx l fun x hx => g x (List.mem_cons_of_mem _ hx))
theorem strs_perm {l l' : List Value} {xs : List Str} (h : StrsAre l xs) (p : l'.Perm l) : ∃ ys, StrsAre l' ys ∧ ys.Perm xs := by
  induction p generalizing xs with
  | nil => exact ⟨xs, h, .refl _⟩
  | cons x _ ih =>
    cases h with
    | cons k u h =>
      obtain ⟨ys, h1, h2⟩ := ih h
      exact ⟨k :: ys, .cons k u h1, .cons k h2⟩
  | swap x y l =>
    cases h with
    | cons k u h =>
      cases h with
      | cons k2 u2 h => exact ⟨k2 :: k :: _, .cons k2 u2 (.cons k u h), .swap _ _ _⟩
  | trans _ _ ih1 ih2 =>
    obtain ⟨ys, h1, h2⟩ := ih2 h
    obtain ⟨zs, h3, h4⟩ := ih1 h1
    exact ⟨zs, h3, h4.trans h2⟩
/-- sorted(set), fewer than 64 texts -/
theorem sorted_tx {Q : Value → Shared → Prop} (R : TSet w s.heap a ms) (hh : A.handled = none) (h64 : ms.length < 64)
    (hQ : ∀ (s' : Shared) (p : Addr) (out : Array Value) (c : Nat) (ys : List Str), (∀ b o, s.heap.get? b = some o → s'.heap.get? b = some o) → s'.gens = s.gens → s'.os = s.os → s.heap.objs.size ≤ p → s'.heap.get? p = some (seqObj "list" out c) → StrsAre out.toList ys → ys.Perm ms → sortedS ys = true → Q (.ref p) s') :
    wpAny (model P w) A (call (.builtin "sorted") [.ref a]) Q E s := by
  obtain ⟨ob, en, ec, tb, ⟨e0, ex, ed⟩, g, pm, nu, bd, ft, ri, ld⟩ := R
  refine Calls.call_function_entry kind_sorted plain_sorted entry_sorted (args_sorted1 _) ?_
  unfold Builtin.«sorted»
  refine wpAny_bind (m := checkCount "sorted" 1 1 _) (wpAny_pure (wpAny_bind (collect_set (A := A.in1) hh ⟨ob, e0, ex.1, ed⟩ ft bd ri ld fun s1 vs k1 z1 g1 o1 pv => ?_)))
  obtain ⟨xs, hx, px⟩ := strs_perm (strs_tx _ g) pv
  have pms : xs.Perm ms := px.trans pm
  have lv : vs.length < 64 := by
    have h1 := hx.length
    have h2 := pms.length_eq
    omega
  refine wpAny_bind (wpAny_newList ?_ (by rw [sizeLine_eq]; omega))
  have hL : (s1.heap.push (seqObj "list" vs.toArray 0)).get? s1.heap.objs.size = some (seqObj "list" vs.toArray 0) := Heap.get?_push_size _ rfl
  refine wpAny_bind (wpAny_holding (wpAny_call_entry slot_list_sort ⟨_, hL, rfl⟩ entry_list_sort
    (list_sort_treeK strKind_oneLt hL hx.keysOf (fun v1 v2 rest e => keyKind_strs (by rw [← e]; exact hx)) lv fun st' hp hs => ⟨_, rfl, ?_⟩) (args_list_sort _)))
  obtain ⟨ys, y1, y2, y3⟩ := sorted_out_str hx hp hs
  obtain ⟨c, hc⟩ := sortedHeap_at (vs := vs) (out := (arrOf st').map (·.2)) hL
  refine wpAny_pure ⟨_, rfl, hQ _ s1.heap.objs.size ((arrOf st').map (·.2)) c ys (fun b o e => ?_) g1 o1 z1 hc y1 (y2.trans pms) y3⟩
  have q := k1 b o e
  have lt := Heap.lt_size q
  show (sortedHeap (s1.heap.push (seqObj "list" vs.toArray 0)) s1.heap.objs.size vs _).get? b = some o
  rw [sortedHeap_old (Nat.ne_of_lt lt) (by rw [size_push']; exact Nat.lt_succ_of_lt lt)]
  exact Heap.get?_push_of_some _ q
end
end Wt

set_option linter.all false
set_option maxRecDepth 100000
set_option maxHeartbeats 4000000
/-! comprehensions that make sets of texts: one clause's loop with any inside, one clause, two clauses -/
namespace Wc
open PySem PySem.Spec PyProof.Rows L2
/-- the set of the texts ms, as a tracked thing -/
def SetT (w : World) (a : Addr) (ms : List Str) : HO := .ext fun h => Wt.TSet w h a ms
theorem setT_new {w : World} {P : Program} {H : Hp} {h : Heap} {a : Addr} {ms : List Str} (R : Wt.TSet w h a ms) : ObjOk P w H h a (SetT w a ms) := by
  have ⟨ob, _, _, _, ⟨e0, _⟩, _⟩ := R
  exact ⟨R, ⟨ob, e0⟩, fun _ _ p k => p.at k⟩
section
variable {c tg iter : Expr} {k : Nat} {ifs : List Expr}
/-- one turn of a clause, with what it does behind its tests and ahead of the next turn -/
def turnIs (c : Expr) (k : Nat) (tg iter : Expr) (ifs : List Expr) (it acc : Value) (env : Env) (inside : Sem Fin → Sem Fin) : Sem Fin := do
  standAt iter.pos
  match ← pyNext it with
  | none => pure (.done .next)
  | some v =>
    letOwnedTupleGo tg it v
    assign tg env v
    let mut fit := true
    for t in ifs do
      if fit then fit ← isTrue t env (eval t env)
    if fit then
      inside (again (.compLoop c k it acc env))
    else
      again (.compLoop c k it acc env)
def addIs (elt : Expr) (acc : Value) (env : Env) (more : Sem Fin) : Sem Fin := do
  (do let y ← eval elt env; standAt elt.pos; let _ ← call (.builtin "set.add") [acc, y])
  more
def nextIs (c : Expr) (k : Nat) (iter : Expr) (acc : Value) (env : Env) (more : Sem Fin) : Sem Fin := do
  let y ← eval iter env
  standAt iter.pos
  let y ← foldedSetIterable iter env y
  let _ ← runOwn (.compStart c k (← holding [y] (pyIter y)) acc env) env
  more
theorem turn_one (elt t0 i0 : Expr) (ifs0 : List Expr) (scope : Scope) (pos : Pos) (it acc : Value) (env : Env) :
    compTurn (.SetComp elt [⟨t0, i0, ifs0, 0⟩] scope pos) 0 it acc env = turnIs (.SetComp elt [⟨t0, i0, ifs0, 0⟩] scope pos) 0 t0 i0 ifs0 it acc env (addIs elt acc env) := by rfl
theorem turn_fst (elt t0 i0 t1 i1 : Expr) (ifs0 ifs1 : List Expr) (scope : Scope) (pos : Pos) (it acc : Value) (env : Env) :
    compTurn (.SetComp elt [⟨t0, i0, ifs0, 0⟩, ⟨t1, i1, ifs1, 0⟩] scope pos) 0 it acc env = turnIs (.SetComp elt [⟨t0, i0, ifs0, 0⟩, ⟨t1, i1, ifs1, 0⟩] scope pos) 0 t0 i0 ifs0 it acc env (nextIs (.SetComp elt [⟨t0, i0, ifs0, 0⟩, ⟨t1, i1, ifs1, 0⟩] scope pos) 1 i1 acc env) := by rfl
theorem turn_snd (elt t0 i0 t1 i1 : Expr) (ifs0 ifs1 : List Expr) (scope : Scope) (pos : Pos) (it acc : Value) (env : Env) :
    compTurn (.SetComp elt [⟨t0, i0, ifs0, 0⟩, ⟨t1, i1, ifs1, 0⟩] scope pos) 1 it acc env = turnIs (.SetComp elt [⟨t0, i0, ifs0, 0⟩, ⟨t1, i1, ifs1, 0⟩] scope pos) 1 t1 i1 ifs1 it acc env (addIs elt acc env) := by rfl
end
/-- what is inside a clause: from slots and heap to the heap behind it; slots of vs may be lost -/
def Ins (Y : Cx) (vs : List Nat) (m : Sem Fin → Sem Fin) (tb : L2.St → Hp → (Hp → Prop) → Prop) : Prop :=
  ∀ (p : List (Addr × Obj)) (σ : L2.St) (H : Hp) (s : Shared) (Z : Hp → Prop) (more : Sem Fin) (Q : Fin → Shared → Prop) (E : Value → Shared → Prop), Inv Y p σ H s → tb σ H Z →
    (∀ (σ' : L2.St) (H' : Hp) (s' : Shared), Inv Y p σ' H' s' → σ.length = σ'.length → (∀ (j : Nat) v, (wipe σ vs)[j]? = some (some v) → σ'[j]? = some (some v)) → Z H' → wpAny (model Y.prog Y.w) Y.A more Q E s') →
    wpAny (model Y.prog Y.w) Y.A (m more) Q E s
/-- a clause's turns -/
def Trn (J : It) (g : TG) (tt : TT) (tb : L2.St → Hp → (Hp → Prop) → Prop) (vs : List Nat) (σ : L2.St) (W : Nat → Nat → Hp → Prop) (Qd : Hp → Prop) : Prop := ∀ i m H, W i m H →
  (J.stop i H ∧ Qd H) ∨ (J.go i H ∧ ∃ Nx : Hp → Prop, (∀ H', Nx H' → ∃ m', m' < m ∧ W (i + 1) m' H') ∧ ∀ x H', J.yld i H x H' → g x (wipe σ vs) H' fun σ2 H2 => wipe σ2 vs = wipe σ vs ∧ tt σ2 H2 fun b H3 => if b = true then tb σ2 H3 Nx else Nx H3)
section
variable {Y : Cx} {c tg iter : Expr} {k : Nat} {ifs : List Expr} {it : Addr} {acc : Value} {body : Sem Fin → Sem Fin} {fp : List Addr} {tn : Nat → Heap → Prop} {J : It} {g : TG} {tt : TT} {vs : List Nat} {p : List (Addr × Obj)} {σ : L2.St} {R : Result → Shared → Prop} {Qd : Hp → Prop} {tb : L2.St → Hp → (Hp → Prop) → Prop} {W : Nat → Nat → Hp → Prop}
theorem clause_loop (hc : Y.calm = true) (hT : compTurn c k (.ref it) acc Y.env = turnIs c k tg iter ifs (.ref it) acc Y.env body) (T : Turn Y.prog Y.w Y.K tg J fp it tn) (pg : PG Y tg g) (pt : PTs Y ifs tt)
    (hU : Y.A.under (.compLoop c k (.ref it) acc Y.env) = Y.A) (hD : (model Y.prog Y.w).den (.compLoop c k (.ref it) acc Y.env) = (compTurn c k (.ref it) acc Y.env).onRaise (fun x => do noteFrame x Y.env; theTreesLotGoes x)) (hx : Y.xe = fun _ _ => False)
    (hf : ∀ (σ' : L2.St) H' s', Inv Y p σ' H' s' → (∀ b ∈ fp, H' b = none) → ∀ b ∈ fp, FpOk Y p H' b) (hb : Ins Y vs body tb) (turn : Trn J g tt tb vs σ W Qd)
    (fin : ∀ s' H', Inv Y p (wipe σ vs) H' s' → Qd H' → R (.ok .next) s') {m0 : Nat} {H0 : Hp} {s0 : Shared} (I0 : Inv Y p (wipe σ vs) H0 s0) (st0 : tn 0 s0.heap) (n0 : ∀ b ∈ fp, H0 b = none) (w0 : W 0 m0 H0) :
    codeAny (model Y.prog Y.w) Y.A (.compLoop c k (.ref it) acc Y.env) R s0 := by
  refine codeAny_loop rfl (fun n s' => ∃ i H', Inv Y p (wipe σ vs) H' s' ∧ tn i s'.heap ∧ (∀ b ∈ fp, H' b = none) ∧ W i n H') (fun n s1 hI => ?_) m0 ⟨0, H0, I0, st0, n0, w0⟩
  obtain ⟨i, H1, I1, st1, n1, w1⟩ := hI
  rw [hU, hD]
  refine wpAny_noted ?_
  rw [hT]
  unfold turnIs
  refine wpAny_bind (wpAny_standAt (wpAny_bind ?_))
  rcases turn i n H1 w1 with ⟨stop, qd⟩ | ⟨go, Nx, nx, step⟩
  · refine thnF (T.done Y rfl rfl rfl hc i p s1 (wipe σ vs) H1 (fun _ _ => False) I1 (hf _ _ _ I1 n1) st1 stop) fun r s2 ⟨e, I2⟩ => ?_
    subst e
    exact wpAny_pure (fin s2 H1 I2 qd)
  · refine thnF (T.item Y rfl rfl rfl hc i p s1 (wipe σ vs) H1 (fun _ _ => False) I1 (hf _ _ _ I1 n1) st1 go) fun r s2 ⟨u, e, h2⟩ => ?_
    subst e
    refine wpAny_bind (thnF h2 fun _ s3 ⟨x, H3, I3, r3, y3, st3, n3⟩ => ?_)
    have Ip := I3.pinned (hf _ _ _ I3 n3) (T.obj _ _ st3)
    have g3 := pg.run _ s3 _ H3 x u _ Ip r3 (step x H3 y3)
    rw [hx] at g3
    refine wpAny_bind (thnF g3 fun _ s4 ⟨σ4, H4, I4, e4, q4⟩ => ?_)
    have t4 := pt.run _ s4 σ4 H4 _ I4 q4
    rw [hx] at t4
    refine wpAny_bind (thnF t4 fun b s5 ⟨H5, I5, q5⟩ => ?_)
    have back : ∀ {σ6 : L2.St} {H6 : Hp} {s6 : Shared}, Inv Y (p ++ pinsAt fp s3.heap) σ6 H6 s6 → σ4.length = σ6.length → (∀ (j : Nat) v, (wipe σ4 vs)[j]? = some (some v) → σ6[j]? = some (some v)) → Nx H6 →
        ∃ m, m < n ∧ ∃ i H', Inv Y p (wipe σ vs) H' s6 ∧ tn i s6.heap ∧ (∀ b ∈ fp, H' b = none) ∧ W i m H' := fun {σ6 H6 s6} I6 l6 k6 z6 => by
      obtain ⟨m', lt, w6⟩ := nx H6 z6
      have held : ∀ b ∈ fp, ∀ o, s3.heap.get? b = some o → s6.heap.get? b = some o ∧ H6 b = none := fun b hb o e =>
        have z := I6.pin (b, o) (List.mem_append_right _ (List.mem_append_right _ (mem_pinsAt hb e)))
        ⟨z.1, z.2.1⟩
      refine ⟨m', lt, i + 1, H6, I6.unpinned.weak ?_ ?_, T.keep _ _ _ st3 fun b hb o e => (held b hb o e).1, fun b hb => ?_, w6⟩
      · rw [← e4, wipe_length]; exact l6
      · rw [← e4]; exact k6
      · obtain ⟨o, e, _⟩ := T.obj _ _ st3 b hb
        exact (held b hb o e).2
    cases b with
    | false => exact wpAny_pure ⟨rfl, back I5 rfl (fun j v e => (wipe_some e).1) q5⟩
    | true =>
      exact hb _ σ4 H5 s5 Nx _ _ _ I5 q5 fun σ6 H6 s6 I6 l6 k6 z6 => wpAny_pure ⟨rfl, back I6 l6 k6 z6⟩
end
/-- the element is put into the set at D -/
def tAdd (w : World) (D : Addr) (te : TE) : L2.St → Hp → (Hp → Prop) → Prop := fun σ H Z => te σ H fun y H' => ∃ (x : Str) (ms : List Str), y = .str x ∧ H' D = some (SetT w D ms) ∧ ms.length + 1 < scanBound ∧ Z (upd H' D (SetT w D (Wt.addL ms x)))
theorem ins_add {Y : Cx} {vs : List Nat} {elt : Expr} {D : Addr} {te : TE} (he : PE Y elt te) (hx : Y.xe = fun _ _ => False) : Ins Y vs (addIs elt (.ref D) Y.env) (tAdd Y.w D te) := by
  intro p σ H s Z more Q E I h next
  unfold addIs
  have g := he.run p s σ H _ I h
  rw [hx] at g
  refine wpAny_bind (wpAny_bind (thnF g fun u s1 ⟨y, H1, I1, r1, x, ms, ey, hD, room, z⟩ => ?_))
  subst ey
  obtain ⟨t, rfl⟩ := r1
  refine wpAny_bind (wpAny_standAt (wpAny_bind ?_))
  have R : Wt.TSet Y.w s1.heap D ms := (I1.hok D _ hD).1
  refine Wt.call_add_tx R room fun h' sb R' => wpAny_pure ?_
  have there : ∃ o, h'.get? D = some o := by
    have ⟨ob, _, _, _, ⟨e0, _⟩, _⟩ := R'
    exact ⟨ob, e0⟩
  exact next σ _ _ (I1.write (e := D) (t' := s1.toks + 1) (by rw [hD]; trivial) (.inl rfl) (fun b o hb e => (sb.2 b hb).trans e) there (setT_new R')) rfl (fun j v e => (wipe_some e).1) z
/-- a second clause -/
def tNext (wi : TI) (g : TG) (tt : TT) (tb : L2.St → Hp → (Hp → Prop) → Prop) (vs1 : List Nat) : L2.St → Hp → (Hp → Prop) → Prop := fun σ H Z => wi σ H fun J H1 => ∃ W : Nat → Nat → Hp → Prop, (∃ m, W 0 m H1) ∧ Trn J g tt tb vs1 σ W Z
theorem ins_next {Y : Cx} {vs vs1 : List Nat} {elt t0 i0 tg iter : Expr} {ifs0 ifs : List Expr} {scope : Scope} {pos : Pos} {acc : Value} {wi : TI} {g : TG} {tt : TT} {tb : L2.St → Hp → (Hp → Prop) → Prop} (hc : Y.calm = true) (hx : Y.xe = fun _ _ => False)
    (hv : ∀ i ∈ vs1, i ∈ vs) (hi : PI Y tg iter wi) (pg : PG Y tg g) (pt : PTs Y ifs tt) (hb : Ins Y vs1 (addIs elt acc Y.env) tb) (hs : ∀ x, foldedSetIterable iter Y.env x = pure x) :
    Ins Y vs (nextIs (.SetComp elt [⟨t0, i0, ifs0, 0⟩, ⟨tg, iter, ifs, 0⟩] scope pos) 1 iter acc Y.env) (tNext wi g tt tb vs1) := by
  intro p σ H s Z more Q E I h next
  unfold nextIs
  have g1 := hi.run p s σ H _ I h
  rw [hx] at g1
  refine wpAny_bind (thnF g1 fun x s1 h1 => wpAny_bind (wpAny_standAt (wpAny_bind (wpAny_of_eq (hs x) (wpAny_bind (wpAny_holding (thnF h1 fun itv s2 h2 => ?_)))))))
  obtain ⟨it, fp, tn, J, H2, e, I2, T, st2, f2, W, ⟨m1, w0⟩, turn⟩ := h2
  subst e
  refine wpAny_bind (wpAny_runOwn ?_)
  rw [Around.mark_none]
  have lp : codeAny (model Y.prog Y.w) Y.A (.compLoop (.SetComp elt [⟨t0, i0, ifs0, 0⟩, ⟨tg, iter, ifs, 0⟩] scope pos) 1 (.ref it) acc Y.env)
      (fun r s' => match r with
        | .ok f => wpAny (model Y.prog Y.w) Y.A more Q E s'
        | .error _ => False) s2 := by
    refine clause_loop hc (turn_snd _ _ _ _ _ _ _ _ _ _ _ _) T pg pt rfl rfl hx (fun σ' H' s' _ hn b hb => ⟨hn b hb, (f2 b hb).2⟩) hb turn ?_ (I2.weak (wipe_length _ _) fun j v e => (wipe_some e).1) st2 (fun b hb => (f2 b hb).1) w0
    intro s3 H3 I3 z
    exact next _ H3 s3 I3 (wipe_length σ vs1).symm (fun j v e => by
      obtain ⟨e1, e2⟩ := wipe_some e
      rw [wipe_out fun z => e2 (hv j z)]
      exact e1) z
  have st : codeAny (model Y.prog Y.w) Y.A (.compStart (.SetComp elt [⟨t0, i0, ifs0, 0⟩, ⟨tg, iter, ifs, 0⟩] scope pos) 1 (.ref it) acc Y.env)
      (fun r s' => match r with
        | .ok f => wpAny (model Y.prog Y.w) Y.A more Q E s'
        | .error _ => False) s2 := by
    refine codeAny_of_tree ?_
    show wpAny _ _ ((compStart (.SetComp elt [⟨t0, i0, ifs0, 0⟩, ⟨tg, iter, ifs, 0⟩] scope pos) 1 (.ref it) acc Y.env).onRaise (fun x => do noteFrame x Y.env; standAt theWindowsPlace)) _ _ s2
    refine wpAny_notedAt ?_
    unfold compStart
    show wpAny _ _ (ask >>= _) _ _ s2
    refine wpAny_bind (wpAny_askSetting (wpAny_ite ?_))
    have lq := T.self Y.A 0 s2 (fun it' s' => codeAny (model Y.prog Y.w) Y.A (.compLoop (.SetComp elt [⟨t0, i0, ifs0, 0⟩, ⟨tg, iter, ifs, 0⟩] scope pos) 1 it' acc Y.env) (fun r s' => match r with | .ok f => wpAny (model Y.prog Y.w) Y.A more Q E s' | .error _ => False) s') (fun _ _ => False) st2 lp
    split
    · first
        | exact wpAny_bind (wpAny_pure (wpAny_pure ⟨rfl, lp⟩))
        | exact wpAny_pure ⟨rfl, lp⟩
    · refine wpAny_bind (wpAny_rule ?_)
      show wpAny _ _ (standAt iter.pos >>= _) _ _ s2
      exact wpAny_bind (wpAny_standAt (wpAny_bind (thnF lq fun it' s' h' => wpAny_pure ⟨rfl, h'⟩)))
  refine codeAny_mono st fun r s' hr => ?_
  cases r with
  | ok f => exact hr
  | error e => exact hr.elim
/-- the whole: the first clause's turns, with any inside -/
def tAll (w : World) (wi : TI) (g : TG) (tt : TT) (tb : Addr → L2.St → Hp → (Hp → Prop) → Prop) (vs : List Nat) : TE := fun σ H Q => wi σ H fun J H1 => ∀ D, H1 D = none → ∃ W : Nat → Nat → Hp → Prop, (∃ m, W 0 m (upd H1 D (SetT w D []))) ∧ Trn J g tt (tb D) vs σ W (Q (.ref D))
theorem pe_all {X : Cx} {elt tg iter : Expr} {ifs : List Expr} {rest : List Comprehension} {scope : Scope} {own : List (Str × Nat)} {pos : Pos} {wi : TI} {g : TG} {tt : TT} {tb : Addr → L2.St → Hp → (Hp → Prop) → Prop} {inside : Value → Env → Sem Fin → Sem Fin} (hc : X.calm = true) (hN : X.N.Nodup) (hi : PI X tg iter wi) (ok : BlkOk X.N X.env.scope scope own)
    (hT : ∀ it acc env, compTurn (.SetComp elt (⟨tg, iter, ifs, 0⟩ :: rest) scope pos) 0 it acc env = turnIs (.SetComp elt (⟨tg, iter, ifs, 0⟩ :: rest) scope pos) 0 tg iter ifs it acc env (inside acc env))
    (hg : ∀ (s : Shared) (H : Hp) (C : Addr) (cl : List (Str × Addr)) (fp : List Addr), PG (X.blk s H scope (compEnvC scope cl C X.env) fp) tg g ∧ PTs (X.blk s H scope (compEnvC scope cl C X.env) fp) ifs tt ∧ ∀ D, Ins (X.blk s H scope (compEnvC scope cl C X.env) fp) (own.map (·.2)) (inside (.ref D) (compEnvC scope cl C X.env)) (tb D))
    (hs : ∀ x, foldedSetIterable iter X.env x = pure x := by intro _; rfl) :
    PE X (.SetComp elt (⟨tg, iter, ifs, 0⟩ :: rest) scope pos) (tAll X.w wi g tt tb (own.map (·.2))) := by
  refine ⟨fun pins s σ H Q I h => ?_⟩
  have free : ∀ y ∈ scope.names, y.2 = .free → ∃ c, X.env.cells.lookup y.1 = some c := fun y hy e => (ok.free y hy e).elim (fun k => I.ok.has _ (.inl k)) fun k => I.ok.has _ (.inr k)
  rw [PpSet.eval_SetComp]
  refine wpAny_comprehension_free (use := none) rfl hs (closure_ok free) ok.kind (fun y hy e => by rw [ok.uniq y hy, e]) (thn (hi.run pins s σ H _ I h) fun xv s1 hx => thn hx fun itv s2 h2 => ?_)
  obtain ⟨it, fp, tn, J, H2, e, I2, T, st2, f2, qq⟩ := h2
  subst e
  refine PpSet.newSet_ok (newEnv_comp ?_)
  generalize eD : s2.heap.objs.size = D
  obtain ⟨W, ⟨m0, w0⟩, turn⟩  := qq D (I2.hok.fresh (Nat.le_of_eq eD))
  generalize e3 : ({ s2 with heap := s2.heap.push { cls := .type "set", dict := none, data := .set #[] 0 (.fresh 0 0 (!X.w.params.followText "set-order")) } } : Shared) = s3
  have k3 : ∀ b o, s2.heap.get? b = some o → s3.heap.get? b = some o := fun b o e => by rw [← e3]; exact Heap.get?_push_of_some _ e
  have I3 : Inv X pins σ (upd H2 D (SetT X.w D [])) s3 := by
    rw [← e3]
    refine I2.laid (t' := s2.toks) (fun b o e => Heap.get?_push_of_some _ e) (Nat.le_of_eq eD) ?_
    rw [← eD]
    exact setT_new (Wt.fresh_tx X.w)
  have f3 : ∀ b ∈ fp, FpOk X pins (upd H2 D (SetT X.w D [])) b ∧ b < s3.heap.objs.size := fun b hb => by
    obtain ⟨o, e, _⟩ := T.obj _ _ st2 b hb
    refine ⟨⟨?_, (f2 b hb).2⟩, Heap.lt_size (k3 b o e)⟩
    rw [upd_ne (by rw [← eD]; exact Nat.ne_of_lt (Heap.lt_size e))]
    exact (f2 b hb).1
  have st3 : tn 0 s3.heap := T.keep _ _ _ st2 fun b _ o e => k3 b o e
  have begun := block_start I3 ok hN f3
  obtain ⟨pg, pt, pb⟩ := hg s3 (upd H2 D (SetT X.w D [])) s3.heap.objs.size (cellsFrom (s3.heap.objs.size + 1) scope.names (cloFrom X.env.cells scope.names [])) fp
  have pb := pb D
  show codeAny _ _ (.compStart (.SetComp elt (⟨tg, iter, ifs, 0⟩ :: rest) scope pos) 0 (.ref it) (.ref D) (compEnvC scope (cellsFrom (s3.heap.objs.size + 1) scope.names (cloFrom X.env.cells scope.names [])) s3.heap.objs.size X.env)) (compPost (model X.prog X.w) X.A X.xe none (EP X pins σ Q) (.ref D) s3.heap.objs.size) { s3 with heap := pushCells (s3.heap.push { cls := .type "dict", data := .dict #[] }) scope.names }
  have nfp : ∀ b ∈ fp, (upd H2 D (SetT X.w D [])) b = none := fun b hb => (f3 b hb).1.1
  generalize hce : compEnvC scope (cellsFrom (s3.heap.objs.size + 1) scope.names (cloFrom X.env.cells scope.names [])) s3.heap.objs.size X.env = ce at begun pg pt pb ⊢
  have cL : ce.locals = s3.heap.objs.size := by rw [← hce]; rfl
  generalize hH3 : upd H2 D (SetT X.w D []) = H3 at I3 begun pg pt pb w0 nfp f3
  generalize e4 : ({ s3 with heap := pushCells (s3.heap.push { cls := .type "dict", data := .dict #[] }) scope.names } : Shared) = s4 at begun ⊢
  have st4 : tn 0 s4.heap := T.keep _ _ _ st3 fun b _ o e => by rw [← e4]; exact pushCells_keeps _ _ _ _ (Heap.get?_push_of_some _ e)
  have lp : codeAny (model X.prog X.w) X.A (.compLoop (.SetComp elt (⟨tg, iter, ifs, 0⟩ :: rest) scope pos) 0 (.ref it) (.ref D) ce) (compPost (model X.prog X.w) X.A X.xe none (EP X pins σ Q) (.ref D) s3.heap.objs.size) s4 := by
    refine clause_loop (Y := X.blk s3 H3 scope ce fp) (p := []) hc (hT _ _ _) T pg pt rfl rfl rfl (fun σ' H' s' I' hn b hb => ?_) pb turn ?_ begun st4 nfp w0
    · exact ⟨hn b hb, (I'.ok.exf b hb).1, I'.ok.exfs b hb, .inl hb, fun x c e => (I'.ok.exf b hb).2 x c e, fun p hp => absurd (show p ∈ ([] : List (Addr × Obj)) ++ [] from hp) (by simp)⟩
    · intro s5 H5 I5 z
      have I6 : Inv X pins σ H5 s5 := I3.call' (ch := fp) I5.os I5.base I5.hok I5.bare fun b hb => ⟨(f3 b hb).1.2.2.2.1, (f3 b hb).1.2.1, (f3 b hb).1.2.2.2.2.1, (f3 b hb).1.2.2.2.2.2⟩
      have noC : H5 s3.heap.objs.size = none := by
        have z : H5 ce.locals = none := I5.free
        rw [cL] at z
        exact z
      obtain ⟨m, hn, _⟩ := I5.loc
      have hn : s5.heap.Ns ce.locals m := hn
      rw [cL] at hn
      obtain ⟨f0, f1, f2, f3, f4, f5⟩ := I3.fpOk (Nat.le_refl _) noC
      exact ⟨m, hn, fun h'' sb => ⟨.ref D, H5, I6.turned (t' := s5.toks) (fun b o hb e => (sb.2 b hb).trans e) f0 f1 f3 f4 f5, rfl, z⟩⟩
  exact PpSet.codeAny_compStart_set lp (T.self X.A 0 _ _ _ st4 lp)
/-- one clause -/
theorem pe_one {X : Cx} {elt tg iter : Expr} {ifs : List Expr} {scope : Scope} {own : List (Str × Nat)} {pos : Pos} {wi : TI} {g : TG} {tt : TT} {te : TE} (hc : X.calm = true) (hN : X.N.Nodup) (hi : PI X tg iter wi) (ok : BlkOk X.N X.env.scope scope own)
    (hg : ∀ (s : Shared) (H : Hp) (C : Addr) (cl : List (Str × Addr)) (fp : List Addr), PG (X.blk s H scope (compEnvC scope cl C X.env) fp) tg g ∧ PTs (X.blk s H scope (compEnvC scope cl C X.env) fp) ifs tt ∧ PE (X.blk s H scope (compEnvC scope cl C X.env) fp) elt te)
    (hs : ∀ x, foldedSetIterable iter X.env x = pure x := by intro _; rfl) : PE X (.SetComp elt [⟨tg, iter, ifs, 0⟩] scope pos) (tAll X.w wi g tt (fun D => tAdd X.w D te) (own.map (·.2))) :=
  pe_all (inside := fun acc env => addIs elt acc env) hc hN hi ok (fun it acc env => turn_one _ _ _ _ _ _ _ _ _) (fun s H C cl fp => ⟨(hg s H C cl fp).1, (hg s H C cl fp).2.1, fun D => ins_add (hg s H C cl fp).2.2 rfl⟩) hs
/-- two clauses -/
theorem pe_two {X : Cx} {elt tg iter tg1 iter1 : Expr} {ifs ifs1 : List Expr} {scope : Scope} {own : List (Str × Nat)} {vs1 : List Nat} {pos : Pos} {wi wi1 : TI} {g g1 : TG} {tt tt1 : TT} {te : TE} (hc : X.calm = true) (hN : X.N.Nodup) (hi : PI X tg iter wi) (ok : BlkOk X.N X.env.scope scope own) (hv : ∀ i ∈ vs1, i ∈ own.map (·.2))
    (hg : ∀ (s : Shared) (H : Hp) (C : Addr) (cl : List (Str × Addr)) (fp : List Addr), PG (X.blk s H scope (compEnvC scope cl C X.env) fp) tg g ∧ PTs (X.blk s H scope (compEnvC scope cl C X.env) fp) ifs tt)
    (hg1 : ∀ (s : Shared) (H : Hp) (C : Addr) (cl : List (Str × Addr)) (fp : List Addr), PI (X.blk s H scope (compEnvC scope cl C X.env) fp) tg1 iter1 wi1 ∧ PG (X.blk s H scope (compEnvC scope cl C X.env) fp) tg1 g1 ∧ PTs (X.blk s H scope (compEnvC scope cl C X.env) fp) ifs1 tt1 ∧ PE (X.blk s H scope (compEnvC scope cl C X.env) fp) elt te)
    (hs : ∀ x, foldedSetIterable iter X.env x = pure x := by intro _; rfl) (hs1 : ∀ env x, foldedSetIterable iter1 env x = pure x := by intro _ _; rfl) :
    PE X (.SetComp elt [⟨tg, iter, ifs, 0⟩, ⟨tg1, iter1, ifs1, 0⟩] scope pos) (tAll X.w wi g tt (fun D => tNext wi1 g1 tt1 (tAdd X.w D te) vs1) (own.map (·.2))) :=
  pe_all (inside := fun acc env => nextIs (.SetComp elt [⟨tg, iter, ifs, 0⟩, ⟨tg1, iter1, ifs1, 0⟩] scope pos) 1 iter1 acc env) hc hN hi ok (fun it acc env => turn_fst _ _ _ _ _ _ _ _ _ _ _ _) (fun s H C cl fp => by
    obtain ⟨a1, a2⟩ := hg s H C cl fp
    obtain ⟨b1, b2, b3, b4⟩ := hg1 s H C cl fp
    exact ⟨a1, a2, fun D => ins_next hc rfl hv b1 b2 b3 (ins_add b4 rfl) (hs1 _)⟩) hs
/-- sorted of it -/
def rSort (w : World) : List V → Hp → VK → Prop := fun vs H Q => ∃ (a : Addr) (ms : List Str), vs = [V.ref a] ∧ H a = some (SetT w a ms) ∧ ms.length < 64 ∧
  ∀ (ys : List Str) (p : Addr), ys.Perm ms → sortedS ys = true → H p = none → Q (.ref p) (upd H p (.lst (ys.map V.str)))
theorem cr_sort {X : Cx} (hc : X.calm = true) : CallR X (.builtin "sorted") (rSort X.w) := by
  intro pins s σ H vs us Q I r h
  obtain ⟨a, ms, rfl, ha, h64, q⟩ := h
  have R : Wt.TSet X.w s.heap a ms := (I.hok a _ ha).1
  rw [Vals.ref1 r]
  refine Wt.sorted_tx R (I.ok.hd hc) h64 fun s' p out c ys k g o hp hg hi pm so => ?_
  have short : (ys.map V.str).length ≤ sizeLine := by rw [List.length_map, pm.length_eq, sizeLine_eq]; omega
  have hn : H p = none := I.hok.fresh hp
  have J : Inv X pins σ (upd H p (.lst (ys.map V.str))) s' := I.call' (ch := []) o (Un.laid k hp hn) (I.hok.laid k hp ⟨short, out.toList, c, vals_of_strs hi, hg⟩) (by rw [g]; exact I.bare) (fun _ z => nomatch z)
  exact ⟨.ref p, _, J, rfl, q ys p pm so hn⟩
/-- a clause's turns over what can be walked -/
theorem trn_it {J : It} {n : Nat} {G : Hp → Prop} {Y : Nat → Hp → V → Hp → Prop} (k : Walk J n G Y) {g : TG} {tt : TT} {tb : L2.St → Hp → (Hp → Prop) → Prop} {vs : List Nat} {σ : L2.St} {H0 : Hp} {Qd : Hp → Prop} (Pv : Nat → Hp → Prop) (h0 : Pv 0 H0) (hG : ∀ i H, i ≤ n → Pv i H → G H)
    (hs : ∀ i x H H', i < n → Pv i H → Y i H x H' → g x (wipe σ vs) H' fun σ2 H2 => wipe σ2 vs = wipe σ vs ∧ tt σ2 H2 fun b H3 => if b = true then tb σ2 H3 (Pv (i + 1)) else Pv (i + 1) H3) (hd : ∀ H, Pv n H → Qd H) :
    ∃ W : Nat → Nat → Hp → Prop, (∃ m, W 0 m H0) ∧ Trn J g tt tb vs σ W Qd := by
  refine ⟨fun i m H => m + i = n ∧ Pv i H, ⟨n, rfl, h0⟩, ?_⟩
  intro i m H ⟨e, p⟩
  have gH := hG i H (by omega) p
  by_cases hi : i < n
  · exact .inr ⟨k.goes i H hi gH, Pv (i + 1), fun H' p' => ⟨m - 1, by omega, by omega, p'⟩, fun x H' y => hs i x H H' hi p (k.yields i H x H' hi gH y)⟩
  · obtain rfl : i = n := by omega
    exact .inl ⟨k.stops H gH, hd H p⟩
end Wc

set_option linter.all false
set_option maxRecDepth 100000
set_option maxHeartbeats 4000000
/-! set(xs) of a list of texts, as the set of its members -/
namespace Wl
open PySem PySem.Spec PyProof.Rows L2
section
variable {prog : Program} {w : World} {A : Around} {R : Result → Shared → Prop} {I : Addr} {fp wr : List Addr} {G : Array GenState → Array GenState → Prop} {n : Nat} {Pv : Nat → Value → Prop} {St : Nat → Shared → Prop}
theorem fill (W : WalksS prog w A.in1 I fp wr G n Pv St) (a : Addr) (ha : a ∉ fp) (zs : List Str) (hz : zs.length = n) (hb : n + 1 < scanBound) (hv : ∀ i v, Pv i v → ∃ z t, zs[i]? = some z ∧ v = .str z t) :
    ∀ (m i : Nat) (ms : List Str) (s : Shared), n - i = m → i ≤ n → St i s → Wt.TSet w s.heap a ms → ms.length ≤ i → ms = (zs.take i).foldl Wt.addL [] →
      (∀ s', Moved (a :: wr) G s s' → Wt.TSet w s'.heap a (zs.foldl Wt.addL []) → R (.ok (.ret .none)) s') → codeAny (model prog w) A (.builtin "set.update.loop" ⟨[.ref a, .ref I], []⟩) R s := by
  have out : a ∉ wr := fun q => ha (W.sub _ q)
  have wide : ∀ b ∈ wr, b ∈ a :: wr := fun b q => List.mem_cons_of_mem _ q
  intro m
  induction m with
  | zero =>
    intro i ms s hm hi st q len em fin
    obtain rfl : i = n := by omega
    refine codeAny_builtin PyProof.Rows.F.entry_set_update_loop ?_
    rw [Around.under_plainId PyProof.Rows.F.plain_set_update_loop _]
    refine wpAny_bind (W.done s _ _ st fun s' mv => ?_)
    rw [List.take_of_length_le (Nat.le_of_eq hz)] at em
    exact wpAny_pure (fin s' (mv.mono wide) (em ▸ q.at fun o e => mv.heap a o out e))
  | succ m ih =>
    intro i ms s hm hi st q len em fin
    have lt : i < n := by omega
    refine codeAny_builtin PyProof.Rows.F.entry_set_update_loop ?_
    rw [Around.under_plainId PyProof.Rows.F.plain_set_update_loop _]
    refine wpAny_bind (W.item i s _ _ lt st fun v s' pv st' mv => ?_)
    obtain ⟨z, t, ez, rfl⟩ := hv i v pv
    have q' := q.at fun o e => mv.heap a o out e
    refine wpAny_bind (wpAny_holding ?_)
    unfold setAdd
    refine wpAny_holding (wpAny_bind ((PySem.strKind prog w).pyHash (k := z) (strKind_is _ _ _ _) ?_))
    refine Wt.add_tx (s := { s' with toks := s'.toks + 1 }) q' (by omega) fun h' sb q2 => ?_
    have l2 : (Wt.addL ms z).length ≤ i + 1 := by
      unfold Wt.addL
      by_cases h : z ∈ ms
      · rw [if_pos h]
        omega
      · rw [if_neg h, List.length_cons]
        omega
    have e2 : Wt.addL ms z = (zs.take (i + 1)).foldl Wt.addL [] := by
      rw [List.take_add_one, ez, List.foldl_append, ← em]
      rfl
    refine wpAny_pure ⟨plainId_quiet PyProof.Rows.F.plain_set_update_loop _, ih (i + 1) _ _ (by omega) lt (W.frame _ s' _ _ st' (Nat.le_succ _) fun b bf o e => ?_) q2 l2 e2 fun s2 mv2 q4 => ?_⟩
    · exact (sb.2 b fun r => ha (r ▸ bf)).trans e
    · refine fin s2 (Moved.trans W.gtrans ((mv.mono wide).then_heap (Nat.le_succ _) fun b o nb e => ?_) mv2) q4
      exact (sb.2 b fun r => nb (r ▸ List.mem_cons_self ..)).trans e
end
/-- a new set, with the mark that its rows can be told in their order -/
def oSet (w : World) : Obj := { cls := .type "set", dict := none, data := .set #[] 0 (.fresh 0 0 (!w.params.followText "set-order")) }
section
variable {prog : Program} {w : World} {A : Around} {E : Value → Shared → Prop} {s : Shared}
theorem new_set (a : Value) {Q1 : Value → Shared → Prop} (h : Q1 (.ref s.heap.objs.size) { s with heap := s.heap.push (oSet w) }) :
    codeAny (model prog w) A (.call (.builtin "set.__new__") ⟨[.type "set", a], []⟩) (wants Q1 E) s := by
  refine codeAny_of_tree ?_
  show wpAny _ A.in1 (checkBuiltinCall "set.__new__" ⟨[.type "set", a], []⟩ >>= fun _ => again (.builtin "set.__new__" ⟨[.type "set", a], []⟩)) _ _ s
  refine wpAny_bind (wpAny_of_eq (PySem.F.newCall_set_1 a) (wpAny_pure ⟨plainId_quiet PySem.F.plain_set_new _, codeAny_builtin PySem.F.entry_set_new ?_⟩))
  rw [Around.under_plainId PySem.F.plain_set_new _]
  unfold Builtin.«set.__new__» Builtin.Frozenset.newClass
  have known := sub_set_self
  obtain ⟨hp, g, d, tk, os⟩ := s
  dsimp only
  wp_walk
  refine wpAny_askSetting (wpAny_pure ?_)
  dsimp only
  simp only [newObj]
  refine wpAny_bind (wpAny_alloc (wpAny_pure ?_))
  exact wpAny_pure h
theorem call_set {l : Addr} {items : Array Value} {zs : List Str} {Q : Value → Shared → Prop} (hh : A.handled = none) (hl : s.heap.IsList l items) (hi : PyProof.Rows.StrsAre items.toList zs) (hb : zs.length + 1 < scanBound)
    (h : ∀ (h' : Heap) (tk : Nat), Wt.TSet w h' s.heap.objs.size (zs.foldl Wt.addL []) → (∀ b o, s.heap.get? b = some o → h'.get? b = some o) → Q (.ref s.heap.objs.size) { s with heap := h', toks := tk }) :
    wpAny (model prog w) A (call (.type "set") [.ref l]) Q E s := by
  have hn : zs.length = items.size := by rw [← StrsAre.len_eq hi, Array.length_toList]
  obtain ⟨c, tl, hmro⟩ := PySem.F.called_set.mro
  have m1 := PySem.F.called_set.made
  have m2 := PySem.F.called_set.sub
  have m3 := PySem.F.called_set.notType
  have m4 := PySem.F.called_set.canCreate
  have m5 := PySem.F.typeCall_set_1 (.ref l)
  refine wpAny_call (codeAny_of_tree (wpAny_pure ⟨Code.quiet_builtin _ (by decide +kernel), codeAny_builtin PySem.F.entry_type_call ?_⟩))
  rw [Around.under_plain (weight_type_call_type "set" [.ref l] []) rfl]
  repeat (any_goals (first | assumption | wp_step))
  refine codeAny_mono (new_set (.ref l) (E := E) (Q1 := fun ob s1 => ob = .ref s.heap.objs.size ∧ s1 = { s with heap := s.heap.push (oSet w) }) ⟨rfl, rfl⟩) fun r s1 q => ?_
  match r, q with
  | .error e, q => exact q
  | .ok .next, q => exact q.elim
  | .ok .brk, q => exact q.elim
  | .ok .cont, q => exact q.elim
  | .ok (.ret ob), q =>
    obtain ⟨rfl, rfl⟩ := q
    have g0 : (s.heap.push (oSet w)).get? s.heap.objs.size = some (oSet w) := Heap.get?_push_size _ rfl
    have t0 : Shared.TypeIs { s with heap := s.heap.push (oSet w) } (.ref s.heap.objs.size) "set" := ⟨_, g0, rfl⟩
    have i1 := PySem.F.called_set.init.lookup
    have i2 := PySem.F.called_set.init.bind (.ref s.heap.objs.size)
    repeat (any_goals (first | assumption | wp_step))
    refine codeAny_mono (codeAny_call_builtin (R := wants (fun r s2 => r = .none ∧ ∃ h' tk, s2 = { s with heap := h', toks := tk } ∧ Wt.TSet w h' s.heap.objs.size (zs.foldl Wt.addL []) ∧ (∀ b o, s.heap.get? b = some o → h'.get? b = some o)) E)
      PySem.F.called_set.init.plain PySem.F.entry_set_init (check_set_init_1 t0 ?_)) fun r2 s2 q2 => ?_
    · have ll : l < s.heap.objs.size := by
        obtain ⟨o, e, _⟩ := hl
        exact Heap.lt_size e
      have hl1 : (s.heap.push (oSet w)).IsList l items := hl.push _
      obtain ⟨⟨oc, od, oo, os⟩, e1, e2, e3, e4⟩ := id hl1
      simp only at e2 e4
      subst e2 e4
      have k1 := PySem.F.sub_list_set
      have k2 := PySem.F.sub_list_frozenset
      have k3 : (Value.type "list" == Value.type "dict") = false := by decide
      unfold Builtin.«set.__init__» noKeywords Builtin.Frozenset.updateFrom
      generalize hp : pyIter = pI
      wp_walk
      subst hp
      refine wpAny_pyIter_list hl1 (wpAny_bind (wpAny_runValue ?_))
      have sz1 : (s.heap.push (oSet w)).objs.size = s.heap.objs.size + 1 := Heap.size_push ..
      have d1 : l ≠ (s.heap.push (oSet w)).objs.size := by rw [sz1]; exact Nat.ne_of_lt (Nat.lt_succ_of_lt ll)
      have d2 : s.heap.objs.size ∉ [(s.heap.push (oSet w)).objs.size, l] := by
        rw [sz1]
        simp only [List.mem_cons, List.not_mem_nil, or_false, not_or]
        exact ⟨Nat.ne_of_lt (Nat.lt_succ_self _), Nat.ne_of_gt ll⟩
      have hv : ∀ (i : Nat) (v : Value), items[i]? = some v → ∃ z t, zs[i]? = some z ∧ v = .str z t := fun i v e => by
        have hlt : i < zs.length := by rw [hn]; exact (Array.getElem?_eq_some_iff.mp e).1
        obtain ⟨t, q⟩ := SS.strs_at hi i v (by rw [Array.getElem?_toList]; exact e)
        refine ⟨zs[i], t, List.getElem?_eq_getElem hlt, ?_⟩
        rw [q, List.getD_eq_getElem?_getD, List.getElem?_eq_getElem hlt]
        rfl
      refine fill ((Walks.list (by simp [hh]) _ l d1 items).toS) s.heap.objs.size d2 zs hn (by rw [← hn]; exact hb) hv (items.size - 0) 0 [] _ (by omega) (Nat.zero_le _) ⟨⟨_, Heap.get?_push_size _ rfl, rfl, rfl⟩, hl1.push _⟩ ?c0 (Nat.le_refl _) rfl ?cR
      case c0 =>
        exact (Wt.fresh_tx w).at fun o e => Heap.get?_push_of_some _ e
      case cR =>
        intro s3 mv q3
        obtain ⟨h3, g3, d3, t3, o3⟩ := s3
        obtain rfl : g3 = s.gens := mv.gens
        obtain rfl : d3 = s.drawn := mv.drawn
        obtain rfl : o3 = s.os := mv.os
        refine wpAny_pure (wpAny_pure ⟨rfl, h3, t3, rfl, q3, fun c o e => ?_⟩)
        have lc := Heap.lt_size e
        exact mv.heap c o (by
          rw [sz1]
          simp only [List.mem_cons, List.not_mem_nil, or_false, not_or]
          exact ⟨Nat.ne_of_lt lc, Nat.ne_of_lt (Nat.lt_succ_of_lt lc)⟩) (Heap.get?_push_of_some _ (Heap.get?_push_of_some _ e))
    · match r2, q2 with
      | .error e, q2 => exact q2
      | .ok .next, q2 => exact q2.elim
      | .ok .brk, q2 => exact q2.elim
      | .ok .cont, q2 => exact q2.elim
      | .ok (.ret r), q2 =>
        obtain ⟨rfl, h', tk, rfl, q3, q4⟩ := q2
        repeat (any_goals (first | assumption | wp_step))
        exact h _ _ q3 q4
end
/-- set(xs), xs a list of texts -/
def rSetT (K : PySem.W.Frag) (w : World) : List V → Hp → VK → Prop := fun vs H Q => ∃ (l : Addr) (zs : List Str), vs = [V.ref l] ∧ SqL K H l (zs.map V.str) ∧ zs.length ≤ 4000 ∧ ∀ p : Addr, H p = none → Q (.ref p) (upd H p (Wc.SetT w p (zs.foldl Wt.addL [])))
theorem cr_setT {X : Cx} (hc : X.calm = true) : CallR X (.type "set") (rSetT X.K X.w) := by
  intro pins s σ H vs us Q I r h
  obtain ⟨l, zs, rfl, hl, hn, q⟩ := h
  obtain ⟨its, rv, pl, _⟩ := I.list hl
  rw [Vals.ref1 r]
  refine call_set (I.ok.hd hc) pl.isList (by simpa using strsAre_of rv) (by unfold scanBound; omega) fun h' tk R k => ?_
  have fresh : H s.heap.objs.size = none := I.hok.fresh (Nat.le_refl _)
  exact ⟨.ref s.heap.objs.size, _, I.laid (t' := tk) k (Nat.le_refl _) (Wc.setT_new R), rfl, q _ fresh⟩
end Wl

set_option linter.all false
set_option maxRecDepth 100000
set_option maxHeartbeats 4000000
/-! a & b, a | b, ~a by the text's own defs, within a try; a text times a number -/
namespace Wb
open PySem PySem.Spec PyProof.Rows L2
def tBinS (C : Addr) (sp : Sp) (E : L2.St → XK) (ta tb : TE) : TE := fun σ H Q => ta σ H fun x H1 => tb σ H1 fun y H2 => ∃ a b dx dy fs gs, x = .ref a ∧ y = .ref b ∧ H2 a = some (.ins C dx fs) ∧ H2 b = some (.ins C dy gs) ∧ sp [x, y] H2 (fun z G => ∃ r, z = .ref r ∧ Q z G) (E σ)
def tUnS (C : Addr) (sp : Sp) (E : L2.St → XK) (ta : TE) : TE := fun σ H Q => ta σ H fun x H1 => ∃ a dx fs, x = .ref a ∧ H1 a = some (.ins C dx fs) ∧ sp [x] H1 Q (E σ)
section
variable {X : Cx} {CX : CXT} {k : Nat} {C g : Addr} {fd : FuncData} {ps : List Str} {sp : Sp} {E : L2.St → XK} {a b : Expr} {pos : Pos} {ta tb : TE}
theorem pe_binS {op : Operator} (hc : PySem.W.selfFirst X.K C = true) (hs : PySem.W.findIn X.K (.ref C) (PySem.dunder op.info.2) = some (some (.ref g))) (hf : PySem.W.isFn X.K (.ref g) = true) (F : FnOk X.prog X.w X.K X.mg X.base CX k g fd ps sp) (hr : Room k X.A) (hb : Binds X.K fd ps [])
    (hx : ∀ σ, PassesAt CX X σ (E σ)) (pa : PE X a ta) (pb : PE X b tb) : PE X (.BinOp a op b pos) (tBinS C sp E ta tb) := by
  refine ⟨fun pins s σ H Q I h => ?_⟩
  refine wpAny_BinOp (thn (pa.run pins s σ H _ I h) fun v s1 ⟨x, H1, I1, r1, q1⟩ => thn (pb.run pins s1 σ H1 _ I1 q1) fun u s2 ⟨y, H2, I2, r2, q2⟩ => ?_)
  obtain ⟨a', b', dx, dy, fs, gs, rfl, rfl, ea, eb, q⟩ := q2
  cases (show v = Value.ref a' from r1)
  cases (show u = Value.ref b' from r2)
  obtain ⟨_, O, _⟩ := ins_get I2.hok ea
  obtain ⟨od, J, _⟩ := O.look
  obtain ⟨_, O2, _⟩ := ins_get I2.hok eb
  obtain ⟨od2, J2, _⟩ := O2.look
  obtain ⟨m, hF⟩ := I2.fr
  refine PySem.W.binop_K hF I2.ok.mod.kin J J2.type hc hs hf ?_
  apply wpAny_mono (run_fnS (us := [.ref a', .ref b']) (vs := [.ref a', .ref b']) F hr hb (hx σ) I2 (.cons rfl (.cons rfl .nil)) q) _ fun _ _ z => z
  rintro w s' ⟨z, G, J', rz, r, rfl, qz⟩
  cases (show w = Value.ref r from rz)
  exact ⟨.ref r, G, J', rfl, qz⟩
theorem pe_unS (hs : PySem.W.findIn X.K (.ref C) "__invert__" = some (some (.ref g))) (hf : PySem.W.isFn X.K (.ref g) = true) (F : FnOk X.prog X.w X.K X.mg X.base CX k g fd ps sp) (hr : Room k X.A) (hb : Binds X.K fd ps [])
    (hx : ∀ σ, PassesAt CX X σ (E σ)) (pa : PE X a ta) : PE X (.UnaryOp .Invert a pos) (tUnS C sp E ta) := by
  refine ⟨fun pins s σ H Q I h => ?_⟩
  refine UnaryOp_ (thn (pa.run pins s σ H _ I h) fun v s1 ⟨x, H1, I1, r1, q1⟩ => ?_)
  obtain ⟨a', dx, fs, rfl, ea, q⟩ := q1
  cases (show v = Value.ref a' from r1)
  obtain ⟨_, O, _⟩ := ins_get I1.hok ea
  obtain ⟨od, J, _⟩ := O.look
  obtain ⟨m, hF⟩ := I1.fr
  exact PySem.W.ksp_inv hF I1.ok.mod.kin J hs hf (run_fnS (us := [.ref a']) (vs := [.ref a']) F hr hb (hx σ) I1 (.cons rfl .nil) q)
end
/-! a text times a number -/
def repZ (z : Str) : Nat → Str
  | 0 => Str.empty
  | n + 1 => z ++ repZ z n
theorem fold_repZ (z : Str) : ∀ (n : Nat) (a : Array Nat), (List.replicate n z.cps).foldl (· ++ ·) a = a ++ (repZ z n).cps
  | 0, a => by
    show a = a ++ #[]
    simp
  | n + 1, a => by
    rw [List.replicate_succ, List.foldl_cons, fold_repZ z n]
    show a ++ z.cps ++ (repZ z n).cps = a ++ (z.cps ++ (repZ z n).cps)
    rw [Array.append_assoc]
theorem repZ_snoc (z : Str) : ∀ n, repZ z n ++ z = repZ z (n + 1)
  | 0 => by
    show Str.empty ++ z = z ++ Str.empty
    apply congrArg Str.mk
    show #[] ++ z.cps = z.cps ++ #[]
    simp
  | n + 1 => by
    show z ++ repZ z n ++ z = z ++ repZ z (n + 1)
    rw [← repZ_snoc z n, Str.append_assoc]
theorem repZ_len (z : Str) : ∀ n, (repZ z n).length = n * z.length
  | 0 => by rw [Nat.zero_mul]; rfl
  | n + 1 => by
    have h : (z ++ repZ z n).length = z.length + (repZ z n).length := by
      show (z.cps ++ (repZ z n).cps).size = _
      rw [Array.size_append]
      rfl
    show (z ++ repZ z n).length = _
    rw [h, repZ_len z n, Nat.add_mul, Nat.one_mul, Nat.add_comm]
theorem repZ_one (z : Str) : repZ z 1 = z := by
  apply congrArg Str.mk
  show z.cps ++ #[] = z.cps
  simp
def rRepZ : R2 := fun x y H Q => ∃ (z : Str) (n : Nat), x = .str z ∧ y = .int (n : Nat) ∧ 1 ≤ z.length ∧ z.length ≤ 20 ∧ n ≤ 1000 ∧ Q (.str (repZ z n)) H
theorem op_repZ {X : Cx} : OpR X (binaryOp .Mult) rRepZ := by
  intro pins s σ H x y v u Q I rx ry h
  obtain ⟨z, n, rfl, rfl, hz1, hz, h2, q⟩ := h
  obtain ⟨t, rfl⟩ := rx
  obtain ⟨t', rfl⟩ := ry
  refine PySem.P.mul_str ?_ ?_ ?_ ?_
  · rw [decide_eq_false (by omega), decide_eq_false (by omega)]
    rfl
  · intro h0 _ hh
    have hp : (0 : Int) < (n : Nat) := by omega
    have h3 : ((2 : Int) ^ 63 - 1) / (n : Nat) < 20 := by omega
    have h4 : ((2 : Int) ^ 63 - 1) < 20 * (n : Nat) := (Int.ediv_lt_iff_lt_mul hp).mp h3
    omega
  · intro _ _
    rw [Int.toNat_natCast]
    unfold PySem.Builtin.Str.tooLong
    have : z.length * n ≤ 20 * 1000 := Nat.mul_le_mul hz h2
    exact decide_eq_false (by rw [sizeLine_eq]; omega)
  · split
    · rename_i h0
      obtain rfl : n = 0 := by omega
      exact ⟨by show 0 ≤ sizeLine; exact Nat.zero_le _, .str Str.empty, H, I.tok _, ⟨_, rfl⟩, q⟩
    · split
      · rename_i hc
        have e1 : n = 1 := by
          have hz0 : (z.length == 0) = false := by
            rw [beq_eq_false_iff_ne]
            omega
          rw [hz0, Bool.or_false, beq_iff_eq] at hc
          omega
        subst e1
        rw [repZ_one] at q
        exact ⟨.str z, H, I, ⟨_, rfl⟩, q⟩
      · rw [Int.toNat_natCast, fold_repZ, show #[] ++ (repZ z n).cps = (repZ z n).cps from by simp]
        have hl := repZ_len z n
        have : n * z.length ≤ 1000 * 20 := Nat.mul_le_mul h2 hz
        exact ⟨by show (repZ z n).length ≤ sizeLine; rw [sizeLine_eq]; omega, .str (repZ z n), H, I.tok _, ⟨_, rfl⟩, q⟩
end Wb

set_option linter.all false
set_option maxRecDepth 100000
set_option maxHeartbeats 4000000
/-! stores on exceptions of own classes, whatever built-in class they are over -/
namespace Exg
open PySem PySem.Spec PyProof.Rows L2
open Builtin Builtin.ObjectAttr
/-- what is asked of the class at C for a store on its instances -/
structure EcC (K : PySem.W.Frag) (C : Addr) : Prop where
  cls : ∃ nm q N bs bm sn sub ab col dd k0 k1 k2 k3 k5 newId, K.lookup C = some (excClassObj nm q C N bs bm true sn sub ab col dd k0 k1 k2 k3 k5 newId) ∧
    (∀ self : Value, refuseLoop self "__setattr__" (.ref C :: bm) = pure ()) ∧ (Value.ref C :: bm).contains (.type "object") = true
  sa : PySem.W.findIn K (.ref C) "__setattr__" = some (some (.builtin "object.__setattr__"))
theorem ecC_ve {K : PySem.W.Frag} {C : Addr} (T : OexC K C) : EcC K C := by
  obtain ⟨nm, q, N, bs, bm, sn, sub, ab, col, dd, k0, k1, k2, k3, k5, hC, hbm⟩ := T.cls
  exact ⟨⟨nm, q, N, bs, bm, sn, sub, ab, col, dd, k0, k1, k2, k3, k5, _, hC, fun self => PySem.HandSPX.refsVE_pass self _ (show PySem.HandSPX.refsVE (.ref C :: bm) = true from hbm),
    (PySem.HandSPX.refsVE_contains "object" _ (show PySem.HandSPX.refsVE (.ref C :: bm) = true from hbm)).trans (by decide +kernel)⟩, T.sa⟩
section
variable {prog : Program} {w : World} {A : Around} {E : Value → Shared → Prop} {R : Result → Shared → Prop} {hp : Heap} {g : Array GenState} {d : Drawn} {t : Nat} {os : OsState}
/-- object.__setattr__ on it, down to the own dict -/
theorem to_dict {K : PySem.W.Frag} {name : Str} {tk : Tok} {v : Value} {x C : Addr} {ox : Obj} {od : Option Obj} {cd : ClassData} (KI : K.In hp) (I : PySem.W.InstAt hp x ox C od) (hcd : PySem.W.clsIn K C = some cd)
    (pass : ∀ self : Value, refuseLoop self "__setattr__" cd.mro = pure ()) (hob : cd.mro.contains (.type "object") = true) (ha : PySem.W.findIn K (.ref C) name = some none)
    (fin : wpAny (model prog w) A.in1 (storeInOwnDict (.ref x) (.ref C) (.str name tk) name v false)
      (fun f s' => match f with | .done r => R (.ok r) s' | .again c => c.quiet = true ∧ codeAny (model prog w) A c R s') (fun e s' => R (.error e) s') ⟨hp, g, d, t, os⟩) :
    codeAny (model prog w) A (.call (.builtin "object.__setattr__") ⟨[.ref x, .str name tk, v], []⟩) R ⟨hp, g, d, t, os⟩ := by
  have ne : cd.mro.isEmpty = false := by
    cases e : cd.mro with
    | nil =>
      rw [e] at hob
      cases hob
    | cons _ _ => rfl
  have isO : PySem.W.Looks (model prog w) hp (isInstance (.ref x) (.type "object")) true :=
    I.type.andThen (PySem.W.looks_mroIn KI (by unfold PySem.W.mroIn; rw [hcd, Option.bind_some, if_neg (by rw [ne]; decide), hob]))
  have lm : PySem.W.Looks (model prog w) hp (mroOf (.ref C)) cd.mro := (PySem.W.looks_clsIn KI hcd).andThen .now
  have ls : PySem.W.Looks (model prog w) hp (storeTaker? none) none := .now
  refine codeAny_call_builtin PySem.F.store_object.slot.plain PySem.F.store_object.entry
    (@PySem.W.check_slot (model prog w) _ _ ⟨hp, g, d, t, os⟩ "object.__setattr__" "object" "__setattr__" (.ref x) [.str name tk, v] [] _ PySem.F.store_object.kind PySem.F.store_object.split isO
      (PySem.F.store_object.args (.ref x) (.str name tk) v) ?_)
  rw [PySem.W.osa_eq, refuse_eq]
  refine wpAny_bind (wpAny_bind (I.type.at (wpAny_bind (lm.at ?_))))
  rw [pass]
  exact wpAny_pure (wpAny_bind (I.type.at (wpAny_bind ((PySem.W.looks_findIn KI ha).at (wpAny_bind (ls.at fin))))))
theorem set_first {K : PySem.W.Frag} {name : Str} {tk : Tok} {v : Value} {x C : Addr} {fv : Array Value} {cd : ClassData} (KI : K.In hp) (hx : hp.get? x = some { cls := .ref C, data := .fields fv }) (hcd : PySem.W.clsIn K C = some cd)
    (pass : ∀ self : Value, refuseLoop self "__setattr__" cd.mro = pure ()) (hob : cd.mro.contains (.type "object") = true) (hh : cd.hasDict = true) (ha : PySem.W.findIn K (.ref C) name = some none)
    (fin : ∀ h' tk' dx, (∀ b o, b ≠ x → hp.get? b = some o → h'.get? b = some o) → hp.objs.size ≤ dx → dx ≠ x → h'.get? x = some { cls := .ref C, dict := some dx, data := .fields fv } →
      h'.Ns1 dx (fun y => if y = name then some v else none) → R (.ok (.ret .none)) ⟨h', g, d, tk', os⟩) :
    codeAny (model prog w) A (.call (.builtin "object.__setattr__") ⟨[.ref x, .str name tk, v], []⟩) R ⟨hp, g, d, t, os⟩ := by
  have far : x ≠ hp.objs.size := Nat.ne_of_lt (Heap.lt_size hx)
  have lc : PySem.W.Looks (model prog w) hp (classData C) cd := PySem.W.looks_clsIn KI hcd
  refine to_dict KI (ox := { cls := .ref C, data := .fields fv }) (od := none) ⟨hx, rfl, rfl, trivial⟩ hcd pass hob ha ?_
  obtain ⟨c1, c2, c3, c4, c5, c6, c7, c8, c9, c10, c11⟩ := cd
  dsimp only at hh
  subst hh
  unfold storeInOwnDict ownDictForStores
  repeat (first | with_reducible refine PySem.HandSPX.store_in_new ?_ ?_ | with_reducible refine wpAny_loadPart_at hx ?_ | with_reducible refine lc.at ?_ | wp_step)
  · exact ⟨_, #[], _, (Heap.get?_update_ne _ _ _ _ far.symm).trans (Heap.get?_push_at rfl rfl), rfl, fun e he => absurd he (by simp), fun _ => rfl⟩
  · intro h' tk' hn' hs
    have hx1 : (hp.push { cls := .type "dict", data := .dict #[] }).get? x = some { cls := .ref C, data := .fields fv } := Heap.get?_push_of_some _ hx
    exact fin h' tk' hp.objs.size (fun b o hb ho => (hs.2 b (Nat.ne_of_lt (Heap.lt_size ho))).trans ((Heap.get?_update_ne _ _ _ _ hb).trans (Heap.get?_push_of_some _ ho))) (Nat.le_refl _) far.symm
      ((hs.2 x far).trans (Heap.get?_update_self _ hx1 rfl)) hn'
theorem set_next {K : PySem.W.Frag} {name : Str} {tk : Tok} {v : Value} {x C dx : Addr} {fv : Array Value} {cd : ClassData} {m0 : Str → Option Value} {nl : List Str} (KI : K.In hp)
    (hx : hp.get? x = some { cls := .ref C, dict := some dx, data := .fields fv }) (hns : hp.Ns1 dx m0) (hw : Within m0 nl) (hz : nl.length ≤ 1000) (hcd : PySem.W.clsIn K C = some cd)
    (pass : ∀ self : Value, refuseLoop self "__setattr__" cd.mro = pure ()) (hob : cd.mro.contains (.type "object") = true) (hh : cd.hasDict = true) (ha : PySem.W.findIn K (.ref C) name = some none)
    (fin : ∀ h' tk', (∀ b o, b ≠ dx → hp.get? b = some o → h'.get? b = some o) → h'.Ns1 dx (fun y => if y = name then some v else m0 y) → R (.ok (.ret .none)) ⟨h', g, d, tk', os⟩) :
    codeAny (model prog w) A (.call (.builtin "object.__setattr__") ⟨[.ref x, .str name tk, v], []⟩) R ⟨hp, g, d, t, os⟩ := by
  obtain ⟨oD, _, _, hoD, _, _⟩ := hns.count hw
  have lc : PySem.W.Looks (model prog w) hp (classData C) cd := PySem.W.looks_clsIn KI hcd
  refine to_dict KI (ox := { cls := .ref C, dict := some dx, data := .fields fv }) (od := some oD) ⟨hx, rfl, rfl, hoD⟩ hcd pass hob ha ?_
  obtain ⟨c1, c2, c3, c4, c5, c6, c7, c8, c9, c10, c11⟩ := cd
  dsimp only at hh
  subst hh
  unfold storeInOwnDict ownDictForStores
  repeat (first | with_reducible refine PySem.OEX.store_in_old hns hw hz ?_ | with_reducible refine wpAny_loadPart_at hx ?_ | with_reducible refine lc.at ?_ | wp_step)
  intro h' tk' hn' hs
  exact fin h' tk' (fun b o hb ho => (hs.2 b hb).trans ho) hn'
end
section
variable {X : Cx} {pins : List (Addr × Obj)} {σ : L2.St} {H : Hp} {s : Shared} {a C dx : Addr} {f : Str} {y : V} {u : Value} {fs : List (Str × V)} {Q : Unit → Shared → Prop} {E : Value → Shared → Prop} {A : Around}
/-- self.f = y, the first one -/
theorem st_first (T : EcC X.K C) (I : Inv X pins σ H s) (e : H a = some (exo a C none)) (hno : PySem.W.findIn X.K (.ref C) f = some none) (ry : RelV y u)
    (h : ∀ dx s', H dx = none → dx ≠ a → Inv X pins σ (upd (upd H dx (exd dx [(f, y)])) a (exo a C (some dx))) s' → Q () s') : wpAny (model X.prog X.w) A (setAttr (.ref a) f u) Q E s := by
  obtain ⟨nm, q, N, bs, bm, sn, sub, ab, col, dd, k0, k1, k2, k3, k5, newId, hC, pass, hob⟩ := T.cls
  have hcl : PySem.W.clsIn X.K C = some { name := nm, bases := bs, mro := .ref C :: bm, ns := N, qualname := q, hasDict := true, slotNames := sn, subclasses := sub, abstract := ab, collection := col, hasDel := false } := by
    unfold PySem.W.clsIn; rw [hC] <;> rfl
  obtain ⟨t1, ho⟩ := exo_at I.hok e
  obtain ⟨hp, g, d, t, os⟩ := s
  refine PySem.W.set_plain I.kIn (ox := { cls := .ref C, dict := none, data := .fields #[.ref t1, .none, .none, .none, .bool false, .none] }) (od := none) ⟨ho, rfl, rfl, trivial⟩ T.sa ?_
  refine set_first I.kIn ho hcl pass hob rfl hno (fun h' tk' dx k dn dne hx hn => ?_)
  have fresh : H dx = none := I.hok.fresh dn
  have nd : ∀ {b : Addr} {o : Obj}, hp.get? b = some o → b ≠ dx := fun {b o} z => Nat.ne_of_lt (Nat.lt_of_lt_of_le (Heap.lt_size z) dn)
  have na : ∀ {b : Addr}, H b = none → b ≠ a := fun {b} n z => by
    subst z
    rw [e] at n
    cases n
  have U : Un X.fs [] H (upd (upd H dx (exd dx [(f, y)])) a (exo a C (some dx))) hp h' := {
    keep := fun b o z n _ _ => k b o (na n) z
    slot := fun b o z n _ _ => ⟨o.slots, k b o (na n) z⟩
    free := fun b o z n _ => by
      rw [upd_ne (na n), upd_ne (nd z)]
      exact n
    there := fun b o z _ => by
      by_cases hb : b = a
      · subst hb
        exact ⟨_, hx⟩
      · exact ⟨o, k b o hb z⟩
    tups := fun b xs z => by
      rw [upd_ne (at_ne e z exo_tup), upd_ne (ne_of_none z fresh)]
      exact z
    frzs := fun b o v z => by
      rw [upd_ne (at_ne e z exo_frz), upd_ne (ne_of_none z fresh)]
      exact z
    tbls := fun b ps z => ⟨#[], by rw [upd_ne (at_ne e z exo_tbl), upd_ne (ne_of_none z fresh), z]; simp⟩ }
  refine h dx _ fresh dne (I.un (t' := tk') U fun b o z => ?_)
  by_cases hb : b = a
  · subst hb
    rw [upd_same] at z
    cases z
    exact exo_ok hx
  · rw [upd_ne hb] at z
    by_cases hd : b = dx
    · subst hd
      rw [upd_same] at z
      cases z
      exact exd_ok hn (relO_put (fs := []) ry fun g => True.intro)
    · rw [upd_ne hd] at z
      refine (I.hok b o z).stay (fun c v hc r => k c v ?_ r) (fun c hc => ?_) (fun c xs hc => ?_)
      · rcases hc with hc | hc
        · rw [hc]
          exact hb
        · exact at_ne e hc exo_own
      · rw [upd_ne (at_ne e hc exo_own), upd_ne (ne_of_none hc fresh)]
        exact hc
      · rw [upd_ne (at_ne e hc exo_tup), upd_ne (ne_of_none hc fresh)]
        exact hc
/-- self.f = y, a further one -/
theorem st_next (T : EcC X.K C) (I : Inv X pins σ H s) (e : H a = some (exo a C (some dx))) (ed : H dx = some (exd dx fs)) (hl : fs.length ≤ 900) (hno : PySem.W.findIn X.K (.ref C) f = some none) (ry : RelV y u)
    (h : ∀ s', Inv X pins σ (upd H dx (exd dx ((f, y) :: fs))) s' → Q () s') : wpAny (model X.prog X.w) A (setAttr (.ref a) f u) Q E s := by
  obtain ⟨nm, q, N, bs, bm, sn, sub, ab, col, dd, k0, k1, k2, k3, k5, newId, hC, pass, hob⟩ := T.cls
  have hcl : PySem.W.clsIn X.K C = some { name := nm, bases := bs, mro := .ref C :: bm, ns := N, qualname := q, hasDict := true, slotNames := sn, subclasses := sub, abstract := ab, collection := col, hasDel := false } := by
    unfold PySem.W.clsIn; rw [hC] <;> rfl
  obtain ⟨t1, ho⟩ := exo_at I.hok e
  obtain ⟨mA, hns, rel⟩ := exd_at I.hok ed
  have hw := within_of rel
  obtain ⟨hp, g, d, t, os⟩ := s
  obtain ⟨oD, _, _, hoD, _, _⟩ := hns.count hw
  refine PySem.W.set_plain I.kIn (ox := { cls := .ref C, dict := some dx, data := .fields #[.ref t1, .none, .none, .none, .bool false, .none] }) (od := some oD) ⟨ho, rfl, rfl, hoD⟩ T.sa ?_
  refine set_next I.kIn ho hns hw (by rw [List.length_map]; omega) hcl pass hob rfl hno (fun h' tk' k hn => ?_)
  obtain ⟨oN, esN, epN, eN, rN⟩ := id hn
  exact h _ (I.write (t' := tk') (x := dx) (e := dx) (o := exd dx ((f, y) :: fs)) (by rw [ed]; exact True.intro) (.inl rfl) k ⟨oN, eN⟩ (exd_ok hn (relO_put ry rel)))
/-- self.f = e -/
def tSt (K : PySem.W.Frag) (f : Str) (to te : TE) : TS := fun D σ H => te σ H fun y H1 => to σ H1 fun x H2 => ∃ a C : Addr, x = .ref a ∧ EcC K C ∧ PySem.W.findIn K (.ref C) f = some none ∧
  ((H2 a = some (exo a C none) ∧ ∀ dx, H2 dx = none → dx ≠ a → D.nx σ (upd (upd H2 dx (exd dx [(f, y)])) a (exo a C (some dx)))) ∨
    ∃ (dx : Addr) (fs : List (Str × V)), H2 a = some (exo a C (some dx)) ∧ H2 dx = some (exd dx fs) ∧ fs.length ≤ 900 ∧ D.nx σ (upd H2 dx (exd dx ((f, y) :: fs))))
theorem ps_st {o e : Expr} {to te : TE} {p' pos : Pos} (ho : PE X o to) (he : PE X e te) (hs : swapsWith e (some (.Attribute o f p')) pos.line X.env = pure false := by rfl) :
    PS X (.Assign [.Attribute o f p'] e pos) (tSt X.K f to te) := by
  refine ⟨fun pins s σ H D I h => plainObj_wpAny_Assign_Attribute (thn (he.run pins s σ H _ I h) fun v s1 hh => ?_) hs⟩
  obtain ⟨y, H1, I1, r1, q1⟩ := hh
  refine thn (ho.run pins s1 σ H1 _ I1 q1) fun u s2 hh => ?_
  obtain ⟨x, H2, I2, r2, a, C, ex, T, hno, q⟩ := hh
  subst ex
  obtain rfl : u = Value.ref a := r2
  rcases q with ⟨ea, q⟩ | ⟨dx, fs, ea, ed, hl, q⟩
  · exact st_first T I2 ea hno r1 fun dx s' n ne J => ⟨σ, _, J, q dx n ne⟩
  · exact st_next T I2 ea ed hl hno r1 fun s' J => ⟨σ, _, J, q⟩
end
end Exg

set_option linter.all false
set_option maxRecDepth 100000
set_option maxHeartbeats 4000000
/-! an own exception class over KeyError: made, its built-in __init__ called -/
namespace Ky
open PySem PySem.Calls PySem.Spec PyProof.Rows L2 Exv Exg
open PySem.W (KxsFacts)
abbrev keTail : List Value := [.type "KeyError", .type "LookupError", .type "Exception", .type "BaseException", .type "object"]
theorem initRow : Manifest.signature? "KeyError.__init__" = some ⟨.positional, "*", "KeyError", .self, [⟨"args", .varPos, false⟩]⟩ := by kernel_rfl
theorem initKind : builtinKind "KeyError.__init__" = some .slot := by kernel_rfl
theorem initSlot : Slot "KeyError" "__init__" "KeyError.__init__" := .of (owner := "KeyError") (n := "__init__")
    (by rw [typeLookup_type, builtinLookup_eq_fast]; kernel_rfl) (by decide +kernel) (by decide +kernel) (by decide +kernel)
    (by first | exact .inr (by decide +kernel) | exact .inl (by decide +kernel)) (by rw [isSubtype_type]; kernel_rfl)
theorem initEntry : entryFor table "KeyError.__init__" = some Builtin.«BaseException.__init__» :=
  entryFor_alias (id' := "BaseException.__init__") (by rw [fastTable_eq_tree]; kernel_rfl) (by first | rfl | decide +kernel) (by decide +kernel) (by rw [fastTable_eq_tree]; kernel_rfl)
theorem keyPass (self : Value) : refuseLoop self "__setattr__" keTail = pure () := by kernel_rfl
theorem keySup : KxsFacts "KeyError" "KeyError.__init__" :=
  ⟨by show builtinType _ = _; rw [builtinType_eq_fast]; kernel_rfl, by first | kernel_rfl | rfl⟩
section
variable {M : Model} {prog : Program} {w : World} {A : Around} {E : Value → Shared → Prop} {R : Result → Shared → Prop} {h : Heap} {g : Array GenState} {d : Drawn} {t : Nat} {os : OsState}
variable {nm q : Str} {C N : Addr} {bs : List Value} {hdct : Bool} {sn : List Str} {sub : List Value} {ab : Bool} {col : Option Bool} {dd : Option Addr} {k0 k1 k2 k3 k5 : Option Value}
theorem chk_bound {e : Addr} {oe : Obj} {rest bm : List Value} {newId : String} {Q : Unit → Shared → Prop}
    (hC : h.get? C = some (excClassObj nm q C N bs bm hdct sn sub ab col dd k0 k1 k2 k3 k5 newId)) (he : h.get? e = some oe) (hcls : oe.cls = .ref C) (hq : Q () ⟨h, g, d, t, os⟩) :
    wpAny M A (checkBoundCall "KeyError.__init__" ⟨.ref e :: rest, []⟩) Q E ⟨h, g, d, t, os⟩ := by
  have noStar : (("KeyError" : String) != "*") = true := by decide
  simp only [checkBoundCall, initKind, initRow]
  repeat (first | (with_reducible refine wpAny_loadPart_at he ?_; rw [hcls]) | with_reducible refine wpAny_loadPart_at hC ?_ | wp_step)
  refine wpAny_onRaise ?_
  rw [show ∀ (a b : String) (n : Nat), Bind.check ⟨.positional, "*", "KeyError", .self, [⟨"args", .varPos, false⟩]⟩ a b n (List.map (fun x => x.fst) ({ pos := Value.ref e :: rest } : Args).kw) = pure () from
    fun a b n => check_star_args _ _ _ _ _ _]
  exact wpAny_pure hq
abbrev newK : String := "LookupError.__new__"
theorem chk_new {rest : List Value} {Q : Unit → Shared → Prop} (hC : h.get? C = some (excClassObj nm q C N bs keTail hdct sn sub ab col dd k0 k1 k2 k3 k5 newK)) (hq : Q () ⟨h, g, d, t, os⟩) :
    wpAny M A (checkBuiltinCall newK ⟨.ref C :: rest, []⟩) Q E ⟨h, g, d, t, os⟩ := by
  have hB : (Value.ref C :: keTail).contains (.type "LookupError") = true := by rw [List.contains_cons, show keTail.contains (.type "LookupError") = true by decide +kernel, Bool.or_true]
  have noStar := PySem.F.excBase_LookupError.noStar
  simp only [checkBuiltinCall, PySem.F.excBase_LookupError.newKind, PySem.F.excBase_LookupError.newSplit, PySem.F.excBase_LookupError.newRow]
  repeat (first | refine wpAny_loadPart_at hC ?_ | (refine wpAny_isSubtype_exc hC ?_; rw [hB]) | refine wpAny_staticBase_exc hC ?_ | refine wpAny_madeBy_exc hC ?_ | simp only [bne_self_eq_false, Bool.false_eq_true, if_false] | wp_step)
  exact hq
theorem new_key {rest : List Value} (hC : h.get? C = some (excClassObj nm q C N bs keTail hdct sn sub ab col dd k0 k1 k2 k3 k5 newK)) (hrest : rest.length ≤ sizeLine)
    (hq : R (.ok (.ret (.ref (h.objs.size + 1)))) ⟨(h.push (PySem.W.kdv_tup rest)).push (PySem.HandSPX.excO C h.objs.size), g, d, t, os⟩) :
    codeAny (model prog w) A (.builtin newK ⟨.ref C :: rest, []⟩) R ⟨h, g, d, t, os⟩ := by
  have ends := PySem.F.excBase_LookupError.ends
  have hB : (Value.ref C :: keTail).contains (.type "LookupError") = true := by rw [List.contains_cons, show keTail.contains (.type "LookupError") = true by decide +kernel, Bool.or_true]
  have hA : (Value.ref C :: keTail).contains (.type "AttributeError") = false := by rw [List.contains_cons, show keTail.contains (.type "AttributeError") = false by decide +kernel]; rfl
  have hN : (Value.ref C :: keTail).contains (.type "NameError") = false := by rw [List.contains_cons, show keTail.contains (.type "NameError") = false by decide +kernel]; rfl
  refine codeAny_builtinAt PySem.F.excBase_LookupError.entry ?_
  unfold Builtin.«BaseException.__new__»
  refine PySem.wpAt_bind ?_
  show _root_.PySem.wpAt _ _ _ (stack >>= _) _ _ _
  refine PySem.wpAt_bind (PySem.wpAt_stack fun p below => PySem.wpAt_of_wpAny ?_)
  wp_walk
  refine PySem.wpAt_of_wpAny ?_
  rw [PySem.F.excBase_LookupError.owner]
  repeat (first | with_reducible refine wpAny_madeHere_exc PySem.F.excBase_LookupError.canon hC ?_ | with_reducible refine wpAny_loadPart_at hC ?_ |
    (with_reducible refine wpAny_isSubtype_exc hC ?_; first | rw [hB] | rw [hA] | rw [hN]) | wp_step)
  show R _ _
  rw [Heap.size_push]
  exact hq
theorem type_call_key {rest : List Value} {fI : Addr} {Q : Fin → Shared → Prop} (hC : h.get? C = some (excClassObj nm q C N bs keTail hdct sn sub ab col dd k0 k1 k2 k3 k5 newK))
    (hi : PySem.W.Looks (model prog w) h (typeLookup (.ref C) "__init__") (some (.ref fI))) (hb : ∀ self, PySem.W.Looks (model prog w) h (bindSpecial (.ref fI) self) (.ref fI, [self])) (hrest : rest.length ≤ sizeLine)
    (hq : codeAny (model prog w) A (.call (.ref fI) ⟨.ref (h.objs.size + 1) :: rest, []⟩)
      (fun r s' => match r with | .ok (.ret v) => v = .none ∧ Q (.done (.ret (.ref (h.objs.size + 1)))) s' | .ok _ => False | .error e => E e s')
      ⟨(h.push (PySem.W.kdv_tup rest)).push (PySem.HandSPX.excO C h.objs.size), g, d, t, os⟩) :
    wpAny (model prog w) A (Builtin.«type.__call__» ⟨.ref C :: rest, []⟩) Q E ⟨h, g, d, t, os⟩ := by
  repeat (first | with_reducible refine wpAny_loadPart_at hC ?_ | with_reducible refine wpAny_madeBy_exc hC ?_ | wp_step)
  refine codeAny_call_builtin_code (Code.quiet_builtin _ PySem.F.excBase_LookupError.quiet) (chk_new hC (new_key hC hrest ?_))
  show wpAny _ _ _ _ _ _
  have k : ∀ b o, h.get? b = some o → ((h.push (PySem.W.kdv_tup rest)).push (PySem.HandSPX.excO C h.objs.size)).get? b = some o := fun b o e =>
    Heap.get?_push_of_some _ (Heap.get?_push_of_some _ e)
  have hC1 := k _ _ hC
  have hat : ((h.push (PySem.W.kdv_tup rest)).push (PySem.HandSPX.excO C h.objs.size)).get? (h.objs.size + 1) = some (PySem.HandSPX.excO C h.objs.size) := by heap_get
  have hself : (Value.ref C :: keTail).contains (.ref C) = true := by simp
  have i1 := hi.keeps k
  have b1 := (hb (.ref (h.objs.size + 1))).keeps k
  unfold isInstance
  repeat (first | with_reducible refine wpAny_loadPart_at hat ?_ | (with_reducible refine wpAny_isSubtype_exc hC1 ?_; rw [hself]) | wp_step)
  show wpAny _ _ (typeLookup (.ref C) _) _ _ _
  refine i1.at (wpAny_holding (wpAny_bind (b1.at ?_)))
  refine wpAny_bind (wpAny_call (codeAny_mono hq fun r s' z => ?_))
  rcases r with e | (v | _ | _ | _) <;> first | exact z | exact z.elim | skip
  obtain ⟨rfl, z⟩ := z
  first
    | exact wpAny_pure (wpAny_pure z)
    | (wp_walk; exact z)
end
theorem mkOk_key {prog : Program} {w : World} {K : PySem.W.Frag} {C fI : Addr}
    (cls : ∃ nm q N bs sn sub ab col dd k0 k1 k2 k3 k5, K.lookup C = some (excClassObj nm q C N bs keTail true sn sub ab col dd k0 k1 k2 k3 k5 newK))
    (iC : PySem.W.findIn K (.ref C) "__init__" = some (some (.ref fI))) (tI : PySem.W.typeIn K (.ref fI) = some (.type "function")) : MkOk prog w K C fI := fun A R h g d t os rest KX hr q => by
  obtain ⟨nm, qq, N, bs, sn, sub, ab, col, dd, k0, k1, k2, k3, k5, hC0⟩ := cls
  have hC := KX _ _ hC0
  have f1 := PySem.tc_lookup
  have f2 := PySem.tc_bind (.ref C)
  have hTy : (⟨h, g, d, t, os⟩ : Shared).TypeIs (.ref C) "type" := ⟨_, hC, rfl⟩
  refine codeAny_of_tree ?_
  show wpAny _ _ (callAny (.ref C) _) _ _ _
  repeat (any_goals (first | assumption | with_reducible refine wpAny_loadPart_at hC ?_ | wp_step))
  refine ⟨rfl, ?_⟩
  refine codeAny_call_builtin_at (Code.quiet_builtin _ (by decide +kernel)) entry_typeCall (wpAny_check_type_call_sub hC (type_call_key hC (PySem.W.looks_findIn KX iC) (fun self => PySem.W.bind_fn KX self tI) hr ?_))
  refine codeAny_mono q fun r s' z => ?_
  rcases r with e | (v | _ | _ | _) <;> exact z
end Ky

set_option linter.all false
set_option maxRecDepth 100000
set_option maxHeartbeats 4000000
/-! an own exception class over ValueError whose __init__ begins with super().__init__('..') -/
namespace Sup
open PySem PySem.Spec PyProof.Rows L2 NdefX
open PySem.W (kxs_mw)
section
variable {X : Cx} {pins : List (Addr × Obj)} {σ : L2.St} {H : Hp} {s : Shared} {a C u : Addr} {A : Around} {E : Value → Shared → Prop}
theorem upd_id {o : HO} (e : H a = some o) : upd H a o = H := by
  funext b
  by_cases hb : b = a
  · subst hb
    rw [upd_same]
    exact e.symm
  · exact upd_ne hb
/-- the built-in __init__ i, bound to an exception of the class at C, is called -/
def MwOk (K : PySem.W.Frag) (C : Addr) (i : String) : Prop := ∀ (prog : Program) (w : World) (A : Around) (E : Value → Shared → Prop) (h : Heap) (g : Array GenState) (d : Drawn) (t : Nat) (os : OsState) (u e t0 : Addr) (us : List Value) (Q : Value → Shared → Prop),
  K.In h → h.get? e = some (PySem.HandSPX.excO C t0) → h.get? u = some (kxs_mw i e) → us.length ≤ sizeLine →
  (∀ h' t1, (∀ b o, b ≠ e → h.get? b = some o → h'.get? b = some o) → h'.get? e = some (PySem.HandSPX.excO C t1) → Q .none ⟨h', g, d, t, os⟩) →
  wpAny (model prog w) A (call (.ref u) us) Q E ⟨h, g, d, t, os⟩
theorem mwOk_ve {K : PySem.W.Frag} (T : OexC K C) : MwOk K C "ValueError.__init__" := fun prog w A E h g d t os u e t0 us Q KX he hu hl hq => by
  obtain ⟨nm, qq, N, bs, bm, sn, sub, ab, col, dd, k0, k1, k2, k3, k5, hC, hbm⟩ := T.cls
  refine wpAny_call (codeAny_of_tree ?_)
  show wpAny _ A.in1 (callAny (.ref u) ⟨us, []⟩) _ _ _
  simp only [callAny]
  refine wpAny_bind (wpAny_load hu ?_)
  simp only [kxs_mw, show (Value.type "method-wrapper" == Value.type "method" || Value.type "method-wrapper" == Value.type "builtin_function_or_method"
    || Value.type "method-wrapper" == Value.type "method-wrapper") = true by decide, if_true]
  refine PySem.W.KFB.if_so (by decide) (wpAny_bind (ESX.check_bound PySem.F.excBase_ValueError (KX _ _ hC) he rfl (wpAny_bind (wpAny_pure (wpAny_pure ?_)))))
  refine ⟨plainId_quiet PySem.F.excBase_ValueError.init.plain _, codeAny_builtin PySem.F.excBase_ValueError.initEntry ?_⟩
  exact PySem.W.exc_init_tree (cls := .ref C) (t0 := t0) (dv := none) (c2 := .none) (c3 := .none) (b4 := .bool false) he hl (fun h' k hx _ => hq h' _ k hx)
theorem mwOk_key {K : PySem.W.Frag} (cls : ∃ nm q N bs sn sub ab col dd k0 k1 k2 k3 k5, K.lookup C = some (excClassObj nm q C N bs Ky.keTail true sn sub ab col dd k0 k1 k2 k3 k5 Ky.newK)) : MwOk K C "KeyError.__init__" :=
  fun prog w A E h g d t os u e t0 us Q KX he hu hl hq => by
  obtain ⟨nm, qq, N, bs, sn, sub, ab, col, dd, k0, k1, k2, k3, k5, hC⟩ := cls
  refine wpAny_call (codeAny_of_tree ?_)
  show wpAny _ A.in1 (callAny (.ref u) ⟨us, []⟩) _ _ _
  simp only [callAny]
  refine wpAny_bind (wpAny_load hu ?_)
  simp only [kxs_mw, show (Value.type "method-wrapper" == Value.type "method" || Value.type "method-wrapper" == Value.type "builtin_function_or_method"
    || Value.type "method-wrapper" == Value.type "method-wrapper") = true by decide, if_true]
  refine PySem.W.KFB.if_so (by decide) (wpAny_bind (Ky.chk_bound (KX _ _ hC) he rfl (wpAny_bind (wpAny_pure (wpAny_pure ?_)))))
  refine ⟨plainId_quiet Ky.initSlot.plain _, codeAny_builtin Ky.initEntry ?_⟩
  exact PySem.W.exc_init_tree (cls := .ref C) (t0 := t0) (dv := none) (c2 := .none) (c3 := .none) (b4 := .bool false) he hl (fun h' k hx _ => hq h' _ k hx)
/-- .. over the abstract heap: nothing of it is told -/
theorem call_mw {i : String} {us : List Value} {Q : Value → Shared → Prop} (M : MwOk X.K C i) (I : Inv X pins σ H s) (e : H a = some (exo a C none))
    (hu : s.heap.get? u = some (kxs_mw i a)) (hl : us.length ≤ sizeLine) (h : ∀ s', Inv X pins σ H s' → Q .none s') :
    wpAny (model X.prog X.w) A (call (.ref u) us) Q E s := by
  obtain ⟨t1, ho⟩ := exo_at I.hok e
  have KX := I.kIn
  obtain ⟨hp, g, d, t, os⟩ := s
  refine M _ _ A E hp g d t os u a t1 us Q KX ho hu hl (fun h' t2 k hx => ?_)
  have J := I.write (t' := t) (x := a) (e := a) (o := exo a C none) (by rw [e]; exact True.intro) (.inl rfl) k ⟨_, hx⟩ (exo_ok hx)
  rw [upd_id e] at J
  exact h _ J
end

/-- what the written part says of such a class at C: its cell __class__ at cc, its __init__'s code at cda -/
structure SupF (P : Program) (K : PySem.W.Frag) (B i : String) (C cc cda : Addr) : Prop where
  KF : PySem.W.KxsFacts B i
  mw : MwOk K C i
  cls : ∃ nm q N bs bm sn sub ab col dd k0 k1 k2 k3 k5 newId, K.lookup C = some (excClassObj nm q C N bs bm true sn sub ab col dd k0 k1 k2 k3 k5 newId)
  along : PySem.W.ks_superIn K C C "__init__" = some (some (.builtin i))
  subV : PySem.W.subIn K (.ref C) (.type B) = some true
  subC : PySem.W.mroIn K C (.ref C) = some true
  cell : ∃ cl cld csl, K.lookup cc = some ⟨cl, cld, .cell (some (.ref C)), csl⟩
  code : ∃ ccl cdd vs ccs file tf, K.lookup cda = some ⟨ccl, cdd, .fields vs, ccs⟩ ∧ vs[2]? = some (.str file tf) ∧ ((P.main.file : Str) == file) = true
  third : PySem.W.nsIn K PySem.cStatics "thirdparty.any" = some none
/-- super().__init__('..') -/
abbrev stSup (p0 p1 p2 p3 p4 p5 : Pos) (j : Nat) (msg : Str) : Stmt :=
  .Expr (.Call (.Attribute (.Call (.Name "super" p0) [] [] p1) "__init__" p2) [.Constant (.str msg) j p3] [] p4) p5
section
variable {CX : CXT} {P : Program} {w : World} {K : PySem.W.Frag} {mg : Str → Option Value} {base : Heap} {N ps : List Str} {F : NF} {f C cc : Addr} {A : Around} {outer : List Env} {s0 s : Shared} {H0 H : Hp} {E : XK} {σ : L2.St} {a : Addr}
theorem sup_stmt {p0 p1 p2 p3 p4 p5 : Pos} {j : Nat} {msg : Str} {body : List Stmt} {ar : Arg} {oc : Value} {od : Option Addr} {osl : Array (Option Value)} {dV kV doc pm ct : Value} {an : Option Addr}
    {B i : String} (D : SupF P K B i C cc F.c) (hcl : F.cl = [(("__class__" : Str), cc)])
    (lk : K.lookup f = some ⟨oc, od, .func (PySem.W.fnX F.name F.qual F.params F.body F.scope F.cl dV kV doc pm an (.ref F.c) ct), osl⟩)
    (hk : F.scope.kind = .function)
    (hks : F.scope.names.lookup ("super" : Str) = some .globalImplicit) (hkc : F.scope.names.lookup ("__class__" : Str) = some .free)
    (hp : (F.params.posonlyargs ++ F.params.args).head? = some ar) (h0 : N[0]? = some ar.arg) (hka : F.scope.names.lookup ar.arg = some .local)
    {pl : Sem Bool} (hev : eval (.Call (.Attribute (.Call (.Name "super" p0) [] [] p1) "__init__" p2) [.Constant (.str msg) j p3] [] p4) (envF F f s0.heap.objs.size) = (do
      let ov ← attributeBase (.Call (.Name "super" p0) [] [] p1) "__init__" (envF F f s0.heap.objs.size) (eval (.Call (.Name "super" p0) [] [] p1) (envF F f s0.heap.objs.size))
      standAt p2.atName
      let (g, first) ← holding [ov] (getMethod ov "__init__" pl)
      callWith p4 g first (backTo p4 (starEach [.Constant (.str msg) j p3] (envF F f s0.heap.objs.size))) []))
    (hsup : mg "super" = none) (htop : (P.main.scope.names.lookup ("super" : Str)).isSome = false)
    (I : Inv (ncx CX P w K mg base N F f A outer s0 H0 E) [] σ H s) (hσ : σ[0]? = some (some (.ref a))) (hH : H a = some (exo a C none)) :
    _root_.PySem.wpAt (model P w) (A.deeper (envF F f s0.heap.objs.size)) (.func body (envF F f s0.heap.objs.size)) (exec (stSup p0 p1 p2 p3 p4 p5 j msg) (envF F f s0.heap.objs.size))
      (fun fl s' => fl = .next ∧ Inv (ncx CX P w K mg base N F f A outer s0 H0 E) [] σ H s') (ncx CX P w K mg base N F f A outer s0 H0 E).xe s := by
  obtain ⟨sh, sg, sd, st, so⟩ := s
  have KX : K.In sh := I.kIn
  obtain ⟨nm, q, Nn, bs, bm, sn, sub, ab, col, dd, k0, k1, k2, k3, k5, newId, hC⟩ := D.cls
  obtain ⟨cl, cld, csl, hcell⟩ := D.cell
  obtain ⟨ccl, cdd, vs, ccs, file, tf, hcode, hvs, hfile⟩ := D.code
  obtain ⟨mb, hb1, hb2⟩ := I.mod.blt
  obtain ⟨t1, ho⟩ := exo_at I.hok hH
  obtain ⟨m, hns, hloc⟩ := I.loc
  obtain ⟨u, ru, hu⟩ := hloc 0 ar.arg (.ref a) h0 hσ (.inl hka)
  obtain rfl : u = Value.ref a := ru
  have hm : m ar.arg = some (.ref a) := by
    rcases hu with ⟨_, z⟩ | ⟨z, _⟩
    · exact z
    · have z' : F.scope.names.lookup ar.arg = some .cell ∨ F.scope.names.lookup ar.arg = some .free := z
      rw [hka] at z'
      rcases z' with z' | z' <;> cases z'
  have hclsI : PySem.W.clsIn K C = some { name := nm, bases := bs, mro := .ref C :: bm, ns := Nn, qualname := q, hasDict := true, slotNames := sn, subclasses := sub, abstract := ab, collection := col, hasDel := false } := by
    unfold PySem.W.clsIn; rw [hC] <;> rfl
  have hi : interactive (envF F f s0.heap.objs.size) = false := by
    unfold interactive
    show (F.scope.kind == _ && _) = false
    rw [hk]
    rfl
  refine PySem.ks_wpAt_Expr_any (hi := hi) (PySem.ks_wpAt_MethodCall (pl := pl) ?_ hev)
  refine PySem.ks_wpAt_super_base (env := envF F f s0.heap.objs.size) hks hkc (by decide) rfl (KX _ _ lk) rfl hp rfl (KX _ _ hcode) rfl hvs hfile htop ?_
  refine PySem.W.ks_loadName_global hk hks (PySem.Calls.loadGlobal_builtin (env := envF F f s0.heap.objs.size) (I.mod.glob.keeps I.bk) hsup (hb1.keeps I.bk)
    ((hb2 "super" (by decide)).trans (by decide +kernel : bootBuiltins "super" = some (.type "super"))) ⟨rfl, ?_⟩)
  refine wpAny_loadName_free hk hkc (show F.cl.lookup ("__class__" : Str) = some cc by rw [hcl]; rfl) ⟨_, KX _ _ hcell, rfl⟩ ?_
  refine wpAny_loadName_local hk hka hns hm ?_
  refine PySem.ks_wpAny_isType_cls (KX _ _ hC) rfl ⟨rfl, ?_⟩
  refine PySem.ks_wpAny_call_super (KX _ _ hC) rfl ho rfl (fun c e => by cases e) (PySem.W.looks_mroIn KX D.subC) (fun h' e k => ?_)
  have X' : K.In h' := KX.keeps k
  have I1 : Inv (ncx CX P w K mg base N F f A outer s0 H0 E) [] σ H ⟨h', sg, sd, st, so⟩ := I.kept k
  have hcl2 : PySem.W.clsIn K C = some { name := nm, bases := bs, mro := .ref C :: bm, ns := Nn, qualname := q, hasDict := true, slotNames := sn, subclasses := sub, abstract := ab, collection := col, hasDel := false } := hclsI
  have al := D.along
  unfold PySem.W.ks_superIn at al
  rw [hcl2] at al
  have ho' := k _ _ ho
  have It : PySem.W.InstAt h' a { cls := .ref C, dict := none, data := .fields #[.ref t1, .none, .none, .none, .bool false, .none] } C none := ⟨ho', rfl, rfl, trivial⟩
  refine PySem.W.kxs_getMethod D.KF e (PySem.W.looks_opaque X' D.third) (l₀ := .ref C :: bm)
    (fun A Q E s k q => wpAny_bind ((PySem.W.looks_clsIn X' hcl2) A _ E s k (wpAny_pure q))) rfl X' al (It.type.andThen (PySem.W.looks_subIn X' D.subV)) (PySem.W.ks_ne X' It hcl2) (by decide) ?_
  have I2 : Inv (ncx CX P w K mg base N F f A outer s0 H0 E) [] σ H ⟨h'.push (kxs_mw i a), sg, sd, st + 1, so⟩ := I1.kept (t' := st + 1) fun b o z => Heap.get?_push_of_some _ z
  have hmw : (h'.push (kxs_mw i a)).get? h'.objs.size = some (kxs_mw i a) := Heap.get?_push_at rfl rfl
  have hargs : PA (ncx CX P w K mg base N F f A outer s0 H0 E) [.Constant (.str msg) j p3] (tCons (tC (.str msg)) tNil) := pa_cons pe_str pa_nil
  have I3 : Inv (ncx CX P w K mg base N F f A outer s0 H0 E) [(h'.objs.size, kxs_mw i a)] σ H ⟨h'.push (kxs_mw i a), sg, sd, st + 1, so⟩ :=
    I2.pins_of fun p hp => by
      obtain rfl := List.mem_singleton.mp hp
      exact ⟨hmw, I1.hok.fresh (Nat.le_refl _), Nat.ne_of_gt I1.lt, I1.nofs (Nat.le_refl _), fun v z => by cases z⟩
  have hrun := hargs.run p4 [(h'.objs.size, kxs_mw i a)] ⟨h'.push (kxs_mw i a), sg, sd, st + 1, so⟩ σ H (fun vs H1 => vs = [.str msg] ∧ H1 = H) I3 ⟨rfl, rfl⟩
  show wpAny _ _ (callWith p4 (.ref h'.objs.size) [] (backTo p4 ((false, _) :: [])) []) _ _ _
  refine PySem.W.kxs_callWith (i := i) (x := a) rfl (PySem.Calls.evalArgs_plain (wpAny_mono hrun (fun us s1 hh => ?_) fun _ _ z => z))
  obtain ⟨vs, H1, J, r, rfl, rfl⟩ := hh
  have pin := (J.pin (h'.objs.size, kxs_mw i a) (by simp)).1
  refine ⟨pin, ?_⟩
  refine call_mw (X := ncx CX P w K mg base N F f A outer s0 H0 E) (u := h'.objs.size) D.mw J hH pin ?_ fun s' J' => ⟨rfl, J'.pins_of fun p hp => absurd hp (by simp)⟩
  show us.length ≤ sizeLine
  rw [← r.length, sizeLine_eq]
  show 1 ≤ 16777216
  decide
/-- THE RULE: such an __init__, by what stands behind its first row -/
theorem ok_sup {sp : Sp} {k : Nat} {p0 p1 p2 p3 p4 p5 : Pos} {j : Nat} {msg : Str} {rest : List Stmt} {ar : Arg} {oc : Value} {od : Option Addr} {osl : Array (Option Value)} {dV kV doc pm ct : Value} {an : Option Addr}
    {B i : String} (D : SupF P K B i C cc F.c) (hcl : F.cl = [(("__class__" : Str), cc)]) (hbd : F.body = stSup p0 p1 p2 p3 p4 p5 j msg :: rest)
    (lk : K.lookup f = some ⟨oc, od, .func (PySem.W.fnX F.name F.qual F.params F.body F.scope F.cl dV kV doc pm an (.ref F.c) ct), osl⟩)
    (hcd : PySem.W.codeIn K (.ref F.c) F.qual = true) (S : NdefX.NScope N ps ["__class__"] F.scope)
    (hks : F.scope.names.lookup ("super" : Str) = some .globalImplicit)
    (hp : (F.params.posonlyargs ++ F.params.args).head? = some ar) (h0 : N[0]? = some ar.arg) (hka : F.scope.names.lookup ar.arg = some .local)
    (hev : ∀ L : Addr, ∃ pl : Sem Bool, eval (.Call (.Attribute (.Call (.Name "super" p0) [] [] p1) "__init__" p2) [.Constant (.str msg) j p3] [] p4) (envF F f L) = (do
      let ov ← attributeBase (.Call (.Name "super" p0) [] [] p1) "__init__" (envF F f L) (eval (.Call (.Name "super" p0) [] [] p1) (envF F f L))
      standAt p2.atName
      let (g, first) ← holding [ov] (getMethod ov "__init__" pl)
      callWith p4 g first (backTo p4 (starEach [.Constant (.str msg) j p3] (envF F f L))) []))
    (hsup : mg "super" = none) (htop : (P.main.scope.names.lookup ("super" : Str)).isSome = false)
    (len : ∀ vs H Q E, sp vs H Q E → vs.length = ps.length)
    (self : ∀ vs H Q E, sp vs H Q E → ∃ a r, vs = .ref a :: r ∧ H a = some (exo a C none))
    (hbody : ∀ (A : Around) (outer : List Env) (s : Shared) (H : Hp) (vs : List V) (Q : VK) (E : XK), Room k (A.deeper (envF F f s.heap.objs.size)) → sp vs H Q E →
      ∃ t, PSs (ncx CX P w K mg base N F f A outer s H E) rest t ∧ t { nx := fun _ H' => Q .non H', rt := Q } (startF N vs [none]) H) :
    FnOk P w K mg base CX (k + 1) f (PySem.W.fnX F.name F.qual F.params F.body F.scope F.cl dV kV doc pm an (.ref F.c) ct) ps sp := by
  refine ⟨len, fun A outer s H args us vs Q E hr e0 hb r hsp => ?_⟩
  have hl := len _ _ _ _ hsp
  have KX : K.In s.heap := e0.mod.kin.keeps fun b o e => (e0.bs b o e).1
  have lim : s.heap.NoLimit := e0.mod.nolimit.keeps fun b o e => (e0.bs b o e).1
  obtain ⟨cl, cld, csl, hcell⟩ := D.cell
  have hcn : H cc = none := (e0.bs _ _ (e0.mod.kin _ _ hcell)).2
  have CA : NdefX.CellsAt F.cl ["__class__"] [none] s.heap H := by
    rw [hcl]
    have one : ∀ y c, List.lookup y [(("__class__" : Str), cc)] = some c → y = ("__class__" : Str) ∧ c = cc := fun y c h => by
      have z := PySem.mem_of_lookup h
      have z' := List.mem_singleton.mp z
      exact ⟨congrArg Prod.fst z', congrArg Prod.snd z'⟩
    refine ⟨rfl, fun y c h => ?_, fun x y c h1 h2 => (one _ _ h1).1.trans (one _ _ h2).1.symm, fun i y h => ?_⟩
    · obtain ⟨_, rfl⟩ := one _ _ h
      exact ⟨hcn, some (.ref C), _, KX _ _ hcell, rfl⟩
    · match i, h with
      | 0, h =>
        obtain rfl : ("__class__" : Str) = y := Option.some.inj h
        exact ⟨cc, rfl, fun v z => by cases z⟩
  obtain ⟨t, ht, hq⟩ := hbody A outer s H vs Q E (hr.deeper _) hsp
  obtain ⟨a, rr, hva, hHa⟩ := self _ _ _ _ hsp
  obtain ⟨pl, hpl⟩ := hev s.heap.objs.size
  refine PySem.ks_codeAny_call_defAt (fd := PySem.W.fnX F.name F.qual F.params F.body F.scope F.cl dV kV doc pm an (.ref F.c) ct) (body := F.body) (binds := ps.zip us)
    hr.depth (KX _ _ lk) rfl lim (PySem.W.codeRec_of KX hcd) rfl hb S.nocell (fun ⟨n, _⟩ hy => S.par n (List.of_mem_zip hy).1) (fun h₁ hns kp => ?_) S.co S.gen S.kind
  have I : Inv (ncx CX P w K mg base N F f A outer s H E) [] (startF N vs [none]) H { s with heap := h₁, toks := s.toks + (ps.zip us).length } := inv_startN S hr.hd e0 hl r CA hns kp
  rw [hbd]
  have first := sup_stmt (p5 := p5) (body := stSup p0 p1 p2 p3 p4 p5 j msg :: rest) (CX := CX) (outer := outer) (E := E) D hcl lk S.kind hks (S.frk _ (by simp)) hp h0 hka hpl hsup htop I (a := a) (by rw [hva]; rfl) hHa
  refine PySem.ks_wpAt_execs_cons (PySem.ks_wpAt_mono first (fun fl s' hh => ?_) fun _ _ z => z)
  obtain ⟨rfl, J⟩ := hh
  refine wpAt_of_wpAny ?_
  refine wpAny_mono (ht.run [] s' (startF N vs [none]) H _ J hq) (fun fl s' hs => ?_) fun e s' hs => hs
  have fin : ∀ {σ' : L2.St} {H' : Hp} {v : V} {u : Value}, Inv (ncx CX P w K mg base N F f A outer s H E) [] σ' H' s' → L2.RelV v u → Q v H' → CE outer P w H s Q u s' :=
    fun {σ' H' v u} J rv q => ⟨v, H', J.os, J.bare, J.base, J.hok, rv, q⟩
  cases fl with
  | ret u =>
    obtain ⟨v, σ', H', J, rv, q⟩ := hs
    exact fin J rv q
  | next =>
    obtain ⟨σ', H', J, q⟩ := hs
    exact fin (v := V.non) (u := Value.none) J rfl q
  | brk =>
    obtain ⟨_, _, _, q⟩ := hs
    exact False.elim q
  | cont =>
    obtain ⟨_, _, _, q⟩ := hs
    exact False.elim q
end
end Sup

set_option linter.all false
set_option maxRecDepth 100000
set_option maxHeartbeats 4000000
/-! several except clauses, with names and without -/
namespace Tr
open PySem PySem.Spec PyProof.Rows L2
abbrev Cl := Value × Option Nat × (Addr → Value → Option Addr → TS)
/-- the ends behind a suite whose name stood in slot i -/
def ends (D : Ends) : Option Nat → Ends
  | none => D
  | some i => { nx := fun σ' H' => D.nx (σ'.set i none) H', rt := D.rt, bk := fun σ' H' => D.bk (σ'.set i none) H', ct := fun σ' H' => D.ct (σ'.set i none) H' }
def named (σ : L2.St) (a : Addr) : Option Nat → L2.St
  | none => σ
  | some i => σ.set i (some (.ref a))
def wMix (K : PySem.W.Frag) (Wout : WX) (D : Ends) : List Cl → WX
  | [] => Wout
  | (c, n, ts) :: r => fun cls d σ H => ∃ b, PySem.W.exmOne K cls c = some b ∧ (b = true → ∀ a, H a = none → ts a cls d (ends D n) (named σ a n) H) ∧ (b = false → wMix K Wout D r cls d σ H)
inductive HdX (X : Cx) : List ExceptHandler → List Cl → Prop
  | nil : HdX X [] []
  | plain {x : Str} {c : Value} {ts : Addr → Value → Option Addr → TS} {b0 : Stmt} {suite : List Stmt} {np pos' : Pos} {hds : List ExceptHandler} {l : List Cl} (hc : Names X x c)
      (hsu : ∀ (a : Addr) (oe : Obj) (cls : Value) (d : Option Addr) (pn : List (Addr × Obj)), Zc cls d oe → (∃ vs, oe.data = .fields vs) → PSs (X.suite a ((a, oe) :: pn)) (b0 :: suite) (ts a cls d)) (r : HdX X hds l) :
      HdX X (.ExceptHandler (some (.Name x np)) none (b0 :: suite) pos' :: hds) ((c, none, ts) :: l)
  | as {x n : Str} {i : Nat} {c : Value} {ts : Addr → Value → Option Addr → TS} {b0 : Stmt} {suite : List Stmt} {np pos' : Pos} {hds : List ExceptHandler} {l : List Cl} (hN : X.N.Nodup) (hi : X.N[i]? = some n) (hln : X.env.kindOf n = some .local) (hc : Names X x c)
      (hsu : ∀ (a : Addr) (oe : Obj) (cls : Value) (d : Option Addr) (pn : List (Addr × Obj)), Zc cls d oe → (∃ vs, oe.data = .fields vs) → PSs (X.suite a ((a, oe) :: pn)) (b0 :: suite) (ts a cls d)) (r : HdX X hds l) :
      HdX X (.ExceptHandler (some (.Name x np)) (some n) (b0 :: suite) pos' :: hds) ((c, some i, ts) :: l)
section
variable {X : Cx} {body : List Stmt} {h0 : ExceptHandler} {hds : List ExceptHandler} {l : List Cl} {pos : Pos} {tb : WX → TS} {Wout : WX}
theorem ps_try_mix (hs : X.stack = X.env :: X.outer) (hf : X.env.frame = some X.env.locals) (tk : Takes X Wout)
    (hb : ∀ (W : WX) (pn : List (Addr × Obj)) (xe : Value → Shared → Prop), Takes (X.tr pn xe) W → PassesOwn (model X.prog X.w) X.A X.env xe → PSs (X.tr pn xe) body (tb W))
    (hh : HdX X (h0 :: hds) l) : PS X (.Try body (h0 :: hds) [] [] pos) (fun D σ H => tb (wMix X.K Wout D l) D σ H) := by
  refine ⟨fun pins s σ H D I h => wpAny_Try_except ?_⟩
  have ok := I.ok
  have hfr : X.A.frames = some (X.env :: X.outer) := by rw [ok.frames, hs]
  refine wpAny_mono ((hb (wMix X.K Wout D l) (X.pn ++ pins) (fun e t1 => wpAny (model X.prog X.w) X.A (noteFrame e X.env) (fun _ t2 => wpAny (model X.prog X.w) X.A (setFlight e none) (fun _ t3 =>
    wpAny (model X.prog X.w) X.A (handleBy e X.env (h0 :: hds)) (SP X pins D) X.xe t3) X.xe t2) X.xe t1) (fun u s' xx => ?_) PassesOwn.looking).run [] s σ H D (I.toTry _) h) (fun f s1 hsp => ?_) (fun _ _ he => he)
  · obtain ⟨a, B, sI, pins', σ', H', cls, d, rfl, J', nb, up, sky, na, os, ag, w⟩ := xx
    have J : Inv X pins σ' H' sI := J'.ofTry ok
    have sky2 : Sky B (X.env :: X.outer) a (Zc cls d) X.env.locals s'.heap := by
      rw [← hs]
      exact sky
    show wpAny (model X.prog X.w) X.A (noteFrame (.ref a) X.env) _ _ _
    refine Sky.land Zc.steady hfr hf sky2 fun h3 fl3 up3 => ?_
    have J3 : Inv X pins σ' H' { s' with heap := h3 } := J.landed nb fl3.1 (up.trans up3) os ag
    obtain ⟨oe3, vs3, he3, hz3, hd3⟩ := fl3.there
    have off : a ∉ frs (X.env :: X.outer) := fun hm => by
      obtain ⟨_, o', e', hnf⟩ := fl3.2.2.1.mem hm
      rw [he3] at e'
      cases e'
      exact hnf _ hd3
    have nL : a ≠ X.env.locals := fun z => off (List.mem_filterMap.mpr ⟨X.env, List.mem_cons_self, by rw [hf, z]⟩)
    have nF : a ∉ X.fs := fun hm => by
      obtain ⟨e, he, q⟩ := List.mem_filterMap.mp hm
      exact off (List.mem_filterMap.mpr ⟨e, List.mem_cons_of_mem _ he, q⟩)
    have S3 := J3.suite he3 hd3 na nL nF
    have LT : PySem.W.Looks (model X.prog X.w) h3 (typeOf (.ref a)) cls := fun A Q E s k q => wpAny_typeOf_ref (k _ _ he3) (by rw [hz3.1]; exact q)
    have look : ∀ {x : Str} {c : Value} {np : Pos}, Names X x c → ∀ {Q : Value → Shared → Prop} {E : Value → Shared → Prop}, Q c { s' with heap := h3 } →
        wpAny (model X.prog X.w) (X.A.mark (some (.ref a))) (eval (.Name x np) X.env) Q E { s' with heap := h3 } := fun {x c np} hc {Q E} q => by
      obtain ⟨hg, hdbg, hm | ⟨hm, hv, hnn⟩⟩ := hc
      · exact ld_glob (X := X.suite a ((a, oe3) :: (X.pn ++ pins))) S3 hg hm q hdbg
      · exact ld_blt (X := X.suite a ((a, oe3) :: (X.pn ++ pins))) S3 hg hm hv q hnn hdbg
    have go : ∀ {hds' : List ExceptHandler} {l' : List Cl}, HdX X hds' l' → wMix X.K Wout D l' cls d σ' H' →
        wpAny (model X.prog X.w) X.A (handleBy (.ref a) X.env hds') (SP X pins D) X.xe { s' with heap := h3 } := by
      intro hds' l' hk
      induction hk with
      | nil =>
        intro w
        refine wpAny_handleBy_nil ?_
        obtain ⟨k1, k2, k3, oe, vs, T, oT, ts', he, hz, hd, h1, hr⟩ := id fl3
        unfold PySem.passOn
        refine wpAny_bind (wpAny_field he hd h1 ?_)
        rw [if_neg (show ¬ ((Value.ref T == Value.none) = true) from by simp)]
        have fin : wpAny (model X.prog X.w) X.A (setFlight (.ref a) X.env.frame) (fun _ s4 => wpAny (model X.prog X.w) X.A (throw (.ref a) : Sem Flow) (SP X pins D) X.xe s4) X.xe { s' with heap := h3 } := by
          rw [hf]
          refine HandSPX.setFlight_upZ fl3 fun h4 hh4 up4 => wpAny_throw (tk _ _ ?_)
          exact ⟨a, B, sI, pins, σ', H', cls, d, rfl, J, nb, (up.trans up3).trans up4, .inr (.inr (by rw [hs]; exact hh4)), na, os, ag, w⟩
        first
          | exact wpAny_bind (wpAny_pure (wpAny_bind fin))
          | exact wpAny_bind fin
      | @plain x c ts b0 suite np pos' hds2 l2 hc hsu r ih =>
        intro w
        obtain ⟨b, hb1, hyes, hno⟩ := w
        refine wpAny_handleBy_cons (codeAny_handlers_test (look hc ((PySem.W.exm_one (M := model X.prog X.w) J3.kIn LT hb1).here ?_))) (by intro q; cases q)
        cases b with
        | true =>
          refine codeAny_handlers_suite (HandSPX.lands_againZ fl3 fun h4 fl4 up4 => ?_)
          have J4 : Inv X pins σ' H' { s' with heap := h4 } := J.landed nb fl4.1 ((up.trans up3).trans up4) os ag
          obtain ⟨oe4, vs4, he4, hz4, hd4⟩ := fl4.there
          refine wpAny_mono ((hsu a oe4 cls d (X.pn ++ pins) hz4 ⟨_, hd4⟩).run [] _ _ H' _ (J4.suite he4 hd4 na nL nF) (hyes rfl a na)) (fun f s6 hsp => ?_) (fun _ _ z => False.elim z)
          match f, hsp with
          | .next, ⟨σ6, H6, S6, q6⟩ => exact ⟨_, _, S6.unsuite ok, q6⟩
          | .brk, ⟨σ6, H6, S6, q6⟩ => exact ⟨_, _, S6.unsuite ok, q6⟩
          | .cont, ⟨σ6, H6, S6, q6⟩ => exact ⟨_, _, S6.unsuite ok, q6⟩
          | .ret u, ⟨v6, σ6, H6, S6, r6, q6⟩ => exact ⟨_, _, _, S6.unsuite ok, r6, q6⟩
        | false =>
          show wpAny _ X.A (handleBy (.ref a) X.env hds2) _ _ _
          exact ih (hno rfl)
      | @as x n i c ts b0 suite np pos' hds2 l2 hN hi hln hc hsu r ih =>
        intro w
        obtain ⟨b, hb1, hyes, hno⟩ := w
        refine wpAny_handleBy_cons (codeAny_handlers_test (look hc ((PySem.W.exm_one (M := model X.prog X.w) J3.kIn LT hb1).here ?_))) (by intro q; cases q)
        cases b with
        | true =>
          refine codeAny_handlers_suite_as (HandSPX.lands_againZ fl3 fun h4 fl4 up4 => ?_)
          have J4 : Inv X pins σ' H' { s' with heap := h4 } := J.landed nb fl4.1 ((up.trans up3).trans up4) os ag
          obtain ⟨oe4, vs4, he4, hz4, hd4⟩ := fl4.there
          refine store_ok (X := X.suite a ((a, oe4) :: (X.pn ++ pins))) (v := .ref a) (J4.suite he4 hd4 na nL nF) hN hi (.inl hln) rfl (fun s5 S5 => ?_) (.inr hln)
          refine wpAny_mono ((hsu a oe4 cls d (X.pn ++ pins) hz4 ⟨_, hd4⟩).run [] s5 _ H' _ S5 (hyes rfl a na)) (fun f s6 hsp => ?_) (fun _ _ z => False.elim z)
          have over : ∀ {σ6 : L2.St} {H6 : Hp} {Q : Shared → Prop}, Inv (X.suite a ((a, oe4) :: (X.pn ++ pins))) [] σ6 H6 s6 → (∀ s7, Inv X pins (σ6.set i none) H6 s7 → Q s7) →
              wpAny (model X.prog X.w) X.A (do bindName X.env n .none; unbindBehindTheSuite X.env n pos') (fun _ s7 => Q s7) X.xe s6 := fun {σ6 H6 Q} S6 hq => gone_ok (S6.unsuite ok) hN hi hln hq
          match f, hsp with
          | .next, ⟨σ6, H6, S6, q6⟩ => exact over S6 fun s7 J7 => ⟨_, _, J7, q6⟩
          | .brk, ⟨σ6, H6, S6, q6⟩ => exact over S6 fun s7 J7 => ⟨_, _, J7, q6⟩
          | .cont, ⟨σ6, H6, S6, q6⟩ => exact over S6 fun s7 J7 => ⟨_, _, J7, q6⟩
          | .ret u, ⟨v6, σ6, H6, S6, r6, q6⟩ => exact over S6 fun s7 J7 => ⟨_, _, _, J7, r6, q6⟩
        | false =>
          show wpAny _ X.A (handleBy (.ref a) X.env hds2) _ _ _
          exact ih (hno rfl)
    exact go hh w
  · match f, hsp with
    | .next, ⟨σ', H', J', q⟩ => exact wpAny_execs_nil ⟨σ', H', J'.ofTry ok, q⟩
    | .brk, ⟨σ', H', J', q⟩ => exact ⟨σ', H', J'.ofTry ok, q⟩
    | .cont, ⟨σ', H', J', q⟩ => exact ⟨σ', H', J'.ofTry ok, q⟩
    | .ret u, ⟨v, σ', H', J', r, q⟩ => exact ⟨v, σ', H', J'.ofTry ok, r, q⟩
end
section
variable {X : Cx}
theorem pmk_of {CX : CXT} {x : Str} {C fI : Addr} {k : Nat} {fd : FuncData} {ps : List Str} {sp : Sp} {e : Expr} {es : List Expr} {ta : TA} {p pos : Pos} (MK : Exv.MkOk X.prog X.w X.K C fI) (kC : PySem.W.keepIn X.K (.ref C) = true) (R : Raises X (.ref C))
    (F1 : FnOk X.prog X.w X.K X.mg X.base CX k fI fd ps sp) (hr : Room (k + 1) X.A) (hb : Binds X.K fd ps []) (hx : Passes CX X (fun _ _ _ => False)) (hg : Gl X x) (hm : X.mg x = some (.ref C)) (ha : PA X (e :: es) ta)
    (hdb : (x == ("__debug__" : Str)) = false := by decide) (he : starEach (e :: es) X.env = (false, eval e X.env) :: starEach es X.env := by rfl) (hpl : (backTo pos (starEach es X.env)).any (·.1) = false := by rfl) :
    PMk X (.Call (.Name x p) (e :: es) [] pos) (tMkO C sp [] ta) := by
  intro pins s σ H Q I h
  refine wpAny_Call_Name_kw (ld_glob I hg hm ?_ hdb)
  refine PySem.W.callWith_K (h₀ := X.base) I.ok.mod.kin kC (thn (ha.run pos pins s σ H _ I h) fun us s1 hh => ?_) he hpl
  obtain ⟨vs, H1, I1, r1, hz, q1⟩ := hh
  refine ⟨I1.kIn, ?_⟩
  show wpAny _ _ (call (.ref C) us) _ _ _
  obtain ⟨hp, g, dr, tk, os⟩ := s1
  have up1 : hp.objs.size ≤ hp.objs.size + 1 := Nat.le_succ _
  have hq0 := q1 (hp.objs.size + 1) (I1.hok.fresh up1)
  rw [List.append_nil] at hq0
  have kk : ∀ b o, hp.get? b = some o → ((hp.push (PySem.W.kdv_tup us)).push (PySem.HandSPX.excO C hp.objs.size)).get? b = some o := fun b o z =>
    Heap.get?_push_of_some _ (Heap.get?_push_of_some _ z)
  have hat : ((hp.push (PySem.W.kdv_tup us)).push (PySem.HandSPX.excO C hp.objs.size)).get? (hp.objs.size + 1) = some (PySem.HandSPX.excO C hp.objs.size) := by heap_get
  have I2 : Inv X pins σ (upd H1 (hp.objs.size + 1) (exo (hp.objs.size + 1) C none)) ⟨(hp.push (PySem.W.kdv_tup us)).push (PySem.HandSPX.excO C hp.objs.size), g, dr, tk, os⟩ := I1.laid (t' := tk) (a := hp.objs.size + 1) (o := exo (hp.objs.size + 1) C none)
    (h' := (hp.push (PySem.W.kdv_tup us)).push (PySem.HandSPX.excO C hp.objs.size)) kk up1 (exo_ok hat)
  have r2 : Vals (V.ref (hp.objs.size + 1) :: vs) (Value.ref (hp.objs.size + 1) :: us) :=
    .cons rfl r1
  have hl : (Value.ref (hp.objs.size + 1) :: us).length = ps.length := by
    rw [← r2.length]
    exact F1.len _ _ _ _ hq0
  have hus : us.length ≤ sizeLine := Nat.le_trans (Nat.le_of_eq (Paired.length r1).symm) (Nat.le_trans hz (by rw [sizeLine_eq]; decide))
  refine wpAny_call (MK _ _ hp g dr tk os us I1.kIn hus (codeAny_mono (F1.run _ X.stack _ _ ⟨Value.ref (hp.objs.size + 1) :: us, []⟩ (Value.ref (hp.objs.size + 1) :: us) _ _ (fun _ _ _ => False)
    (hr.make C us []) (I2.env0.make C us []) (by have z := hb _ (Value.ref (hp.objs.size + 1) :: us) I2.kIn (by rw [List.append_nil]; exact hl); rw [List.append_nil] at z; exact z) r2 hq0) fun r s' hq' => ?_))
  match r, hq' with
  | .error er, hq' => exact hx pins σ _ _ er s' I2 hq'
  | .ok (.ret u), ⟨v, H2, os2, bare2, un2, hok2, rv, ev, d, fs, ea, ed, hd1, q2⟩ =>
    subst ev
    obtain ⟨h2, g2, d2, t2, os'⟩ := s'
    exact ⟨rv, mk_end R I1 up1 kk un2 hok2 os2 bare2 ea ed hd1 q2⟩
  | .ok .next, hq' => exact False.elim hq'
  | .ok .brk, hq' => exact False.elim hq'
  | .ok .cont, hq' => exact False.elim hq'
end
end Tr

set_option linter.all false
set_option maxRecDepth 100000
set_option maxHeartbeats 8000000
namespace Gx
open PySem PySem.Spec PyProof.Rows L2
/-! what hangs on no program's top: texts, words, events, boxes, promises -/
structure Nm (mg : Str → Option Value) : Prop where
  n_len : mg "len" = none
  n_abs : mg "abs" = none
  n_int : mg "int" = none
def BoxAt (H : Hp) (p : Addr) (m : Nat) : Prop := ∃ c sd n : Int, H p = some (.lst [.int c, .int sd, .int n]) ∧ 0 ≤ c ∧ 0 < sd ∧ sd ≤ 2147483629 ∧ 0 ≤ n ∧ n ≤ m
def spTake : Sp := fun vs H Q _ => ∃ (p : Addr) (many : Int) (m : Nat), vs = [.ref p, .int many] ∧ BoxAt H p m ∧ m ≤ 1000000 ∧ 0 < many ∧ many < 1073741824 ∧
  ∀ (d : Int) (H' : Hp), 0 ≤ d → d < many → BoxAt H' p (m + 1) → (∀ b, b ≠ p → H' b = H b) → Q (.int d) H'
def spBox (K : PySem.W.Frag) : Sp := fun vs H Q _ => ∃ (l : Addr) (ns : List Int) (k own : Nat), vs = [.ref l, .int (k : Int), .int (own : Int)] ∧ SqL K H l (ns.map V.int) ∧ k ≤ 1000 ∧ own ≤ 1000 ∧
  ∀ (p : Addr) (H' : Hp), H p = none → Same H H' → BoxAt H' p 0 → Q (.ref p) H'
theorem atInt {ns : List Int} {j : Nat} (h : j < ns.length) : atI (ns.map V.int) (j : Int) = some (.int ns[j]) := by
  apply atI_nat
  rw [List.getElem?_map, List.getElem?_eq_getElem h]
  rfl
theorem abs_nn (i : Int) : 0 ≤ (if i < 0 then -i else i) := by split <;> omega
theorem new_same {H : Hp} {p : Addr} {o : HO} (h : H p = none) : Same H (upd H p o) := fun b x e => by
  rw [upd_ne (ne_of_none e h)]
  exact e
theorem sIx {i : Int} {n : Nat} (h0 : 0 ≤ i) (h1 : i < (n : Nat)) : seqIndex? i n = some i.toNat := by
  unfold seqIndex?
  have h : ¬ i < 0 := by omega
  simp only [h, if_false]
  rw [if_pos (by rw [Bool.and_eq_true]; exact ⟨decide_eq_true h0, decide_eq_true h1⟩)]
structure NmM (mg : Str → Option Value) (K : PySem.W.Frag) (ft : Addr) : Prop where
  g__law_take : mg "_law_take" = some (.ref ft)
  k__law_take : PySem.W.keepIn K (.ref ft) = true
  n_list : mg "list" = none
  n_range : mg "range" = none
  n_len : mg "len" = none
def spMixed (K : PySem.W.Frag) : Sp := fun vs H Q _ => ∃ (p l : Addr) (xs : List V) (m : Nat), vs = [.ref p, .ref l] ∧ BoxAt H p m ∧ SqL K H l xs ∧ xs.length ≤ 100 ∧ m ≤ 10000 ∧
  ∀ (r : Addr) (ys : List V) (H' : Hp), H r = none → H' r = some (.lst ys) → ys.length = xs.length → (∀ y ∈ ys, y ∈ xs) → BoxAt H' p (m + xs.length) → (∀ b o, b ≠ p → H b = some o → H' b = some o) → Q (.ref r) H'
def repS (c n : Nat) : Str := ⟨(List.replicate n c).toArray⟩
theorem fold_rep (c : Nat) : ∀ (n : Nat) (a : Array Nat), (List.replicate n #[c]).foldl (· ++ ·) a = a ++ (List.replicate n c).toArray
  | 0, a => by simp
  | n + 1, a => by
    rw [List.replicate_succ, List.foldl_cons, fold_rep c n, List.replicate_succ]
    apply Array.ext'
    simp
def rRepS : R2 := fun x y H Q => ∃ (c n : Nat), x = .str ⟨#[c]⟩ ∧ y = .int (n : Nat) ∧ 1 ≤ n ∧ n ≤ 1000 ∧ Q (.str (repS c n)) H
theorem op_repS {X : Cx} : OpR X (binaryOp .Mult) rRepS := by
  intro pins s σ H x y v u Q I rx ry h
  obtain ⟨c, n, rfl, rfl, h1, h2, q⟩ := h
  obtain ⟨t, rfl⟩ := rx
  obtain ⟨t', rfl⟩ := ry
  have hl : (⟨#[c]⟩ : Str).length = 1 := rfl
  refine PySem.P.mul_str ?_ ?_ ?_ ?_
  · rw [decide_eq_false (by omega), decide_eq_false (by omega)]
    rfl
  · intro _ _
    rw [hl]
    have : (0 : Int) < (n : Nat) := by omega
    intro hh
    have h3 : ((2 : Int) ^ 63 - 1) / (n : Nat) < 1 := by exact hh
    have h4 : ((2 : Int) ^ 63 - 1) < 1 * (n : Nat) := (Int.ediv_lt_iff_lt_mul this).mp h3
    omega
  · intro _ _
    rw [hl, Int.toNat_natCast, Nat.one_mul]
    unfold PySem.Builtin.Str.tooLong
    exact decide_eq_false (by rw [sizeLine_eq]; omega)
  · rw [if_neg (by omega)]
    split
    · rename_i hc
      have e1 : n = 1 := by
        simp [hl] at hc
        omega
      subst e1
      exact ⟨.str (repS c 1), H, I.tok _, ⟨_, rfl⟩, q⟩
    · rw [Int.toNat_natCast, show (List.replicate n (⟨#[c]⟩ : Str).cps).foldl (· ++ ·) #[] = (List.replicate n c).toArray from by rw [fold_rep]; simp]
      exact ⟨by show (List.replicate n c).toArray.size ≤ sizeLine; rw [List.size_toArray, List.length_replicate, sizeLine_eq]; omega, .str (repS c n), H, I.tok _, ⟨_, rfl⟩, q⟩
def nameB (z : Str) : Bool := decide (0 < z.cps.size) && (decide (z.cps.size < 9) && (z.cps.toList.all (fun c => decide (97 ≤ c) && decide (c ≤ 122)) && (!decide (z = "any") && (!decide (z = "other") && !decide (z = "where")))))
theorem repS_size (c n : Nat) : (repS c n).cps.size = n := by
  show (List.replicate n c).toArray.size = n
  rw [List.size_toArray, List.length_replicate]
theorem repS_ne {c n : Nat} {z : Str} {i j a b : Nat} (hi : z.cps[i]? = some a) (hj : z.cps[j]? = some b) (hab : a ≠ b) : repS c n ≠ z := fun e => by
  subst e
  have h1 : (List.replicate n c)[i]? = some a := by rw [← List.getElem?_toArray]; exact hi
  have h2 : (List.replicate n c)[j]? = some b := by rw [← List.getElem?_toArray]; exact hj
  have e1 := List.eq_of_mem_replicate (List.mem_of_getElem? h1)
  have e2 := List.eq_of_mem_replicate (List.mem_of_getElem? h2)
  exact hab (e1.trans e2.symm)
theorem nameB_rep {c n : Nat} (h0 : 97 ≤ c) (h1 : c ≤ 122) (h2 : 1 ≤ n) (h3 : n ≤ 8) : nameB (repS c n) = true := by
  unfold nameB
  rw [repS_size]
  simp only [Bool.and_eq_true, decide_eq_true_eq, Bool.not_eq_true', decide_eq_false_iff_not]
  refine ⟨by omega, by omega, ?_, ?_, ?_, ?_⟩
  · rw [List.all_eq_true]
    intro x hx
    have e : x = c := List.eq_of_mem_replicate (show x ∈ List.replicate n c from hx)
    rw [e, Bool.and_eq_true]
    exact ⟨decide_eq_true h0, decide_eq_true h1⟩
  · exact repS_ne (i := 0) (j := 1) (a := 97) (b := 110) (by decide +kernel) (by decide +kernel) (by decide)
  · exact repS_ne (i := 0) (j := 1) (a := 111) (b := 116) (by decide +kernel) (by decide +kernel) (by decide)
  · exact repS_ne (i := 0) (j := 1) (a := 119) (b := 104) (by decide +kernel) (by decide +kernel) (by decide)
theorem BoxAt.le {H : Hp} {p : Addr} {m m' : Nat} (h : BoxAt H p m) (k : m ≤ m') : BoxAt H p m' := by
  obtain ⟨c, sd, n, e, a, b, d, f, g⟩ := h
  exact ⟨c, sd, n, e, a, b, d, f, by omega⟩
theorem BoxAt.mono {H H' : Hp} {p : Addr} {m : Nat} (h : BoxAt H p m) (s : Same H H') : BoxAt H' p m := by
  obtain ⟨c, sd, n, e, a⟩ := h
  exact ⟨c, sd, n, s _ _ e, a⟩
theorem BoxAt.ne {H : Hp} {p q : Addr} {m : Nat} (h : BoxAt H p m) (n : H q = none) : p ≠ q := fun z => by
  obtain ⟨_, _, _, e, _⟩ := h
  rw [z, n] at e
  cases e
theorem letters_at : ∀ i, i < 26 → ("abcdefghijklmnopqrstuvwxyz" : Str).cps.toList[i]? = some (97 + i) := by decide +kernel
theorem keep1' {σ : L2.St} {H : Hp} {A B : Hp → Prop} (h : A H) : tYes σ H (fun b H3 => if b = true then A H3 else B H3) := by
  show (if true = true then A H else B H)
  rw [if_pos rfl]
  exact h
structure NmN (mg : Str → Option Value) (K : PySem.W.Frag) (ft fx : Addr) : Prop where
  g__law_take : mg "_law_take" = some (.ref ft)
  k__law_take : PySem.W.keepIn K (.ref ft) = true
  g__law_mixed : mg "_law_mixed" = some (.ref fx)
  k__law_mixed : PySem.W.keepIn K (.ref fx) = true
  n_int : mg "int" = none
  n_range : mg "range" = none
def spNames : Sp := fun vs H Q _ => ∃ (p : Addr) (many m : Nat), vs = [.ref p, .int (many : Nat)] ∧ BoxAt H p m ∧ m ≤ 1000 ∧ 1 ≤ many ∧ many ≤ 8 ∧
  ∀ (r : Addr) (zs : List Str) (H' : Hp), H r = none → H' r = some (.lst (zs.map V.str)) → zs.length = many → (∀ z ∈ zs, nameB z = true) → BoxAt H' p (m + 20) → (∀ b o, b ≠ p → H b = some o → H' b = some o) → Q (.ref r) H'
abbrev Ev := Option (Str × Nat)
def evV : Ev → List V
  | none => [.str "close"]
  | some (z, m) => [.str "open", .str z, .int (m : Nat)]
def evD : Ev → PyData
  | none => .tuple [.str "close"]
  | some (z, m) => .tuple [.str "open", .str z, .int (m : Nat)]
def EvOk : Ev → Prop
  | none => True
  | some (z, m) => nameB z = true ∧ m < 10 ^ 9
def EvAt (H : Hp) (v : V) (e : Ev) : Prop := ∃ a, v = .ref a ∧ H a = some (.tup (evV e))
inductive EvsAt (H : Hp) : List V → List Ev → Prop
  | nil : EvsAt H [] []
  | cons {v : V} {vs : List V} {e : Ev} {es : List Ev} : EvAt H v e → EvsAt H vs es → EvsAt H (v :: vs) (e :: es)
theorem EvAt.mono {H H' : Hp} {v : V} {e : Ev} (h : EvAt H v e) (s : ∀ a xs, H a = some (.tup xs) → H' a = some (.tup xs)) : EvAt H' v e := by
  obtain ⟨a, rfl, ha⟩ := h
  exact ⟨a, rfl, s _ _ ha⟩
theorem EvsAt.mono {H H' : Hp} {vs : List V} {es : List Ev} (h : EvsAt H vs es) (s : ∀ a xs, H a = some (.tup xs) → H' a = some (.tup xs)) : EvsAt H' vs es := by
  induction h with
  | nil => exact .nil
  | cons a _ ih => exact .cons (a.mono s) ih
theorem EvsAt.snoc {H : Hp} {vs : List V} {es : List Ev} {v : V} {e : Ev} (h : EvsAt H vs es) (k : EvAt H v e) : EvsAt H (vs ++ [v]) (es ++ [e]) := by
  induction h with
  | nil => exact .cons k .nil
  | cons a _ ih => exact .cons a ih
theorem EvsAt.length {H : Hp} {vs : List V} {es : List Ev} (h : EvsAt H vs es) : vs.length = es.length := by
  induction h with
  | nil => rfl
  | cons _ _ ih => rw [List.length_cons, List.length_cons, ih]
theorem EvsAt.get {H : Hp} {vs : List V} {es : List Ev} (h : EvsAt H vs es) : ∀ {i : Nat} {v : V}, vs[i]? = some v → ∃ e, es[i]? = some e ∧ EvAt H v e := by
  induction h with
  | nil => intro i v hv; simp at hv
  | cons a _ ih =>
    intro i v hv
    cases i with
    | zero =>
      have z := Option.some.inj hv
      exact ⟨_, rfl, by rw [← z]; exact a⟩
    | succ i => exact ih hv
theorem keepT {H H' : Hp} {p : Addr} {m : Nat} (hb : BoxAt H p m) (k : ∀ b o, b ≠ p → H b = some o → H' b = some o) : ∀ a xs, H a = some (.tup xs) → H' a = some (.tup xs) := fun a xs e => k a _ (fun z => by
  obtain ⟨_, _, _, e2, _⟩ := hb
  rw [z, e2] at e
  cases e) e
structure NmR (mg : Str → Option Value) (K : PySem.W.Frag) (ft : Addr) : Prop where
  g__law_take : mg "_law_take" = some (.ref ft)
  k__law_take : PySem.W.keepIn K (.ref ft) = true
  n_range : mg "range" = none
  n_len : mg "len" = none
def spRow : Sp := fun vs H Q _ => ∃ (p l : Addr) (zs : List Str) (m : Nat), vs = [.ref p, .ref l] ∧ BoxAt H p m ∧ H l = some (.lst (zs.map V.str)) ∧ 1 ≤ zs.length ∧ zs.length ≤ 100 ∧ (∀ z ∈ zs, nameB z = true) ∧ m ≤ 10000 ∧
  ∀ (r : Addr) (vs' : List V) (es : List Ev) (H' : Hp), H r = none → H' r = some (.lst vs') → EvsAt H' vs' es → es.length ≤ 20 → (∀ e ∈ es, EvOk e) → BoxAt H' p (m + 100) → (∀ b o, b ≠ p → H b = some o → H' b = some o) → Q (.ref r) H'
def wordS : Ev → Str
  | none => "/"
  | some (z, m) => z ++ ":" ++ (toString ((m : Nat) : Int) : String)
def textS (es : List Ev) : Str := Txt.join " " (es.map wordS)
theorem num_len {m : Nat} (h : m < 10 ^ 9) : ((toString ((m : Nat) : Int) : String) : Str).length ≤ 9 := by
  have e := TL.numL_len (n := m) (k := 9) (by decide) h
  rw [← TL.tl_num] at e
  exact e
theorem name_len {z : Str} (h : nameB z = true) : z.length ≤ 8 := by
  unfold nameB at h
  simp only [Bool.and_eq_true, decide_eq_true_eq] at h
  have := h.2.1
  show z.cps.size ≤ 8
  omega
theorem len_app (x y : Str) : (x ++ y).length = x.length + y.length := by
  show (x.cps ++ y.cps).size = _
  rw [Array.size_append]
  rfl
theorem word_len {e : Ev} (h : EvOk e) : (wordS e).length ≤ 18 := by
  match e, h with
  | none, _ => exact (by decide +kernel : ("/" : Str).length ≤ 18)
  | some (z, m), h =>
    have h1 := name_len h.1
    have h2 := num_len h.2
    have h3 : (":" : Str).length = 1 := by decide +kernel
    show (z ++ ":" ++ _).length ≤ 18
    rw [len_app, len_app]
    omega
theorem words_len : ∀ {es : List Ev}, (∀ e ∈ es, EvOk e) → ((es.map wordS).map (·.length)).sum ≤ 18 * es.length
  | [], _ => Nat.zero_le _
  | e :: es, h => by
    have h1 := word_len (h e (List.mem_cons_self ..))
    have h2 := words_len (es := es) fun x hx => h x (List.mem_cons_of_mem _ hx)
    rw [List.map_cons, List.map_cons, List.sum_cons, List.length_cons]
    omega
theorem take_snoc {α : Type} {l : List α} {i : Nat} {x : α} (h : l[i]? = some x) : l.take (i + 1) = l.take i ++ [x] := by
  rw [List.take_add_one, h]
  rfl
structure NmT (mg : Str → Option Value) : Prop where
  n_len : mg "len" = none
  n_str : mg "str" = none
def rLenK (K : PySem.W.Frag) : List V → Hp → VK → Prop := fun xs H Q => ∃ p ys, xs = [.ref p] ∧ (SqL K H p ys ∨ SqT K H p ys) ∧ Q (.int ys.length) H
def rAddStr : R2 := fun x y H Q => ∃ i j, x = .str i ∧ y = .str j ∧ i.length + j.length ≤ sizeLine ∧ Q (.str (i ++ j)) H
def rStrI : List V → Hp → VK → Prop := fun xs H Q => ∃ i, xs = [.int i] ∧ i.natAbs.log2 < 1920 ∧ Q (.str (toString i)) H
def teText (K : PySem.W.Frag) : TE := tIf (tTest (tOp (rI0 fun i j => .bl (decide (j < i))) (tCB (rLenK K) (tCons (tVar 1) tNil)) (tC (.int 1)))) (tOp rAddStr (tOp rAddStr (tOp (rIxT K) (tVar 1) (tC (.int 1))) (tC (.str ":"))) (tCB rStrI (tCons (tOp (rIxT K) (tVar 1) (tC (.int 2))) tNil))) (tC (.str "/"))
def spText : Sp := fun vs H Q _ => ∃ (r : Addr) (vs' : List V) (es : List Ev), vs = [.ref r] ∧ H r = some (.lst vs') ∧ EvsAt H vs' es ∧ es.length ≤ 1000 ∧ (∀ e ∈ es, EvOk e) ∧ ∀ H' : Hp, Same H H' → Q (.str (textS es)) H'
def Asc (z : Str) : Prop := ∀ c ∈ z.cps.toList, c < 256
theorem in3 (z a b c : Str) : inV (.str z) [.str a, .str b, .str c] = (decide (a = z) || (decide (b = z) || decide (c = z))) := by
  show ((a == z) || ((b == z) || ((c == z) || false))) = _
  rw [Bool.or_false]
  rfl
theorem depth_strs : ∀ ss : List Str, PyData.depthAll (ss.map PyData.str) = 0
  | [] => rfl
  | x :: ss => by
    rw [List.map_cons]
    unfold PyData.depthAll
    rw [depth_strs ss]
    rfl
theorem shaped_strs {ss : List Str} (h : ∀ z ∈ ss, Asc z) : SeqAt.shaped (.list (ss.map PyData.str)) = true := by
  unfold SeqAt.shaped
  rw [Bool.and_eq_true]
  refine ⟨?_, decide_eq_true ?_⟩
  · show PyData.canLayAll0 _ = true
    rw [canLayAll_strs', List.all_eq_true]
    intro z hz
    show z.cps.all _ = true
    rw [← Array.all_toList, List.all_eq_true]
    intro c hc
    have := h z hz c hc
    exact decide_eq_true (by omega)
  · unfold PyData.depth
    rw [depth_strs]
    decide
theorem dp_strs {K : PySem.W.Frag} {H : Hp} : ∀ ss : List Str, DpAll K H (ss.map V.str) (ss.map PyData.str)
  | [] => .nil
  | x :: ss => .cons (.str x) (dp_strs ss)
theorem eqv_nil (ss : List Str) : PyData.eqv (.list (ss.map PyData.str)) (.list []) = ss.isEmpty := by
  cases ss with
  | nil => rfl
  | cons x ss => rfl
def signs (L : List Nat) : List Str := L.map fun c => ⟨#[c]⟩
theorem nameB_eq (z : Str) : nameB z = (!(decide ("any" = z) || (decide ("other" = z) || decide ("where" = z))) && (decide (0 < z.length) && (decide (z.length < 9) && z.cps.toList.all fun c => decide (97 ≤ c) && decide (c ≤ 122)))) := by
  unfold nameB
  have e1 : decide (z = "any") = decide ("any" = z) := decide_eq_decide.mpr eq_comm
  have e2 : decide (z = "other") = decide ("other" = z) := decide_eq_decide.mpr eq_comm
  have e3 : decide (z = "where") = decide ("where" = z) := decide_eq_decide.mpr eq_comm
  rw [e1, e2, e3]
  show (decide (0 < z.length) && (decide (z.length < 9) && _)) = _
  generalize decide (0 < z.length) = a
  generalize decide (z.length < 9) = b
  generalize (z.cps.toList.all fun c => decide (97 ≤ c) && decide (c ≤ 122)) = c
  generalize decide ("any" = z) = x
  generalize decide ("other" = z) = y
  generalize decide ("where" = z) = u
  cases a <;> cases b <;> cases c <;> cases x <;> cases y <;> cases u <;> rfl
theorem letters_mem (c : Nat) : (c ∈ ("abcdefghijklmnopqrstuvwxyz" : Str).cps.toList) ↔ 97 ≤ c ∧ c ≤ 122 := by
  constructor
  · intro h
    exact (by decide +kernel : ∀ x ∈ ("abcdefghijklmnopqrstuvwxyz" : Str).cps.toList, 97 ≤ x ∧ x ≤ 122) c h
  · intro ⟨h1, h2⟩
    have h := letters_at (c - 97) (by omega)
    rw [show 97 + (c - 97) = c from by omega] at h
    exact List.mem_of_getElem? h
theorem filter_nil {L : List Nat} {p q : Nat → Bool} (h : ∀ c ∈ L, p c = !q c) : (signs (L.filter p)).isEmpty = L.all q := by
  induction L with
  | nil => rfl
  | cons c L ih =>
    rw [List.filter_cons, List.all_cons]
    have hc := h c (List.mem_cons_self ..)
    have := ih fun x hx => h x (List.mem_cons_of_mem _ hx)
    cases hq : q c with
    | true =>
      rw [hq] at hc
      rw [hc]
      exact this
    | false =>
      rw [hq] at hc
      rw [hc]
      rfl
def spIs (B : Str → Bool) : Sp := fun vs H Q _ => ∃ z : Str, vs = [.str z] ∧ z.length ≤ 1000 ∧ Asc z ∧ ∀ H' : Hp, Same H H' → Q (.bl (B z)) H'
def ttNot (j : Nat) : TT := tTest (tOp (fun x y H Q => ∃ (c : Nat) (z : Str), x = .str ⟨#[c]⟩ ∧ y = .str z ∧ Q (.bl (!decide (c ∈ z.cps.toList))) H) (tVar 2) (tVar 1))
def figB (z : Str) : Bool := decide (0 < z.length) && (decide (z.length < 13) && ((z.cps.toList.all fun c => decide (48 ≤ c) && decide (c ≤ 57)) && (decide (z = "0") || !decide (z.cps.toList[0]? = some 48))))
theorem digits_mem (c : Nat) : (c ∈ ("0123456789" : Str).cps.toList) ↔ 48 ≤ c ∧ c ≤ 57 := by
  constructor
  · intro h
    exact (by decide +kernel : ∀ x ∈ ("0123456789" : Str).cps.toList, 48 ≤ x ∧ x ≤ 57) c h
  · intro ⟨h1, h2⟩
    have h := (by decide +kernel : ∀ i, i < 10 → ("0123456789" : Str).cps.toList[i]? = some (48 + i)) (c - 48) (by omega)
    rw [show 48 + (c - 48) = c from by omega] at h
    exact List.mem_of_getElem? h
def ttDig : TT := tTest (tOp (fun x y H Q => ∃ (c : Nat) (z : Str), x = .str ⟨#[c]⟩ ∧ y = .str z ∧ Q (.bl (!decide (c ∈ z.cps.toList))) H) (tVar 1) (tC (.str "0123456789")))
def mkS (L : List Nat) : Str := ⟨L.toArray⟩
def cut : List Nat → Option (List Nat × List Nat)
  | [] => none
  | c :: r => if c = 58 then some ([], r) else (cut r).map fun p => (c :: p.1, p.2)
theorem cut_some : ∀ {L a b : List Nat}, cut L = some (a, b) → L = a ++ 58 :: b ∧ 58 ∉ a
  | [], _, _, h => by cases h
  | c :: r, a, b, h => by
    unfold cut at h
    by_cases hc : c = 58
    · rw [if_pos hc] at h
      cases h
      exact ⟨by rw [hc]; rfl, by simp⟩
    · rw [if_neg hc] at h
      obtain ⟨p, hp, e⟩ := Option.map_eq_some_iff.mp h
      cases e
      obtain ⟨h1, h2⟩ := cut_some (L := r) (a := p.1) (b := p.2) hp
      refine ⟨by rw [h1]; rfl, fun hm => ?_⟩
      rcases List.mem_cons.mp hm with hm | hm
      · exact hc hm.symm
      · exact h2 hm
theorem cut_none : ∀ {L : List Nat}, cut L = none → 58 ∉ L
  | [], _ => by simp
  | c :: r, h => by
    unfold cut at h
    by_cases hc : c = 58
    · rw [if_pos hc] at h
      cases h
    · rw [if_neg hc] at h
      have h1 := cut_none (L := r) (Option.map_eq_none_iff.mp h)
      intro hm
      rcases List.mem_cons.mp hm with hm | hm
      · exact hc hm.symm
      · exact h1 hm
theorem colon : (":" : Str) = ⟨#[58]⟩ := by decide +kernel
theorem find_cut (z : Str) : (cut z.cps.toList = none ∧ Txt.find z ":" = -1) ∨ ∃ a b, cut z.cps.toList = some (a, b) ∧ Txt.find z ":" = (a.length : Nat) := by
  rw [colon]
  unfold Txt.find
  have at_iff : ∀ i, PySem.StrLaws.At z ⟨#[58]⟩ z.length i ↔ z.cps.toList[i]? = some 58 := fun i => PySem.StrLaws.subAt_one z 58 i
  rcases PySem.StrLaws.occ_head z ⟨#[58]⟩ 1 (by decide) with ⟨h0, hn⟩ | ⟨i, r, h0, hi, hk⟩
  · rw [h0]
    refine .inl ⟨?_, rfl⟩
    cases hc : cut z.cps.toList with
    | none => rfl
    | some p =>
      obtain ⟨h1, _⟩ := cut_some (a := p.1) (b := p.2) hc
      exact absurd ((at_iff p.1.length).mpr (by rw [h1]; simp)) (hn _)
  · rw [h0]
    have hi' := (at_iff i).mp hi
    cases hc : cut z.cps.toList with
    | none => exact absurd (List.mem_of_getElem? hi') (cut_none hc)
    | some p =>
      obtain ⟨h1, h2⟩ := cut_some (a := p.1) (b := p.2) hc
      refine .inr ⟨p.1, p.2, rfl, ?_⟩
      show ((i : Nat) : Int) = _
      have e : i = p.1.length := by
        rcases Nat.lt_trichotomy i p.1.length with h | h | h
        · rw [h1, List.getElem?_append_left h] at hi'
          exact absurd (List.mem_of_getElem? hi') h2
        · exact h
        · exact absurd ((at_iff p.1.length).mpr (by rw [h1]; simp)) (hk _ h)
      rw [e]
def evOf (z : Str) : Option Ev := if z = "/" then some none else match cut z.cps.toList with
  | none => none
  | some (a, b) => if (nameB (mkS a) && figB (mkS b)) = true then some (some (mkS a, NumText.digitsVal b)) else none
def OptAt (H : Hp) (v : V) : Option Ev → Prop
  | none => v = .non
  | some e => EvAt H v e
def spEvent : Sp := fun vs H Q _ => ∃ z : Str, vs = [.str z] ∧ z.length ≤ 1000 ∧ Asc z ∧ ∀ (v : V) (H' : Hp), Same H H' → OptAt H' v (evOf z) → Q v H'
theorem mkS_len (L : List Nat) : (mkS L).length = L.length := rfl
theorem cut_lo {z : Str} {a b : List Nat} (h : z.cps.toList = a ++ 58 :: b) : cutS z none (some ((a.length : Nat) : Int)) = mkS a := by
  unfold cutS mkS
  rw [HT.sIx_none, HT.sIx_nat, List.drop_zero, Nat.sub_zero]
  have hl : z.length = a.length + (b.length + 1) := by
    show z.cps.toList.length = _
    rw [h, List.length_append, List.length_cons]
  rw [hl, Nat.min_eq_left (by omega), h, List.take_left' rfl]
theorem cut_hi {z : Str} {a b : List Nat} (h : z.cps.toList = a ++ 58 :: b) : cutS z (some (((a.length : Nat) : Int) + 1)) none = mkS b := by
  unfold cutS mkS
  have hl : z.length = a.length + (b.length + 1) := by
    show z.cps.toList.length = _
    rw [h, List.length_append, List.length_cons]
  rw [show ((a.length : Nat) : Int) + 1 = ((a.length + 1 : Nat) : Int) from by omega, HT.sIx_none, HT.sIx_nat, hl, Nat.min_eq_left (by omega), h]
  have e1 : (a ++ 58 :: b).drop (a.length + 1) = b := by
    rw [show a ++ 58 :: b = (a ++ [58]) ++ b from by simp]
    exact List.drop_left' (by simp)
  rw [e1, List.take_of_length_le (by omega)]
theorem fig_int {b : List Nat} (h : figB (mkS b) = true) : PySem.intText? (mkS b) = some ((NumText.digitsVal b : Nat) : Int) ∧ b.length ≤ 640 := by
  unfold figB at h
  simp only [Bool.and_eq_true, decide_eq_true_eq] at h
  obtain ⟨h1, h2, h3, _⟩ := h
  rw [mkS_len] at h1 h2
  exact ⟨SX.int_S (a := b) h3 (fun e => by rw [e] at h1; exact absurd h1 (by decide)) (by omega), by omega⟩
theorem evOf_none {z : Str} (h0 : ¬ z = "/") (hc : cut z.cps.toList = none) : evOf z = none := by
  unfold evOf
  rw [if_neg h0, hc]
theorem evOf_some {z : Str} {a b : List Nat} (h0 : ¬ z = "/") (hc : cut z.cps.toList = some (a, b)) : evOf z = if (nameB (mkS a) && figB (mkS b)) = true then some (some (mkS a, NumText.digitsVal b)) else none := by
  unfold evOf
  rw [if_neg h0, hc]
structure NmE (mg : Str → Option Value) (K : PySem.W.Frag) (fn ff : Addr) : Prop where
  g__law_is_name : mg "_law_is_name" = some (.ref fn)
  k__law_is_name : PySem.W.keepIn K (.ref fn) = true
  g__law_is_figure : mg "_law_is_figure" = some (.ref ff)
  k__law_is_figure : PySem.W.keepIn K (.ref ff) = true
  n_int : mg "int" = none
theorem mem_join {y : Str} : ∀ {ps : List Str} {p : Str}, p ∈ ps → ∀ c ∈ p.cps.toList, c ∈ (PySem.Str.join y ps).cps.toList
  | [], _, h => absurd h (by simp)
  | [a], p, h => by
    rw [List.mem_singleton.mp h]
    exact fun c hc => hc
  | a :: b :: r, p, h => by
    intro c hc
    show c ∈ TL.tl (a ++ y ++ PySem.Str.join y (b :: r))
    rw [TL.tl_append, TL.tl_append]
    rcases List.mem_cons.mp h with h | h
    · rw [h] at hc
      exact List.mem_append_left _ (List.mem_append_left _ hc)
    · exact List.mem_append_right _ (mem_join h c hc)
theorem split_asc {z w : Str} (hA : Asc z) (h : w ∈ Txt.split z " ") : Asc w := fun c hc => hA c (by
  have h1 := mem_join (y := " ") h c hc
  rw [PySem.StrLaws.join_split] at h1
  exact h1)
theorem le_sum : ∀ {l : List Nat} {n : Nat}, n ∈ l → n ≤ l.sum
  | [], _, h => absurd h (by simp)
  | a :: l, n, h => by
    rw [List.sum_cons]
    rcases List.mem_cons.mp h with h | h
    · omega
    · have := le_sum h
      omega
theorem split_lens {z w : Str} (h : w ∈ Txt.split z " ") : w.length ≤ z.length := by
  have h1 := split_weight z " " (by decide +kernel)
  have h2 : w.length ≤ ((Txt.split z " ").map (·.length)).sum := le_sum (List.mem_map_of_mem h)
  have h3 := split_pos z " "
  omega
def wordsL (z : Str) : List Str := if z = "" then [] else Txt.split z " "
theorem wordsL_of {z : Str} (h : ¬ z = "") : wordsL z = Txt.split z " " := if_neg h
theorem first_none : ∀ os : List (Option Ev), (∃ es : List Ev, os = es.map some) ∨ ∃ j : Nat, os[j]? = some none ∧ ∀ m : Nat, m < j → ∃ e, os[m]? = some (some e)
  | [] => .inl ⟨[], rfl⟩
  | none :: os => .inr ⟨0, rfl, fun m hm => absurd hm (Nat.not_lt_zero _)⟩
  | some e :: os => by
    rcases first_none os with ⟨es, h⟩ | ⟨j, hj, hm⟩
    · exact .inl ⟨e :: es, by rw [h]; rfl⟩
    · refine .inr ⟨j + 1, hj, fun m h => ?_⟩
      cases m with
      | zero => exact ⟨e, rfl⟩
      | succ m => exact hm m (by omega)
inductive OptsAt (H : Hp) : List V → List (Option Ev) → Prop
  | nil : OptsAt H [] []
  | cons {v : V} {vs : List V} {o : Option Ev} {os : List (Option Ev)} : OptAt H v o → OptsAt H vs os → OptsAt H (v :: vs) (o :: os)
theorem OptAt.mono {H H' : Hp} {v : V} {o : Option Ev} (h : OptAt H v o) (s : ∀ a xs, H a = some (.tup xs) → H' a = some (.tup xs)) : OptAt H' v o := by
  cases o with
  | none => exact h
  | some e => exact EvAt.mono h s
theorem OptsAt.mono {H H' : Hp} {vs : List V} {os : List (Option Ev)} (h : OptsAt H vs os) (s : ∀ a xs, H a = some (.tup xs) → H' a = some (.tup xs)) : OptsAt H' vs os := by
  induction h with
  | nil => exact .nil
  | cons a _ ih => exact .cons (a.mono s) ih
theorem OptsAt.snoc {H : Hp} {vs : List V} {os : List (Option Ev)} {v : V} {o : Option Ev} (h : OptsAt H vs os) (k : OptAt H v o) : OptsAt H (vs ++ [v]) (os ++ [o]) := by
  induction h with
  | nil => exact .cons k .nil
  | cons a _ ih => exact .cons a ih
theorem OptsAt.len {H : Hp} {vs : List V} {os : List (Option Ev)} (h : OptsAt H vs os) : vs.length = os.length := by
  induction h with
  | nil => rfl
  | cons _ _ ih => rw [List.length_cons, List.length_cons, ih]
theorem OptsAt.all {H : Hp} : ∀ {vs : List V} {es : List Ev}, OptsAt H vs (es.map some) → EvsAt H vs es
  | _, [], .nil => .nil
  | _, _ :: _, .cons a b => .cons a (OptsAt.all b)
def odD : Option Ev → PyData
  | none => .none
  | some e => evD e
theorem ev_dp {K : PySem.W.Frag} {H : Hp} {v : V} {e : Ev} (h : EvAt H v e) : Dp K H v (evD e) := by
  obtain ⟨a, rfl, ha⟩ := h
  match e, ha with
  | none, ha => exact .tup (SqT.of ha) (.cons (.str _) .nil)
  | some (z, m), ha => exact .tup (SqT.of ha) (.cons (.str _) (.cons (.str _) (.cons (.int _) .nil)))
theorem opt_dp {K : PySem.W.Frag} {H : Hp} {v : V} {o : Option Ev} (h : OptAt H v o) : Dp K H v (odD o) := by
  cases o with
  | none =>
    rw [show v = .non from h]
    exact .non
  | some e => exact ev_dp h
theorem opts_dp {K : PySem.W.Frag} {H : Hp} {vs : List V} {os : List (Option Ev)} (h : OptsAt H vs os) : DpAll K H vs (os.map odD) := by
  induction h with
  | nil => exact .nil
  | cons a _ ih => exact .cons (opt_dp a) ih
theorem nameB_str {z : Str} (h : nameB z = true) : PyData.canLay0 (.str z) = true := by
  rw [nameB_eq] at h
  simp only [Bool.and_eq_true] at h
  obtain ⟨_, _, _, h⟩ := h
  show z.cps.all _ = true
  rw [← Array.all_toList, List.all_eq_true]
  intro c hc
  have := List.all_eq_true.mp h c hc
  simp only [Bool.and_eq_true, decide_eq_true_eq] at this
  exact decide_eq_true (by omega)
theorem evOf_name {z y : Str} {n : Nat} (h : evOf z = some (some (y, n))) : nameB y = true := by
  unfold evOf at h
  by_cases h0 : z = "/"
  · rw [if_pos h0] at h
    cases h
  · rw [if_neg h0] at h
    cases hc : cut z.cps.toList with
    | none =>
      rw [hc] at h
      cases h
    | some p =>
      rw [hc] at h
      by_cases hb : (nameB (mkS p.1) && figB (mkS p.2)) = true
      · have h' : (if (nameB (mkS p.1) && figB (mkS p.2)) = true then some (some (mkS p.1, NumText.digitsVal p.2)) else none) = some (some (y, n)) := h
        rw [if_pos hb] at h'
        cases h'
        exact (Bool.and_eq_true_iff.mp hb).1
      · have h' : (if (nameB (mkS p.1) && figB (mkS p.2)) = true then some (some (mkS p.1, NumText.digitsVal p.2)) else none) = some (some (y, n)) := h
        rw [if_neg hb] at h'
        cases h'
def OdOk : Option Ev → Prop
  | some (some (z, _)) => nameB z = true
  | _ => True
theorem evOf_ok (z : Str) : OdOk (evOf z) := by
  cases h : evOf z with
  | none => trivial
  | some e => cases e with
    | none => trivial
    | some p => exact evOf_name (y := p.1) (n := p.2) h
theorem od_lay {o : Option Ev} (h : OdOk o) : PyData.canLay0 (odD o) = true ∧ (odD o).depth ≤ 1 := by
  match o, h with
  | none, _ => exact ⟨rfl, by decide⟩
  | some none, _ => exact ⟨by decide +kernel, by decide +kernel⟩
  | some (some (z, m)), h =>
    refine ⟨?_, ?_⟩
    · show PyData.canLayAll0 [.str "open", .str z, .int _] = true
      have e1 : PyData.canLay0 (.str "open") = true := by decide +kernel
      rw [PyData.canLayAll0, PyData.canLayAll0, PyData.canLayAll0, PyData.canLayAll0, e1, nameB_str h]
      rfl
    · simp only [odD, evD, PyData.depth, PyData.depthAll]
      omega
theorem ods_lay : ∀ {os : List (Option Ev)}, (∀ o ∈ os, OdOk o) → PyData.canLayAll0 (os.map odD) = true ∧ PyData.depthAll (os.map odD) ≤ 1
  | [], _ => ⟨rfl, by decide⟩
  | o :: os, h => by
    obtain ⟨h1, h2⟩ := od_lay (h o (List.mem_cons_self ..))
    obtain ⟨h3, h4⟩ := ods_lay fun o ho => h o (List.mem_cons_of_mem _ ho)
    rw [List.map_cons]
    refine ⟨?_, ?_⟩
    · simp only [PyData.canLayAll0, h1, h3, Bool.and_self]
    · simp only [PyData.depthAll]
      omega
theorem ods_shaped {os : List (Option Ev)} (h : ∀ o ∈ os, OdOk o) : SeqAt.shaped (.list (os.map odD)) = true := by
  obtain ⟨h1, h2⟩ := ods_lay h
  unfold SeqAt.shaped
  rw [Bool.and_eq_true]
  refine ⟨h1, decide_eq_true ?_⟩
  simp only [PyData.depth]
  omega
theorem eqv_ev (e : Ev) : PyData.eqv (evD e) .none = false := by
  match e with
  | none => rfl
  | some (z, m) => rfl
theorem any_none (es : List Ev) : ((es.map some).map odD).any (fun z => PyData.eqv z .none) = false := by
  induction es with
  | nil => rfl
  | cons e es ih =>
    rw [List.map_cons, List.map_cons, List.any_cons, ih, Bool.or_false]
    exact eqv_ev e
theorem any_some {os : List (Option Ev)} {j : Nat} (h : os[j]? = some none) : (os.map odD).any (fun z => PyData.eqv z .none) = true := by
  rw [List.any_eq_true]
  exact ⟨.none, List.mem_map.mpr ⟨none, List.mem_of_getElem? h, rfl⟩, rfl⟩
def DueAt (H : Hp) (ws : List Str) (t : Addr) : Prop :=
  (∃ j : Nat, (ws.map evOf)[j]? = some none ∧ (∀ m, m < j → ∃ e, (ws.map evOf)[m]? = some (some e)) ∧ H t = some (.tup [.str "at", .int (j : Nat)])) ∨
  (∃ (l : Addr) (vs : List V) (es : List Ev), ws.map evOf = es.map some ∧ H t = some (.tup [.str "events", .ref l]) ∧ H l = some (.lst vs) ∧ EvsAt H vs es)
def spDue : Sp := fun vs H Q _ => ∃ z : Str, vs = [.str z] ∧ z.length ≤ 1000 ∧ Asc z ∧ ∀ (t : Addr) (H' : Hp), Same H H' → DueAt H' (wordsL z) t → Q (.ref t) H'
structure NmD (mg : Str → Option Value) (K : PySem.W.Frag) (fe : Addr) : Prop where
  g__law_event : mg "_law_event" = some (.ref fe)
  k__law_event : PySem.W.keepIn K (.ref fe) = true
theorem cut_asc {z : Str} {lo hi : Option Int} (h : Asc z) : Asc (cutS z lo hi) := fun c hc => h c (List.mem_of_mem_drop (List.mem_of_mem_take hc))
structure NmG (mg : Str → Option Value) (K : PySem.W.Frag) (ff : Addr) : Prop where
  g__law_is_figure : mg "_law_is_figure" = some (.ref ff)
  k__law_is_figure : PySem.W.keepIn K (.ref ff) = true
  n_len : mg "len" = none
theorem lt_one (a b : Nat) : decide (([a] : List Nat) < [b]) = decide (a < b) := decide_eq_decide.mpr (by
  rw [List.cons_lt_cons_iff]
  constructor
  · rintro (h | ⟨_, h⟩)
    · exact h
    · exact absurd h (by simp)
  · exact .inl)
def consB (l h most : Nat) (z : Str) : Bool := decide (0 < z.length) && (decide (z.length ≤ most) && z.cps.toList.all fun c => decide (l ≤ c) && decide (c ≤ h))
def spWords : Sp := fun vs H Q _ => ∃ z : Str, vs = [.str z] ∧ z.length ≤ 1000 ∧ ∀ (a : Addr) (H' : Hp), Same H H' → H a = none → H' a = some (.lst ((wordsL z).map V.str)) → Q (.ref a) H'
structure NmC (mg : Str → Option Value) : Prop where
  n_len : mg "len" = none
  n_all : mg "all" = none
def spCons : Sp := fun vs H Q _ => ∃ (z lo hi : Str) (l h most : Nat), vs = [.str z, .str lo, .str hi, .int (most : Nat)] ∧ z.length ≤ 1000 ∧ lo.cps.toList = [l] ∧ hi.cps.toList = [h] ∧ ∀ H' : Hp, Same H H' → Q (.bl (consB l h most z)) H'
theorem cons_name (z : Str) : (consB 97 122 8 z && !inV (V.str z) [.str "any", .str "other", .str "where"]) = nameB z := by
  rw [nameB_eq, ← in3]
  unfold consB
  rw [show decide (z.length < 9) = decide (z.length ≤ 8) from decide_eq_decide.mpr (by omega), Bool.and_comm]
theorem cons_fig (z : Str) : (consB 48 57 12 z && (decide (V.str z = V.str "0") || !Txt.startswith z "0")) = figB z := by
  unfold consB figB
  rw [show decide (z.length < 13) = decide (z.length ≤ 12) from decide_eq_decide.mpr (by omega), Bool.and_assoc, Bool.and_assoc]
  have e1 : decide (V.str z = V.str "0") = decide (z = "0") := decide_eq_decide.mpr ⟨V.str.inj, congrArg V.str⟩
  rw [e1]
  by_cases h : 0 < z.length
  · obtain ⟨c, hc⟩ : ∃ c, z.cps.toList[0]? = some c := ⟨_, List.getElem?_eq_getElem (show 0 < z.cps.toList.length from h)⟩
    have e2 : Txt.startswith z "0" = decide (z.cps.toList[0]? = some 48) := by
      have e0 : ("0" : Str) = ⟨#[48]⟩ := by decide +kernel
      have e3 := PySem.StrLaws.subAt_one z 48 0
      rw [e0]
      unfold Txt.startswith
      rw [Bool.eq_iff_iff, Bool.and_eq_true, decide_eq_true_iff, decide_eq_true_iff]
      exact e3
    rw [e2]
  · rw [decide_eq_false h]
    rfl
def iLT (K : PySem.W.Frag) (te : TE) : TI := fun σ H R => te σ H fun x G => ∃ p, x = .ref p ∧ (((∃ ys, SqL K G p ys) ∧ R (Itl K p) G) ∨ ((∃ ys, SqT K G p ys) ∧ R (Itt K p) G))
theorem pi_lt {X : Cx} {g e : Expr} {te : TE} (he : PE X e te) : PI X g e (iLT X.K te) := by
  constructor
  intro pins s σ H R I h
  apply thn (he.run pins s σ H _ I h)
  rintro v s1 ⟨x, G, J, r, p, rfl, q⟩
  cases r
  have fp : ∀ (o : Obj) (b : Addr), b ∈ [s1.heap.objs.size] → FpOk X pins G b := fun o b hb => by
    rw [List.mem_singleton.mp hb]
    exact J.fpOk (Nat.le_refl _) (J.hok.fresh (Nat.le_refl _))
  have kp : ∀ o : Obj, Inv X pins σ G { s1 with heap := s1.heap.push o } := fun o => J.kept (t' := s1.toks) fun _ _ z => Heap.get?_push_of_some _ z
  rcases q with ⟨⟨ys, hy⟩, q⟩ | ⟨⟨ys, hy⟩, q⟩
  · obtain ⟨us, _, pl, _⟩ := J.list hy
    apply wpAny_pyIter_list pl.isList
    exact ⟨_, [s1.heap.objs.size], _, _, G, rfl, kp _, turn_list p _, ⟨_, Heap.get?_push_size _ rfl, rfl, rfl⟩, fp ⟨.none, none, .fields #[], #[]⟩, q⟩
  · obtain ⟨us, _, pl, _⟩ := J.tuple hy
    apply wpAny_pyIter_tuple (show s1.heap.IsTuple p us.toArray from pl)
    exact ⟨_, [s1.heap.objs.size], _, _, G, rfl, kp _, turn_tuple p _, ⟨_, Heap.get?_push_size _ rfl, rfl, rfl⟩, fp ⟨.none, none, .fields #[], #[]⟩, q⟩
structure NmP (mg : Str → Option Value) (K : PySem.W.Frag) (fc fn ff fw an : Addr) : Prop where
  g_consists_of : mg "consists_of" = some (.ref fc)
  k_consists_of : PySem.W.keepIn K (.ref fc) = true
  g_is_name : mg "is_name" = some (.ref fn)
  k_is_name : PySem.W.keepIn K (.ref fn) = true
  g_is_figure : mg "is_figure" = some (.ref ff)
  k_is_figure : PySem.W.keepIn K (.ref ff) = true
  g_word_of : mg "word_of" = some (.ref fw)
  k_word_of : PySem.W.keepIn K (.ref fw) = true
  g_NO_NAMES : mg "NO_NAMES" = some (.ref an)
  t_NO_NAMES : ∀ H : Hp, SqT K H an [.str "any", .str "other", .str "where"]
  n_len : mg "len" = none
  n_int : mg "int" = none
def spWordOf : Sp := fun vs H Q _ => ∃ (v : V) (e : Ev), vs = [v] ∧ EvAt H v e ∧ EvOk e ∧ Q (.str (wordS e)) H
def spWordsOf (K : PySem.W.Frag) : Sp := fun vs H Q _ => ∃ (r : Addr) (vs' : List V) (es : List Ev), vs = [.ref r] ∧ (H r = some (.lst vs') ∨ H r = some (.tup vs')) ∧ EvsAt H vs' es ∧ es.length ≤ 1000 ∧ (∀ e ∈ es, EvOk e) ∧ ∀ H' : Hp, Same H H' → Q (.str (textS es)) H'
theorem empty_app (z : Str) : Str.empty ++ z = z := by
  show (⟨#[] ++ z.cps⟩ : Str) = z
  rw [Array.empty_append]
theorem num_log {m : Nat} (h : m < 10 ^ 9) : ((m : Nat) : Int).natAbs.log2 < 1920 := by
  rw [Int.natAbs_natCast]
  by_cases hm : m = 0
  · rw [hm]
    decide
  · exact Nat.lt_of_lt_of_le ((Nat.log2_lt hm).mpr (Nat.lt_of_lt_of_le h (by decide : 10 ^ 9 ≤ 2 ^ 30))) (by decide)
def rIsD (K : PySem.W.Frag) (a : Addr) (cls : Value) (d : Option Addr) : List V → Hp → VK → Prop := fun xs H Q => ∃ (D dd : Addr) (fs : List (Str × V)) (c : V) (cv : Value) (b : Bool), xs = [.ref a, c] ∧ cls = .ref D ∧ d = some dd ∧ H dd = some (.xd fs) ∧ ExcC K D ∧ (∀ u, RelV c u → u = cv) ∧ PySem.W.kitOne K (.ref D) cv = some b ∧ Q (.bl b) H
theorem call_isD {X : Cx} {a : Addr} {cls : Value} {d : Option Addr} {oe : Obj} {pn : List (Addr × Obj)} (hz : Zc cls d oe) (hf : ∃ vs, oe.data = .fields vs) : CallR (X.suite a ((a, oe) :: pn)) (.builtin "isinstance") (rIsD X.K a cls d) := by
  intro pins s σ H xs us Q I r h
  obtain ⟨D, dd, fs, c, cv, b, rfl, rfl, rfl, ed, T, hcv, e, q⟩ := h
  cases r with
  | cons rx rr =>
    cases rr with
    | cons rt rr =>
      cases rr
      cases rx
      obtain rfl := hcv _ rt
      have hcl : (PySem.W.clsIn X.K D).isSome = true := by
        obtain ⟨cd, hc, _⟩ := PySem.W.any_some T.hd
        rw [hc] <;> rfl
      obtain ⟨hget, _⟩ := I.pin (a, oe) (List.mem_append.mpr (.inl List.mem_cons_self))
      obtain ⟨vs, hv⟩ := hf
      have hx : ObjOk X.prog X.w H s.heap dd (.xd fs) := I.hok dd _ ed
      obtain ⟨mA, ⟨o, es, ep, ho, hr⟩, _⟩ := hx
      have J : PySem.W.InstAt s.heap a oe D (some o) := ⟨hget, hz.1, by unfold PySem.W.notCls; rw [hv] <;> rfl, by rw [hz.2]; exact ho⟩
      exact PySem.W.kia_one (PySem.W.kitx_exc hcl T.hg T.hk T.hs T.ha T.hn T.ht T.hm) I.kIn J e (fun z => nomatch z) fun tk => ⟨.bl b, H, I.kept (t' := tk) fun _ _ z => z, rfl, q⟩
def OwnF (v : V) : Prop := (∃ i, v = .int i) ∨ ∃ z, v = .str z
def spOwnF : Sp := fun vs H Q _ => ∃ v : V, vs = [v] ∧ OwnF v ∧ Q v H
structure NmO (mg : Str → Option Value) (K : PySem.W.Frag) (f : Addr) : Prop where
  g : mg "own_copy" = some (.ref f)
  k : PySem.W.keepIn K (.ref f) = true
  n_isinstance : mg "isinstance" = none
  n_list : mg "list" = none
  n_tuple : mg "tuple" = none
  n_dict : mg "dict" = none
def spI1 (C : Addr) (f : Str) : Sp := fun vs H Q _ => ∃ (a : Addr) (v : V), vs = [.ref a, v] ∧ H a = some (exo a C none) ∧ OwnF v ∧
  ∀ (dd : Addr) (H' : Hp), H dd = none → H' a = some (exo a C (some dd)) → H' dd = some (exd dd [(f, v)]) → (∀ b o, b ≠ a → H b = some o → H' b = some o) → Q .non H'
structure NmX (P : Program) (w : World) (K : PySem.W.Frag) (mg : Str → Option Value) (C fI Ck : Addr) : Prop where
  g_NoTree : mg "NoTree" = some (.ref C)
  k_NoTree : PySem.W.keepIn K (.ref C) = true
  b_NoTree : PySem.W.subIn K (.ref C) (.type "BaseException") = some true
  t_NoTree : PySem.W.typeIn K (.ref C) = some (.type "type")
  m_NoTree : Exv.MkOk P w K C fI
  g_KeptError : mg "KeptError" = some (.ref Ck)
  e_NoTree : PySem.W.exmOne K (.ref C) (.ref C) = some true
  x_NoTree : ExcC K C
  i_NoTree : PySem.W.kitOne K (.ref C) (.ref Ck) = some true
  f_NoTree : XfC K C
  no_NoTree : PySem.W.findIn K (.ref C) "at" = some none
structure NmQ (mg : Str → Option Value) (K : PySem.W.Frag) (fwi fev fes : Addr) : Prop where
  g_words_in : mg "words_in" = some (.ref fwi)
  k_words_in : PySem.W.keepIn K (.ref fwi) = true
  g_event_of : mg "event_of" = some (.ref fev)
  k_event_of : PySem.W.keepIn K (.ref fev) = true
  g_events_of : mg "events_of" = some (.ref fes)
  k_events_of : PySem.W.keepIn K (.ref fes) = true
  n_enumerate : mg "enumerate" = none
  n_isinstance : mg "isinstance" = none
theorem OptsAt.get {H : Hp} {vs : List V} {os : List (Option Ev)} (h : OptsAt H vs os) : ∀ {i : Nat} {v : V}, vs[i]? = some v → ∃ o, os[i]? = some o ∧ OptAt H v o := by
  induction h with
  | nil => intro i v hv; simp at hv
  | cons a _ ih =>
    intro i v hv
    cases i with
    | zero =>
      have z := Option.some.inj hv
      exact ⟨_, rfl, by rw [← z]; exact a⟩
    | succ i => exact ih hv
def FirstNone (ws : List Str) (j : Nat) : Prop := (ws.map evOf)[j]? = some none ∧ ∀ m, m < j → ∃ e, (ws.map evOf)[m]? = some (some e)
def spEvents (C : Addr) : Sp := fun vs H Q E => ∃ z : Str, vs = [.str z] ∧ z.length ≤ 1000 ∧ Asc z ∧
  (∀ (l : Addr) (vs' : List V) (es : List Ev) (H' : Hp), Same H H' → H l = none → (wordsL z).map evOf = es.map some → H' l = some (.lst vs') → EvsAt H' vs' es → Q (.ref l) H') ∧
  (∀ (j : Nat) (d : Addr) (H' : Hp), Same H H' → FirstNone (wordsL z) j → H' d = some (.xd [("at", .int (j : Nat))]) → E (.ref C) (some d) H')
theorem wordsL_len {z w : Str} (h : w ∈ wordsL z) : w.length ≤ z.length := by
  unfold wordsL at h
  by_cases e : z = ""
  · rw [if_pos e] at h
    cases h
  · rw [if_neg e] at h
    exact split_lens h
theorem wordsL_asc {z w : Str} (hA : Asc z) (h : w ∈ wordsL z) : Asc w := by
  unfold wordsL at h
  by_cases e : z = ""
  · rw [if_pos e] at h
    cases h
  · rw [if_neg e] at h
    exact split_asc hA h
theorem wordsL_count (z : Str) : (wordsL z).length ≤ z.length + 1 := by
  unfold wordsL
  by_cases e : z = ""
  · rw [if_pos e]
    exact Nat.zero_le _
  · rw [if_neg e]
    have := split_weight z " " (by decide +kernel)
    omega
def wt (ys : List Str) : Nat := (ys.map (·.length)).sum + ys.length
theorem wt_app (a b : List Str) : wt (a ++ b) = wt a + wt b := by
  unfold wt
  rw [List.map_append, List.sum_append, List.length_append]
  omega
theorem wt_one (y : Str) : wt [y] = y.length + 1 := by
  unfold wt
  simp
theorem wt_part (ys : List Str) (i : Nat) : wt (ys.take i) + wt (ys.drop i) = wt ys := by
  rw [← wt_app, List.take_append_drop]
theorem join_le : ∀ ys : List Str, (PySem.Str.join " " ys).length ≤ wt ys - 1
  | [] => by
    show 0 ≤ _
    omega
  | [a] => by
    rw [wt_one]
    show a.length ≤ _
    omega
  | a :: b :: r => by
    have h := join_le (b :: r)
    show (a ++ " " ++ PySem.Str.join " " (b :: r)).length ≤ _
    rw [len_app, len_app, show (" " : Str).length = 1 from by decide +kernel, show a :: b :: r = [a] ++ (b :: r) from rfl, wt_app, wt_one]
    have h2 : 1 ≤ wt (b :: r) := by
      unfold wt
      rw [List.length_cons]
      omega
    omega
theorem join_asc : ∀ {ys : List Str}, (∀ y ∈ ys, Asc y) → Asc (PySem.Str.join " " ys)
  | [], _ => fun c hc => absurd hc (List.not_mem_nil)
  | [a], h => h a (List.mem_singleton.mpr rfl)
  | a :: b :: r, h => fun c hc => by
    have hc' : c ∈ TL.tl (a ++ " " ++ PySem.Str.join " " (b :: r)) := hc
    rw [TL.tl_append, TL.tl_append] at hc'
    rcases List.mem_append.mp hc' with h1 | h1
    · rcases List.mem_append.mp h1 with h1 | h1
      · exact h a (List.mem_cons_self ..) c h1
      · have : TL.tl " " = [32] := by decide +kernel
        rw [this, List.mem_singleton] at h1
        omega
    · exact join_asc (fun y hy => h y (List.mem_cons_of_mem _ hy)) c h1
theorem join_fits {ys : List Str} (h : wt ys ≤ 2000) : (ys.map (·.length)).sum + ys.length * (" " : Str).length ≤ 16777216 := by
  rw [show (" " : Str).length = 1 from by decide +kernel, Nat.mul_one]
  unfold wt at h
  omega
theorem cutV_lo (ws : List Str) (i : Nat) : cutV (ws.map V.str) none (some (i : Int)) = (ws.take i).map V.str := by
  unfold cutV
  rw [HT.sIx_none, HT.sIx_nat, List.drop_zero, Nat.sub_zero, List.length_map, List.map_take]
  by_cases h : i ≤ ws.length
  · rw [Nat.min_eq_left h]
  · rw [Nat.min_eq_right (by omega), List.take_of_length_le (by rw [List.length_map]; omega), List.take_of_length_le (by rw [List.length_map]; omega)]
theorem cutV_hi (ws : List Str) (i : Nat) : cutV (ws.map V.str) (some (i : Int)) none = (ws.drop i).map V.str := by
  unfold cutV
  rw [HT.sIx_none, HT.sIx_nat, List.length_map, List.map_drop]
  by_cases h : i ≤ ws.length
  · rw [Nat.min_eq_left h, List.take_of_length_le (by rw [List.length_drop, List.length_map]; omega)]
  · rw [Nat.min_eq_right (by omega), Nat.sub_self, List.take_zero, List.drop_of_length_le (by rw [List.length_map]; omega)]
theorem cutS_lo_len (z : Str) (i : Nat) : (cutS z none (some (i : Int))).length ≤ i := by
  unfold cutS
  rw [HT.sIx_none, HT.sIx_nat]
  show (List.toArray _).size ≤ _
  rw [List.size_toArray, List.length_take]
  omega
theorem cutS_hi_len (z : Str) (i : Nat) : (cutS z (some (i : Int)) none).length ≤ z.length - i := by
  unfold cutS
  rw [HT.sIx_none, HT.sIx_nat]
  show (List.toArray _).size ≤ _
  rw [List.size_toArray, List.length_take]
  omega
theorem app_asc {x y : Str} (hx : Asc x) (hy : Asc y) : Asc (x ++ y) := fun c hc => by
  have hc' : c ∈ TL.tl (x ++ y) := hc
  rw [TL.tl_append] at hc'
  exact (List.mem_append.mp hc').elim (hx c) (hy c)
theorem tjoin (ys : List Str) : Txt.join " " ys = PySem.Str.join " " ys := TL.join_eq _ _
theorem tjoin_asc {ys : List Str} (h : ∀ y ∈ ys, Asc y) : Asc (Txt.join " " ys) := by
  rw [tjoin]
  exact join_asc h
def Kp (p : Addr) (H H' : Hp) : Prop := ∀ b o, b ≠ p → H b = some o → H' b = some o
theorem Kp.trans {p : Addr} {H H' H'' : Hp} (h : Kp p H H') (k : Kp p H' H'') : Kp p H H'' := fun b o n e => k b o n (h b o n e)
theorem Kp.of {p : Addr} {H H' : Hp} (h : Same H H') : Kp p H H' := fun b o _ e => h b o e
theorem Kp.eq {p : Addr} {H H' : Hp} (h : ∀ b, b ≠ p → H' b = H b) : Kp p H H' := fun b o n e => (h b n).trans e
instance (z : Str) : Decidable (Asc z) := inferInstanceAs (Decidable (∀ c ∈ z.cps.toList, c < 256))
theorem from_le : ∀ (ts : List Str) (k : Nat) (acc : Str), (textFrom k acc ts).length ≤ acc.length + piled ts
  | [], k, acc => Nat.le_add_right _ _
  | t :: r, k, acc => by
    have h := from_le r (k + 1) (acc ++ (if k > 0 then ", " else "" : String) ++ t)
    have e : (acc ++ (if k > 0 then ", " else "" : String) ++ t).length ≤ acc.length + 2 + t.length := by
      rw [strLen_append, strLen_append]
      by_cases hk : k > 0
      · rw [if_pos hk]
        have : (Str.ofString ", ").length = 2 := rfl
        omega
      · rw [if_neg hk]
        have : (Str.ofString "").length = 0 := rfl
        omega
    have p : piled (t :: r) = t.length + 2 + piled r := by simp [piled]
    show (textFrom (k + 1) _ r).length ≤ _
    omega
theorem list_le (ts : List Str) : (listText ts).length ≤ piled ts + 2 := by
  have h := from_le ts 0 "["
  have e1 : (Str.ofString "[").length = 1 := rfl
  have e2 : (Str.ofString "]").length = 1 := rfl
  show (textFrom 0 "[" ts ++ "]").length ≤ _
  rw [strLen_append]
  omega
theorem tuple_le (ts : List Str) : (tupleText ts).length ≤ piled ts + 3 := by
  unfold tupleText
  rw [strLen_append, strLen_append]
  have e1 : (Str.ofString "(").length = 1 := rfl
  have e2 : ((if ts.length == 1 then ",)" else ")" : String) : Str).length ≤ 2 := by
    split
    · exact Nat.le_refl 2
    · exact (by decide : 1 ≤ 2)
  have e3 : (Str.join ", " ts).length ≤ piled ts := by
    cases ts with
    | nil => exact Nat.zero_le _
    | cons x r =>
      have := join_length_add (x :: r) (by simp)
      omega
  omega
theorem piled_le {L : Nat} : ∀ {ds : List PyData}, (∀ d ∈ ds, d.shown.length ≤ L) → piled (PyData.shownAll ds) ≤ ds.length * (L + 2)
  | [], _ => Nat.zero_le _
  | d :: r, h => by
    have ih := piled_le (ds := r) fun x hx => h x (List.mem_cons_of_mem _ hx)
    have h1 := h d (List.mem_cons_self ..)
    have p : piled (PyData.shownAll (d :: r)) = d.shown.length + 2 + piled (PyData.shownAll r) := by
      show piled (d.shown :: PyData.shownAll r) = _
      exact piled_cons _ _
    rw [p, List.length_cons, Nat.succ_mul]
    omega
structure Sh (k L : Nat) (d : PyData) : Prop where
  s : d.showable = true
  n : d.hasDict = false
  k : d.depth ≤ k
  l : d.shown.length ≤ L
theorem all_show : ∀ {ds : List PyData}, (∀ d ∈ ds, d.showable = true) → PyData.showableAll ds = true
  | [], _ => rfl
  | d :: r, h => by
    unfold PyData.showableAll
    rw [h d (List.mem_cons_self ..), all_show fun x hx => h x (List.mem_cons_of_mem _ hx)]
    rfl
theorem all_noDict : ∀ {ds : List PyData}, (∀ d ∈ ds, d.hasDict = false) → PyData.hasDictAll ds = false
  | [], _ => rfl
  | d :: r, h => by
    unfold PyData.hasDictAll
    rw [h d (List.mem_cons_self ..), all_noDict fun x hx => h x (List.mem_cons_of_mem _ hx)]
    rfl
theorem all_depth {k : Nat} : ∀ {ds : List PyData}, (∀ d ∈ ds, d.depth ≤ k) → PyData.depthAll ds ≤ k
  | [], _ => Nat.zero_le _
  | d :: r, h => by
    unfold PyData.depthAll
    have h1 := h d (List.mem_cons_self ..)
    have h2 := all_depth (ds := r) fun x hx => h x (List.mem_cons_of_mem _ hx)
    omega
theorem Sh.list {k L n : Nat} {ds : List PyData} (h : ∀ d ∈ ds, Sh k L d) (hn : ds.length ≤ n) : Sh (k + 1) (n * (L + 2) + 3) (.list ds) := by
  refine ⟨?_, ?_, ?_, ?_⟩
  · unfold PyData.showable
    exact all_show fun d hd => (h d hd).s
  · unfold PyData.hasDict
    exact all_noDict fun d hd => (h d hd).n
  · unfold PyData.depth
    have := all_depth fun d hd => (h d hd).k
    omega
  · unfold PyData.shown
    have h1 := list_le (PyData.shownAll ds)
    have h2 := piled_le fun d hd => (h d hd).l
    have h3 := Nat.mul_le_mul_right (L + 2) hn
    omega
theorem Sh.tuple {k L n : Nat} {ds : List PyData} (h : ∀ d ∈ ds, Sh k L d) (hn : ds.length ≤ n) : Sh (k + 1) (n * (L + 2) + 3) (.tuple ds) := by
  refine ⟨?_, ?_, ?_, ?_⟩
  · unfold PyData.showable
    exact all_show fun d hd => (h d hd).s
  · unfold PyData.hasDict
    exact all_noDict fun d hd => (h d hd).n
  · unfold PyData.depth
    have := all_depth fun d hd => (h d hd).k
    omega
  · unfold PyData.shown
    have h1 := tuple_le (PyData.shownAll ds)
    have h2 := piled_le fun d hd => (h d hd).l
    have h3 := Nat.mul_le_mul_right (L + 2) hn
    omega
theorem Sh.int {i : Int} (h0 : 0 ≤ i) (h : i < 10 ^ 12) : Sh 0 20 (.int i) := by
  have hn : i.natAbs < 10 ^ 12 := by
    have e : (10 : Int) ^ 12 = 1000000000000 := by decide
    have e2 : (10 : Nat) ^ 12 = 1000000000000 := by decide
    omega
  refine ⟨decide_eq_true ?_, rfl, Nat.zero_le _, ?_⟩
  · by_cases z : i.natAbs = 0
    · rw [z]
      decide
    · exact Nat.lt_of_lt_of_le ((Nat.log2_lt z).mpr (Nat.lt_of_lt_of_le hn (by decide : 10 ^ 12 ≤ 2 ^ 40))) (by decide)
  · show (Str.ofString (toString i)).length ≤ 20
    exact Nat.le_trans (toString_length_le h0 (k := 12) (by decide) h) (by decide)
theorem Sh.up {k k' L L' : Nat} {d : PyData} (h : Sh k L d) (hk : k ≤ k') (hl : L ≤ L') : Sh k' L' d := ⟨h.s, h.n, Nat.le_trans h.k hk, Nat.le_trans h.l hl⟩
theorem Sh.str {z : Str} {n : Nat} (h : Asc z) (hn : z.length ≤ n) : Sh 0 (10 * n + 2) (.str z) := by
  refine ⟨rfl, rfl, Nat.zero_le _, ?_⟩
  have := PySem.StrLaws.reprText_len z fun c hc => Nat.lt_of_lt_of_le (h c hc) (by decide)
  show (reprText z).length ≤ _
  omega
theorem name_chars {z : Str} (h : nameB z = true) : ∀ c ∈ z.cps.toList, 97 ≤ c ∧ c ≤ 122 := fun c hc => by
  rw [nameB_eq] at h
  simp only [Bool.and_eq_true] at h
  have := List.all_eq_true.mp h.2.2.2 c hc
  rw [Bool.and_eq_true, decide_eq_true_eq, decide_eq_true_eq] at this
  exact this
theorem name_asc {z : Str} (h : nameB z = true) : Asc z := fun c hc => by
  have := name_chars h c hc
  omega
theorem tl_word (z : Str) (m : Nat) : TL.tl (wordS (some (z, m))) = z.cps.toList ++ 58 :: TL.numL m := by
  show TL.tl (z ++ ":" ++ (toString ((m : Nat) : Int) : String)) = _
  rw [TL.tl_append, TL.tl_append, TL.tl_num, show TL.tl ":" = [58] from by decide +kernel, List.append_assoc]
  rfl
theorem word_chars {e : Ev} (h : EvOk e) : ∀ c ∈ TL.tl (wordS e), c ≠ 32 ∧ c < 256 := by
  match e, h with
  | none, _ => exact (by decide +kernel : ∀ c ∈ TL.tl ("/" : Str), c ≠ 32 ∧ c < 256)
  | some (z, m), h =>
    intro c hc
    rw [tl_word] at hc
    rcases List.mem_append.mp hc with h1 | h1
    · have := name_chars h.1 c h1
      omega
    · rcases List.mem_cons.mp h1 with h1 | h1
      · omega
      · have := TL.numL_digits m c h1
        omega
theorem word_asc {e : Ev} (h : EvOk e) : Asc (wordS e) := fun c hc => (word_chars h c hc).2
theorem cut_mk : ∀ {a b : List Nat}, 58 ∉ a → cut (a ++ 58 :: b) = some (a, b)
  | [], b, _ => by
    show cut (58 :: b) = _
    unfold cut
    rw [if_pos rfl]
  | c :: a, b, h => by
    show cut (c :: (a ++ 58 :: b)) = _
    unfold cut
    rw [if_neg (fun e => h (by rw [e]; exact List.mem_cons_self ..)), cut_mk (a := a) (b := b) fun hm => h (List.mem_cons_of_mem _ hm)]
    rfl
theorem lead {m : Nat} (h : (TL.numL m)[0]? = some 48) : m = 0 := by
  induction m using Nat.strongRecOn with
  | _ m ih =>
    by_cases h10 : m < 10
    · rw [TL.numL_lt h10] at h
      have := Option.some.inj h
      omega
    · rw [TL.numL_step (by omega)] at h
      have hne := TL.numL_ne (m / 10)
      rw [List.getElem?_append_left (List.length_pos_iff.mpr hne)] at h
      have := ih (m / 10) (by omega) h
      omega
theorem mkS_tl (z : Str) : mkS z.cps.toList = z := by
  cases z
  rfl
theorem fig_num {m : Nat} (h : m < 10 ^ 9) : figB (mkS (TL.numL m)) = true := by
  have h1 := TL.numL_len (n := m) (k := 9) (by decide) h
  have h2 := List.length_pos_iff.mpr (TL.numL_ne m)
  unfold figB
  simp only [Bool.and_eq_true, Bool.or_eq_true, decide_eq_true_eq, Bool.not_eq_true', decide_eq_false_iff_not]
  refine ⟨by rw [mkS_len]; exact h2, by rw [mkS_len]; omega, ?_, ?_⟩
  · rw [List.all_eq_true]
    intro c hc
    have := TL.numL_digits m c hc
    rw [Bool.and_eq_true]
    exact ⟨decide_eq_true this.1, decide_eq_true this.2⟩
  · by_cases h0 : m = 0
    · left
      rw [h0]
      decide +kernel
    · exact .inr fun e => h0 (lead e)
theorem evOf_word {e : Ev} (h : EvOk e) : evOf (wordS e) = some e := by
  match e, h with
  | none, _ => exact if_pos rfl
  | some (z, m), h =>
    have ht : (wordS (some (z, m))).cps.toList = z.cps.toList ++ 58 :: TL.numL m := tl_word z m
    have h58 : 58 ∉ z.cps.toList := fun hm => by
      have := name_chars h.1 58 hm
      omega
    have hne : ¬ wordS (some (z, m)) = "/" := fun e => by
      have h1 : (58 : Nat) ∈ (wordS (some (z, m))).cps.toList := by
        rw [ht]
        exact List.mem_append_right _ (List.mem_cons_self ..)
      rw [e] at h1
      exact absurd h1 (by decide +kernel)
    have hc := cut_mk (b := TL.numL m) h58
    rw [← ht] at hc
    rw [evOf_some hne hc, mkS_tl, h.1, fig_num h.2, TL.numL_val]
    rfl
theorem word_pos {e : Ev} : 1 ≤ (wordS e).length := by
  match e with
  | none => exact (by decide +kernel : 1 ≤ ("/" : Str).length)
  | some (z, m) =>
    show 1 ≤ (z ++ ":" ++ _).length
    rw [len_app, len_app, show (":" : Str).length = 1 from by decide +kernel]
    omega
theorem join_ge : ∀ {ys : List Str} {y : Str}, y ∈ ys → y.length ≤ (PySem.Str.join " " ys).length
  | [], _, h => absurd h List.not_mem_nil
  | [a], y, h => by
    rw [List.mem_singleton.mp h]
    exact Nat.le_refl _
  | a :: b :: r, y, h => by
    show _ ≤ (a ++ " " ++ PySem.Str.join " " (b :: r)).length
    rw [len_app, len_app]
    rcases List.mem_cons.mp h with h | h
    · rw [h]
      omega
    · have := join_ge (ys := b :: r) h
      omega
theorem words_text {es : List Ev} (h : ∀ e ∈ es, EvOk e) : wordsL (textS es) = es.map wordS := by
  cases es with
  | nil => exact if_pos rfl
  | cons e es =>
    have hne : ¬ textS (e :: es) = "" := fun z => by
      have h1 := join_ge (ys := (e :: es).map wordS) (y := wordS e) (List.mem_map_of_mem (List.mem_cons_self ..))
      have h2 : textS (e :: es) = PySem.Str.join " " ((e :: es).map wordS) := tjoin _
      rw [← h2, z, show ("" : Str).length = 0 from by decide +kernel] at h1
      have := word_pos (e := e)
      omega
    rw [wordsL_of hne]
    refine TL.split_join (s := 32) (S := []) (by decide +kernel) (by decide +kernel) (by simp) fun p hp hm => ?_
    obtain ⟨x, hx, rfl⟩ := List.mem_map.mp hp
    exact (word_chars (h x hx) 32 hm).1 rfl
theorem text_asc {es : List Ev} (h : ∀ e ∈ es, EvOk e) : Asc (textS es) := tjoin_asc fun y hy => by
  obtain ⟨x, hx, rfl⟩ := List.mem_map.mp hy
  exact word_asc (h x hx)
theorem text_len {es : List Ev} (h : ∀ e ∈ es, EvOk e) (hn : es.length ≤ 20) : (textS es).length ≤ 400 := by
  have h1 := join_le (es.map wordS)
  have h2 := words_len h
  rw [show textS es = PySem.Str.join " " (es.map wordS) from tjoin _]
  unfold wt at h1
  rw [List.length_map] at h1
  omega
theorem map_evOf {es : List Ev} (h : ∀ e ∈ es, EvOk e) : (es.map wordS).map evOf = es.map some := by
  rw [List.map_map]
  exact List.map_congr_left fun e he => evOf_word (h e he)
theorem some_inj : ∀ {a b : List Ev}, a.map some = b.map some → a = b
  | [], [], _ => rfl
  | [], _ :: _, h => by cases h
  | _ :: _, [], h => by cases h
  | x :: a, y :: b, h => by
    rw [List.map_cons, List.map_cons] at h
    obtain ⟨h1, h2⟩ := List.cons.inj h
    rw [Option.some.inj h1, some_inj h2]
def DueD (ws : List Str) (d : PyData) : Prop :=
  (∃ j, FirstNone ws j ∧ d = .tuple [.str "at", .int (j : Nat)]) ∨ ∃ es : List Ev, ws.map evOf = es.map some ∧ d = .tuple [.str "events", .list (es.map evD)]
theorem dueD_one {ws : List Str} {d d' : PyData} (h : DueD ws d) (h' : DueD ws d') : d = d' := by
  have mix : ∀ {j : Nat} {es : List Ev}, FirstNone ws j → ws.map evOf = es.map some → False := fun {j es} h1 h2 => by
    have h3 := h1.1
    rw [h2, List.getElem?_map] at h3
    cases h4 : es[j]? with
    | none =>
      rw [h4] at h3
      cases h3
    | some e =>
      rw [h4] at h3
      cases h3
  have half : ∀ {i j : Nat}, FirstNone ws i → FirstNone ws j → ¬ i < j := fun {i j} h1 h2 hl => by
    obtain ⟨e, he⟩ := h2.2 i hl
    rw [h1.1] at he
    cases he
  rcases h with ⟨j, h, rfl⟩ | ⟨es, h, rfl⟩
  · rcases h' with ⟨i, h', rfl⟩ | ⟨es, h', rfl⟩
    · have h1 := half h h'
      have h2 := half h' h
      rw [show i = j from by omega]
    · exact (mix h h').elim
  · rcases h' with ⟨i, h', rfl⟩ | ⟨es', h', rfl⟩
    · exact (mix h' h).elim
    · rw [some_inj (h.symm.trans h')]
theorem evs_dp {K : PySem.W.Frag} {H : Hp} {vs : List V} {es : List Ev} (h : EvsAt H vs es) : DpAll K H vs (es.map evD) := by
  induction h with
  | nil => exact .nil
  | cons a _ ih => exact .cons (ev_dp a) ih
theorem due_dp {K : PySem.W.Frag} {H : Hp} {ws : List Str} {t : Addr} (h : DueAt H ws t) : ∃ d, DueD ws d ∧ Dp K H (.ref t) d := by
  rcases h with ⟨j, h1, h2, h3⟩ | ⟨l, vs, es, h1, h2, h3, h4⟩
  · exact ⟨_, .inl ⟨j, ⟨h1, h2⟩, rfl⟩, .tup (SqT.of h3) (.cons (.str _) (.cons (.int _) .nil))⟩
  · exact ⟨_, .inr ⟨es, h1, rfl⟩, .tup (SqT.of h2) (.cons (.str _) (.cons (.lst (SqL.of h3) (evs_dp h4)) .nil))⟩
def EvLay : Ev → Prop
  | none => True
  | some (z, m) => nameB z = true ∧ m < 10 ^ 12
theorem ev_sh {e : Ev} (h : EvLay e) : Sh 1 255 (evD e) := by
  match e, h with
  | none, _ => exact (Sh.tuple (k := 0) (L := 82) (n := 1) (ds := [.str "close"]) (fun d hd => by
      rw [List.mem_singleton.mp hd]
      exact (Sh.str (n := 8) (by decide +kernel) (by decide +kernel)).up (Nat.le_refl _) (by decide)) (by decide)).up (Nat.le_refl _) (by decide)
  | some (z, m), h =>
    refine Sh.tuple (k := 0) (L := 82) (n := 3) (ds := [.str "open", .str z, .int (m : Nat)]) (fun d hd => ?_) (by show 3 ≤ 3; decide)
    rcases List.mem_cons.mp hd with rfl | hd
    · exact (Sh.str (n := 8) (by decide +kernel) (by decide +kernel)).up (Nat.le_refl _) (by decide)
    · rcases List.mem_cons.mp hd with rfl | hd
      · exact (Sh.str (n := 8) (name_asc h.1) (name_len h.1)).up (Nat.le_refl _) (by decide)
      · rw [List.mem_singleton.mp hd]
        exact (Sh.int (by omega) (by have : m < 10 ^ 12 := h.2; omega)).up (Nat.le_refl _) (by decide)
theorem digits_lt : ∀ (k : Nat) (b : List Nat), (b.all fun c => decide (48 ≤ c) && decide (c ≤ 57)) = true → b.length ≤ k → NumText.digitsVal b < 10 ^ k
  | 0, b, _, h => by
    rw [List.length_eq_zero_iff.mp (Nat.le_zero.mp h)]
    decide
  | k + 1, b, hb, h => by
    have e10 : (10 : Nat) ^ (k + 1) = 10 ^ k * 10 := Nat.pow_succ ..
    rcases List.eq_nil_or_concat b with rfl | ⟨b', c, rfl⟩
    · show 0 < _
      have : 0 < 10 ^ k := Nat.pow_pos (by decide)
      omega
    · rw [List.concat_eq_append] at hb h ⊢
      rw [NumText.digitsVal_snoc]
      rw [List.all_append, Bool.and_eq_true] at hb
      rw [List.length_append, List.length_singleton] at h
      have h1 := digits_lt k b' hb.1 (by omega)
      have h2 := List.all_eq_true.mp hb.2 c (List.mem_singleton.mpr rfl)
      rw [Bool.and_eq_true, decide_eq_true_eq, decide_eq_true_eq] at h2
      omega
theorem evOf_lay {z : Str} {e : Ev} (h : evOf z = some e) : EvLay e := by
  unfold evOf at h
  by_cases h0 : z = "/"
  · rw [if_pos h0] at h
    cases h
    exact True.intro
  · rw [if_neg h0] at h
    cases hc : cut z.cps.toList with
    | none =>
      rw [hc] at h
      cases h
    | some p =>
      obtain ⟨a, b⟩ := p
      rw [hc] at h
      have h' : (if (nameB (mkS a) && figB (mkS b)) = true then some (some (mkS a, NumText.digitsVal b)) else none) = some e := h
      by_cases hb : (nameB (mkS a) && figB (mkS b)) = true
      · rw [if_pos hb] at h'
        cases h'
        obtain ⟨h1, h2⟩ := Bool.and_eq_true_iff.mp hb
        refine ⟨h1, ?_⟩
        unfold figB at h2
        simp only [Bool.and_eq_true, decide_eq_true_eq] at h2
        obtain ⟨_, h3, h4, _⟩ := h2
        rw [mkS_len] at h3
        exact digits_lt 12 b h4 (by omega)
      · rw [if_neg hb] at h'
        cases h'
theorem evs_sh {es : List Ev} {n : Nat} (h : ∀ e ∈ es, EvLay e) (hn : es.length ≤ n) : Sh 2 (n * 257 + 3) (.list (es.map evD)) :=
  Sh.list (k := 1) (L := 255) (fun d hd => by
    obtain ⟨e, he, rfl⟩ := List.mem_map.mp hd
    exact ev_sh (h e he)) (by rw [List.length_map]; exact hn)
theorem due_sh {ws : List Str} {d : PyData} (h : DueD ws d) (hn : ws.length ≤ 1000) : Sh 3 520000 d := by
  rcases h with ⟨j, h, rfl⟩ | ⟨es, h, rfl⟩
  · have hj : j < ws.length := by
      have := (List.getElem?_eq_some_iff.mp h.1).1
      rw [List.length_map] at this
      exact this
    refine (Sh.tuple (k := 0) (L := 82) (n := 2) (ds := [.str "at", .int (j : Nat)]) (fun d hd => ?_) (by show 2 ≤ 2; decide)).up (by decide) (by decide)
    rcases List.mem_cons.mp hd with rfl | hd
    · exact (Sh.str (n := 8) (by decide +kernel) (by decide +kernel)).up (Nat.le_refl _) (by decide)
    · rw [List.mem_singleton.mp hd]
      exact (Sh.int (by omega) (by omega)).up (Nat.le_refl _) (by decide)
  · have hes : ∀ e ∈ es, EvLay e := fun e he => by
      have h1 : some e ∈ ws.map evOf := by
        rw [h]
        exact List.mem_map_of_mem he
      obtain ⟨w, _, hw⟩ := List.mem_map.mp h1
      exact evOf_lay hw
    have hl : es.length ≤ 1000 := by
      have := congrArg List.length h
      rw [List.length_map, List.length_map] at this
      omega
    refine (Sh.tuple (k := 2) (L := 257003) (n := 2) (ds := [.str "events", .list (es.map evD)]) (fun d hd => ?_) (by show 2 ≤ 2; decide)).up (by decide) (by decide)
    rcases List.mem_cons.mp hd with rfl | hd
    · exact (Sh.str (n := 8) (by decide +kernel) (by decide +kernel)).up (by decide) (by decide)
    · rw [List.mem_singleton.mp hd]
      exact (evs_sh hes hl).up (Nat.le_refl _) (by decide)
theorem passN {P : Program} {w : World} {X : Cx} : Passes (L2.CX P w) X (fun _ _ _ => False) := fun _ _ _ _ _ _ _ ⟨_, _, _, _, _, _, _, _, _, _, _, _, h⟩ => h.elim
theorem same_kp {p : Addr} {H H1 H2 : Hp} (s : Same H H1) (n : H p = none) (k : Kp p H1 H2) : Same H H2 := fun b o e => k b o (ne_of_none e n) (s b o e)
end Gx

set_option linter.all false
set_option maxRecDepth 100000
set_option maxHeartbeats 8000000
namespace N7
open PySem PySem.Spec PyProof.Rows L2 Gx
def topS (i : Nat) : Stmt := PySem.Challenge.pw_keptnomore_k07_kinds_shown.main.body.getD i (.Pass ⟨0, 0, 0, 0⟩)
abbrev s_words_in : Stmt := topS 4
abbrev n_words_in : List Str := ["row"]
theorem sc_words_in : FnScope n_words_in ["row"] (defScope s_words_in) := ⟨rfl, rfl, rfl, by decide +kernel, rfl, by decide +kernel, by decide +kernel⟩
abbrev s_consists : Stmt := topS 5
abbrev n_consists : List Str := ["word", "low", "high", "most", "sign"]
theorem sc_consists : FnScope n_consists ["word", "low", "high", "most"] (defScope s_consists) := ⟨rfl, rfl, rfl, by decide +kernel, rfl, by decide +kernel, by decide +kernel⟩
abbrev s_box : Stmt := topS 41
abbrev n_box : List Str := ["_law_script", "_law_k", "_law_own", "_law_cell", "_law_seed"]
theorem sc_box : FnScope n_box ["_law_script", "_law_k", "_law_own"] (defScope s_box) := ⟨rfl, rfl, rfl, by decide +kernel, rfl, by decide +kernel, by decide +kernel⟩
abbrev s_own : Stmt := topS 23
abbrev n_own : List Str := ["value", "item", "key"]
theorem sc_own : FnScope n_own ["value"] (defScope s_own) := ⟨rfl, rfl, rfl, by decide +kernel, rfl, by decide +kernel, by decide +kernel⟩
/-! the places of the texts: up to 4000 signs -/
theorem small1000 {n : Nat} (h : n ≤ 4000) : n < sizeLine := Nat.lt_of_le_of_lt h (by rw [sizeLine_eq]; decide)
def spIs (B : Str → Bool) : Sp := fun vs H Q _ => ∃ z : Str, vs = [.str z] ∧ z.length ≤ 4000 ∧ Asc z ∧ ∀ H' : Hp, Same H H' → Q (.bl (B z)) H'
def spWords : Sp := fun vs H Q _ => ∃ z : Str, vs = [.str z] ∧ z.length ≤ 4000 ∧ ∀ (a : Addr) (H' : Hp), Same H H' → H a = none → H' a = some (.lst ((wordsL z).map V.str)) → Q (.ref a) H'
def spCons : Sp := fun vs H Q _ => ∃ (z lo hi : Str) (l h most : Nat), vs = [.str z, .str lo, .str hi, .int (most : Nat)] ∧ z.length ≤ 4000 ∧ lo.cps.toList = [l] ∧ hi.cps.toList = [h] ∧ ∀ H' : Hp, Same H H' → Q (.bl (consB l h most z)) H'
section
variable {P : Program} {w : World} {K : PySem.W.Frag} {mg : Str → Option Value} {base : Heap}
theorem ok_words_in {f : Addr} {fd : FuncData} (F : Fun K "words_in" "words_in" s_words_in f fd) : FnOk P w K mg base CX0 1 f fd ["row"] spWords := by
  refine F.ok sc_words_in (fun vs H Q E h => ?_) (fun cdv A outer s H vs Q E hr h => ?_)
  · obtain ⟨z, rfl, _⟩ := h
    rfl
  · obtain ⟨z, rfl, hz, q⟩ := h
    refine ⟨_, (pss_cons (ps_if (pt_cmpR op_eq (pv 0) pe_str (nomark _)) (pss_one (ps_ret (pe_lst pa_nil))) pss_nil)
  (pss_one (ps_ret (pe_split (pv 0) pe_str)))), ?_⟩
    refine ⟨_, rfl, rfl, _, rfl, ite2 (fun h0 => ?_) (fun h0 => ?_)⟩
    · have e0 : z = "" := V.str.inj (of_decide_eq_true h0)
      refine ⟨Nat.zero_le _, fun a na => q a _ (new_same na) na ?_⟩
      rw [wordsL, if_pos e0]
      exact upd_same
    · have e0 : ¬ z = "" := fun h => h0 (decide_eq_true (congrArg V.str h))
      refine ⟨_, rfl, ⟨_, rfl⟩, _, _, rfl, rfl, by decide +kernel, (by rw [sizeLine_eq]; omega), fun L nL => ?_⟩
      refine q L _ (new_same nL) nL ?_
      rw [wordsL_of e0]
      exact upd_same
theorem ok_consists {f : Addr} {fd : FuncData} (F : Fun K "consists_of" "consists_of" s_consists f fd) (T : NmC mg) : FnOk P w K mg base CX0 1 f fd ["word", "low", "high", "most"] spCons := by
  refine F.ok sc_consists (fun vs H Q E h => ?_) (fun cdv A outer s H vs Q E hr h => ?_)
  · obtain ⟨z, lo, hi, l, h, most, rfl, _⟩ := h
    rfl
  · obtain ⟨z, lo, hi, l, h, most, rfl, hz, el, eh, q⟩ := h
    have hz' : z.length ≤ sizeLine := Nat.le_of_lt (small1000 hz)
    refine ⟨_, pss_one (ps_ret (pe_and (pe_chain op_le op_le pe_int (pe_callB call_len_str (by rfl) T.n_len (by decide +kernel) (pa_cons (pv 0) pa_nil)) (pv 3))
      (pe_one (pe_callB (cr_all rfl) (by rfl) T.n_all (by decide +kernel) (pa_cons (pe_lc (own := [("sign", 4)]) (g := gName 4) (tt := tYes) rfl sc_consists.nd (pi_str (pv 0)) (blkOk_by (own := [("sign", 4)]) (N := n_consists) (sc := defScope s_consists) (by decide +kernel)) (fun _ _ _ _ _ => (pg_name (i := 4) sc_consists.nd rfl (.inl rfl))) (fun _ _ _ _ _ => pts_nil) (fun _ _ _ _ _ => (pe_chain op_le_str op_le_str (pv 1) (pv 4) (pv 2)))) pa_nil))))), ?_⟩
    refine ⟨_, rfl, z, rfl, hz', _, _, rfl, rfl, _, rfl, ite2 (fun h0 => ?_) (fun h0 => ?_)⟩
    · have h0' : 0 < z.length := by
        have := of_decide_eq_true h0
        omega
      refine ⟨_, rfl, _, _, rfl, rfl, _, rfl, ite2 (fun h1 => ?_) (fun h1 => ?_)⟩
      · have h1' : z.length ≤ most := by
          have := of_decide_eq_true h1
          omega
        refine ⟨_, rfl, z, rfl, fun D nD => ?_⟩
        refine lc_it walk_str (fun i Hi => (∀ b o, b ≠ D → H b = some o → Hi b = some o) ∧ Hi D = some (.lst (((z.cps.toList.take i).map fun c => decide (l ≤ c) && decide (c ≤ h)).map V.bl)))
          ⟨fun b o x e => by rw [upd_ne x]; exact e, upd_same⟩ (fun _ _ _ _ => True.intro) (fun i x Hi Hj hil p y => ?_) (fun Hi p => ?_)
        · obtain ⟨rfl, c, hc, rfl⟩ := y
          have hcl : z.cps.toList[i]? = some c := by rw [Array.getElem?_toList]; exact hc
          have fin : ∀ k : Bool, k = (decide (l ≤ c) && decide (c ≤ h)) → ∃ acc, Hj D = some (.lst acc) ∧ acc.length < sizeLine ∧ (∀ b o, b ≠ D → H b = some o → upd Hj D (.lst (acc ++ [.bl k])) b = some o) ∧ upd Hj D (.lst (acc ++ [.bl k])) D = some (.lst (((z.cps.toList.take (i + 1)).map fun c => decide (l ≤ c) && decide (c ≤ h)).map V.bl)) := fun k hk => by
            refine ⟨_, p.2, ?_, fun b o x e => by rw [upd_ne x]; exact p.1 b o x e, ?_⟩
            · rw [List.length_map, List.length_map, List.length_take]
              exact small1000 (Nat.le_trans (Nat.min_le_right _ _) hz)
            · rw [upd_same, take_snoc hcl, List.map_append, List.map_append, hk]
              rfl
          refine ⟨rfl, keep1' ?_⟩
          refine ⟨_, rfl, _, rfl, _, _, rfl, rfl, _, rfl, ?_⟩
          have a1 : (!decide ((⟨#[c]⟩ : Str).cps.toList < lo.cps.toList)) = decide (l ≤ c) := by
            rw [el, show (⟨#[c]⟩ : Str).cps.toList = [c] from rfl, lt_one, ← decide_not]
            exact decide_eq_decide.mpr Nat.not_lt
          have a2 : (!decide (hi.cps.toList < (⟨#[c]⟩ : Str).cps.toList)) = decide (c ≤ h) := by
            rw [eh, show (⟨#[c]⟩ : Str).cps.toList = [c] from rfl, lt_one, ← decide_not]
            exact decide_eq_decide.mpr Nat.not_lt
          rw [a1]
          refine ite2 (fun b0 => ?_) (fun b0 => ?_)
          · refine ⟨_, rfl, _, _, rfl, rfl, ?_⟩
            rw [a2]
            exact fin _ (by rw [b0, Bool.true_and])
          · exact fin false (by rw [Bool.eq_false_iff.mpr b0, Bool.false_and])
        · have eD := p.2
          rw [show z.cps.size = z.cps.toList.length from rfl, List.take_length] at eD
          refine ⟨D, _, rfl, SqL.of eD, ?_⟩
          have e : (z.cps.toList.map fun c => decide (l ≤ c) && decide (c ≤ h)).all id = consB l h most z := by
            rw [List.all_map]
            unfold consB
            rw [decide_eq_true h0', decide_eq_true h1']
            rfl
          rw [e]
          exact q _ fun b o e => p.1 b o (ne_of_none e nD) e
      · have e : consB l h most z = false := by
          have h2 : ¬ z.length ≤ most := fun h3 => h1 (decide_eq_true (by omega))
          unfold consB
          rw [decide_eq_false h2, Bool.false_and, Bool.and_false]
        rw [e] at q
        exact q H (Same.refl H)
    · have e : consB l h most z = false := by
        have h2 : ¬ 0 < z.length := fun h3 => h0 (decide_eq_true (by omega))
        unfold consB
        rw [decide_eq_false h2, Bool.false_and]
      rw [e] at q
      exact ⟨_, rfl, iteF (q H (Same.refl H))⟩
theorem ok_box {f : Addr} {fd : FuncData} (F : Fun K "_law_box" "_law_box" s_box f fd) (T : Nm mg) : FnOk P w K mg base CX0 1 f fd ["_law_script", "_law_k", "_law_own"] (spBox K) := by
  refine F.ok sc_box (fun vs H Q E h => ?_) (fun cdv A outer s H vs Q E hr h => ?_)
  · obtain ⟨l, ns, k, own, rfl, _⟩ := h
    rfl
  · obtain ⟨l, ns, k, own, rfl, hl, hk, ho, q⟩ := h
    refine ⟨_, (pss_cons (ps_set (i := 3) sc_box.nd rfl (.inl rfl) (pe_op op_add (pe_op op_add (pe_op op_mul pe_int (pv 1)) (pe_op op_mul pe_int (pv 2))) pe_int))
  (C8.pss_cut (ps_if (pt_cmpR op_lt (pv 1) (pe_callB call_len_seq (by rfl) T.n_len (by decide +kernel) (pa_cons (pv 0) pa_nil)) (nomark _)) (pss_one (ps_set (i := 3) sc_box.nd rfl (.inl rfl) (pe_callB call_abs (by rfl) T.n_abs (by decide +kernel) (pa_cons (pe_ix ix_list (pv 0) (pv 1) (fun _ _ => rfl)) pa_nil)))) (pss_one (ps_if (pt_cmpR op_gt (pe_callB call_len_seq (by rfl) T.n_len (by decide +kernel) (pa_cons (pv 0) pa_nil)) pe_int (nomark _)) (pss_one (ps_set (i := 3) sc_box.nd rfl (.inl rfl) (pe_op op_add (pv 3) (pe_op op_mul (pe_op op_mod (pe_callB call_abs (by rfl) T.n_abs (by decide +kernel) (pa_cons (pe_ix ix_list (pv 0) (pe_op op_mod (pv 1) (pe_callB call_len_seq (by rfl) T.n_len (by decide +kernel) (pa_cons (pv 0) pa_nil))) (fun _ _ => rfl)) pa_nil)) pe_int) pe_int)))) pss_nil)))
  (pss_cons (ps_set (i := 4) sc_box.nd rfl (.inl rfl) (pe_op op_add (pe_op op_mod (pe_op op_add (pe_op op_mul (pe_op op_mod (pv 3) pe_int) pe_int) (pe_op op_mul pe_int (pe_op op_add (pv 1) (pe_op op_mul pe_int (pv 2))))) pe_int) pe_int))
  (pss_one (ps_ret (pe_lst (pa_cons (pe_ix ix_list (pe_lst (pa_cons pe_int (pa_cons (pv 3) pa_nil))) (pe_callTy call_int1 (by rfl) T.n_int (by decide +kernel) (pa_cons (pe_cmpR op_ge (pv 3) (pe_op op_pow pe_int pe_int) (nomark _)) pa_nil)) (fun _ _ => rfl)) (pa_cons (pv 4) (pa_cons pe_int pa_nil))))))))), ?_⟩
    refine ⟨_, rfl, _, _, rfl, rfl, .inl ⟨by decide, by decide⟩, ?_⟩
    refine ⟨_, rfl, _, _, rfl, rfl, .inl ⟨by decide, by decide⟩, _, _, rfl, rfl, _, _, rfl, rfl, ?_⟩
    refine ⟨fun σ' H' => ∃ c : Int, σ' = [some (.ref l), some (.int (k : Int)), some (.int (own : Int)), some (.int c), none] ∧ H' = H ∧ 0 ≤ c, ?_, ?_⟩
    · have hlen : (ns.map V.int).length = ns.length := List.length_map ..
      refine ⟨_, rfl, _, rfl, l, _, rfl, .inl hl, _, _, rfl, rfl, _, rfl, ?_⟩
      refine ite2 (fun ct => ?_) (fun cf => ?_)
      · have ct' := of_decide_eq_true ct
        have hkl : k < ns.length := by omega
        refine ⟨_, rfl, _, rfl, l, _, _, _, rfl, rfl, hl, atInt hkl, _, rfl, ?_⟩
        exact ⟨_, rfl, rfl, abs_nn _⟩
      · refine ⟨_, rfl, l, _, rfl, .inl hl, _, _, rfl, rfl, _, rfl, ?_⟩
        refine ite2 (fun dt => ?_) (fun df => ?_)
        · have dt' := of_decide_eq_true dt
          have hpos : 0 < ns.length := by omega
          have hm : (k : Int) % ((ns.map V.int).length : Int) = ((k % ns.length : Nat) : Int) := by rw [hlen]; rfl
          refine ⟨_, rfl, _, rfl, _, rfl, _, rfl, l, _, rfl, .inl hl, _, _, rfl, rfl, (by show (0 : Int) < _; omega), l, _, _, _, rfl, rfl, hl, (by rw [hm]; exact atInt (Nat.mod_lt _ hpos)), _, rfl, ?_⟩
          refine ⟨_, _, rfl, rfl, (by show (0 : Int) < 2147483629; decide), _, _, rfl, rfl, .inr ⟨by decide, by decide⟩, _, _, rfl, rfl, ?_⟩
          refine ⟨_, rfl, rfl, ?_⟩
          have := Int.emod_nonneg (if ns[k % ns.length]'(Nat.mod_lt _ hpos) < 0 then -ns[k % ns.length]'(Nat.mod_lt _ hpos) else ns[k % ns.length]'(Nat.mod_lt _ hpos)) (show (2147483629 : Int) ≠ 0 by decide)
          omega
        · exact ⟨_, rfl, rfl, by omega⟩
    · rintro σ' H' ⟨c, rfl, rfl, hc⟩
      -- the seed
      refine ⟨_, rfl, _, _, rfl, rfl, (by show (0 : Int) < 2147483629; decide), _, _, rfl, rfl, .inr ⟨by decide, by decide⟩, ?_⟩
      refine ⟨_, rfl, _, rfl, _, _, rfl, rfl, .inl ⟨by decide, by decide⟩, _, _, rfl, rfl, _, _, rfl, rfl, .inl ⟨by decide, by decide⟩, _, _, rfl, rfl, ?_⟩
      refine ⟨_, _, rfl, rfl, (by show (0 : Int) < 2147483629; decide), _, _, rfl, rfl, ?_⟩
      -- [0, cell]
      refine ⟨_, rfl, (by show 2 ≤ sizeLine; decide), fun z hz => ?_⟩
      refine ⟨_, rfl, _, _, rfl, rfl, ⟨by decide, by decide, by decide⟩, _, _, rfl, rfl, .inr ⟨_, rfl, ?_⟩⟩
      have s1 : Same H' (upd H' z (.lst [.int 0, .int c])) := fun b o e => by
        rw [upd_ne (ne_of_none e hz)]
        exact e
      by_cases big : (10 : Int) ^ (18 : Nat) ≤ c
      · have ed : decide ((10 : Int) ^ (Int.toNat 18) ≤ c) = true := decide_eq_true big
        refine ⟨z, _, _, .int c, rfl, rfl, SqL.of upd_same, (by rw [ed]; rfl), _, rfl, (by show 3 ≤ sizeLine; decide), fun p hp => ?_⟩
        refine q p _ (s1.free hp) (fun b o e => ?_) ⟨c, _, 0, upd_same, hc, ?_, ?_, by decide, by decide⟩
        · rw [upd_ne (ne_of_none (s1 b o e) hp)]
          exact s1 b o e
        · omega
        · omega
      · have ed : decide ((10 : Int) ^ (Int.toNat 18) ≤ c) = false := decide_eq_false big
        refine ⟨z, _, _, .int 0, rfl, rfl, SqL.of upd_same, (by rw [ed]; rfl), _, rfl, (by show 3 ≤ sizeLine; decide), fun p hp => ?_⟩
        refine q p _ (s1.free hp) (fun b o e => ?_) ⟨0, _, 0, upd_same, by decide, ?_, ?_, by decide, by decide⟩
        · rw [upd_ne (ne_of_none (s1 b o e) hp)]
          exact s1 b o e
        · omega
        · omega
theorem ok_own {f : Addr} {fd : FuncData} (F : Fun K "own_copy" "own_copy" s_own f fd) (T : NmO mg K f) : FnOk P w K mg base CX0 1 f fd ["value"] spOwnF := by
  refine F.ok sc_own (fun vs H Q E h => ?_) (fun cdv A outer s H vs Q E hr h => ?_)
  · obtain ⟨v, rfl, _⟩ := h
    rfl
  · obtain ⟨v, rfl, hv, q⟩ := h
    refine ⟨_, pss_cons (ps_if (pt_val (pe_callB call_isi (by rfl) T.n_isinstance (by decide +kernel) (pa_cons (pv 0) (pa_cons (pe_bltn (v := .ty "list") (by rfl) T.n_list (by decide +kernel) rfl) pa_nil)))) pss_never pss_nil)
      (pss_cons (ps_if (pt_val (pe_callB call_isi (by rfl) T.n_isinstance (by decide +kernel) (pa_cons (pv 0) (pa_cons (pe_bltn (v := .ty "tuple") (by rfl) T.n_tuple (by decide +kernel) rfl) pa_nil)))) pss_never pss_nil)
      (pss_cons (ps_if (pt_val (pe_callB call_isi (by rfl) T.n_isinstance (by decide +kernel) (pa_cons (pv 0) (pa_cons (pe_bltn (v := .ty "dict") (by rfl) T.n_dict (by decide +kernel) rfl) pa_nil)))) pss_never pss_nil)
      (pss_one (ps_ret (pv 0))))), ?_⟩
    rcases hv with ⟨i, rfl⟩ | ⟨x, rfl⟩
    · refine ⟨_, rfl, _, _, _, _, _, rfl, .ty _, .base (.int i), kit_ty (by decide +kernel), _, rfl, iteF ?_⟩
      refine ⟨_, rfl, _, _, _, _, _, rfl, .ty _, .base (.int i), kit_ty (by decide +kernel), _, rfl, iteF ?_⟩
      refine ⟨_, rfl, _, _, _, _, _, rfl, .ty _, .base (.int i), kit_ty (by decide +kernel), _, rfl, iteF ?_⟩
      exact ⟨_, rfl, q⟩
    · refine ⟨_, rfl, _, _, _, _, _, rfl, .ty _, .base (.str x), kit_ty (by decide +kernel), _, rfl, iteF ?_⟩
      refine ⟨_, rfl, _, _, _, _, _, rfl, .ty _, .base (.str x), kit_ty (by decide +kernel), _, rfl, iteF ?_⟩
      refine ⟨_, rfl, _, _, _, _, _, rfl, .ty _, .base (.str x), kit_ty (by decide +kernel), _, rfl, iteF ?_⟩
      exact ⟨_, rfl, q⟩
end
end N7

set_option linter.all false
set_option maxRecDepth 100000
set_option maxHeartbeats 8000000
namespace N7
open PySem PySem.Spec PyProof.Rows L2 Gx
/-! ### draws -/
abbrev s_take : Stmt := topS 42
abbrev n_take : List Str := ["_law_box_here", "_law_many_here", "_law_digit", "_law_raw"]
theorem sc_take : FnScope n_take ["_law_box_here", "_law_many_here"] (defScope s_take) := ⟨rfl, rfl, rfl, by decide +kernel, rfl, by decide +kernel, by decide +kernel⟩
abbrev s_mixed : Stmt := topS 43
abbrev n_mixed : List Str := ["_law_box_here", "_law_items", "_law_left", "_law_found"]
theorem sc_mixed : FnScope n_mixed ["_law_box_here", "_law_items"] (defScope s_mixed) := ⟨rfl, rfl, rfl, by decide +kernel, rfl, by decide +kernel, by decide +kernel⟩
abbrev s_pick : Stmt := topS 44
abbrev n_pick : List Str := ["_law_box_here", "_law_items"]
theorem sc_pick : FnScope n_pick ["_law_box_here", "_law_items"] (defScope s_pick) := ⟨rfl, rfl, rfl, by decide +kernel, rfl, by decide +kernel, by decide +kernel⟩
abbrev s_caps : Stmt := topS 46
abbrev n_caps : List Str := ["_law_box_here", "_law_many_here", "_law_letters", "_law_first", "_law_stem", "_law_k"]
theorem sc_caps : FnScope n_caps ["_law_box_here", "_law_many_here"] (defScope s_caps) := ⟨rfl, rfl, rfl, by decide +kernel, rfl, by decide +kernel, by decide +kernel⟩
def spMix : Sp := fun vs H Q _ => ∃ (p l : Addr) (zs : List Str) (m : Nat), vs = [.ref p, .ref l] ∧ BoxAt H p m ∧ H l = some (.lst (zs.map V.str)) ∧ (∀ z ∈ zs, Asc z) ∧ zs.length ≤ 100 ∧ m ≤ 10000 ∧
  ∀ (r : Addr) (ys : List Str) (H' : Hp), H r = none → H' r = some (.lst (ys.map V.str)) → ys.length = zs.length → ys.Perm zs → BoxAt H' p (m + zs.length) → Kp p H H' → Q (.ref r) H'
def spPick : Sp := fun vs H Q _ => ∃ (p l : Addr) (xs : List V) (m : Nat), vs = [.ref p, .ref l] ∧ BoxAt H p m ∧ H l = some (.lst xs) ∧ l ≠ p ∧ 1 ≤ xs.length ∧ xs.length ≤ 100 ∧ m ≤ 100000 ∧
  ∀ (x : V) (H' : Hp), x ∈ xs → BoxAt H' p (m + 1) → Kp p H H' → Q x H'
def CapOk (z : Str) : Prop := z.length ≤ 4 ∧ Asc z ∧ consB 65 90 4 z = true
def stems : List Str := ["", "ZQZ", "A"]
/-- all that are ever made -/
def capsAll : List Str := (["K", "KK", "KKK", "KKKK", "Q", "QK"] : List Str) ++ stems.flatMap fun s => (List.range 26).map fun i => s ++ ⟨#[65 + i]⟩
def CapX (z : Str) : Prop := CapOk z ∧ z ∈ capsAll
theorem caps_in {s : Str} {i : Nat} (h : s ∈ stems) (hi : i < 26) : s ++ ⟨#[65 + i]⟩ ∈ capsAll := List.mem_append_right _ (List.mem_flatMap.mpr ⟨s, h, List.mem_map.mpr ⟨i, List.mem_range.mpr hi, rfl⟩⟩)
def spCaps : Sp := fun vs H Q _ => ∃ (p : Addr) (m many : Nat), vs = [.ref p, .int (many : Nat)] ∧ BoxAt H p m ∧ m ≤ 9000 ∧ many ≤ 6 ∧
  ∀ (r : Addr) (ys : List Str) (H' : Hp), H r = none → H' r = some (.lst (ys.map V.str)) → ys.length = many → (∀ y ∈ ys, CapX y) → ys.Nodup → BoxAt H' p (m + 10) → Kp p H H' → Q (.ref r) H'
structure NmM (mg : Str → Option Value) (K : PySem.W.Frag) (ft fx : Addr) : Prop where
  g__law_take : mg "_law_take" = some (.ref ft)
  k__law_take : PySem.W.keepIn K (.ref ft) = true
  g__law_mixed : mg "_law_mixed" = some (.ref fx)
  k__law_mixed : PySem.W.keepIn K (.ref fx) = true
  n_list : mg "list" = none
  n_len : mg "len" = none
  n_range : mg "range" = none
def lenAt (H : Hp) (a : Addr) : Nat := match H a with
  | some (.lst ls) => ls.length
  | _ => 0
theorem lenAt_of {H : Hp} {a : Addr} {ls : List V} (h : H a = some (.lst ls)) : lenAt H a = ls.length := by
  unfold lenAt
  rw [h]
theorem erase_map {α β : Type} (f : α → β) : ∀ (l : List α) (k : Nat), (l.map f).eraseIdx k = (l.eraseIdx k).map f
  | [], _ => rfl
  | _ :: _, 0 => rfl
  | a :: l, k + 1 => congrArg (f a :: ·) (erase_map f l k)
theorem caps_at : ∀ i, i < 26 → ("ABCDEFGHIJKLMNOPQRSTUVWXYZ" : Str).cps.toList[i]? = some (65 + i) := by decide +kernel
theorem cons_snoc {st : Str} {c : Nat} (h : ∀ x ∈ st.cps.toList, 65 ≤ x ∧ x ≤ 90) (hl : st.length ≤ 3) (h1 : 65 ≤ c) (h2 : c ≤ 90) : consB 65 90 4 (st ++ ⟨#[c]⟩) = true := by
  have hlen : (st ++ ⟨#[c]⟩ : Str).length = st.length + 1 := len_app _ _
  have hl2 : (st ++ ⟨#[c]⟩ : Str).cps.toList = st.cps.toList ++ [c] := by
    show (st.cps ++ #[c]).toList = _
    rw [Array.toList_append]
  unfold consB
  rw [hlen, hl2, decide_eq_true (by omega), decide_eq_true (by omega), List.all_append, Bool.true_and, Bool.true_and, Bool.and_eq_true]
  refine ⟨List.all_eq_true.mpr fun x hx => ?_, ?_⟩
  · have := h x hx
    rw [decide_eq_true this.1, decide_eq_true this.2]
    rfl
  · show ((decide (65 ≤ c) && decide (c ≤ 90)) && true) = true
    rw [decide_eq_true h1, decide_eq_true h2]
    rfl
theorem cut6 {many : Nat} (h : many ≤ 6) : cutV [.str "K", .str "KK", .str "KKK", .str "KKKK", .str "Q", .str "QK"] none (some ((many : Nat) : Int)) = ((["K", "KK", "KKK", "KKKK", "Q", "QK"] : List Str).take many).map V.str := by
  match many, h with
  | 0, _ => rfl
  | 1, _ => rfl
  | 2, _ => rfl
  | 3, _ => rfl
  | 4, _ => rfl
  | 5, _ => rfl
  | 6, _ => rfl
theorem caps6 : ∀ z ∈ (["K", "KK", "KKK", "KKKK", "Q", "QK"] : List Str), CapOk z := by
  unfold CapOk
  decide +kernel
section
variable {P : Program} {w : World} {K : PySem.W.Frag} {mg : Str → Option Value} {base : Heap}
theorem ok_take {f : Addr} {fd : FuncData} (F : Fun K "_law_take" "_law_take" s_take f fd) : FnOk P w K mg base CX0 1 f fd ["_law_box_here", "_law_many_here"] spTake := by
  refine F.ok sc_take (fun vs H Q E h => ?_) (fun cdv A outer s H vs Q E hr h => ?_)
  · obtain ⟨p, many, m, rfl, _⟩ := h
    rfl
  · obtain ⟨p, many, m, rfl, ⟨c, sd, n, hb, hc, hs0, hs1, hn0, hn1⟩, hm, h0, h1, k⟩ := h
    refine ⟨_, (pss_cons (ps_if (pt_cmpR op_gt (pe_ix ix_list (pv 0) pe_int (fun _ _ => rfl)) pe_int (nomark _)) (pss_cons (ps_set (i := 2) sc_take.nd rfl (.inl rfl) (pe_op op_mod (pe_ix ix_list (pv 0) pe_int (fun _ _ => rfl)) (pv 1)))
  (pss_cons (ps_asg (pe_op op_fdiv (pe_ix ix_list (pv 0) pe_int (fun _ _ => rfl)) (pv 1)) (pg_sub (pv 0) pe_int set_list))
  (pss_one (ps_ret (pv 2))))) pss_nil)
  (pss_cons (ps_asg (pe_op op_add (pe_ix ix_list (pv 0) pe_int (fun _ _ => rfl)) pe_int) (pg_sub (pv 0) pe_int set_list))
  (pss_cons (ps_set (i := 3) sc_take.nd rfl (.inl rfl) (pe_op op_mod (pe_op op_mul (pe_op op_add (pe_ix ix_list (pv 0) pe_int (fun _ _ => rfl)) (pe_op op_mul pe_int (pe_ix ix_list (pv 0) pe_int (fun _ _ => rfl)))) pe_int) pe_int))
  (pss_cons (ps_asg (pe_op op_add (pe_op op_mod (pe_op op_add (pe_op op_mul (pv 3) pe_int) pe_int) pe_int) pe_int) (pg_sub (pv 0) pe_int set_list))
  (pss_one (ps_ret (pe_op op_mod (pe_op op_fdiv (pe_op op_add (pe_op op_mul (pv 3) pe_int) (pe_ix ix_list (pv 0) pe_int (fun _ _ => rfl))) pe_int) (pv 1)))))))), ?_⟩
    refine ⟨_, rfl, p, _, _, _, rfl, rfl, SqL.of hb, rfl, _, _, rfl, rfl, _, rfl, ?_⟩
    refine ite2 (fun cpos => ?_) (fun cneg => ?_)
    · refine ⟨_, rfl, p, _, _, _, rfl, rfl, SqL.of hb, rfl, _, rfl, _, _, rfl, rfl, h0, ?_⟩
      refine ⟨_, rfl, p, _, _, _, rfl, rfl, SqL.of hb, rfl, _, rfl, _, _, rfl, rfl, ⟨h0, h1⟩, ?_⟩
      refine ⟨_, rfl, p, _, _, _, rfl, rfl, hb, rfl, ?_⟩
      refine ⟨_, rfl, ?_⟩
      refine k _ _ (Int.emod_nonneg _ (by omega)) (Int.emod_lt_of_pos _ h0) ⟨c / many, sd, n, upd_same, Int.ediv_nonneg hc (by omega), hs0, hs1, hn0, by omega⟩ fun b hb' => upd_ne hb'
    · refine ⟨_, rfl, p, _, _, _, rfl, rfl, SqL.of hb, rfl, _, _, rfl, rfl, ?_⟩
      refine ⟨_, rfl, p, _, _, _, rfl, rfl, hb, rfl, ?_⟩
      refine ⟨_, rfl, p, _, _, _, rfl, rfl, SqL.of upd_same, rfl, ?_⟩
      refine ⟨_, rfl, p, _, _, _, rfl, rfl, SqL.of upd_same, rfl, _, _, rfl, rfl, .inl ⟨by decide, by decide⟩, _, _, rfl, rfl, ?_⟩
      refine ⟨_, _, rfl, rfl, .inl ⟨by omega, by omega⟩, _, _, rfl, rfl, (by show (0 : Int) < 2147483647; decide), ?_⟩
      have hr0 := Int.emod_nonneg ((sd + 104729 * (n + 1)) * 69623) (show (2147483647 : Int) ≠ 0 by decide)
      have hr1 := Int.emod_lt_of_pos ((sd + 104729 * (n + 1)) * 69623) (show (0 : Int) < 2147483647 by decide)
      refine ⟨_, rfl, _, _, rfl, rfl, .inl ⟨by omega, by omega⟩, _, _, rfl, rfl, _, _, rfl, rfl, (by show (0 : Int) < 2147483629; decide), _, _, rfl, rfl, ?_⟩
      refine ⟨_, rfl, p, _, _, _, rfl, rfl, upd_same, rfl, ?_⟩
      refine ⟨_, rfl, _, _, rfl, rfl, .inl ⟨by omega, by omega⟩, ?_⟩
      refine ⟨_, rfl, p, _, _, _, rfl, rfl, SqL.of upd_same, rfl, _, _, rfl, rfl, _, _, rfl, rfl, ⟨by decide, by decide⟩, _, rfl, _, _, rfl, rfl, h0, ?_⟩
      refine k _ _ (Int.emod_nonneg _ (by omega)) (Int.emod_lt_of_pos _ h0) ⟨c, _, n + 1, upd_same, hc, by omega, by omega, by omega, by push_cast; omega⟩ fun b hb' => ?_
      rw [upd_ne hb', upd_ne hb']
theorem ok_pick {f ft fx : Addr} {fd fdt : FuncData} (F : Fun K "_law_pick" "_law_pick" s_pick f fd) (T : NmM mg K ft fx) (G__law_take : FnOk P w K mg base CX0 1 ft fdt ["_law_box_here", "_law_many_here"] spTake) (b__law_take : Binds K fdt ["_law_box_here", "_law_many_here"] []) :
    FnOk P w K mg base CX0 2 f fd ["_law_box_here", "_law_items"] spPick := by
  refine F.ok sc_pick (fun vs H Q E h => ?_) (fun cdv A outer s H vs Q E hr h => ?_)
  · obtain ⟨p, l, xs, m, rfl, _⟩ := h
    rfl
  · obtain ⟨p, l, xs, m, rfl, hb, hl, lp, h1, h2, hm, q⟩ := h
    refine ⟨_, (pss_one (ps_ret (pe_ix ix_list (pv 1) (pe_call G__law_take hr rfl T.g__law_take T.k__law_take b__law_take .nil pass0 (pa_cons (pv 0) (pa_cons (pe_callB call_len_seq (by rfl) T.n_len (by decide +kernel) (pa_cons (pv 1) pa_nil)) pa_nil))) (fun _ _ => rfl)))), ?_⟩
    refine ⟨_, rfl, _, rfl, _, rfl, l, _, rfl, .inl (SqL.of hl), p, _, m, rfl, hb, by omega, by omega, by omega, fun d H2 d0 d1 hb2 k2 => ?_⟩
    obtain ⟨k, rfl⟩ : ∃ k : Nat, d = (k : Int) := ⟨d.toNat, by omega⟩
    have hk : k < xs.length := by omega
    refine ⟨l, _, _, xs[k], rfl, rfl, SqL.of ((k2 l lp).trans hl), atI_nat (List.getElem?_eq_getElem hk), ?_⟩
    exact q _ _ (List.getElem_mem hk) hb2 (Kp.eq k2)
theorem pull : ∀ (ls : List Str) (k : Nat) (h : k < ls.length), (ls[k] :: ls.eraseIdx k).Perm ls
  | x :: ls, 0, _ => List.Perm.refl _
  | x :: ls, k + 1, h => by
    have ih := pull ls k (Nat.lt_of_succ_lt_succ h)
    exact (List.Perm.swap x (ls[k]'(Nat.lt_of_succ_lt_succ h)) (ls.eraseIdx k)).trans (ih.cons x)
theorem ok_mixed {f ft fx : Addr} {fd fdt : FuncData} (F : Fun K "_law_mixed" "_law_mixed" s_mixed f fd) (T : NmM mg K ft fx) (G__law_take : FnOk P w K mg base CX0 1 ft fdt ["_law_box_here", "_law_many_here"] spTake) (b__law_take : Binds K fdt ["_law_box_here", "_law_many_here"] []) :
    FnOk P w K mg base CX0 2 f fd ["_law_box_here", "_law_items"] spMix := by
  refine F.ok sc_mixed (fun vs H Q E h => ?_) (fun cdv A outer s H vs Q E hr h => ?_)
  · obtain ⟨p, l, zs, m, rfl, _⟩ := h
    rfl
  · obtain ⟨p, l, zs, m, rfl, hb, hl, hA, hn, hm, q⟩ := h
    have hu64 := hr.units
    refine ⟨_, (pss_cons (ps_par (i := 2) (j := 3) (by rfl) sc_mixed.nd rfl rfl (by decide) rfl rfl (pa_cons (pe_callTy call_list_of (by rfl) T.n_list (by decide +kernel) (pa_cons (pv 1) pa_nil)) (pa_cons (pe_lst pa_nil) pa_nil)) (by rfl))
  (pss_cons (ps_while PassesOwn.never (pt_cmpR (op_neD hu64) (pv 2) (pe_lst pa_nil) (nomark _))
  (pss_one (ps_expr (pe_bm PySem.F.plainAttrs_list PySem.F.slot_list_append PySem.F.type_list_append mt_append (pv 3) (pa_cons (pe_bm PySem.F.plainAttrs_list PySem.F.slot_list_pop PySem.F.type_list_pop mt_popAt (pv 2) (pa_cons (pe_call G__law_take hr rfl T.g__law_take T.k__law_take b__law_take .nil pass0 (pa_cons (pv 0) (pa_cons (pe_callB call_len_seq (by rfl) T.n_len (by decide +kernel) (pa_cons (pv 2) pa_nil)) pa_nil))) pa_nil)) pa_nil)))))
  (pss_one (ps_ret (pv 3))))), ?_⟩
    refine ⟨_, rfl, l, _, rfl, .inl (SqL.of hl), fun a na => ?_⟩
    refine ⟨Nat.zero_le _, fun r nr => ⟨_, _, rfl, ?_⟩⟩
    have ea := new_same (o := .lst []) nr a (.lst (zs.map V.str)) upd_same
    have er : upd (upd H a (.lst (zs.map V.str))) r (.lst []) r = some (.lst []) := upd_same
    have S := (new_same (o := .lst (zs.map V.str)) na).trans (new_same (o := .lst []) nr)
    have nra : r ≠ a := fun z => by rw [z, upd_same] at nr; cases nr
    have nr0 : H r = none := (new_same na).free nr
    have pa : p ≠ a := hb.ne na
    have pr : p ≠ r := hb.ne nr0
    have hb2 := hb.mono S
    generalize upd (upd H a (.lst (zs.map V.str))) r (.lst []) = H2 at *
    refine while_by (fun σ Hi => ∃ (i : Nat) (ls fs : List Str), BoxAt Hi p (m + i) ∧ Kp p H Hi ∧ Hi a = some (.lst (ls.map V.str)) ∧ Hi r = some (.lst (fs.map V.str)) ∧ ls.length + i = zs.length ∧ fs.length = i ∧ (∀ y ∈ ls, y ∈ zs) ∧ (fs ++ ls).Perm zs ∧ σ = [some (.ref p), some (.ref l), some (.ref a), some (.ref r)])
      (fun _ Hi => lenAt Hi a) ⟨0, zs, [], hb2, Kp.of S, ea, er, rfl, rfl, fun _ h => h, List.Perm.refl _, rfl⟩ (fun σ Hi P => ?_) (fun σ Hi Q1 N7 hQ hc => ?_)
    · obtain ⟨i, ls, fs, hbi, ki, el, ef, hl1, hf1, hl2, hf2, rfl⟩ := P
      refine ⟨_, rfl, Nat.zero_le _, fun e0 n0 => ?_⟩
      have S0 := new_same (o := .lst []) n0
      refine ⟨.list (ls.map PyData.str), .list [], .lst (SqL.of (S0 _ _ el)) (dp_strs _), .lst (SqL.of upd_same) .nil, shaped_strs (fun z hz => hA z (hl2 z hz)), rfl, _, rfl, ?_⟩
      rw [eqv_nil]
      have hb0 := hbi.mono S0
      have k0 : Kp p H (upd Hi e0 (.lst [])) := ki.trans (Kp.of S0)
      have el0 := S0 _ _ el
      have ef0 := S0 _ _ ef
      have hμ : lenAt Hi a = ls.length := by rw [lenAt_of el, List.length_map]
      generalize upd Hi e0 (.lst []) = H0 at *
      cases ls with
      | nil => exact iteF ⟨_, rfl, q r fs H0 nr0 ef0 (by rw [List.length_nil] at hl1; omega) (by rw [List.append_nil] at hf2; exact hf2) (hb0.le (by rw [List.length_nil] at hl1; omega)) k0⟩
      | cons z0 ls0 =>
        refine iteT ?_
        generalize hLs : z0 :: ls0 = ls at *
        have hpos : 0 < ls.length := by rw [← hLs]; exact Nat.succ_pos _
        refine ⟨_, rfl, .inl ⟨rfl, _, SqL.of ef0⟩, ?_⟩
        refine ⟨_, rfl, .inl ⟨rfl, _, SqL.of el0⟩, ?_⟩
        refine ⟨_, rfl, _, rfl, a, _, rfl, .inl (SqL.of el0), ?_⟩
        rw [List.length_map]
        refine ⟨p, _, m + i, rfl, hb0, by omega, by omega, by omega, fun d H3 d0 d1 hb3 k3 => ?_⟩
        have el3 := (k3 a (Ne.symm pa)).trans el0
        have ef3 := (k3 r (Ne.symm pr)).trans ef0
        obtain ⟨k, rfl⟩ : ∃ k : Nat, d = (k : Int) := ⟨d.toNat, by omega⟩
        have hk : k < ls.length := by omega
        refine ⟨a, ls.map V.str, _, k, .str ls[k], rfl, rfl, el3, by omega, by omega, by rw [List.length_map, sIx (by omega) (by omega)]; rfl, by rw [List.getElem?_map, List.getElem?_eq_getElem hk]; rfl, ?_⟩
        refine ⟨r, fs.map V.str, _, rfl, rfl, (upd_ne nra).trans ef3, by rw [List.length_map, hf1]; exact small1000 (by omega), ?_⟩
        refine ⟨⟨i + 1, ls.eraseIdx k, fs ++ [ls[k]], ?_, fun b o bp e => ?_, ?_, ?_, ?_, ?_, fun y hy => hl2 y (List.mem_of_mem_eraseIdx hy), ?_, rfl⟩, ?_⟩
        · obtain ⟨c, sd, n, e, x⟩ := hb3
          exact ⟨c, sd, n, by rw [upd_ne pr, upd_ne pa]; exact e, x⟩
        · rw [upd_ne (ne_of_none e nr0)]
          have ba : b ≠ a := fun z => by
            rw [z, na] at e
            cases e
          rw [upd_ne ba, k3 b bp]
          exact k0 b o bp e
        · rw [upd_ne (Ne.symm nra), upd_same, erase_map]
        · rw [upd_same, List.map_append]
          rfl
        · rw [List.length_eraseIdx, if_pos hk]
          omega
        · rw [List.length_append, hf1]
          rfl
        · rw [List.append_assoc, List.singleton_append]
          exact ((pull ls k hk).append_left fs).trans hf2
        · show lenAt _ a < lenAt Hi a
          rw [hμ, lenAt_of (H := upd (upd H3 a _) r _) (ls := (ls.map V.str).eraseIdx k) (by rw [upd_ne (Ne.symm nra), upd_same]), List.length_eraseIdx, List.length_map, if_pos hk]
          omega
    · obtain ⟨v, hv, h0, h⟩ := hc
      refine ⟨v, hv, h0, fun p hp => ?_⟩
      obtain ⟨d, e, h1, h2, h3, h4, k, h5, h6⟩ := h p hp
      exact ⟨d, e, h1, h2, h3, h4, k, h5, hQ _ _ h6⟩
theorem one_inj {z : Str} {x y : Nat} (e : z ++ (⟨#[x]⟩ : Str) = z ++ (⟨#[y]⟩ : Str)) : x = y := by
  have e1 : (z ++ (⟨#[x]⟩ : Str)).cps.toList = (z ++ (⟨#[y]⟩ : Str)).cps.toList := by rw [e]
  have e2 : z.cps.toList ++ [x] = z.cps.toList ++ [y] := by
    have h : ∀ c : Nat, (z ++ (⟨#[c]⟩ : Str)).cps.toList = z.cps.toList ++ [c] := fun c => by
      show (z.cps ++ #[c]).toList = _
      rw [Array.toList_append]
    rw [h, h] at e1
    exact e1
  exact (List.cons.inj (List.append_cancel_left e2)).1
theorem ok_caps {f ft fx : Addr} {fd fdt fdx : FuncData} (F : Fun K "_law_caps" "_law_caps" s_caps f fd) (T : NmM mg K ft fx) (G__law_take : FnOk P w K mg base CX0 2 ft fdt ["_law_box_here", "_law_many_here"] spTake) (b__law_take : Binds K fdt ["_law_box_here", "_law_many_here"] [])
    (G__law_mixed : FnOk P w K mg base CX0 2 fx fdx ["_law_box_here", "_law_items"] spMix) (b__law_mixed : Binds K fdx ["_law_box_here", "_law_items"] []) : FnOk P w K mg base CX0 3 f fd ["_law_box_here", "_law_many_here"] spCaps := by
  refine F.ok sc_caps (fun vs H Q E h => ?_) (fun cdv A outer s H vs Q E hr h => ?_)
  · obtain ⟨p, m, many, rfl, _⟩ := h
    rfl
  · obtain ⟨p, m, many, rfl, hb, hm, hmany, q⟩ := h
    refine ⟨_, (pss_cons (ps_asg (pe_tup (pa_cons pe_str (pa_cons (pe_call G__law_take hr rfl T.g__law_take T.k__law_take b__law_take .nil pass0 (pa_cons (pv 0) (pa_cons pe_int pa_nil))) pa_nil))) (pg_tup rfl (pgs_cons (pg_name (i := 2) sc_caps.nd rfl (.inr rfl)) (pgs_cons (pg_name (i := 3) sc_caps.nd rfl (.inr rfl)) pgs_nil))))
  (pss_cons (ps_if (pt_cmpR op_eq (pe_call G__law_take hr rfl T.g__law_take T.k__law_take b__law_take .nil pass0 (pa_cons (pv 0) (pa_cons pe_int pa_nil))) pe_int (nomark _)) (pss_one (ps_ret (pe_call G__law_mixed hr rfl T.g__law_mixed T.k__law_mixed b__law_mixed .nil pass0 (pa_cons (pv 0) (pa_cons (pe_slice sl_list (pe_lst (pa_cons pe_str (pa_cons pe_str (pa_cons pe_str (pa_cons pe_str (pa_cons pe_str (pa_cons pe_str pa_nil))))))) po_none (po_some (pv 1))) pa_nil))))) pss_nil)
  (pss_cons (ps_set (i := 4) sc_caps.nd rfl (.inr rfl) (pe_ix ix_list (pe_lst (pa_cons pe_str (pa_cons pe_str (pa_cons pe_str (pa_cons pe_str pa_nil))))) (pe_call G__law_take hr rfl T.g__law_take T.k__law_take b__law_take .nil pass0 (pa_cons (pv 0) (pa_cons pe_int pa_nil))) (fun _ _ => rfl)))
  (pss_one (ps_ret (pe_call G__law_mixed hr rfl T.g__law_mixed T.k__law_mixed b__law_mixed .nil pass0 (pa_cons (pv 0) (pa_cons (pe_lc (own := [("_law_k", 5)]) (g := gName 5) (tt := tYes) rfl sc_caps.nd (pi_range1 (by rfl) T.n_range (pa_cons (pv 1) pa_nil)) (blkOk_by (own := [("_law_k", 5)]) (N := n_caps) (sc := defScope s_caps) (by decide +kernel)) (fun _ _ _ _ _ => (pg_name (i := 5) sc_caps.nd rfl (.inl rfl))) (fun _ _ _ _ _ => pts_nil) (fun _ _ _ _ _ => (pe_op op_add_str (pv 4) (pe_ix ix_str (pv 2) (pe_op op_mod (pe_op op_add (pv 3) (pe_op op_mul pe_int (pv 5))) pe_int) (fun _ _ => rfl))))) pa_nil)))))))), ?_⟩
    have fin : ∀ (l : Addr) (zs : List Str) (H' : Hp) (m' : Nat), BoxAt H' p m' → m' ≤ m + 3 → Kp p H H' → H' l = some (.lst (zs.map V.str)) → zs.length = many → (∀ z ∈ zs, CapX z) → zs.Nodup →
        spMix [.ref p, .ref l] H' Q E0 := fun l zs H' m' hb' hm' k' el hz hc hnd =>
      ⟨p, l, zs, m', rfl, hb', el, fun z hz => (hc z hz).1.2.1, by omega, by omega, fun r ys H'' nr er ly my b'' k'' => q r ys H'' (by
        cases e : H r with
        | none => rfl
        | some o =>
          by_cases hp : r = p
          · exact absurd hp.symm (hb'.ne nr)
          · rw [k' r o hp e] at nr
            cases nr) er (by omega) (fun y hy => hc y (my.mem_iff.mp hy)) (my.nodup_iff.mpr hnd) (b''.le (by omega)) (k'.trans k'')⟩
    refine ⟨_, rfl, p, 26, m, rfl, hb, by omega, by decide, by decide, fun d1 H1 d10 d11 hb1 k1 => ⟨(by show 2 ≤ sizeLine; decide), fun t nt => ?_⟩⟩
    have S1 := new_same (o := .tup [.str "ABCDEFGHIJKLMNOPQRSTUVWXYZ", .int d1]) nt
    have et : upd H1 t (.tup [.str "ABCDEFGHIJKLMNOPQRSTUVWXYZ", .int d1]) t = some (.tup [.str "ABCDEFGHIJKLMNOPQRSTUVWXYZ", .int d1]) := upd_same
    refine ⟨t, _, rfl, SqT.of et, rfl, _, _, rfl, _, _, rfl, rfl, ?_⟩
    have hb1' := hb1.mono S1
    have K1 : Kp p H (upd H1 t (.tup [.str "ABCDEFGHIJKLMNOPQRSTUVWXYZ", .int d1])) := (Kp.eq k1).trans (Kp.of S1)
    generalize upd H1 t (.tup [.str "ABCDEFGHIJKLMNOPQRSTUVWXYZ", .int d1]) = H2 at *
    refine ⟨_, rfl, p, 4, _, rfl, hb1', by omega, by decide, by decide, fun d2 H3 d20 d21 hb3 k3 => ⟨rfl, _, rfl, ?_⟩⟩
    have K3 := K1.trans (Kp.eq k3)
    refine ite2 (fun _ => ?_) (fun _ => ?_)
    · refine ⟨_, rfl, (by show 6 ≤ sizeLine; decide), fun l nl => ⟨_, rfl, _, rfl, l, _, rfl, SqL.of upd_same, fun l2 nl2 => ?_⟩⟩
      have S4 := (new_same (o := .lst [.str "K", .str "KK", .str "KKK", .str "KKKK", .str "Q", .str "QK"]) nl).trans (new_same (o := .lst (cutV [.str "K", .str "KK", .str "KKK", .str "KKKK", .str "Q", .str "QK"] none (some ((many : Nat) : Int)))) nl2)
      exact fin l2 ((["K", "KK", "KKK", "KKKK", "Q", "QK"] : List Str).take many) _ _ (hb3.mono S4) (by omega) (K3.trans (Kp.of S4)) (by rw [upd_same, cut6 hmany]) (by rw [List.length_take]; exact Nat.min_eq_left hmany) (fun z hz => ⟨caps6 z (List.mem_of_mem_take hz), List.mem_append_left _ (List.mem_of_mem_take hz)⟩) ((List.take_sublist _ _).nodup (by decide +kernel))
    · refine ⟨(by show 4 ≤ sizeLine; decide), fun l nl => ?_⟩
      have S4 := new_same (o := .lst [.str "", .str "", .str "ZQZ", .str "A"]) nl
      have el4 : upd H3 l (.lst [.str "", .str "", .str "ZQZ", .str "A"]) l = some (.lst [.str "", .str "", .str "ZQZ", .str "A"]) := upd_same
      have hb4 := hb3.mono S4
      have K4 := K3.trans (Kp.of (p := p) S4)
      have pl := hb3.ne nl
      generalize upd H3 l (.lst [.str "", .str "", .str "ZQZ", .str "A"]) = H4 at *
      refine ⟨_, rfl, p, 4, _, rfl, hb4, by omega, by decide, by decide, fun d5 H5 d50 d51 hb5 k5 => ?_⟩
      have K5 := K4.trans (Kp.eq k5)
      obtain ⟨stem, hst, hs3, hsA, hsm, hs5⟩ : ∃ z : Str, atI [V.str "", .str "", .str "ZQZ", .str "A"] d5 = some (.str z) ∧ z.length ≤ 3 ∧ Asc z ∧ z ∈ stems ∧ ∀ x ∈ z.cps.toList, 65 ≤ x ∧ x ≤ 90 := by
        have hc : d5 = ((0 : Nat) : Int) ∨ d5 = ((1 : Nat) : Int) ∨ d5 = ((2 : Nat) : Int) ∨ d5 = ((3 : Nat) : Int) := by omega
        rcases hc with rfl | rfl | rfl | rfl
        · exact ⟨"", atI_nat (j := 0) rfl, by decide +kernel, by decide +kernel, by decide +kernel, by decide +kernel⟩
        · exact ⟨"", atI_nat (j := 1) rfl, by decide +kernel, by decide +kernel, by decide +kernel, by decide +kernel⟩
        · exact ⟨"ZQZ", atI_nat (j := 2) rfl, by decide +kernel, by decide +kernel, by decide +kernel, by decide +kernel⟩
        · exact ⟨"A", atI_nat (j := 3) rfl, by decide +kernel, by decide +kernel, by decide +kernel, by decide +kernel⟩
      refine ⟨l, _, _, _, rfl, rfl, SqL.of ((k5 l (Ne.symm pl)).trans el4), hst, ?_⟩
      refine ⟨_, rfl, _, rfl, (many : Nat), rfl, by omega, by omega, fun D nD => ?_⟩
      rw [Int.toNat_natCast]
      have pD := hb5.ne nD
      refine lc_range (lo := 0) (n := many) (fun i Hi => Same H5 Hi ∧ ∃ zs : List Str, Hi D = some (.lst (zs.map V.str)) ∧ zs.length = i ∧ (∀ z ∈ zs, CapX z) ∧ ∀ (j : Nat) (z : Str), zs[j]? = some z → z = stem ++ ⟨#[65 + (d1.toNat + 5 * j) % 26]⟩)
        ⟨new_same nD, [], upd_same, rfl, (fun _ h => absurd h List.not_mem_nil), fun j z e => absurd e (by simp)⟩ (fun i Hi hi p => ?_) (fun Hi p => ?_)
      · obtain ⟨s5, zs, ez, lz, hz, hj⟩ := p
        obtain ⟨a, rfl⟩ : ∃ a : Nat, d1 = (a : Int) := ⟨d1.toNat, by omega⟩
        refine ⟨rfl, keep1' ?_⟩
        refine ⟨_, rfl, _, rfl, _, rfl, _, rfl, _, _, rfl, rfl, .inl ⟨by decide, by decide⟩, _, _, rfl, rfl, _, _, rfl, rfl, (by show (0 : Int) < 26; decide), ?_⟩
        have ei : ((a : Nat) + 5 * (0 + (i : Nat)) : Int) % 26 = (((a + 5 * i) % 26 : Nat) : Int) := by omega
        refine ⟨_, _, 65 + (a + 5 * i) % 26, rfl, rfl, (by rw [sizeLine_eq]; decide +kernel), (by rw [ei]; exact atI_nat (caps_at _ (Nat.mod_lt _ (by decide)))), _, _, rfl, rfl, (by show _ + 1 ≤ _; rw [sizeLine_eq]; omega), ?_⟩
        refine ⟨_, ez, by rw [List.length_map, lz, sizeLine_eq]; omega, fun b o e => (upd_ne (ne_of_none e nD)).trans (s5 _ _ e), zs ++ [_], by rw [upd_same, List.map_append]; rfl, by rw [List.length_append, lz]; rfl, fun z hz' => ?_, fun j z e => ?_⟩
        rotate_left
        · rw [Int.toNat_natCast] at hj ⊢
          by_cases c : j < zs.length
          · rw [List.getElem?_append_left c] at e
            exact hj j z e
          · have hl := (List.getElem?_eq_some_iff.mp e).1
            rw [List.length_append, List.length_singleton] at hl
            have ej : j = zs.length := by omega
            rw [ej, List.getElem?_append_right (Nat.le_refl _), Nat.sub_self] at e
            cases e
            rw [ej, lz]
        rcases List.mem_append.mp hz' with h | h
        · exact hz z h
        · rw [List.mem_singleton.mp h]
          refine ⟨⟨by rw [len_app]; show _ + 1 ≤ 4; omega, app_asc hsA fun c hc => ?_, cons_snoc hs5 hs3 (by omega) (by omega)⟩, caps_in hsm (Nat.mod_lt _ (by decide))⟩
          rw [List.mem_singleton.mp hc]
          omega
      · obtain ⟨s5, zs, ez, lz, hz, hj⟩ := p
        refine fin D zs Hi _ (hb5.mono s5) (by omega) (K5.trans (Kp.of s5)) ez lz hz (List.pairwise_iff_getElem.mpr fun i j hi hj2 hij e => ?_)
        have e1 := hj i _ (List.getElem?_eq_getElem hi)
        have e2 := hj j _ (List.getElem?_eq_getElem hj2)
        rw [e, e2] at e1
        have e3 := one_inj e1
        omega
end
end N7

set_option linter.all false
set_option maxRecDepth 100000
set_option maxHeartbeats 4000000
set_option pp.maxSteps 200
/-! conditions as they are read, plain: nothing of the program's text -/
namespace Qp
open PySem L2 Gx
inductive Pt where
  | atom (ws : List Str)
  | un (h : Str) (p : Pt)
  | jo (j : Str) (ps : List Pt)
abbrev jts : List Str := ["and", "or"]
abbrev out : List Str := ["parent", "above"]
abbrev hds : List Str := ["not", "parent", "above"]
def hdP : Pt → Str
  | .atom _ => "atom"
  | .un h _ => h
  | .jo j _ => j
mutual
def wf : Pt → Bool
  | .atom _ => true
  | .un h p => hds.contains h && wf p
  | .jo j ps => jts.contains j && wfs ps
def wfs : List Pt → Bool
  | [] => true
  | p :: ps => wf p && wfs ps
end
mutual
def ht : Pt → Nat
  | .atom _ => 0
  | .un _ p => ht p + 1
  | .jo _ ps => hts ps + 1
def hts : List Pt → Nat
  | [] => 0
  | p :: ps => max (ht p) (hts ps)
end
def lenS : List Str → Nat
  | [] => 0
  | w :: ws => w.length + 1 + lenS ws
mutual
/-- at least the length of its text -/
def wt : Pt → Nat
  | .atom ws => 1 + lenS ws
  | .un h p => h.length + 5 + wt p
  | .jo j ps => wts j ps
def wts (j : Str) : List Pt → Nat
  | [] => 0
  | p :: ps => wt p + j.length + 6 + wts j ps
end
theorem wfs_app (a b : List Pt) : wfs (a ++ b) = (wfs a && wfs b) := by
  induction a with
  | nil => rfl
  | cons p a ih =>
    show (wf p && wfs (a ++ b)) = ((wf p && wfs a) && wfs b)
    rw [ih, Bool.and_assoc]
theorem hts_app (a b : List Pt) : hts (a ++ b) = max (hts a) (hts b) := by
  induction a with
  | nil => exact (Nat.zero_max _).symm
  | cons p a ih =>
    show max (ht p) (hts (a ++ b)) = max (max (ht p) (hts a)) (hts b)
    rw [ih, Nat.max_assoc]
theorem wts_app (j : Str) (a b : List Pt) : wts j (a ++ b) = wts j a + wts j b := by
  induction a with
  | nil => exact (Nat.zero_add _).symm
  | cons p a ih =>
    show wt p + j.length + 6 + wts j (a ++ b) = wt p + j.length + 6 + wts j a + wts j b
    rw [ih]
    omega
def fl (j : Str) : Pt → List Pt
  | .jo j' ps => if j' = j then ps else [.jo j' ps]
  | .atom ws => [.atom ws]
  | .un h p => [.un h p]
def jn (j : Str) (l r : Pt) : Pt := .jo j (fl j l ++ fl j r)
theorem fl_wf {j : Str} {p : Pt} (h : wf p = true) : wfs (fl j p) = true := by
  have one : wfs [p] = true := by
    show (wf p && true) = true
    rw [h]
    rfl
  cases p with
  | atom ws => exact one
  | un => exact one
  | jo j' ps =>
    show wfs (if j' = j then ps else [.jo j' ps]) = true
    split
    · have h' : (jts.contains j' && wfs ps) = true := h
      rw [Bool.and_eq_true] at h'
      exact h'.2
    · exact one
theorem jn_wf {j : Str} {l r : Pt} (hj : jts.contains j = true) (hl : wf l = true) (hr : wf r = true) : wf (jn j l r) = true := by
  show (jts.contains j && wfs (fl j l ++ fl j r)) = true
  rw [hj, wfs_app, fl_wf hl, fl_wf hr]
  rfl
theorem fl_wt (j : Str) (p : Pt) : wts j (fl j p) ≤ wt p + j.length + 6 := by
  cases p with
  | atom ws => exact Nat.le_refl _
  | un => exact Nat.le_refl _
  | jo j' ps =>
    show wts j (if j' = j then ps else [.jo j' ps]) ≤ wt (.jo j' ps) + j.length + 6
    split
    · rename_i e
      rw [e]
      show wts j ps ≤ wts j ps + j.length + 6
      omega
    · exact Nat.le_refl _
theorem jn_wt (j : Str) (l r : Pt) : wt (jn j l r) ≤ wt l + wt r + 2 * (j.length + 6) := by
  show wts j (fl j l ++ fl j r) ≤ _
  have h1 := fl_wt j l
  have h2 := fl_wt j r
  rw [wts_app]
  omega
/-! reading -/
structure RS where
  parts : List Pt
  wait : List Str
  begun : List Str
  whole : Bool
def gat (js : List Str) : List Str → List Pt → List Str × List Pt
  | [], P => ([], P)
  | j :: W, P => if j ∈ js then (match P with
    | r :: l :: P' => gat js W (jn j l r :: P')
    | P => (j :: W, P)) else (j :: W, P)
theorem gat_no {js : List Str} {j : Str} {W : List Str} {P : List Pt} (h : j ∉ js) : gat js (j :: W) P = (j :: W, P) := by
  unfold gat
  rw [if_neg h]
theorem gat_yes {js : List Str} {j : Str} {W : List Str} {P : List Pt} {l r : Pt} (h : j ∈ js) : gat js (j :: W) (r :: l :: P) = gat js W (jn j l r :: P) := by
  rw [gat, if_pos h]
def putS (hs : List Str) : List Str → Pt → List Str × Pt
  | [], p => ([], p)
  | h :: W, p => if h ∈ hs then putS hs W (.un h p) else (h :: W, p)
def put (hs : List Str) (W : List Str) (P : List Pt) (p : Pt) : RS := ⟨(putS hs W p).2 :: P, (putS hs W p).1, [], true⟩
def kindB (z : Str) : Bool := consB 65 90 4 z
def slB (q : Str × Str) : Bool := if q.1 = "K" then kindB q.2 else decide (q.2 = q.1)
def fitsB (form words : List Str) : Bool := (form.zip words).all slB
def takeA (fs : List (List Str)) (hs : List Str) (st : RS) (w : Str) : Option RS := match fs.filter (fun f => fitsB f (st.begun ++ [w])) with
  | [] => none
  | f :: _ => if f.length = (st.begun ++ [w]).length then some (put hs st.wait st.parts (.atom (st.begun ++ [w]))) else some { st with begun := st.begun ++ [w] }
def closeS (hs : List Str) (st : RS) : Option RS := match gat jts st.wait st.parts with
  | (_ :: W, p :: P) => some (put hs W P p)
  | _ => none
def takeB (hs : List Str) (st : RS) (w : Str) : Option RS :=
  if w = ")" then closeS hs st else if w ∈ jts then (if w = "or" then some ⟨(gat ["and"] st.wait st.parts).2, w :: (gat ["and"] st.wait st.parts).1, st.begun, false⟩ else some ⟨st.parts, w :: st.wait, st.begun, false⟩) else none
def takeS (fs : List (List Str)) (hs : List Str) (st : RS) (w : Str) : Option RS :=
  if st.whole then takeB hs st w else if st.begun = [] ∧ (w = "(" ∨ w ∈ hs) then some { st with wait := w :: st.wait } else takeA fs hs st w
def endS (st : RS) : Option Pt := if st.whole then (match gat jts st.wait st.parts with
  | ([], p :: _) => some p
  | _ => none) else none
/-- the joints that wait -/
def nJ (W : List Str) : Nat := (W.filter (· ∈ jts)).length
theorem nJ_cons (w : Str) (W : List Str) : nJ (w :: W) = (if w ∈ jts then 1 else 0) + nJ W := by
  unfold nJ
  by_cases h : w ∈ jts
  · rw [List.filter_cons_of_pos (by simpa using h), if_pos h, List.length_cons]
    omega
  · rw [List.filter_cons_of_neg (by simpa using h), if_neg h, Nat.zero_add]
theorem gat_len {js : List Str} (hjs : ∀ j ∈ js, j ∈ jts) : ∀ (W : List Str) (P : List Pt), P.length = nJ W + 1 → (gat js W P).2.length = nJ (gat js W P).1 + 1 := by
  intro W
  induction W with
  | nil => intro P h; exact h
  | cons j W ih =>
    intro P h
    unfold gat
    by_cases hj : j ∈ js
    · rw [if_pos hj]
      have hm := hjs j hj
      rw [nJ_cons, if_pos hm] at h
      match P, h with
      | [], h => simp at h
      | [_], h => simp at h
      | r :: l :: P', h =>
        refine ih _ ?_
        rw [List.length_cons, List.length_cons] at h
        rw [List.length_cons]
        omega
    · rw [if_neg hj]
      exact h
theorem gat_wf {js : List Str} (hjs : ∀ j ∈ js, j ∈ jts) : ∀ (W : List Str) (P : List Pt), wfs P = true → wfs (gat js W P).2 = true := by
  intro W
  induction W with
  | nil => intro P h; exact h
  | cons j W ih =>
    intro P h
    unfold gat
    by_cases hj : j ∈ js
    · rw [if_pos hj]
      match P, h with
      | [], h => exact h
      | [p], h => exact h
      | r :: l :: P', h =>
        refine ih _ ?_
        have h' : (wf r && (wf l && wfs P')) = true := h
        simp only [Bool.and_eq_true] at h'
        show (wf (jn j l r) && wfs P') = true
        rw [jn_wf (by simpa using hjs j hj) h'.2.1 h'.1, h'.2.2]
        rfl
    · rw [if_neg hj]
      exact h
/-- behind a gathering no joint stands on top -/
theorem gat_top : ∀ (W : List Str) (P : List Pt), P.length = nJ W + 1 → ∀ w W', (gat jts W P).1 = w :: W' → w ∉ jts := by
  intro W
  induction W with
  | nil => intro P h w W' e; exact nomatch e
  | cons j W ih =>
    intro P h w W' e
    unfold gat at e
    by_cases hj : j ∈ jts
    · rw [if_pos hj] at e
      rw [nJ_cons, if_pos hj] at h
      match P, h, e with
      | [], h, _ => simp at h
      | [_], h, _ => simp at h
      | r :: l :: P', h, e =>
        refine ih _ ?_ w W' e
        rw [List.length_cons, List.length_cons] at h
        rw [List.length_cons]
        omega
    · rw [if_neg hj] at e
      injection e with e1 e2
      rw [← e1]
      exact hj
def wtW : List Str → Nat
  | [] => 0
  | w :: W => 2 * (w.length + 6) + wtW W
def wtP : List Pt → Nat
  | [] => 0
  | p :: P => wt p + wtP P
theorem gat_wt (js : List Str) : ∀ (W : List Str) (P : List Pt), wtW (gat js W P).1 + wtP (gat js W P).2 ≤ wtW W + wtP P := by
  intro W
  induction W with
  | nil => intro P; exact Nat.le_refl _
  | cons j W ih =>
    intro P
    unfold gat
    by_cases hj : j ∈ js
    · rw [if_pos hj]
      match P with
      | [] => exact Nat.le_refl _
      | [_] => exact Nat.le_refl _
      | r :: l :: P' =>
        have h1 := ih (jn j l r :: P')
        have h2 := jn_wt j l r
        show wtW (gat js W (jn j l r :: P')).1 + wtP (gat js W (jn j l r :: P')).2 ≤ 2 * (j.length + 6) + wtW W + (wt r + (wt l + wtP P'))
        have h3 : wtP (jn j l r :: P') = wt (jn j l r) + wtP P' := rfl
        omega
    · rw [if_neg hj]
      exact Nat.le_refl _
theorem putS_wt (hs : List Str) : ∀ (W : List Str) (p : Pt), wtW (putS hs W p).1 + wt (putS hs W p).2 ≤ wtW W + wt p := by
  intro W
  induction W with
  | nil => intro p; exact Nat.le_refl _
  | cons h W ih =>
    intro p
    unfold putS
    split
    · have h1 := ih (.un h p)
      have h2 : wt (.un h p) = h.length + 5 + wt p := rfl
      show _ ≤ 2 * (h.length + 6) + wtW W + wt p
      omega
    · exact Nat.le_refl _
theorem putS_wf {hs : List Str} (hhs : ∀ h ∈ hs, h ∈ hds) : ∀ (W : List Str) (p : Pt), wf p = true → wf (putS hs W p).2 = true := by
  intro W
  induction W with
  | nil => intro p h; exact h
  | cons h W ih =>
    intro p hp
    unfold putS
    split
    · rename_i hm
      refine ih _ ?_
      show (hds.contains h && wf p) = true
      rw [hp, Bool.and_true]
      simpa using hhs h hm
    · exact hp
theorem putS_nJ {hs : List Str} (hhs : ∀ h ∈ hs, h ∈ hds) : ∀ (W : List Str) (p : Pt), nJ (putS hs W p).1 = nJ W := by
  intro W
  induction W with
  | nil => intro p; rfl
  | cons h W ih =>
    intro p
    unfold putS
    split
    · rename_i hm
      rw [ih, nJ_cons, if_neg, Nat.zero_add]
      have := hhs h hm
      intro hj
      simp only [List.mem_cons, List.not_mem_nil, or_false] at this hj
      rcases this with rfl | rfl | rfl <;> exact absurd hj (by decide +kernel)
    · rfl
def wtS (st : RS) : Nat := wtW st.wait + wtP st.parts + lenS st.begun
structure Ok (st : RS) : Prop where
  len : st.parts.length = nJ st.wait + (if st.whole then 1 else 0)
  wfp : wfs st.parts = true
  beg : st.whole = true → st.begun = []
theorem lenS_app (a b : List Str) : lenS (a ++ b) = lenS a + lenS b := by
  induction a with
  | nil => exact (Nat.zero_add _).symm
  | cons w a ih =>
    show w.length + 1 + lenS (a ++ b) = w.length + 1 + lenS a + lenS b
    omega
section
variable {fs : List (List Str)} {hs : List Str} (hhs : ∀ h ∈ hs, h ∈ hds)
include hhs
theorem put_ok {W : List Str} {P : List Pt} {p : Pt} (h1 : P.length = nJ W) (h2 : wfs P = true) (h3 : wf p = true) : Ok (put hs W P p) := by
  refine ⟨?_, ?_, fun _ => rfl⟩
  · show P.length + 1 = nJ (putS hs W p).1 + 1
    rw [putS_nJ hhs, h1]
  · show (wf (putS hs W p).2 && wfs P) = true
    rw [putS_wf hhs _ _ h3, h2]
    rfl
theorem close_ok {st st' : RS} (h : Ok st) (hw : st.whole = true) (e : closeS hs st = some st') : Ok st' ∧ wtS st' ≤ wtS st := by
  have hl := h.len
  rw [if_pos hw] at hl
  have g1 := gat_len (js := jts) (fun j h => h) st.wait st.parts hl
  have g2 := gat_wf (js := jts) (fun j h => h) st.wait st.parts h.wfp
  have g3 := gat_top st.wait st.parts hl
  have g4 := gat_wt jts st.wait st.parts
  unfold closeS at e
  generalize gat jts st.wait st.parts = g at *
  obtain ⟨W, P⟩ := g
  match W, P, e with
  | _ :: W, p :: P, e =>
    cases e
    rename_i w0
    have hw0 := g3 w0 W rfl
    have g1' : P.length + 1 = nJ (w0 :: W) + 1 := g1
    rw [nJ_cons, if_neg hw0] at g1'
    have g2' : (wf p && wfs P) = true := g2
    rw [Bool.and_eq_true] at g2'
    refine ⟨put_ok hhs (by omega) g2'.2 g2'.1, ?_⟩
    have q1 := putS_wt hs W p
    have q2 : wtW (w0 :: W) + wtP (p :: P) = 2 * (w0.length + 6) + wtW W + (wt p + wtP P) := rfl
    show wtW (putS hs W p).1 + (wt (putS hs W p).2 + wtP P) + 0 ≤ _
    have q3 : wtS st = wtW st.wait + wtP st.parts + lenS st.begun := rfl
    have g4' : wtW (w0 :: W) + wtP (p :: P) ≤ wtW st.wait + wtP st.parts := g4
    omega
theorem take_ok {st st' : RS} {w : Str} (h : Ok st) (e : takeS fs hs st w = some st') : Ok st' ∧ wtS st' ≤ wtS st + 2 * (w.length + 6) := by
  have hl := h.len
  have q3 : wtS st = wtW st.wait + wtP st.parts + lenS st.begun := rfl
  unfold takeS at e
  by_cases hw : st.whole = true
  · rw [if_pos hw] at e hl
    unfold takeB at e
    by_cases hc : w = ")"
    · rw [if_pos hc] at e
      obtain ⟨a, b⟩ := close_ok hhs h hw e
      exact ⟨a, by omega⟩
    · rw [if_neg hc] at e
      by_cases hj : w ∈ jts
      · rw [if_pos hj] at e
        by_cases ho : w = "or"
        · rw [if_pos ho] at e
          cases e
          have hjs : ∀ j ∈ ([("and" : Str)] : List Str), j ∈ jts := fun j hj => by
            rw [List.mem_singleton.mp hj]
            exact List.mem_cons_self ..
          have g1 := gat_len hjs st.wait st.parts hl
          have g4 := gat_wt ["and"] st.wait st.parts
          refine ⟨⟨?_, gat_wf hjs _ _ h.wfp, fun z => nomatch z⟩, ?_⟩
          · show (gat ["and"] st.wait st.parts).2.length = nJ (w :: (gat ["and"] st.wait st.parts).1) + 0
            rw [nJ_cons, if_pos hj]
            omega
          · show 2 * (w.length + 6) + wtW (gat ["and"] st.wait st.parts).1 + wtP (gat ["and"] st.wait st.parts).2 + lenS st.begun ≤ _
            omega
        · rw [if_neg ho] at e
          cases e
          refine ⟨⟨?_, h.wfp, fun z => nomatch z⟩, ?_⟩
          · show st.parts.length = nJ (w :: st.wait) + 0
            rw [nJ_cons, if_pos hj]
            omega
          · show 2 * (w.length + 6) + wtW st.wait + wtP st.parts + lenS st.begun ≤ _
            omega
      · rw [if_neg hj] at e
        cases e
  · rw [if_neg hw] at e hl
    have hwf : st.whole = false := by
      cases h : st.whole
      · rfl
      · exact absurd h hw
    by_cases hb : st.begun = [] ∧ (w = "(" ∨ w ∈ hs)
    · rw [if_pos hb] at e
      cases e
      have hj : w ∉ jts := by
        rcases hb.2 with rfl | hm
        · decide +kernel
        · have := hhs w hm
          intro hj
          simp only [List.mem_cons, List.not_mem_nil, or_false] at this hj
          rcases this with rfl | rfl | rfl <;> exact absurd hj (by decide +kernel)
      refine ⟨⟨?_, h.wfp, h.beg⟩, ?_⟩
      · show st.parts.length = nJ (w :: st.wait) + (if st.whole = true then 1 else 0)
        rw [nJ_cons, if_neg hj, if_neg hw]
        omega
      · show 2 * (w.length + 6) + wtW st.wait + wtP st.parts + lenS st.begun ≤ _
        omega
    · rw [if_neg hb] at e
      unfold takeA at e
      split at e
      · cases e
      · split at e
        · cases e
          refine ⟨put_ok hhs (by omega) h.wfp rfl, ?_⟩
          have q1 := putS_wt hs st.wait (.atom (st.begun ++ [w]))
          have q2 : wt (.atom (st.begun ++ [w])) = 1 + lenS (st.begun ++ [w]) := rfl
          rw [lenS_app] at q2
          have q4 : lenS [w] = w.length + 1 + 0 := rfl
          show wtW (putS hs st.wait (.atom (st.begun ++ [w]))).1 + (wt (putS hs st.wait (.atom (st.begun ++ [w]))).2 + wtP st.parts) + 0 ≤ _
          omega
        · cases e
          refine ⟨⟨?_, h.wfp, fun z => absurd z hw⟩, ?_⟩
          · show st.parts.length = nJ st.wait + (if st.whole = true then 1 else 0)
            rw [if_neg hw]
            exact hl
          · show wtW st.wait + wtP st.parts + lenS (st.begun ++ [w]) ≤ _
            rw [lenS_app]
            have q4 : lenS [w] = w.length + 1 + 0 := rfl
            omega
end
def st0 : RS := ⟨[], [], [], false⟩
theorem st0_ok : Ok st0 := ⟨rfl, rfl, fun z => nomatch z⟩
def runS (fs : List (List Str)) (hs : List Str) : RS → List Str → Nat → RS ⊕ Nat
  | st, [], _ => .inl st
  | st, w :: ws, i => match takeS fs hs st w with
    | none => .inr i
    | some st' => runS fs hs st' ws (i + 1)
/-! texts -/
def sepJ (y : Str) : List Str → Str := Str.join y
def encl (p : Pt) (h : Str) : Bool := decide (hdP p = "or") || (decide (hdP p = "and") && !decide (h ∈ jts))
mutual
def txt : Pt → Str
  | .atom ws => Str.join " " ws
  | .un h p => h ++ " " ++ (if encl p h then "( " ++ txt p ++ " )" else txt p)
  | .jo j ps => Str.join (" " ++ j ++ " ") (txts j ps)
def txts (h : Str) : List Pt → List Str
  | [] => []
  | p :: ps => (if encl p h then "( " ++ txt p ++ " )" else txt p) :: txts h ps
end
def undT (p : Pt) (h : Str) : Str := if encl p h then "( " ++ txt p ++ " )" else txt p
def isOut (p : Pt) : Bool := match p with
  | .un h _ => decide (h ∈ out)
  | _ => false
mutual
def ats : Pt → List Pt
  | .atom ws => [.atom ws]
  | .un h p => (if h ∈ out then [.un h p] else []) ++ ats p
  | .jo _ ps => atss ps
def atss : List Pt → List Pt
  | [] => []
  | p :: ps => ats p ++ atss ps
end
def underT : Pt → Str
  | .un _ p => txt p
  | _ => ""
def outT (p : Pt) : List Str := ((ats p).filter isOut).map underT
def cntW (ws wanted : List Str) : Nat := (ws.filter (· ∈ wanted)).length
/-! how deep -/
structure DS where
  deepest : Nat
  held : List Nat
  depth : Nat
  heads : Nat
def dstep (d : DS) (w : Str) : DS :=
  if w ∈ hds then ⟨max d.deepest (d.depth + (d.heads + 1)), d.held, d.depth, d.heads + 1⟩
  else if w = "(" then ⟨max d.deepest (d.depth + d.heads + 1 + 0), (d.heads + 1) :: d.held, d.depth + d.heads + 1, 0⟩
  else if w = ")" then ⟨max d.deepest (d.depth - d.held.headD 0 + 0), d.held.tail, d.depth - d.held.headD 0, 0⟩
  else ⟨max d.deepest (d.depth + 0), d.held, d.depth, 0⟩
def drun (d : DS) : List Str → DS
  | [] => d
  | w :: ws => drun (dstep d w) ws
def depthW (ws : List Str) : Nat := (drun ⟨0, [], 0, 0⟩ ws).deepest
abbrev atw : List Str := ["is", "root", "earlier", "later", "parent", "above"]
def manyOf (ws : List Str) (p : Pt) : Option Str :=
  if cntW ws atw > 8 then some "atoms" else if depthW ws > 6 then some "deep" else if Ws.met (outT p) (outT p).length > 2 then some "outer" else none
abbrev qfs : List (List Str) := [["is", "K"], ["root"], ["earlier", "K"], ["later", "K"]]
inductive QR where
  | at (n : Nat)
  | many (w : Str)
  | ok (p : Pt)
def readQ (ws : List Str) : QR := match runS qfs hds st0 ws 0 with
  | .inr i => .at i
  | .inl st => match endS st with
    | none => .at ws.length
    | some p => match manyOf ws p with
      | some m => .many m
      | none => .ok p
end Qp

set_option linter.all false
set_option maxRecDepth 100000
set_option maxHeartbeats 4000000
/-! zip(t, xs) of a tuple and a list -/
namespace Wz
open PySem PySem.Spec PyProof.Rows L2
def Both (K : PySem.W.Frag) (a b : Addr) (H : Hp) (xs ys : List V) : Prop := SqT K H a xs ∧ SqL K H b ys
def ItM (K : PySem.W.Frag) (a b : Addr) : It where
  go := fun i H => ∃ xs ys, Both K a b H xs ys ∧ i < xs.length ∧ i < ys.length
  yld := fun i H v H' => ∃ T x y, v = .ref T ∧ H T = none ∧ H' = upd H T (.tup [x, y]) ∧ ∀ xs ys, Both K a b H xs ys → xs[i]? = some x ∧ ys[i]? = some y
  stop := fun i H => ∃ xs ys, Both K a b H xs ys ∧ i = min xs.length ys.length
section
variable {P : Program} {w : World} {K : PySem.W.Frag} {a b z TI TO i1 i2 : Addr}
theorem sep_of (D : ZipApart z TI TO i1 i2 a b) : ZipSep2 z TI TO i1 i2 [i1, a] [i2, b] := by
  refine ⟨D.TIz, D.TOz, D.TITO, D.TIi1, by simp, ?_, ?_, D.TIi2, by simp, ?_, ?_, ?_, ?_⟩ <;>
    (simp only [List.mem_cons, List.not_mem_nil, or_false, not_or]; constructor) <;>
    first
      | exact fun e => D.i1z e.symm
      | exact fun e => D.i2z e.symm
      | exact fun e => D.l1z e.symm
      | exact fun e => D.l2z e.symm
      | exact D.TOi1
      | exact D.TOi2
      | exact fun e => D.l1TO e.symm
      | exact fun e => D.l2TO e.symm
      | exact D.i12
      | exact fun e => D.i12 e.symm
      | exact fun e => D.l2i1 e.symm
      | exact fun e => D.l1i2 e.symm
structure Tn (a b z TI TO i1 i2 : Addr) (i : Nat) (h : Heap) : Prop where
  z : IsZip h z TI TO .none
  I : IsPair h TI (.ref i1) (.ref i2)
  O : ∃ x y, IsPair h TO x y
  t : h.IsTupleIter i1 a i
  l : h.IsListIter i2 b i
theorem five {c : Addr} (h : c ∈ [z, TI, TO, i1, i2]) : c = z ∨ c = TI ∨ c = TO ∨ c = i1 ∨ c = i2 := by simpa using h
theorem turn_m (D : ZipApart z TI TO i1 i2 a b) (hne1 : a ≠ i1) (hne2 : b ≠ i2) {elts : List Expr} {kk : Nat} {tpos : Pos} : Turn P w K (.Tuple elts kk tpos) (ItM K a b) [z, TI, TO, i1, i2] z (Tn a b z TI TO i1 i2) where
  mem := List.mem_cons_self ..
  obj := fun i h st c hc => by
    obtain ⟨o1, p1, _, q1⟩ := st.t
    obtain ⟨o2, p2, _, q2⟩ := st.l
    obtain ⟨x, y, p3⟩ := st.O
    rcases five hc with rfl | rfl | rfl | rfl | rfl
    · exact ⟨_, st.z, fun _ r => nomatch r⟩
    · exact ⟨_, st.I, fun _ r => nomatch r⟩
    · exact ⟨_, p3, fun _ r => nomatch r⟩
    · exact ⟨o1, p1, fun _ r => by rw [q1] at r; cases r⟩
    · exact ⟨o2, p2, fun _ r => by rw [q2] at r; cases r⟩
  keep := fun i h h' st k => by
    obtain ⟨x, y, p3⟩ := st.O
    exact ⟨k _ (by simp) _ st.z, k _ (by simp) _ st.I, ⟨x, y, k _ (by simp) _ p3⟩, st.t.at fun o e => k _ (by simp) o e, st.l.at fun o e => k _ (by simp) o e⟩
  item := by
    rintro X rfl rfl rfl hc i pins s σ H E I hf st ⟨xs, ys, ⟨hx, hy⟩, l1, l2⟩
    obtain ⟨us, r1, pt, _⟩ := I.tuple hx
    obtain ⟨vs, r2, pl, _⟩ := I.list hy
    obtain ⟨x0, y0, p3⟩ := st.O
    have n1 := r1.length
    have n2 := r2.length
    have hh : X.A.in1.handled = none := I.ok.hd hc
    have zl : z < s.heap.objs.size := Heap.lt_size st.z
    have D1 := Draws.tuple (prog := X.prog) (w := X.w) (A := X.A.in1) hh i1 a hne1 us.toArray
    have D2 := Draws.list (prog := X.prog) (w := X.w) (A := X.A.in1) hh i2 b hne2 vs.toArray
    refine wpAny_pyNext_zipD2_item (sep_of D) D1 D2 st.z st.I p3 ⟨st.t, pt⟩ ⟨st.l, pl.isList⟩ (by rw [List.size_toArray]; omega) (by rw [List.size_toArray]; omega) fun u1 u2 h' tk e1 e2 z' O' s1 s2 T' sz hk => ?_
    refine ⟨_, rfl, wpAny_letOwnedTupleGo_zip (s := { s with heap := h', toks := tk }) z' fun h2 z2 sb => ?_⟩
    obtain ⟨x, hx1, rx⟩ : ∃ x, xs[i]? = some x ∧ RelV x u1 := by
      have hi : i < xs.length := l1
      obtain ⟨u, hu, ru⟩ := r1.get (List.getElem?_eq_getElem hi)
      have e1' : us[i]? = some u1 := by simpa using e1
      rw [e1'] at hu
      cases hu
      exact ⟨_, List.getElem?_eq_getElem hi, ru⟩
    obtain ⟨y, hy1, ry⟩ : ∃ y, ys[i]? = some y ∧ RelV y u2 := by
      have hi : i < ys.length := l2
      obtain ⟨u, hu, ru⟩ := r2.get (List.getElem?_eq_getElem hi)
      have e2' : vs[i]? = some u2 := by simpa using e2
      rw [e2'] at hu
      cases hu
      exact ⟨_, List.getElem?_eq_getElem hi, ru⟩
    have stay : ∀ c o, c ≠ z → h'.get? c = some o → h2.get? c = some o := fun c o c1 e => (sb.2 c c1).trans e
    have hT := stay _ _ (Nat.ne_of_gt zl) T'
    have new : ObjOk X.prog X.w (upd H s.heap.objs.size (.tup [x, y])) h2 s.heap.objs.size (.tup [x, y]) := ⟨(by show 2 ≤ sizeLine; decide), [u1, u2], .cons rx (.cons ry .nil), ⟨_, hT, rfl, _, rfl⟩⟩
    have J : Inv X pins σ (upd H s.heap.objs.size (.tup [x, y])) { s with heap := h2, toks := tk } := I.turnedNew (t' := tk) (ch := [z, TI, TO, i1, i2]) (fun c o nb e => by
      have nb' : c ≠ z ∧ c ≠ TI ∧ c ≠ TO ∧ c ≠ i1 ∧ c ≠ i2 := by simpa using nb
      exact stay c o nb'.1 (hk c o nb'.1 nb'.2.2.1 nb'.2.2.2.1 nb'.2.2.2.2 e)) hf (Nat.le_refl _) new
    refine ⟨.ref s.heap.objs.size, _, J, rfl, ⟨_, x, y, rfl, I.hok.fresh (Nat.le_refl _), rfl, fun xs' ys' bo => ?_⟩, ⟨z2, ?_, ⟨u1, u2, stay _ _ D.TOz O'⟩, ?_, ?_⟩, fun c hc => ?_⟩
    · rw [I.tuple_inj bo.1 hx, I.list_inj bo.2 hy]
      exact ⟨hx1, hy1⟩
    · exact stay _ _ D.TIz (hk _ _ D.TIz D.TITO D.TIi1 D.TIi2 st.I)
    · exact s1.1.at fun o e => stay _ o D.i1z e
    · exact s2.1.at fun o e => stay _ o D.i2z e
    · have lt : c < s.heap.objs.size := by
        obtain ⟨_, p1, _⟩ := st.t
        obtain ⟨_, p2, _⟩ := st.l
        rcases five hc with rfl | rfl | rfl | rfl | rfl
        · exact zl
        · exact Heap.lt_size st.I
        · exact Heap.lt_size p3
        · exact Heap.lt_size p1
        · exact Heap.lt_size p2
      exact (upd_ne (Nat.ne_of_lt lt)).trans (hf c hc).1
  done := by
    rintro X rfl rfl rfl hc i pins s σ H E I hf st ⟨xs, ys, ⟨hx, hy⟩, hi⟩
    obtain ⟨us, r1, pt, _⟩ := I.tuple hx
    obtain ⟨vs, r2, pl, _⟩ := I.list hy
    obtain ⟨x0, y0, p3⟩ := st.O
    have n1 := r1.length
    have n2 := r2.length
    have hh : X.A.in1.handled = none := I.ok.hd hc
    have D1 := Draws.tuple (prog := X.prog) (w := X.w) (A := X.A.in1) hh i1 a hne1 us.toArray
    have D2 := Draws.list (prog := X.prog) (w := X.w) (A := X.A.in1) hh i2 b hne2 vs.toArray
    refine wpAny_pyNext_zipD2_end (sep_of D) D1 D2 st.z st.I p3 ⟨st.t, pt⟩ ⟨st.l, pl.isList⟩ (by rw [List.size_toArray]; omega) (by rw [List.size_toArray]; omega) (by rw [List.size_toArray, List.size_toArray]; omega) fun h' tk hk => ⟨rfl, ?_⟩
    exact I.turnedL (t' := tk) (ch := [z, TI, TO, i1, i2]) (fun c o nb e => by
      have nb' : c ≠ z ∧ c ≠ TI ∧ c ≠ TO ∧ c ≠ i1 ∧ c ≠ i2 := by simpa using nb
      exact hk c o nb'.1 nb'.2.2.1 nb'.2.2.2.1 nb'.2.2.2.2 e) hf
  self := fun _ _ _ _ _ st h => wpAny_pyIter_zip st.z h
theorem walk_m {xs ys : List V} : Walk (ItM K a b) (min xs.length ys.length) (fun H => Both K a b H xs ys) (YPair (fun i => xs[i]?) (fun i => ys[i]?)) :=
  ⟨fun i H hi q => ⟨xs, ys, q, by omega, by omega⟩, fun H q => ⟨xs, ys, q, rfl⟩, fun i H v H' _ q y => by
    obtain ⟨T, x, z, h1, h2, h3, h4⟩ := y
    exact ⟨T, x, z, h1, h2, h3, (h4 xs ys q).1, (h4 xs ys q).2⟩⟩
end
section
variable {prog : Program} {w : World} {A : Around} {E : Value → Shared → Prop} {s : Shared}
def o1 (l : Addr) : Obj := { cls := .type "tuple_iterator", data := .fields #[.ref l, .int 0 0] }
def o2 (l : Addr) : Obj := { cls := .type "list_iterator", data := .fields #[.ref l, .int 0 0] }
def o3 (n : Nat) : Obj := { cls := .type "tuple", data := .seq #[.ref n, .ref (n + 1)] }
def o4 : Obj := { cls := .type "tuple", data := .seq #[.none, .none] }
def o5 (n : Nat) : Obj := { cls := .type "zip", data := .fields #[.none, .bool false, .bool false, .ref (n + 2), .ref (n + 3)] }
def hM (h : Heap) (k l : Addr) : Heap := ((((h.push (o1 k)).push (o2 l)).push (o3 h.objs.size)).push o4).push (o5 h.objs.size)
theorem made_m (k l : Addr) (xs ys : Array Value) : Meets (Builtin.«zip.__new__» ⟨[.type "zip", .ref k, .ref l], []⟩) (fun _ R s => s.heap.IsTuple k xs ∧ s.heap.IsList l ys ∧ R (.ok (.ret (.ref (s.heap.objs.size + 4)))) { s with heap := hM s.heap k l }) :=
  .of_wp fun prog w A R s q => by
    obtain ⟨hp, g, d, tk, os⟩ := s
    obtain ⟨q1, q2, q3⟩ := q
    have hsub := sub_zip
    have t1 : Heap.IsTuple (Shared.heap ⟨hp, g, d, tk, os⟩) k xs := q1
    have t2 : Heap.IsList (Shared.heap ⟨hp.push (o1 k), g, d, tk, os⟩) l ys := Heap.IsList.push q2 _
    unfold hM at q3
    unfold o1 at t2
    unfold o1 o2 o3 o4 o5 at q3
    have z1 : ∀ (h : Heap) (o : Obj), (h.push o).objs.size = h.objs.size + 1 := fun h o => Heap.size_push ..
    wp_walk using wpAny_pyIter_tuple t1, wpAny_pyIter_list t2
    simp only [z1]
    exact ⟨_, rfl, q3⟩
theorem call_m {k l : Addr} {xs ys : Array Value} {Q : Value → Shared → Prop} (hk : s.heap.IsTuple k xs) (hl : s.heap.IsList l ys)
    (h : ∀ h', Tn k l (s.heap.objs.size + 4) (s.heap.objs.size + 2) (s.heap.objs.size + 3) s.heap.objs.size (s.heap.objs.size + 1) 0 h' → (∀ c o, s.heap.get? c = some o → h'.get? c = some o) → Q (.ref (s.heap.objs.size + 4)) { s with heap := h' }) :
    wpAny (model prog w) A (call (.type "zip") [.ref k, .ref l]) Q E s := by
  have sz : ∀ (h : Heap) (o : Obj), (h.push o).objs.size = h.objs.size + 1 := fun h o => Heap.size_push ..
  have pr : ∀ {h : Heap} {o p : Obj} {c : Addr}, h.get? c = some p → (h.push o).get? c = some p := fun e => Heap.get?_push_of_some _ e
  refine callType_new F.called_zip (by decide) (F.typeCall_zip_2 _ _) (F.newCall_zip_2 _ _) (fun obj => F.args_object_init_3 obj _ _) F.entry_zip_new (made_m k l xs ys) ⟨hk, hl, ?_⟩
  generalize hn : s.heap.objs.size = n at *
  have g1 : (s.heap.push (o1 k)).get? n = some (o1 k) := by rw [← hn]; exact Heap.get?_push_size _ rfl
  have g2 : ((s.heap.push (o1 k)).push (o2 l)).get? (n + 1) = some (o2 l) := by rw [← hn, ← sz s.heap (o1 k)]; exact Heap.get?_push_size _ rfl
  have g3 : (((s.heap.push (o1 k)).push (o2 l)).push (o3 s.heap.objs.size)).get? (n + 2) = some (o3 n) := by
    have e : n + 2 = ((s.heap.push (o1 k)).push (o2 l)).objs.size := by rw [sz, sz, hn]
    rw [e, hn]
    exact Heap.get?_push_size _ rfl
  have g4 : ((((s.heap.push (o1 k)).push (o2 l)).push (o3 s.heap.objs.size)).push o4).get? (n + 3) = some o4 := by
    have e : n + 3 = (((s.heap.push (o1 k)).push (o2 l)).push (o3 s.heap.objs.size)).objs.size := by rw [sz, sz, sz, hn]
    rw [e]
    exact Heap.get?_push_size _ rfl
  have g5 : (hM s.heap k l).get? (n + 4) = some (o5 n) := by
    have e : n + 4 = ((((s.heap.push (o1 k)).push (o2 l)).push (o3 s.heap.objs.size)).push o4).objs.size := by rw [sz, sz, sz, sz, hn]
    unfold hM
    rw [e, hn]
    exact Heap.get?_push_size _ rfl
  refine ⟨⟨_, g5, rfl⟩, h _ ⟨g5, pr (pr g3), ⟨_, _, pr g4⟩, ⟨_, pr (pr (pr (pr g1))), rfl, rfl⟩, ⟨_, pr (pr (pr g2)), rfl, rfl⟩⟩ fun c o e => pr (pr (pr (pr (pr e))))⟩
end
def iZipM (K : PySem.W.Frag) (ta : TA) : TI := fun σ H R => ta σ H fun vs G => ∃ a b xs ys, vs = [.ref a, .ref b] ∧ Both K a b G xs ys ∧ R (ItM K a b) G
/-- zip(t, xs) -/
theorem pi_zipM {X : Cx} {e e2 : Expr} {ta : TA} {p pos tpos : Pos} {elts : List Expr} {kk : Nat} (hg : Gl X "zip") (hm : X.mg "zip" = none) (ha : PA X [e, e2] ta)
    (h1 : starEach [e, e2] X.env = (false, eval e X.env) :: starEach [e2] X.env := by rfl) (h2 : (backTo pos (starEach [e2] X.env)).any (·.1) = false := by rfl) :
    PI X (.Tuple elts kk tpos) (.Call (.Name "zip" p) [e, e2] [] pos) (iZipM X.K ta) := by
  refine ⟨fun pins s σ H R I q => Call_ (ld_blt I hg hm PyProof.Rows.boot_zip (PyProof.Rows.callWith_type1 (thn (ha.run pos pins s σ H _ I q) fun us t ⟨vs, G, J, rv, q2⟩ => ?_) h1 h2))⟩
  obtain ⟨a, b, xs, ys, ev, bo, q3⟩ := q2
  subst ev
  obtain ⟨u1, u2, rfl, r1, r2⟩ := vals2 rv
  cases (show u1 = Value.ref a from r1)
  cases (show u2 = Value.ref b from r2)
  obtain ⟨is, _, pt, _⟩ := J.tuple bo.1
  obtain ⟨js, _, pl, _⟩ := J.list bo.2
  obtain ⟨oa, hoa, _⟩ := id pt
  have la : a < t.heap.objs.size := Heap.lt_size hoa
  have lb : b < t.heap.objs.size := pl.lt
  refine call_m (show t.heap.IsTuple a is.toArray from pt) pl.isList fun h' tn hk => wpAny_pyIter_zip tn.z ?_
  have J2 : Inv X pins σ G { t with heap := h' } := J.kept (t' := t.toks) hk
  refine ⟨t.heap.objs.size + 4, _, _, _, G, rfl, J2, turn_m (PySem.W.ktu_apart t.heap.objs.size a b la lb) (Nat.ne_of_lt la) (Nat.ne_of_lt (Nat.lt_succ_of_lt lb)), tn, fun c hc => ?_, q3⟩
  have le : t.heap.objs.size ≤ c := by
    rcases five hc with rfl | rfl | rfl | rfl | rfl <;> first | exact Nat.le_refl _ | exact Nat.le_add_right _ _
  exact J.fpOk le (J.hok.fresh le)
end Wz

set_option linter.all false
set_option maxRecDepth 100000
set_option maxHeartbeats 4000000
set_option pp.maxSteps 150
/-! conditions and the class Reading in the heap -/
namespace Qh
open PySem PySem.Spec PyProof.Rows L2 Gx Qp
mutual
inductive PtAt (H : Hp) : V → Pt → Prop
  | atom {a w : Addr} {ws : List Str} : H a = some (.tup [.str "atom", .ref w]) → H w = some (.tup (ws.map V.str)) → PtAt H (.ref a) (.atom ws)
  | un {a : Addr} {h : Str} {v : V} {p : Pt} : H a = some (.tup [.str h, v]) → PtAt H v p → PtAt H (.ref a) (.un h p)
  | jo {a t : Addr} {j : Str} {vs : List V} {ps : List Pt} : H a = some (.tup [.str j, .ref t]) → H t = some (.tup vs) → PtsAt H vs ps → PtAt H (.ref a) (.jo j ps)
inductive PtsAt (H : Hp) : List V → List Pt → Prop
  | nil : PtsAt H [] []
  | cons {v : V} {p : Pt} {vs : List V} {ps : List Pt} : PtAt H v p → PtsAt H vs ps → PtsAt H (v :: vs) (p :: ps)
end
section
variable {H H' : Hp}
mutual
theorem PtAt.mono (s : ∀ a xs, H a = some (.tup xs) → H' a = some (.tup xs)) : ∀ {v : V} {p : Pt}, PtAt H v p → PtAt H' v p
  | _, _, .atom h1 h2 => .atom (s _ _ h1) (s _ _ h2)
  | _, _, .un h1 h2 => .un (s _ _ h1) (h2.mono s)
  | _, _, .jo h1 h2 h3 => .jo (s _ _ h1) (s _ _ h2) (h3.mono s)
theorem PtsAt.mono (s : ∀ a xs, H a = some (.tup xs) → H' a = some (.tup xs)) : ∀ {vs : List V} {ps : List Pt}, PtsAt H vs ps → PtsAt H' vs ps
  | _, _, .nil => .nil
  | _, _, .cons h1 h2 => .cons (h1.mono s) (h2.mono s)
end
theorem PtAt.head {v : V} {p : Pt} (h : PtAt H v p) : ∃ a u, v = .ref a ∧ H a = some (.tup [.str (hdP p), u]) := by
  cases h with
  | atom h1 _ => exact ⟨_, _, rfl, h1⟩
  | un h1 _ => exact ⟨_, _, rfl, h1⟩
  | jo h1 _ _ => exact ⟨_, _, rfl, h1⟩
theorem PtsAt.len {vs : List V} {ps : List Pt} (h : PtsAt H vs ps) : vs.length = ps.length := by
  induction ps generalizing vs with
  | nil => cases h; rfl
  | cons p ps ih =>
    cases h with
    | cons _ h2 => exact congrArg Nat.succ (ih h2)
theorem PtsAt.app {vs us : List V} {ps qs : List Pt} (h : PtsAt H vs ps) (k : PtsAt H us qs) : PtsAt H (vs ++ us) (ps ++ qs) := by
  induction ps generalizing vs with
  | nil => cases h; exact k
  | cons p ps ih =>
    cases h with
    | cons h1 h2 => exact .cons h1 (ih h2)
theorem PtsAt.get {vs : List V} {ps : List Pt} (h : PtsAt H vs ps) : ∀ {i : Nat} {v : V}, vs[i]? = some v → ∃ p, ps[i]? = some p ∧ PtAt H v p := by
  induction ps generalizing vs with
  | nil => cases h; intro i v e; simp at e
  | cons p ps ih =>
    cases h with
    | cons h1 h2 =>
      intro i v e
      cases i with
      | zero =>
        cases e
        exact ⟨p, rfl, h1⟩
      | succ i => exact ih h2 e
end
theorem sqT_mono {K : PySem.W.Frag} {H H' : Hp} {a : Addr} {xs : List V} (e : Same H H') (h : SqT K H a xs) : SqT K H' a xs := by
  rcases h with (h | ⟨o, h⟩) | h
  · exact .inl (.inl (e _ _ h))
  · exact .inl (.inr ⟨o, e _ _ h⟩)
  · exact .inr h
theorem map_get {ws : List Str} {i : Nat} {x : V} (h : (ws.map V.str)[i]? = some x) : ∃ a, ws[i]? = some a ∧ x = .str a := by
  rw [List.getElem?_map] at h
  cases e : ws[i]? with
  | none => rw [e] at h; cases h
  | some a => rw [e] at h; cases h; exact ⟨a, rfl, rfl⟩
theorem inV_list (z : Str) : ∀ zs : List Str, inV (.str z) (zs.map V.str) = decide (z ∈ zs)
  | [] => by simp [inV]
  | y :: zs => by
    have ih := inV_list z zs
    show ((y == z) || inV (.str z) (zs.map V.str)) = _
    rw [ih]
    by_cases h : y = z
    · subst h
      simp
    · have h' : ¬ z = y := fun e => h e.symm
      simp [h, h', beq_iff_eq]
/-- the forms: a tuple of tuples of texts -/
structure FmAt (K : PySem.W.Frag) (H : Hp) (af : Addr) (fs : List (List Str)) (vs : List V) : Prop where
  top : SqT K H af vs
  len : vs.length = fs.length
  all : ∀ (i : Nat) (f : List Str), fs[i]? = some f → ∃ b, vs[i]? = some (.ref b) ∧ SqT K H b (f.map V.str)
/-- a tuple of the written part stands in every heap -/
structure FmK (K : PySem.W.Frag) (af : Addr) (fs : List (List Str)) : Prop where
  ex : ∃ vs : List V, vs.length = fs.length ∧ (∀ H : Hp, SqT K H af vs) ∧ ∀ (i : Nat) (f : List Str), fs[i]? = some f → ∃ b, vs[i]? = some (.ref b) ∧ ∀ H : Hp, SqT K H b (f.map V.str)
structure HdK (K : PySem.W.Frag) (ah : Addr) (hs : List Str) : Prop where
  at_ : ∀ H : Hp, SqT K H ah (hs.map V.str)
/-- the heads: they stand in this heap, or in every one -/
def HdT (K : PySem.W.Frag) (H : Hp) (ah : Addr) (hs : List Str) : Prop := H ah = some (.tup (hs.map V.str)) ∨ HdK K ah hs
theorem HdT.mono {K : PySem.W.Frag} {H H' : Hp} {ah : Addr} {hs : List Str} (h : HdT K H ah hs) (s : ∀ b xs, H b = some (.tup xs) → H' b = some (.tup xs)) : HdT K H' ah hs := h.imp (s _ _) id
theorem HdT.sq {K : PySem.W.Frag} {H : Hp} {ah : Addr} {hs : List Str} (h : HdT K H ah hs) : SqT K H ah (hs.map V.str) := h.elim SqT.of fun k => k.at_ H
def fldR (af ah lp lw lb : Addr) (wh : Bool) : List (Str × V) := [("_forms", .ref af), ("_heads", .ref ah), ("_parts", .ref lp), ("_waiting", .ref lw), ("_begun", .ref lb), ("_is_whole", .bl wh)]
section
variable {af ah lp lw lb lb' : Addr} {wh wh' : Bool}
theorem fr_forms : (fldR af ah lp lw lb wh).lookup ("_forms" : Str) = some (.ref af) := rfl
theorem fr_heads : (fldR af ah lp lw lb wh).lookup ("_heads" : Str) = some (.ref ah) := rfl
theorem fr_parts : (fldR af ah lp lw lb wh).lookup ("_parts" : Str) = some (.ref lp) := rfl
theorem fr_waiting : (fldR af ah lp lw lb wh).lookup ("_waiting" : Str) = some (.ref lw) := rfl
theorem fr_begun : (fldR af ah lp lw lb wh).lookup ("_begun" : Str) = some (.ref lb) := rfl
theorem fr_whole : (fldR af ah lp lw lb wh).lookup ("_is_whole" : Str) = some (.bl wh) := rfl
theorem put_begun : putF "_begun" (.ref lb') (fldR af ah lp lw lb wh) = fldR af ah lp lw lb' wh := rfl
theorem put_whole : putF "_is_whole" (.bl wh') (fldR af ah lp lw lb wh) = fldR af ah lp lw lb wh' := rfl
theorem fr_len : (fldR af ah lp lw lb wh).length < 1000 := by show 6 < 1000; decide
end
structure RdAt (C : Addr) (H : Hp) (a dx af ah lp lw : Addr) (st : RS) : Prop where
  ex : ∃ (lb : Addr) (vs : List V), H a = some (.ins C dx (fldR af ah lp lw lb st.whole)) ∧ H lp = some (.lst vs.reverse) ∧ PtsAt H vs st.parts ∧ H lw = some (.lst (st.wait.map V.str).reverse) ∧ H lb = some (.lst (st.begun.map V.str)) ∧ lp ≠ lw ∧ lb ≠ lp ∧ lb ≠ lw
/-- all else is kept -/
def FrR (H H' : Hp) (a lp lw : Addr) : Prop := ∀ b o, b ≠ a → b ≠ lp → b ≠ lw → H b = some o → H' b = some o
section
variable {H H' H'' : Hp} {a lp lw : Addr}
theorem FrR.refl : FrR H H a lp lw := fun _ _ _ _ _ e => e
theorem FrR.trans (h : FrR H H' a lp lw) (k : FrR H' H'' a lp lw) : FrR H H'' a lp lw := fun b o x y z e => k b o x y z (h b o x y z e)
theorem FrR.of (h : Same H H') : FrR H H' a lp lw := fun b o _ _ _ e => h b o e
theorem RdAt.tups {C dx af ah : Addr} {st : RS} (r : RdAt C H a dx af ah lp lw st) (k : FrR H H' a lp lw) : ∀ b xs, H b = some (.tup xs) → H' b = some (.tup xs) := fun b xs e => by
  obtain ⟨lb, vs, e1, e2, _, e3, _⟩ := r.ex
  exact k b _ (ne_of e e1 fun z => nomatch z) (ne_of e e2 fun z => nomatch z) (ne_of e e3 fun z => nomatch z) e
theorem RdAt.same {C dx af ah : Addr} {st : RS} (r : RdAt C H a dx af ah lp lw st) (s : Same H H') : RdAt C H' a dx af ah lp lw st := by
  obtain ⟨lb, vs, e1, e2, e3, e4, e5, e6⟩ := r.ex
  exact ⟨lb, vs, s _ _ e1, s _ _ e2, e3.mono fun b xs e => s _ _ e, s _ _ e4, s _ _ e5, e6⟩
end
theorem rev_last {α : Type} (x : α) (xs : List α) : (x :: xs).reverse[(x :: xs).reverse.length - 1]? = some x := by simp
theorem rev_drop {α : Type} (x : α) (xs : List α) : (x :: xs).reverse.dropLast = xs.reverse := by rw [List.reverse_cons, List.dropLast_concat]
theorem atI_rev {α : Type} (x : α) (xs : List α) : atI (x :: xs).reverse (-1) = some x := by
  rw [List.reverse_cons]
  exact atI_last _ _
def lenAt (H : Hp) (a : Addr) : Nat := match H a with
  | some (.lst ls) => ls.length
  | _ => 0
theorem lenAt_of {H : Hp} {a : Addr} {ls : List V} (h : H a = some (.lst ls)) : lenAt H a = ls.length := by
  unfold lenAt
  rw [h]
theorem wtW_len (W : List Str) : 12 * W.length ≤ wtW W := by
  induction W with
  | nil => exact Nat.le_refl _
  | cons w W ih =>
    show 12 * (W.length + 1) ≤ 2 * (w.length + 6) + wtW W
    omega
theorem nJ_le (W : List Str) : nJ W ≤ W.length := List.length_filter_le _ _
theorem lenS_le (ws : List Str) : ws.length ≤ lenS ws := by
  induction ws with
  | nil => exact Nat.le_refl _
  | cons w ws ih =>
    show ws.length + 1 ≤ w.length + 1 + lenS ws
    omega
end Qh

set_option linter.all false
set_option maxRecDepth 100000
set_option maxHeartbeats 8000000
set_option pp.maxSteps 150
namespace N7
open PySem PySem.Spec PyProof.Rows L2 Gx Qp Qh
/-! ### conditions: fits, count_of, joined -/
abbrev s_is_kind_name : Stmt := topS 7
theorem sc_is_kind_name : FnScope ["word"] ["word"] (defScope s_is_kind_name) := ⟨rfl, rfl, rfl, by decide +kernel, rfl, by decide +kernel, by decide +kernel⟩
abbrev s_fits : Stmt := topS 12
abbrev n_fits : List Str := ["form", "words", "slot", "word"]
theorem sc_fits : FnScope n_fits ["form", "words"] (defScope s_fits) := ⟨rfl, rfl, rfl, by decide +kernel, rfl, by decide +kernel, by decide +kernel⟩
abbrev s_count_of : Stmt := topS 13
abbrev n_count_of : List Str := ["words", "wanted", "word"]
theorem sc_count_of : FnScope n_count_of ["words", "wanted"] (defScope s_count_of) := ⟨rfl, rfl, rfl, by decide +kernel, rfl, by decide +kernel, by decide +kernel⟩
abbrev s_joined : Stmt := topS 14
abbrev n_joined : List Str := ["joint", "parts", "flat", "part"]
theorem sc_joined : FnScope n_joined ["joint", "parts"] (defScope s_joined) := ⟨rfl, rfl, rfl, by decide +kernel, rfl, by decide +kernel, by decide +kernel⟩
structure NmA (mg : Str → Option Value) (K : PySem.W.Frag) (fc fk ff fj : Addr) : Prop where
  g_consists_of : mg "consists_of" = some (.ref fc)
  k_consists_of : PySem.W.keepIn K (.ref fc) = true
  g_is_kind_name : mg "is_kind_name" = some (.ref fk)
  k_is_kind_name : PySem.W.keepIn K (.ref fk) = true
  g_fits : mg "fits" = some (.ref ff)
  k_fits : PySem.W.keepIn K (.ref ff) = true
  g_joined : mg "joined" = some (.ref fj)
  k_joined : PySem.W.keepIn K (.ref fj) = true
  n_len : mg "len" = none
  n_all : mg "all" = none
  n_zip : mg "zip" = none
  n_tuple : mg "tuple" = none
def WdOk (w : Str) : Prop := w.length ≤ 4000 ∧ Asc w
def spFits (K : PySem.W.Frag) : Sp := fun vs H Q _ => ∃ (f l : Addr) (fm ws : List Str), vs = [.ref f, .ref l] ∧ SqT K H f (fm.map V.str) ∧ H l = some (.lst (ws.map V.str)) ∧ fm.length ≤ 1000 ∧ (∀ w ∈ ws, WdOk w) ∧ ∀ H' : Hp, Same H H' → Q (.bl (fitsB fm ws)) H'
def spCount (K : PySem.W.Frag) : Sp := fun vs H Q _ => ∃ (l wn : Addr) (ws wanted : List Str), vs = [.ref l, .ref wn] ∧ SqT K H l (ws.map V.str) ∧ SqT K H wn (wanted.map V.str) ∧ ws.length ≤ 10000 ∧ ∀ H' : Hp, Same H H' → Q (.int (cntW ws wanted : Nat)) H'
def spJoined : Sp := fun vs H Q _ => ∃ (j : Str) (l : Addr) (v1 v2 : V) (p1 p2 : Pt), vs = [.str j, .ref l] ∧ H l = some (.lst [v1, v2]) ∧ PtAt H v1 p1 ∧ PtAt H v2 p2 ∧ j ∈ jts ∧ wf p1 = true ∧ wf p2 = true ∧ wt p1 ≤ 1000000 ∧ wt p2 ≤ 1000000 ∧
  ∀ (v : V) (H' : Hp), Same H H' → PtAt H' v (jn j p1 p2) → Q v H'
def teFits : TE := tIf (tTest (tOp rEq (tVar 2) (tC (.str "K")))) (tCall (spIs kindB) [] E0 (tCons (tVar 3) tNil)) (tOp rEq (tVar 3) (tVar 2))
theorem jts_len (j : Str) (ps : List Pt) : ps.length ≤ wts j ps := by
  induction ps with
  | nil => exact Nat.le_refl _
  | cons p ps ih =>
    show ps.length + 1 ≤ wt p + j.length + 6 + wts j ps
    omega
section
variable {P : Program} {w : World} {K : PySem.W.Frag} {mg : Str → Option Value} {base : Heap} {fc fk ff fj : Addr}
theorem ok_is_kind_name {f : Addr} {fd fdc : FuncData} (F : Fun K "is_kind_name" "is_kind_name" s_is_kind_name f fd) (T : NmA mg K fc fk ff fj)
    (G_consists_of : FnOk P w K mg base CX0 1 fc fdc ["word", "low", "high", "most"] spCons) (b_consists_of : Binds K fdc ["word", "low", "high", "most"] []) : FnOk P w K mg base CX0 2 f fd ["word"] (spIs kindB) := by
  refine F.ok sc_is_kind_name (fun vs H Q E h => ?_) (fun cdv A outer s H vs Q E hr h => ?_)
  · obtain ⟨z, rfl, _⟩ := h
    rfl
  · obtain ⟨z, rfl, hz, hA, q⟩ := h
    refine ⟨_, pss_one (ps_ret (pe_call G_consists_of hr rfl T.g_consists_of T.k_consists_of b_consists_of .nil pass0 (pa_cons (pv 0) (pa_cons pe_str (pa_cons pe_str (pa_cons pe_int pa_nil)))))), ?_⟩
    exact ⟨_, rfl, z, _, _, 65, 90, 4, rfl, hz, by decide +kernel, by decide +kernel, q⟩
theorem ok_fits {f : Addr} {fd fdk : FuncData} (F : Fun K "fits" "fits" s_fits f fd) (T : NmA mg K fc fk ff fj) (G_is_kind_name : FnOk P w K mg base CX0 2 fk fdk ["word"] (spIs kindB)) (b_is_kind_name : Binds K fdk ["word"] []) :
    FnOk P w K mg base CX0 3 f fd ["form", "words"] (spFits K) := by
  refine F.ok sc_fits (fun vs H Q E h => ?_) (fun cdv A outer s H vs Q E hr h => ?_)
  · obtain ⟨f, l, fm, ws, rfl, _⟩ := h
    rfl
  · obtain ⟨f, l, fm, ws, rfl, hf, hl, hn, hw, q⟩ := h
    refine ⟨_, pss_one (ps_ret (pe_callB (cr_all rfl) (by rfl) T.n_all (by decide +kernel) (pa_cons (pe_lc (own := [("slot", 2), ("word", 3)]) (g := gTup K 2 (gCons (gName 2) (gCons (gName 3) gNil))) (tt := tYes) (te := teFits) rfl sc_fits.nd (Wz.pi_zipM (by rfl) T.n_zip (pa_cons (pv 0) (pa_cons (pv 1) pa_nil))) (blkOk_by (own := [("slot", 2), ("word", 3)]) (N := n_fits) (sc := defScope s_fits) (by decide +kernel)) (fun _ _ _ _ _ => (pg_tup rfl (pgs_cons (pg_name (i := 2) sc_fits.nd rfl (.inl rfl)) (pgs_cons (pg_name (i := 3) sc_fits.nd rfl (.inl rfl)) pgs_nil)))) (fun _ _ _ _ _ => pts_nil)
      (fun _ _ _ _ _ => (pe_ifExp (pt_cmpR op_eq (pv 2) pe_str (nomark _)) (pe_call G_is_kind_name hr rfl T.g_is_kind_name T.k_is_kind_name b_is_kind_name .nil pass0 (pa_cons (pv 3) pa_nil)) (pe_cmpR op_eq (pv 3) (pv 2) (nomark _))))) pa_nil))), ?_⟩
    refine ⟨_, rfl, _, rfl, f, l, fm.map V.str, ws.map V.str, rfl, ⟨hf, SqL.of hl⟩, fun D nD => ?_⟩
    have kp : ∀ {Hi : Hp}, (∀ b o, b ≠ D → H b = some o → Hi b = some o) → Same H Hi := fun k b o e => k b o (ne_of_none e nD) e
    refine lc_it Wz.walk_m (fun i Hi => (∀ b o, b ≠ D → H b = some o → Hi b = some o) ∧ Hi D = some (.lst ((((fm.zip ws).take i).map slB).map V.bl)))
      ⟨fun b o x e => by rw [upd_ne x]; exact e, upd_same⟩ (fun i Hi _ p => ⟨sqT_mono (kp p.1) hf, (kp p.1).seq (SqL.of hl)⟩) (fun i x Hi Hj hil p y => ?_) (fun Hi p => ?_)
    · obtain ⟨T0, x', y', rfl, nT, rfl, ex, ey⟩ := y
      obtain ⟨a, ha, rfl⟩ := map_get ex
      obtain ⟨b, hb, rfl⟩ := map_get ey
      have hz : (fm.zip ws)[i]? = some (a, b) := by
        rw [List.getElem?_zip_eq_some]
        exact ⟨ha, hb⟩
      have S1 := new_same (o := .tup [.str a, .str b]) nT
      have eT : upd Hi T0 (.tup [.str a, .str b]) T0 = some (.tup [.str a, .str b]) := upd_same
      have eD1 := S1 _ _ p.2
      have k1 : ∀ b' o, b' ≠ D → H b' = some o → upd Hi T0 (.tup [.str a, .str b]) b' = some o := fun b' o z e => S1 _ _ (p.1 b' o z e)
      generalize upd Hi T0 (.tup [.str a, .str b]) = Hk at *
      have hi : i < fm.length := (List.getElem?_eq_some_iff.mp ha).1
      have fin : ∀ (k : Bool) (H2 : Hp), Same Hk H2 → k = slB (a, b) → ∃ acc, H2 D = some (.lst acc) ∧ acc.length < sizeLine ∧ (∀ b' o, b' ≠ D → H b' = some o → upd H2 D (.lst (acc ++ [.bl k])) b' = some o) ∧ upd H2 D (.lst (acc ++ [.bl k])) D = some (.lst ((((fm.zip ws).take (i + 1)).map slB).map V.bl)) := fun k H2 S2 hk => by
        refine ⟨_, S2 _ _ eD1, ?_, fun b' o z e => by rw [upd_ne z]; exact S2 _ _ (k1 b' o z e), ?_⟩
        · rw [List.length_map, List.length_map, List.length_take, List.length_zip, sizeLine_eq]
          omega
        · rw [upd_same, take_snoc hz, List.map_append, List.map_append, hk]
          rfl
      refine ⟨T0, _, rfl, SqT.of eT, rfl, _, _, rfl, _, _, rfl, rfl, rfl, keep1' ?_⟩
      refine ⟨_, rfl, rfl, _, rfl, ite2 (fun h => ?_) (fun h => ?_)⟩
      · have h' : a = "K" := by
          have := of_decide_eq_true h
          exact V.str.inj this
        obtain ⟨w1, w2⟩ := hw b (List.mem_of_getElem? hb)
        refine ⟨_, rfl, b, rfl, w1, w2, fun H2 S2 => fin _ H2 S2 ?_⟩
        exact (if_pos h').symm
      · have h' : ¬ a = "K" := fun e => h (by rw [e]; exact decide_eq_true rfl)
        refine ⟨_, rfl, _, rfl, rfl, fin _ Hk (Same.refl _) ?_⟩
        refine Eq.trans ?_ (if_neg h').symm
        exact decide_eq_decide.mpr ⟨V.str.inj, congrArg V.str⟩
    · have eD := p.2
      rw [List.length_map, List.length_map, ← List.length_zip, List.take_length] at eD
      refine ⟨D, _, rfl, SqL.of eD, ?_⟩
      rw [List.all_map]
      exact q Hi (kp p.1)
theorem ok_count_of {f : Addr} {fd : FuncData} (F : Fun K "count_of" "count_of" s_count_of f fd) (T : NmA mg K fc fk ff fj) : FnOk P w K mg base CX0 1 f fd ["words", "wanted"] (spCount K) := by
  refine F.ok sc_count_of (fun vs H Q E h => ?_) (fun cdv A outer s H vs Q E hr h => ?_)
  · obtain ⟨l, wn, ws, wanted, rfl, _⟩ := h
    rfl
  · obtain ⟨l, wn, ws, wanted, rfl, hl, hw, hn, q⟩ := h
    refine ⟨_, (pss_one (ps_ret (pe_callB call_len_seq (by rfl) T.n_len (by decide +kernel) (pa_cons (pe_lc (own := [("word", 2)]) (g := gName 2) (tt := tTest (tOp (rIn K false) (tVar 2) (tVar 1))) (te := tVar 2) rfl sc_count_of.nd (pi_tup (pv 0)) (blkOk_by (own := [("word", 2)]) (N := n_count_of) (sc := defScope s_count_of) (by decide +kernel)) (fun _ _ _ _ _ => (pg_name (i := 2) sc_count_of.nd rfl (.inl rfl))) (fun _ _ _ _ _ => (pts_one (pt_cmpR op_in_seq (pv 2) (pv 1) rfl))) (fun _ _ _ _ _ => (pv 2))) pa_nil)))), ?_⟩
    refine ⟨_, rfl, l, rfl, ⟨_, hl⟩, fun D nD => ?_⟩
    have kp : ∀ {Hi : Hp}, (∀ b o, b ≠ D → H b = some o → Hi b = some o) → Same H Hi := fun k b o e => k b o (ne_of_none e nD) e
    refine lc_tup (K := K) (a := l) (xs := ws.map V.str) (fun i Hi => (∀ b o, b ≠ D → H b = some o → Hi b = some o) ∧ Hi D = some (.lst (((ws.take i).filter (· ∈ wanted)).map V.str)))
      ⟨fun b o z e => (upd_ne z).trans e, upd_same⟩ (fun i Hi _ p => sqT_mono (kp p.1) hl) (fun i x Hi hx p => ?_) (fun Hi p => ?_)
    · obtain ⟨a, ha, rfl⟩ := map_get hx
      have hi : i < ws.length := (List.getElem?_eq_some_iff.mp ha).1
      refine ⟨rfl, ?_⟩
      refine ⟨_, rfl, _, rfl, wn, _, rfl, .inr (sqT_mono (kp p.1) hw), rfl, flat_strs _, _, rfl, ?_⟩
      rw [if_neg Bool.false_ne_true, inV_list]
      refine ite2 (fun h => ?_) (fun h => ?_)
      · have h' : a ∈ wanted := of_decide_eq_true h
        refine ⟨_, rfl, _, p.2, ?_, fun b o z e => (upd_ne z).trans (p.1 b o z e), ?_⟩
        · have := List.length_filter_le (· ∈ wanted) (ws.take i)
          rw [List.length_take] at this
          rw [List.length_map, sizeLine_eq]
          omega
        · rw [upd_same, take_snoc ha, List.filter_append, List.filter_cons_of_pos (by simpa using h'), List.filter_nil, List.map_append]
          rfl
      · have h' : ¬ a ∈ wanted := fun e => h (decide_eq_true e)
        refine ⟨p.1, ?_⟩
        rw [p.2, take_snoc ha, List.filter_append, List.filter_cons_of_neg (by simpa using h'), List.filter_nil, List.append_nil]
    · have eD := p.2
      rw [List.length_map, List.take_length] at eD
      refine ⟨D, _, rfl, .inl (SqL.of eD), ?_⟩
      rw [List.length_map]
      exact q Hi (kp p.1)
theorem ok_joined {f : Addr} {fd : FuncData} (F : Fun K "joined" "joined" s_joined f fd) (T : NmA mg K fc fk ff fj) : FnOk P w K mg base CX0 1 f fd ["joint", "parts"] spJoined := by
  refine F.ok sc_joined (fun vs H Q E h => ?_) (fun cdv A outer s H vs Q E hr h => ?_)
  · obtain ⟨j, l, v1, v2, p1, p2, rfl, _⟩ := h
    rfl
  · obtain ⟨j, l, v1, v2, p1, p2, rfl, hl, h1, h2, hj, w1, w2, z1, z2, q⟩ := h
    refine ⟨_, (pss_cons (ps_set (i := 2) sc_joined.nd rfl (.inl rfl) (pe_lst pa_nil))
  (pss_cons (ps_for PassesOwn.never rfl (pi_list (pv 1)) (pg_name (i := 3) sc_joined.nd rfl (.inl rfl))
  (pss_one (ps_if (pt_cmpR op_eq (pe_ix ix_tup (pv 3) pe_int (fun _ _ => rfl)) (pv 0) (nomark _)) (pss_one (ps_expr (pe_bm PySem.F.plainAttrs_list PySem.F.slot_list_extend PySem.F.type_list_extend Wi.mt_extT (pv 2) (pa_cons (pe_ix ix_tup (pv 3) pe_int (fun _ _ => rfl)) pa_nil)))) (pss_one (ps_expr (pe_bm PySem.F.plainAttrs_list PySem.F.slot_list_append PySem.F.type_list_append mt_append (pv 2) (pa_cons (pv 3) pa_nil)))))))
  (pss_one (ps_ret (pe_tup (pa_cons (pv 0) (pa_cons (pe_callTy call_tuple_of (by rfl) T.n_tuple (by decide +kernel) (pa_cons (pv 2) pa_nil)) pa_nil))))))), ?_⟩
    refine ⟨Nat.zero_le _, fun Fo nF => ?_⟩
    have S1 := new_same (o := .lst []) nF
    have eF : upd H Fo (.lst []) Fo = some (.lst []) := upd_same
    generalize upd H Fo (.lst []) = H1 at *
    have hl1 := S1 _ _ hl
    refine ⟨_, rfl, l, rfl, ⟨_, SqL.of hl1⟩, ?_⟩
    let ps : List Pt := [p1, p2]
    refine for_list (K := K) (a := l) (xs := [v1, v2]) (fun i σ Hi => (∃ b3, σ = [some (.str j), some (.ref l), some (.ref Fo), b3]) ∧ (∀ b o, b ≠ Fo → H1 b = some o → Hi b = some o) ∧ ∃ vs', Hi Fo = some (.lst vs') ∧ PtsAt Hi vs' (([fl j p1, fl j p2].take i).flatten))
      ⟨⟨none, rfl⟩, fun _ _ _ e => e, [], eF, .nil⟩ (fun i σ Hi _ p => SqL.of (p.2.1 _ _ (ne_of_none hl nF) hl1)) (fun i x σ Hi hx P => ?_) (fun σ Hi P => ?_)
    · obtain ⟨⟨b3, rfl⟩, k1, vs', eF', hv⟩ := P
      obtain ⟨p, hp, hpv, wp, zp⟩ : ∃ p, [fl j p1, fl j p2][i]? = some (fl j p) ∧ PtAt H x p ∧ wf p = true ∧ wt p ≤ 1000000 := by
        match i, hx with
        | 0, hx => cases hx; exact ⟨p1, rfl, h1, w1, z1⟩
        | 1, hx => cases hx; exact ⟨p2, rfl, h2, w2, z2⟩
        | n + 2, hx => cases hx
      have tk : ∀ b xs, H b = some (.tup xs) → Hi b = some (.tup xs) := fun b xs e => k1 b _ (ne_of_none e nF) (S1 _ _ e)
      have hpi := hpv.mono tk
      have hvl := hv.len
      have hfl : (([fl j p1, fl j p2].take i).flatten).length ≤ 3000000 := by
        have e1 := jts_len j (fl j p1)
        have e2 := jts_len j (fl j p2)
        have f1 := fl_wt j p1
        have f2 := fl_wt j p2
        have hjl : j.length ≤ 3 := by
          simp only [List.mem_cons, List.not_mem_nil, or_false] at hj
          rcases hj with rfl | rfl <;> decide +kernel
        match i with
        | 0 => simp
        | 1 => simp; omega
        | n + 2 => simp; omega
      have tkF : ∀ (o : HO) b xs, Hi b = some (.tup xs) → upd Hi Fo o b = some (.tup xs) := fun o b xs e => (upd_ne (ne_of e eF' fun z => nomatch z)).trans e
      have snoc : ([fl j p1, fl j p2].take (i + 1)).flatten = ([fl j p1, fl j p2].take i).flatten ++ fl j p := by
        rw [take_snoc hp, List.flatten_append, List.flatten_singleton]
      obtain ⟨a, u, rfl, ea⟩ := hpi.head
      refine ⟨_, rfl, a, _, _, _, rfl, rfl, SqT.of ea, atI_nat (j := 0) rfl, _, rfl, rfl, _, rfl, ite2 (fun hh => ?_) (fun hh => ?_)⟩
      · have hh' : hdP p = j := V.str.inj (of_decide_eq_true hh)
        match p, hpi, hh', ea, wp, snoc, zp with
        | .atom ws, _, hh', _, _, _, _ =>
          exfalso
          have : ("atom" : Str) = j := hh'
          rw [← this] at hj
          exact absurd hj (by decide +kernel)
        | .un h p0, _, hh', _, wp, _, _ =>
          exfalso
          have e : h = j := hh'
          have wp' : (hds.contains h && wf p0) = true := wp
          rw [Bool.and_eq_true] at wp'
          have hm : h ∈ hds := by simpa using wp'.1
          rw [e] at hm
          simp only [List.mem_cons, List.not_mem_nil, or_false] at hj hm
          rcases hj with rfl | rfl <;> (rcases hm with e | e | e <;> exact absurd e (by decide +kernel))
        | .jo j' ps', hpi, hh', ea, _, snoc, zp =>
          have e : j' = j := hh'
          cases hpi with
          | @jo _ t _ us _ g1 g2 g3 =>
            rw [g1] at ea
            cases ea
            refine ⟨_, rfl, .inl ⟨rfl, _, SqL.of eF'⟩, _, rfl, a, _, _, _, rfl, rfl, SqT.of g1, atI_nat (j := 1) rfl, Fo, t, vs', us, rfl, rfl, eF', g2, ?_, ⟨_, rfl⟩, fun b o z e => (upd_ne z).trans (k1 b o z e), vs' ++ us, upd_same, ?_⟩
            · have g3l := g3.len
              have e1 := jts_len j' ps'
              have zp' : wts j' ps' ≤ 1000000 := zp
              rw [sizeLine_eq]
              omega
            · rw [snoc, show fl j (.jo j' ps') = ps' from if_pos e]
              exact (hv.app g3).mono (tkF _)
      · have hh' : ¬ hdP p = j := fun e => hh (decide_eq_true (congrArg V.str e))
        refine ⟨_, rfl, .inl ⟨rfl, _, SqL.of eF'⟩, _, rfl, Fo, _, _, rfl, rfl, eF', by rw [sizeLine_eq]; omega, ⟨_, rfl⟩, fun b o z e => (upd_ne z).trans (k1 b o z e), vs' ++ [.ref a], upd_same, ?_⟩
        have e1 : fl j p = [p] := by
          match p, hh' with
          | .atom _, _ => rfl
          | .un _ _, _ => rfl
          | .jo j' ps', hh' => exact if_neg hh'
        rw [snoc, e1]
        exact (hv.app (.cons hpi .nil)).mono (tkF _)
    · obtain ⟨⟨b3, rfl⟩, k1, vs', eF', hv⟩ := P
      have S2 : Same H Hi := fun b o e => k1 b o (ne_of_none e nF) (S1 _ _ e)
      refine ⟨_, rfl, _, rfl, Fo, vs', rfl, .inl ⟨SqL.of eF', fun t nt => ⟨(by show 2 ≤ sizeLine; decide), fun r nr => ?_⟩⟩⟩
      have S3 := new_same (o := .tup vs') nt
      have S4 := new_same (o := .tup [.str j, .ref t]) nr
      refine q _ _ (S2.trans (S3.trans S4)) (.jo upd_same (S4 _ _ upd_same) ?_)
      have e0 : ([fl j p1, fl j p2].take [v1, v2].length).flatten = fl j p1 ++ fl j p2 := by
        show [fl j p1, fl j p2].flatten = _
        simp
      rw [e0] at hv
      exact hv.mono fun b xs e => S4 _ _ (S3 _ _ e)
end
end N7

set_option linter.all false
set_option maxRecDepth 100000
set_option maxHeartbeats 8000000
set_option pp.maxSteps 150
namespace N7
open PySem PySem.Spec PyProof.Rows L2 Gx Qp Qh
/-! ### the class Reading -/
abbrev s_dinit : Stmt := inClass (topS 15) 0
theorem sc_dinit : FnScope ["self", "forms", "heads"] ["self", "forms", "heads"] (defScope s_dinit) := ⟨rfl, rfl, rfl, by decide +kernel, rfl, by decide +kernel, by decide +kernel⟩
abbrev s_dtake : Stmt := inClass (topS 15) 1
theorem sc_dtake : FnScope ["self", "word"] ["self", "word"] (defScope s_dtake) := ⟨rfl, rfl, rfl, by decide +kernel, rfl, by decide +kernel, by decide +kernel⟩
abbrev s_dended : Stmt := inClass (topS 15) 2
theorem sc_dended : FnScope ["self"] ["self"] (defScope s_dended) := ⟨rfl, rfl, rfl, by decide +kernel, rfl, by decide +kernel, by decide +kernel⟩
abbrev s_datom : Stmt := inClass (topS 15) 3
abbrev n_datom : List Str := ["self", "word", "begun", "fitting", "form"]
theorem sc_datom : FnScope n_datom ["self", "word"] (defScope s_datom) := ⟨rfl, rfl, rfl, by decide +kernel, rfl, by decide +kernel, by decide +kernel⟩
abbrev s_dbehind : Stmt := inClass (topS 15) 4
theorem sc_dbehind : FnScope ["self", "word"] ["self", "word"] (defScope s_dbehind) := ⟨rfl, rfl, rfl, by decide +kernel, rfl, by decide +kernel, by decide +kernel⟩
abbrev s_dclose : Stmt := inClass (topS 15) 5
theorem sc_dclose : FnScope ["self"] ["self"] (defScope s_dclose) := ⟨rfl, rfl, rfl, by decide +kernel, rfl, by decide +kernel, by decide +kernel⟩
abbrev s_dput : Stmt := inClass (topS 15) 6
theorem sc_dput : FnScope ["self", "part"] ["self", "part"] (defScope s_dput) := ⟨rfl, rfl, rfl, by decide +kernel, rfl, by decide +kernel, by decide +kernel⟩
abbrev s_dgather : Stmt := inClass (topS 15) 7
abbrev n_dgather : List Str := ["self", "joints", "joint", "right", "left"]
theorem sc_dgather : FnScope n_dgather ["self", "joints"] (defScope s_dgather) := ⟨rfl, rfl, rfl, by decide +kernel, rfl, by decide +kernel, by decide +kernel⟩
structure NmRd (mg : Str → Option Value) (K : PySem.W.Frag) (C aj m_atom m_behind m_close m_put m_gather : Addr) : Prop where
  cl : Cls K C
  a_forms : NoAttr K C "_forms"
  a_heads : NoAttr K C "_heads"
  a_parts : NoAttr K C "_parts"
  a_waiting : NoAttr K C "_waiting"
  a_begun : NoAttr K C "_begun"
  a_whole : NoAttr K C "_is_whole"
  g_JOINTS : mg "JOINTS" = some (.ref aj)
  jts : HdK K aj jts
  atom : Meth K C "_take_in_atom" m_atom
  behind : Meth K C "_take_behind" m_behind
  close : Meth K C "_close" m_close
  put : Meth K C "_put" m_put
  gather : Meth K C "_gather" m_gather
def spDInit (C : Addr) : Sp := fun vs H Q _ => ∃ (a dx af ah : Addr), vs = [.ref a, .ref af, .ref ah] ∧ H a = some (.ins C dx []) ∧ ∀ (lp lw : Addr) (H' : Hp), (∀ b o, b ≠ a → H b = some o → H' b = some o) → H lp = none → H lw = none → RdAt C H' a dx af ah lp lw st0 → Q .non H'
def spGather (K : PySem.W.Frag) (C : Addr) : Sp := fun vs H Q _ => ∃ (a j dx af ah lp lw : Addr) (js : List Str) (st : RS), vs = [.ref a, .ref j] ∧ SqT K H j (js.map V.str) ∧ (∀ x ∈ js, x ∈ jts) ∧ RdAt C H a dx af ah lp lw st ∧ st.parts.length = nJ st.wait + 1 ∧ wfs st.parts = true ∧ wtS st ≤ 1000000 ∧
  ∀ H' : Hp, FrR H H' a lp lw → RdAt C H' a dx af ah lp lw { st with wait := (gat js st.wait st.parts).1, parts := (gat js st.wait st.parts).2 } → Q .non H'
def spPut (K : PySem.W.Frag) (C : Addr) : Sp := fun vs H Q _ => ∃ (a dx af ah lp lw : Addr) (hs : List Str) (st : RS) (v : V) (p : Pt), vs = [.ref a, v] ∧ SqT K H ah (hs.map V.str) ∧ PtAt H v p ∧ RdAt C H a dx af ah lp lw st ∧ st.begun = [] ∧ st.parts.length ≤ nJ st.wait ∧ wtS st ≤ 1000000 ∧
  ∀ H' : Hp, FrR H H' a lp lw → RdAt C H' a dx af ah lp lw (put hs st.wait st.parts p) → Q .non H'
section
variable {P : Program} {w : World} {K : PySem.W.Frag} {mg : Str → Option Value} {base : Heap} {fc fk ff fj C aj m_atom m_behind m_close m_put m_gather : Addr}
theorem ok_dgather {f : Addr} {fd fdj : FuncData} (F : Fun K "_gather" "Reading._gather" s_dgather f fd) (TA : NmA mg K fc fk ff fj) (T : NmRd mg K C aj m_atom m_behind m_close m_put m_gather)
    (G_joined : FnOk P w K mg base CX0 1 fj fdj ["joint", "parts"] spJoined) (b_joined : Binds K fdj ["joint", "parts"] []) : FnOk P w K mg base CX0 2 f fd ["self", "joints"] (spGather K C) := by
  refine F.ok sc_dgather (fun vs H Q E h => ?_) (fun cdv A outer s H vs Q E hr h => ?_)
  · obtain ⟨a, j, dx, af, ah, lp, lw, js, st, rfl, _⟩ := h
    rfl
  · obtain ⟨a, j, dx, af, ah, lp, lw, js, st, rfl, hj, hjs, hrd, hlen, hwf, hwt, q⟩ := h
    refine ⟨_, (pss_one (ps_while PassesOwn.never (PW.pt (pw_and (pt_truth (pe_fld (pv 0) rfl) (by intro _; rfl)) (pw_and1 (pt_cmpR op_in_seq (pe_ix ix_list (pe_fld (pv 0) rfl) (pe_un un_neg pe_int) (fun _ _ => rfl)) (pv 1) rfl))))
  (pss_cons (ps_set (i := 2) sc_dgather.nd rfl (.inl rfl) (pe_bm0 PySem.F.plainAttrs_list PySem.F.slot_list_pop PySem.F.type_list_pop mt_pop (pe_fld (pv 0) rfl)))
  (pss_cons (ps_set (i := 3) sc_dgather.nd rfl (.inl rfl) (pe_bm0 PySem.F.plainAttrs_list PySem.F.slot_list_pop PySem.F.type_list_pop mt_pop (pe_fld (pv 0) rfl)))
  (pss_cons (ps_set (i := 4) sc_dgather.nd rfl (.inl rfl) (pe_bm0 PySem.F.plainAttrs_list PySem.F.slot_list_pop PySem.F.type_list_pop mt_pop (pe_fld (pv 0) rfl)))
  (pss_one (ps_expr (pe_bm PySem.F.plainAttrs_list PySem.F.slot_list_append PySem.F.type_list_append mt_append (pe_fld (pv 0) rfl) (pa_cons (pe_call G_joined hr rfl TA.g_joined TA.k_joined b_joined .nil pass0 (pa_cons (pv 2) (pa_cons (pe_lst (pa_cons (pv 4) (pa_cons (pv 3) pa_nil))) pa_nil))) pa_nil))))))))), ?_⟩
    refine while_by (fun σ Hi => (∃ b2 b3 b4, σ = [some (.ref a), some (.ref j), b2, b3, b4]) ∧ FrR H Hi a lp lw ∧ ∃ (W : List Str) (Ps : List Pt), gat js W Ps = gat js st.wait st.parts ∧ RdAt C Hi a dx af ah lp lw { st with wait := W, parts := Ps } ∧ Ps.length = nJ W + 1 ∧ wfs Ps = true ∧ wtW W + wtP Ps ≤ 1000000) (fun _ Hi => lenAt Hi lw)
      ⟨⟨_, _, _, rfl⟩, FrR.refl, st.wait, st.parts, rfl, hrd, hlen, hwf, by have : wtS st = wtW st.wait + wtP st.parts + lenS st.begun := rfl; omega⟩ (fun σ Hi Pv => ?_) (fun σ Hi Q1 Q2 hQ hc => ?_)
    · obtain ⟨⟨b2, b3, b4, rfl⟩, kf, W, Ps, hg, hrd', hl', hw', hz'⟩ := Pv
      obtain ⟨lb, vs, ea, ep, hp, ew, eb, n1, n2, n3⟩ := hrd'.ex
      have hpl := hp.len
      have hjn : ∀ b xs, H b = some (.tup xs) → Hi b = some (.tup xs) := hrd.tups kf
      have hj' : SqT K Hi j (js.map V.str) := by
        rcases hj with (h | ⟨o, h⟩) | h
        · exact .inl (.inl (hjn _ _ h))
        · refine .inl (.inr ⟨o, kf j _ ?_ ?_ ?_ h⟩)
          · obtain ⟨_, _, e1, _⟩ := hrd.ex
            exact ne_of h e1 fun z => nomatch z
          · obtain ⟨_, _, _, e1, _⟩ := hrd.ex
            exact ne_of h e1 fun z => nomatch z
          · obtain ⟨_, _, _, _, _, e1, _⟩ := hrd.ex
            exact ne_of h e1 fun z => nomatch z
        · exact .inr h
      refine ⟨_, rfl, a, C, dx, _, _, rfl, ea, T.cl, T.a_waiting, fr_waiting, _, .inl ⟨_, SqL.of ew, rfl⟩, ?_⟩
      cases W with
      | nil =>
        refine iteF ?_
        have hg' : (gat js st.wait st.parts) = ([], Ps) := hg.symm
        exact q Hi kf (by rw [hg']; exact hrd')
      | cons j0 W =>
        have ew' : Hi lw = some (.lst (V.str j0 :: W.map V.str).reverse) := ew
        rw [show (!((j0 :: W).map V.str).reverse.isEmpty) = true from by simp]
        refine iteT ?_
        refine ⟨_, rfl, a, C, dx, _, _, rfl, ea, T.cl, T.a_waiting, fr_waiting, 1, rfl, lw, _, _, _, rfl, rfl, SqL.of ew', atI_rev _ _, _, rfl, j, _, rfl, .inr hj', rfl, flat_strs _, _, rfl, ?_⟩
        rw [if_neg Bool.false_ne_true, inV_list]
        by_cases hm : j0 ∈ js
        · rw [decide_eq_true hm]
          refine iteT ?_
          have hjj := hjs j0 hm
          rw [nJ_cons, if_pos hjj] at hl'
          match Ps, hl', hg, hw', hz', vs, hp, ep, hpl with
          | [], hl', _, _, _, _, _, _, _ => simp at hl'
          | [_], hl', _, _, _, _, _, _, _ => simp at hl'
          | r :: l :: P', hl', hg, hw', hz', vs, hp, ep, hpl =>
            cases hp with
            | @cons vr _ vs1 _ hr1 hp1 =>
              cases hp1 with
              | @cons vl _ vs2 _ hr2 hp2 =>
                have hw2 : (wf r && (wf l && wfs P')) = true := hw'
                simp only [Bool.and_eq_true] at hw2
                have hz2 : 2 * (j0.length + 6) + wtW W + (wt r + (wt l + wtP P')) ≤ 1000000 := hz'
                -- joint
                refine ⟨_, rfl, a, C, dx, _, _, rfl, ea, T.cl, T.a_waiting, fr_waiting, .inl ⟨rfl, _, SqL.of ew'⟩, lw, _, _, rfl, rfl, ew', rev_last _ _, ?_⟩
                rw [rev_drop]
                have kw : ∀ b o, b ≠ lw → Hi b = some o → upd Hi lw (.lst (W.map V.str).reverse) b = some o := fun b o z e => (upd_ne z).trans e
                have ea1 := kw _ _ (ne_of ea ew' fun z => nomatch z) ea
                have ep1 := kw _ _ n1 ep
                have eb1 := kw _ _ n3 eb
                have ew1 : upd Hi lw (.lst (W.map V.str).reverse) lw = some (.lst (W.map V.str).reverse) := upd_same
                have tk1 : ∀ b xs, Hi b = some (.tup xs) → upd Hi lw (.lst (W.map V.str).reverse) b = some (.tup xs) := fun b xs e => kw b _ (ne_of e ew' fun z => nomatch z) e
                have f1 : FrR H (upd Hi lw (.lst (W.map V.str).reverse)) a lp lw := fun b o x y z e => kw b o z (kf b o x y z e)
                have hmu : lenAt Hi lw = W.length + 1 := (lenAt_of ew').trans (by simp)
                generalize upd Hi lw (.lst (W.map V.str).reverse) = H1 at *
                -- right
                refine ⟨_, rfl, a, C, dx, _, _, rfl, ea1, T.cl, T.a_parts, fr_parts, .inl ⟨rfl, _, SqL.of ep1⟩, lp, _, _, rfl, rfl, ep1, rev_last _ _, ?_⟩
                rw [rev_drop]
                have kp : ∀ (o' : HO) b o, b ≠ lp → H1 b = some o → upd H1 lp o' b = some o := fun o' b o z e => (upd_ne z).trans e
                have ea2 := kp (.lst (vl :: vs2).reverse) _ _ (ne_of ea1 ep1 fun z => nomatch z) ea1
                have ep2 : upd H1 lp (.lst (vl :: vs2).reverse) lp = some (.lst (vl :: vs2).reverse) := upd_same
                have ew2 := kp (.lst (vl :: vs2).reverse) _ _ (Ne.symm n1) ew1
                have eb2 := kp (.lst (vl :: vs2).reverse) _ _ n2 eb1
                have tk2 : ∀ b xs, Hi b = some (.tup xs) → upd H1 lp (.lst (vl :: vs2).reverse) b = some (.tup xs) := fun b xs e => kp _ b _ (ne_of (tk1 b xs e) ep1 fun z => nomatch z) (tk1 b xs e)
                have f2 : FrR H (upd H1 lp (.lst (vl :: vs2).reverse)) a lp lw := fun b o x y z e => kp _ b o y (f1 b o x y z e)
                generalize upd H1 lp (.lst (vl :: vs2).reverse) = H2 at *
                -- left
                refine ⟨_, rfl, a, C, dx, _, _, rfl, ea2, T.cl, T.a_parts, fr_parts, .inl ⟨rfl, _, SqL.of ep2⟩, lp, _, _, rfl, rfl, ep2, rev_last _ _, ?_⟩
                rw [rev_drop]
                have kp3 : ∀ (o' : HO) b o, b ≠ lp → H2 b = some o → upd H2 lp o' b = some o := fun o' b o z e => (upd_ne z).trans e
                have ea3 := kp3 (.lst vs2.reverse) _ _ (ne_of ea2 ep2 fun z => nomatch z) ea2
                have ep3 : upd H2 lp (.lst vs2.reverse) lp = some (.lst vs2.reverse) := upd_same
                have ew3 := kp3 (.lst vs2.reverse) _ _ (Ne.symm n1) ew2
                have eb3 := kp3 (.lst vs2.reverse) _ _ n2 eb2
                have tk3 : ∀ b xs, Hi b = some (.tup xs) → upd H2 lp (.lst vs2.reverse) b = some (.tup xs) := fun b xs e => kp3 _ b _ (ne_of (tk2 b xs e) ep2 fun z => nomatch z) (tk2 b xs e)
                have f3 : FrR H (upd H2 lp (.lst vs2.reverse)) a lp lw := fun b o x y z e => kp3 _ b o y (f2 b o x y z e)
                generalize upd H2 lp (.lst vs2.reverse) = H3 at *
                -- joined
                refine ⟨_, rfl, a, C, dx, _, _, rfl, ea3, T.cl, T.a_parts, fr_parts, .inl ⟨rfl, _, SqL.of ep3⟩, _, rfl, _, rfl, _, rfl, (by show 2 ≤ sizeLine; decide), fun L nL => ?_⟩
                have S4 := new_same (o := .lst [vl, vr]) nL
                have eL : upd H3 L (.lst [vl, vr]) L = some (.lst [vl, vr]) := upd_same
                generalize upd H3 L (.lst [vl, vr]) = H4 at *
                refine ⟨j0, L, vl, vr, l, r, rfl, eL, (hr2.mono tk3).mono fun b xs e => S4 _ _ e, (hr1.mono tk3).mono fun b xs e => S4 _ _ e, hjj, hw2.2.1, hw2.1, by omega, by omega, fun v H5 S5 hv => ?_⟩
                have S45 := S4.trans S5
                have ep5 := S45 _ _ ep3
                have hp2l := hp2.len
                have hPb : P'.length ≤ 1000000 := by
                  have := nJ_le W
                  have := wtW_len W
                  rw [List.length_cons, List.length_cons] at hl'
                  omega
                refine ⟨lp, _, _, rfl, rfl, ep5, by rw [List.length_reverse, sizeLine_eq]; omega, ?_⟩
                have k6 : ∀ b o, b ≠ lp → H5 b = some o → upd H5 lp (.lst (vs2.reverse ++ [v])) b = some o := fun b o z e => (upd_ne z).trans e
                have ew6 := k6 _ _ (Ne.symm n1) (S45 _ _ ew3)
                refine ⟨⟨⟨_, _, _, rfl⟩, fun b o x y z e => k6 b o y (S45 _ _ (f3 b o x y z e)), W, jn j0 l r :: P', ?_, ⟨lb, v :: vs2, k6 _ _ (ne_of (S45 _ _ ea3) ep5 fun z => nomatch z) (S45 _ _ ea3), ?_, ?_, ew6, k6 _ _ n2 (S45 _ _ eb3), n1, n2, n3⟩, ?_, ?_, ?_⟩, ?_⟩
                · rw [← hg, gat_yes hm]
                · rw [upd_same, List.reverse_cons]
                · exact .cons (hv.mono fun b xs e => k6 b _ (ne_of e ep5 fun z => nomatch z) e) ((hp2.mono tk3).mono fun b xs e => k6 b _ (ne_of (S45 _ _ e) ep5 fun z => nomatch z) (S45 _ _ e))
                · rw [List.length_cons, List.length_cons] at hl'
                  rw [List.length_cons]
                  omega
                · show (wf (jn j0 l r) && wfs P') = true
                  rw [jn_wf (by simpa using hjj) hw2.2.1 hw2.1, hw2.2.2]
                  rfl
                · have := jn_wt j0 l r
                  show wtW W + (wt (jn j0 l r) + wtP P') ≤ _
                  omega
                · rw [hmu]
                  show lenAt _ lw < W.length + 1
                  rw [lenAt_of ew6, List.length_reverse, List.length_map]
                  omega
        · rw [decide_eq_false hm]
          refine iteF ?_
          have hg' : (gat js st.wait st.parts) = (j0 :: W, Ps) := by rw [← hg, gat_no hm]
          exact q Hi kf (by rw [hg']; exact hrd')
    · obtain ⟨v1, x1, a1, C1, dx1, fs1, w1, x2, x3, x4, x5, x6, k1, x7, rest⟩ := hc
      refine ⟨v1, x1, a1, C1, dx1, fs1, w1, x2, x3, x4, x5, x6, k1, x7, ?_⟩
      cases k1 with
      | false => exact hQ _ _ rest
      | true =>
        obtain ⟨v2, y1, a2, C2, dx2, fs2, w2, y2, y3, y4, y5, y6, i2, y7, p2, l2, j2, u2, y8, y9, y10, y11, v3, y12, p3, l3, y13, y14, y15, y16, b3, y17, r2⟩ := rest
        exact ⟨v2, y1, a2, C2, dx2, fs2, w2, y2, y3, y4, y5, y6, i2, y7, p2, l2, j2, u2, y8, y9, y10, y11, v3, y12, p3, l3, y13, y14, y15, y16, b3, y17, hQ _ _ r2⟩
end
end N7

set_option linter.all false
set_option maxRecDepth 100000
set_option maxHeartbeats 8000000
set_option pp.maxSteps 150
namespace N7
open PySem PySem.Spec PyProof.Rows L2 Gx Qp Qh
def spClose (K : PySem.W.Frag) (C : Addr) : Sp := fun vs H Q _ => ∃ (a dx af ah lp lw : Addr) (hs : List Str) (st : RS), vs = [.ref a] ∧ HdT K H ah hs ∧ RdAt C H a dx af ah lp lw st ∧ Ok st ∧ st.whole = true ∧ wtS st ≤ 1000000 ∧
  ∀ H' : Hp, FrR H H' a lp lw → (∀ st', closeS hs st = some st' → RdAt C H' a dx af ah lp lw st') → Q (.bl (closeS hs st).isSome) H'
def spAtom (K : PySem.W.Frag) (C : Addr) : Sp := fun vs H Q _ => ∃ (a dx af ah lp lw : Addr) (fs : List (List Str)) (hs : List Str) (st : RS) (w : Str), vs = [.ref a, .str w] ∧ FmK K af fs ∧ HdT K H ah hs ∧ (∀ f ∈ fs, f.length ≤ 1000) ∧ fs.length ≤ 1000 ∧ RdAt C H a dx af ah lp lw st ∧ Ok st ∧ st.whole = false ∧ wtS st ≤ 1000000 ∧ WdOk w ∧ (∀ x ∈ st.begun, WdOk x) ∧
  ∀ H' : Hp, FrR H H' a lp lw → (∀ st', takeA fs hs st w = some st' → RdAt C H' a dx af ah lp lw st') → Q (.bl (takeA fs hs st w).isSome) H'
def spBehind (K : PySem.W.Frag) (C : Addr) : Sp := fun vs H Q _ => ∃ (a dx af ah lp lw : Addr) (hs : List Str) (st : RS) (w : Str), vs = [.ref a, .str w] ∧ HdT K H ah hs ∧ RdAt C H a dx af ah lp lw st ∧ Ok st ∧ st.whole = true ∧ wtS st ≤ 1000000 ∧
  ∀ H' : Hp, FrR H H' a lp lw → (∀ st', takeB hs st w = some st' → RdAt C H' a dx af ah lp lw st') → Q (.bl (takeB hs st w).isSome) H'
def spTakeR (K : PySem.W.Frag) (C : Addr) : Sp := fun vs H Q _ => ∃ (a dx af ah lp lw : Addr) (fs : List (List Str)) (hs : List Str) (st : RS) (w : Str), vs = [.ref a, .str w] ∧ FmK K af fs ∧ HdT K H ah hs ∧ (∀ f ∈ fs, f.length ≤ 1000) ∧ fs.length ≤ 1000 ∧ RdAt C H a dx af ah lp lw st ∧ Ok st ∧ wtS st ≤ 1000000 ∧ WdOk w ∧ (∀ x ∈ st.begun, WdOk x) ∧
  ∀ H' : Hp, FrR H H' a lp lw → (∀ st', takeS fs hs st w = some st' → RdAt C H' a dx af ah lp lw st') → Q (.bl (takeS fs hs st w).isSome) H'
def spEnded (C : Addr) : Sp := fun vs H Q _ => ∃ (a dx af ah lp lw : Addr) (st : RS), vs = [.ref a] ∧ RdAt C H a dx af ah lp lw st ∧ Ok st ∧ wtS st ≤ 1000000 ∧
  ∀ H' : Hp, FrR H H' a lp lw → (endS st = none → Q .non H') ∧ ∀ p v, endS st = some p → PtAt H' v p → Q v H'
section
variable {P : Program} {w : World} {K : PySem.W.Frag} {mg : Str → Option Value} {base : Heap} {fc fk ff fj C aj m_atom m_behind m_close m_put m_gather : Addr}
theorem ok_dput {f : Addr} {fd : FuncData} (F : Fun K "_put" "Reading._put" s_dput f fd) (T : NmRd mg K C aj m_atom m_behind m_close m_put m_gather) : FnOk P w K mg base CX0 1 f fd ["self", "part"] (spPut K C) := by
  refine F.ok sc_dput (fun vs H Q E h => ?_) (fun cdv A outer s H vs Q E hr h => ?_)
  · obtain ⟨a, dx, af, ah, lp, lw, hs, st, v, p, rfl, _⟩ := h
    rfl
  · obtain ⟨a, dx, af, ah, lp, lw, hs, st, v, p, rfl, hh, hv, hrd, hbg, hlen, hwt, q⟩ := h
    refine ⟨_, (C8.pss_cut (ps_while PassesOwn.never (PW.pt (pw_and (pt_truth (pe_fld (pv 0) rfl) (by intro _; rfl)) (pw_and1 (pt_cmpR op_in_seq (pe_ix ix_list (pe_fld (pv 0) rfl) (pe_un un_neg pe_int) (fun _ _ => rfl)) (pe_fld (pv 0) rfl) rfl))))
  (pss_one (ps_set (i := 1) sc_dput.nd rfl (.inl rfl) (pe_tup (pa_cons (pe_bm0 PySem.F.plainAttrs_list PySem.F.slot_list_pop PySem.F.type_list_pop mt_pop (pe_fld (pv 0) rfl)) (pa_cons (pv 1) pa_nil))))))
  (pss_cons (ps_expr (pe_bm PySem.F.plainAttrs_list PySem.F.slot_list_append PySem.F.type_list_append mt_append (pe_fld (pv 0) rfl) (pa_cons (pv 1) pa_nil)))
  (pss_one (ps_fld (pv 0) pe_bl rfl)))), ?_⟩
    have hq3 : wtS st = wtW st.wait + wtP st.parts + lenS st.begun := rfl
    have hPb : st.parts.length ≤ 1000000 := by
      have h1 := nJ_le st.wait
      have h2 := wtW_len st.wait
      omega
    refine ⟨fun σ Hi => FrR H Hi a lp lw ∧ ∃ (W : List Str) (p' : Pt) (v' : V), σ = [some (.ref a), some v'] ∧ putS hs st.wait p = (W, p') ∧ PtAt Hi v' p' ∧ RdAt C Hi a dx af ah lp lw { st with wait := W }, ?_, ?_⟩
    rotate_left
    · rintro σ Hi ⟨kf, W, p', v', rfl, hput, hv', hrd'⟩
      obtain ⟨lb, vs, ea, ep, hp, ew, eb, n1, n2, n3⟩ := hrd'.ex
      have hpl : vs.length = st.parts.length := hp.len
      refine ⟨_, rfl, a, C, dx, _, _, rfl, ea, T.cl, T.a_parts, fr_parts, .inl ⟨rfl, _, SqL.of ep⟩, _, rfl, lp, _, _, rfl, rfl, ep, by rw [List.length_reverse, sizeLine_eq]; omega, ?_⟩
      have k1 : ∀ b o, b ≠ lp → Hi b = some o → upd Hi lp (.lst (vs.reverse ++ [v'])) b = some o := fun b o z e => (upd_ne z).trans e
      have ea1 := k1 _ _ (ne_of ea ep fun z => nomatch z) ea
      have ep1 : upd Hi lp (.lst (vs.reverse ++ [v'])) lp = some (.lst (v' :: vs).reverse) := by rw [upd_same, List.reverse_cons]
      have ew1 := k1 _ _ (Ne.symm n1) ew
      have eb1 := k1 _ _ n2 eb
      have tk1 : ∀ b xs, Hi b = some (.tup xs) → upd Hi lp (.lst (vs.reverse ++ [v'])) b = some (.tup xs) := fun b xs e => k1 b _ (ne_of e ep fun z => nomatch z) e
      have f1 : FrR H (upd Hi lp (.lst (vs.reverse ++ [v']))) a lp lw := fun b o x y z e => k1 b o y (kf b o x y z e)
      generalize upd Hi lp (.lst (vs.reverse ++ [v'])) = H1 at *
      refine ⟨_, rfl, a, C, dx, _, rfl, ea1, T.cl, T.a_whole, fr_len, ?_⟩
      rw [put_whole]
      have k2 : ∀ b o, b ≠ a → H1 b = some o → upd H1 a (.ins C dx (fldR af ah lp lw lb true)) b = some o := fun b o z e => (upd_ne z).trans e
      have tk2 : ∀ b xs, Hi b = some (.tup xs) → upd H1 a (.ins C dx (fldR af ah lp lw lb true)) b = some (.tup xs) := fun b xs e => k2 b _ (ne_of (tk1 b xs e) ea1 fun z => nomatch z) (tk1 b xs e)
      refine q _ (fun b o x y z e => k2 b o x (f1 b o x y z e)) ⟨lb, v' :: vs, upd_same, k2 _ _ (ne_of ep1 ea1 fun z => nomatch z) ep1, ?_, ?_, ?_, n1, n2, n3⟩
      · unfold put
        rw [hput]
        exact .cons (hv'.mono tk2) (hp.mono tk2)
      · unfold put
        rw [hput]
        exact k2 _ _ (ne_of ew1 ea1 fun z => nomatch z) ew1
      · have eb2 : Hi lb = some (.lst (st.begun.map V.str)) := eb
        have eb3 : H1 lb = some (.lst (st.begun.map V.str)) := eb1
        rw [hbg] at eb3
        exact k2 _ _ (ne_of eb3 ea1 fun z => nomatch z) eb3
    refine while_by (fun σ Hi => FrR H Hi a lp lw ∧ ∃ (W : List Str) (p' : Pt) (v' : V), σ = [some (.ref a), some v'] ∧ putS hs W p' = putS hs st.wait p ∧ PtAt Hi v' p' ∧ RdAt C Hi a dx af ah lp lw { st with wait := W }) (fun _ Hi => lenAt Hi lw)
      ⟨FrR.refl, st.wait, p, v, rfl, rfl, hv, hrd⟩ (fun σ Hi Pv => ?_) (fun σ Hi Q1 Q2 hQ hc => ?_)
    · obtain ⟨kf, W, p', v', rfl, hput, hv', hrd'⟩ := Pv
      obtain ⟨lb, vs, ea, ep, hp, ew, eb, n1, n2, n3⟩ := hrd'.ex
      have hh' : SqT K Hi ah (hs.map V.str) := by
        rcases hh with (h | ⟨o, h⟩) | h
        · exact .inl (.inl (hrd.tups kf _ _ h))
        · refine .inl (.inr ⟨o, kf ah _ ?_ ?_ ?_ h⟩)
          · obtain ⟨_, _, e1, _⟩ := hrd.ex
            exact ne_of h e1 fun z => nomatch z
          · obtain ⟨_, _, _, e1, _⟩ := hrd.ex
            exact ne_of h e1 fun z => nomatch z
          · obtain ⟨_, _, _, _, _, e1, _⟩ := hrd.ex
            exact ne_of h e1 fun z => nomatch z
        · exact .inr h
      refine ⟨_, rfl, a, C, dx, _, _, rfl, ea, T.cl, T.a_waiting, fr_waiting, _, .inl ⟨_, SqL.of ew, rfl⟩, ?_⟩
      cases W with
      | nil =>
        refine iteF ⟨kf, [], p', v', rfl, hput.symm, hv', hrd'⟩
      | cons h0 W =>
        have ew' : Hi lw = some (.lst (V.str h0 :: W.map V.str).reverse) := ew
        rw [show (!((h0 :: W).map V.str).reverse.isEmpty) = true from by simp]
        refine iteT ?_
        refine ⟨_, rfl, a, C, dx, _, _, rfl, ea, T.cl, T.a_waiting, fr_waiting, 1, rfl, lw, _, _, _, rfl, rfl, SqL.of ew', atI_rev _ _, _, rfl, a, C, dx, _, _, rfl, ea, T.cl, T.a_heads, fr_heads, ah, _, rfl, .inr hh', rfl, flat_strs _, _, rfl, ?_⟩
        rw [if_neg Bool.false_ne_true, inV_list]
        by_cases hm : h0 ∈ hs
        · rw [decide_eq_true hm]
          refine iteT ?_
          refine ⟨_, rfl, a, C, dx, _, _, rfl, ea, T.cl, T.a_waiting, fr_waiting, .inl ⟨rfl, _, SqL.of ew'⟩, lw, _, _, rfl, rfl, ew', rev_last _ _, ?_⟩
          rw [rev_drop]
          have kw : ∀ b o, b ≠ lw → Hi b = some o → upd Hi lw (.lst (W.map V.str).reverse) b = some o := fun b o z e => (upd_ne z).trans e
          have ea1 := kw _ _ (ne_of ea ew' fun z => nomatch z) ea
          have ep1 := kw _ _ n1 ep
          have eb1 := kw _ _ n3 eb
          have ew1 : upd Hi lw (.lst (W.map V.str).reverse) lw = some (.lst (W.map V.str).reverse) := upd_same
          have tk1 : ∀ b xs, Hi b = some (.tup xs) → upd Hi lw (.lst (W.map V.str).reverse) b = some (.tup xs) := fun b xs e => kw b _ (ne_of e ew' fun z => nomatch z) e
          have f1 : FrR H (upd Hi lw (.lst (W.map V.str).reverse)) a lp lw := fun b o x y z e => kw b o z (kf b o x y z e)
          have hmu : lenAt Hi lw = W.length + 1 := (lenAt_of ew').trans (by simp)
          generalize upd Hi lw (.lst (W.map V.str).reverse) = H1 at *
          refine ⟨_, rfl, (by show 2 ≤ sizeLine; decide), fun r nr => ?_⟩
          have S2 := new_same (o := .tup [.str h0, v']) nr
          refine ⟨⟨fun b o x y z e => S2 _ _ (f1 b o x y z e), W, .un h0 p', .ref r, rfl, ?_, .un upd_same ((hv'.mono tk1).mono fun b xs e => S2 _ _ e), ⟨lb, vs, S2 _ _ ea1, S2 _ _ ep1, (hp.mono tk1).mono fun b xs e => S2 _ _ e, S2 _ _ ew1, S2 _ _ eb1, n1, n2, n3⟩⟩, ?_⟩
          · rw [← hput, putS, if_pos hm]
          · rw [hmu]
            show lenAt _ lw < W.length + 1
            rw [lenAt_of (S2 _ _ ew1), List.length_reverse, List.length_map]
            omega
        · rw [decide_eq_false hm]
          refine iteF ⟨kf, h0 :: W, p', v', rfl, ?_, hv', hrd'⟩
          rw [← hput, putS, if_neg hm]
    · obtain ⟨v1, x1, a1, C1, dx1, fs1, w1, x2, x3, x4, x5, x6, k1, x7, rest⟩ := hc
      refine ⟨v1, x1, a1, C1, dx1, fs1, w1, x2, x3, x4, x5, x6, k1, x7, ?_⟩
      cases k1 with
      | false => exact hQ _ _ rest
      | true =>
        obtain ⟨v2, y1, a2, C2, dx2, fs2, w2, y2, y3, y4, y5, y6, i2, y7, p2, l2, j2, u2, y8, y9, y10, y11, v3, y12, a3, C3, dx3, fs3, w3, y13, y14, y15, y16, y17, p3, l3, y18, y19, y20, y21, b3, y22, r2⟩ := rest
        exact ⟨v2, y1, a2, C2, dx2, fs2, w2, y2, y3, y4, y5, y6, i2, y7, p2, l2, j2, u2, y8, y9, y10, y11, v3, y12, a3, C3, dx3, fs3, w3, y13, y14, y15, y16, y17, p3, l3, y18, y19, y20, y21, b3, y22, hQ _ _ r2⟩
end
end N7

set_option linter.all false
set_option maxRecDepth 100000
set_option maxHeartbeats 8000000
set_option pp.maxSteps 150
namespace N7
open PySem PySem.Spec PyProof.Rows L2 Gx Qp Qh
structure FmL (K : PySem.W.Frag) (us : List V) (fs : List (List Str)) : Prop where
  len : us.length = fs.length
  all : ∀ (i : Nat) (f : List Str), fs[i]? = some f → ∃ b, us[i]? = some (.ref b) ∧ ∀ H : Hp, SqT K H b (f.map V.str)
theorem FmL.snoc {K : PySem.W.Frag} {us : List V} {fs : List (List Str)} {b : Addr} {f : List Str} (h : FmL K us fs) (k : ∀ H : Hp, SqT K H b (f.map V.str)) : FmL K (us ++ [.ref b]) (fs ++ [f]) := by
  refine ⟨by rw [List.length_append, List.length_append, h.len]; rfl, fun i g hg => ?_⟩
  by_cases hi : i < fs.length
  · rw [List.getElem?_append_left hi] at hg
    rw [List.getElem?_append_left (by rw [h.len]; exact hi)]
    exact h.all i g hg
  · rw [List.getElem?_append_right (by omega)] at hg
    rw [List.getElem?_append_right (by rw [h.len]; omega), h.len]
    obtain ⟨hlt, e⟩ := List.getElem?_eq_some_iff.mp hg
    have h0 : i - fs.length = 0 := by
      rw [List.length_singleton] at hlt
      omega
    rw [h0] at hg ⊢
    cases hg
    exact ⟨b, rfl, k⟩
def ttFits (K : PySem.W.Frag) : TT := tTest (tCall (spFits K) [] E0 (tCons (tVar 4) (tCons (tVar 2) tNil)))
theorem gat_and : ∀ x ∈ ([("and" : Str)] : List Str), x ∈ Qp.jts := fun x h => by
  rw [List.mem_singleton.mp h]
  exact List.mem_cons_self ..
section
variable {P : Program} {w : World} {K : PySem.W.Frag} {mg : Str → Option Value} {base : Heap} {fc fk ff fj C aj m_atom m_behind m_close m_put m_gather : Addr}
theorem ok_dclose {f : Addr} {fd d_put d_gat : FuncData} (F : Fun K "_close" "Reading._close" s_dclose f fd) (T : NmRd mg K C aj m_atom m_behind m_close m_put m_gather)
    (G_gather : FnOk P w K mg base CX0 2 m_gather d_gat ["self", "joints"] (spGather K C)) (b_gather : Binds K d_gat ["self", "joints"] []) (G_put : FnOk P w K mg base CX0 1 m_put d_put ["self", "part"] (spPut K C)) (b_put : Binds K d_put ["self", "part"] []) :
    FnOk P w K mg base CX0 3 f fd ["self"] (spClose K C) := by
  refine F.ok sc_dclose (fun vs H Q E h => ?_) (fun cdv A outer s H vs Q E hr h => ?_)
  · obtain ⟨a, dx, af, ah, lp, lw, hs, st, rfl, _⟩ := h
    rfl
  · obtain ⟨a, dx, af, ah, lp, lw, hs, st, rfl, hh, hrd, hok, hwh, hwt, q⟩ := h
    have hr1 := hr.mono (show 1 ≤ 2 by decide)
    refine ⟨_, (pss_cons (ps_expr (pe_meth (pv 0) T.cl T.gather G_gather hr b_gather .nil pass0 (pa_cons (pe_glob (v := .ref _) rfl T.g_JOINTS rfl) pa_nil)))
  (pss_cons (ps_if (pt_not (pt_truth (pe_fld (pv 0) rfl) (by intro _; rfl))) (pss_one (ps_ret pe_bl)) pss_nil)
  (pss_cons (ps_expr (pe_bm0 PySem.F.plainAttrs_list PySem.F.slot_list_pop PySem.F.type_list_pop mt_pop (pe_fld (pv 0) rfl)))
  (pss_cons (ps_expr (pe_meth (pv 0) T.cl T.put G_put hr1 b_put .nil pass0 (pa_cons (pe_bm0 PySem.F.plainAttrs_list PySem.F.slot_list_pop PySem.F.type_list_pop mt_pop (pe_fld (pv 0) rfl)) pa_nil)))
  (pss_one (ps_ret pe_bl)))))), ?_⟩
    have hl := hok.len
    rw [if_pos hwh] at hl
    have hg1 := gat_len (js := Qp.jts) (fun j h => h) st.wait st.parts hl
    have hg3 := gat_top st.wait st.parts hl
    have hg4 := gat_wt Qp.jts st.wait st.parts
    obtain ⟨lb0, vs0, ea0, _⟩ := hrd.ex
    refine ⟨_, rfl, a, dx, _, rfl, ea0, rfl, a, aj, dx, af, ah, lp, lw, Qp.jts, st, rfl, T.jts.at_ H, (fun x h => h), hrd, hl, hok.wfp, hwt, fun H1 f1 hrd1 => ?_⟩
    obtain ⟨lb, vs, ea, ep, hp, ew, eb, n1, n2, n3⟩ := hrd1.ex
    have hq3 : wtS st = wtW st.wait + wtP st.parts + lenS st.begun := rfl
    unfold closeS at q
    generalize hgg : gat Qp.jts st.wait st.parts = g at *
    obtain ⟨W, Ps⟩ := g
    match W, Ps, hg1, hg3, hg4, hrd1, q, hp, ep, ew with
    | [], Ps, _, _, _, _, q, _, _, ew =>
      refine ⟨_, rfl, a, C, dx, _, _, rfl, ea, T.cl, T.a_waiting, fr_waiting, _, .inl ⟨_, SqL.of ew, rfl⟩, ?_⟩
      exact iteT (q H1 f1 fun st' e => nomatch e)
    | w0 :: W, [], hg1, _, _, _, _, _, _, _ => exact absurd hg1 (by simp)
    | w0 :: W, p :: Ps, hg1, hg3, hg4, hrd1, q, hp, ep, ew =>
      have hw0 := hg3 w0 W rfl
      have hg1' : Ps.length + 1 = nJ (w0 :: W) + 1 := hg1
      rw [nJ_cons, if_neg hw0] at hg1'
      refine ⟨_, rfl, a, C, dx, _, _, rfl, ea, T.cl, T.a_waiting, fr_waiting, true, .inl ⟨_, SqL.of ew, by simp⟩, ?_⟩
      refine iteF ?_
      have ew' : H1 lw = some (.lst (V.str w0 :: W.map V.str).reverse) := ew
      refine ⟨_, rfl, a, C, dx, _, _, rfl, ea, T.cl, T.a_waiting, fr_waiting, .inl ⟨rfl, _, SqL.of ew'⟩, lw, _, _, rfl, rfl, ew', rev_last _ _, ?_⟩
      rw [rev_drop]
      cases hp with
      | @cons v _ vs1 _ hv hp1 =>
        have kw : ∀ b o, b ≠ lw → H1 b = some o → upd H1 lw (.lst (W.map V.str).reverse) b = some o := fun b o z e => (upd_ne z).trans e
        have ea2 := kw _ _ (ne_of ea ew' fun z => nomatch z) ea
        have ep2 := kw _ _ n1 ep
        have eb2 := kw _ _ n3 eb
        have ew2 : upd H1 lw (.lst (W.map V.str).reverse) lw = some (.lst (W.map V.str).reverse) := upd_same
        have tk2 : ∀ b xs, H1 b = some (.tup xs) → upd H1 lw (.lst (W.map V.str).reverse) b = some (.tup xs) := fun b xs e => kw b _ (ne_of e ew' fun z => nomatch z) e
        have f2 : FrR H (upd H1 lw (.lst (W.map V.str).reverse)) a lp lw := fun b o x y z e => kw b o z (f1 b o x y z e)
        generalize upd H1 lw (.lst (W.map V.str).reverse) = H2 at *
        refine ⟨_, rfl, a, dx, _, rfl, ea2, rfl, _, rfl, a, C, dx, _, _, rfl, ea2, T.cl, T.a_parts, fr_parts, .inl ⟨rfl, _, SqL.of ep2⟩, lp, _, _, rfl, rfl, ep2, rev_last _ _, ?_⟩
        rw [rev_drop]
        have kp : ∀ b o, b ≠ lp → H2 b = some o → upd H2 lp (.lst vs1.reverse) b = some o := fun b o z e => (upd_ne z).trans e
        have ea3 := kp _ _ (ne_of ea2 ep2 fun z => nomatch z) ea2
        have ep3 : upd H2 lp (.lst vs1.reverse) lp = some (.lst vs1.reverse) := upd_same
        have ew3 := kp _ _ (Ne.symm n1) ew2
        have eb3 := kp _ _ n2 eb2
        have tk3 : ∀ b xs, H1 b = some (.tup xs) → upd H2 lp (.lst vs1.reverse) b = some (.tup xs) := fun b xs e => kp b _ (ne_of (tk2 b xs e) ep2 fun z => nomatch z) (tk2 b xs e)
        have f3 : FrR H (upd H2 lp (.lst vs1.reverse)) a lp lw := fun b o x y z e => kp b o y (f2 b o x y z e)
        generalize upd H2 lp (.lst vs1.reverse) = H3 at *
        have hbg := hok.beg hwh
        have hz2 : 2 * (w0.length + 6) + wtW W + (wt p + wtP Ps) ≤ wtW st.wait + wtP st.parts := hg4
        refine ⟨a, dx, af, ah, lp, lw, hs, ⟨Ps, W, st.begun, st.whole⟩, v, p, rfl, (hh.mono (hrd.tups f3)).sq, hv.mono tk3, ⟨lb, vs1, ea3, ep3, hp1.mono tk3, ew3, eb3, n1, n2, n3⟩, hbg, by show Ps.length ≤ nJ W; omega, ?_, fun H4 f4 hrd4 => ?_⟩
        · show wtW W + wtP Ps + lenS st.begun ≤ _
          omega
        · exact q H4 (fun b o x y z e => f4 b o x y z (f3 b o x y z e)) fun st' e => by
            cases e
            exact hrd4
theorem ok_dended {f : Addr} {fd d_gat : FuncData} (F : Fun K "ended" "Reading.ended" s_dended f fd) (T : NmRd mg K C aj m_atom m_behind m_close m_put m_gather)
    (G_gather : FnOk P w K mg base CX0 2 m_gather d_gat ["self", "joints"] (spGather K C)) (b_gather : Binds K d_gat ["self", "joints"] []) : FnOk P w K mg base CX0 3 f fd ["self"] (spEnded C) := by
  refine F.ok sc_dended (fun vs H Q E h => ?_) (fun cdv A outer s H vs Q E hr h => ?_)
  · obtain ⟨a, dx, af, ah, lp, lw, st, rfl, _⟩ := h
    rfl
  · obtain ⟨a, dx, af, ah, lp, lw, st, rfl, hrd, hok, hwt, q⟩ := h
    refine ⟨_, (pss_cons (ps_if (pt_not (pt_val (pe_fld (pv 0) rfl))) (pss_one (ps_ret pe_non)) pss_nil)
  (pss_cons (ps_expr (pe_meth (pv 0) T.cl T.gather G_gather hr b_gather .nil pass0 (pa_cons (pe_glob (v := .ref _) rfl T.g_JOINTS rfl) pa_nil)))
  (pss_cons (ps_if (pt_truth (pe_fld (pv 0) rfl) (by intro _; rfl)) (pss_one (ps_ret pe_non)) pss_nil)
  (pss_one (ps_ret (pe_ix ix_list (pe_fld (pv 0) rfl) pe_int (fun _ _ => rfl))))))), ?_⟩
    obtain ⟨lb0, vs0, ea0, _⟩ := hrd.ex
    refine ⟨_, rfl, a, C, dx, _, _, rfl, ea0, T.cl, T.a_whole, fr_whole, _, rfl, ?_⟩
    by_cases hwh : st.whole = true
    · rw [hwh]
      refine iteF ?_
      have hl := hok.len
      rw [if_pos hwh] at hl
      have hg1 := gat_len (js := Qp.jts) (fun j h => h) st.wait st.parts hl
      refine ⟨_, rfl, a, dx, _, rfl, ea0, rfl, a, aj, dx, af, ah, lp, lw, Qp.jts, st, rfl, T.jts.at_ H, (fun x h => h), hrd, hl, hok.wfp, hwt, fun H1 f1 hrd1 => ?_⟩
      obtain ⟨lb, vs, ea, ep, hp, ew, eb, n1, n2, n3⟩ := hrd1.ex
      unfold endS at q
      rw [if_pos hwh] at q
      generalize hgg : gat Qp.jts st.wait st.parts = g at *
      obtain ⟨W, Ps⟩ := g
      match W, Ps, hg1, hrd1, q, hp, ep, ew with
      | [], [], hg1, _, _, _, _, _ => exact absurd hg1 (by simp [nJ])
      | w0 :: W, Ps, _, _, q, _, _, ew =>
        refine ⟨_, rfl, a, C, dx, _, _, rfl, ea, T.cl, T.a_waiting, fr_waiting, true, .inl ⟨_, SqL.of ew, by simp⟩, ?_⟩
        exact iteT ((q H1 f1).1 rfl)
      | [], p :: Ps, hg1, hrd1, q, hp, ep, ew =>
        refine ⟨_, rfl, a, C, dx, _, _, rfl, ea, T.cl, T.a_waiting, fr_waiting, _, .inl ⟨_, SqL.of ew, rfl⟩, ?_⟩
        refine iteF ?_
        cases hp with
        | @cons v _ vs1 _ hv hp1 =>
          have hl1 : Ps.length + 1 = 0 + 1 := hg1
          have hp1l := hp1.len
          have e1 : vs1 = [] := List.length_eq_zero_iff.mp (by omega)
          rw [e1] at ep
          exact ⟨_, rfl, a, C, dx, _, _, rfl, ea, T.cl, T.a_parts, fr_parts, lp, _, _, _, rfl, rfl, SqL.of ep, atI_nat (j := 0) rfl, (q H1 f1).2 p v rfl hv⟩
    · have hwf : st.whole = false := by
        cases h : st.whole
        · rfl
        · exact absurd h hwh
      rw [hwf]
      refine iteT ((q H FrR.refl).1 ?_)
      unfold endS
      rw [if_neg hwh]
end
end N7

set_option linter.all false
set_option maxRecDepth 100000
set_option maxHeartbeats 8000000
set_option pp.maxSteps 150
namespace N7
open PySem PySem.Spec PyProof.Rows L2 Gx Qp Qh
section
variable {P : Program} {w : World} {K : PySem.W.Frag} {mg : Str → Option Value} {base : Heap} {fc fk ff fj C aj m_atom m_behind m_close m_put m_gather : Addr}
theorem ok_datom {f : Addr} {fd d_put d_fits : FuncData} (F : Fun K "_take_in_atom" "Reading._take_in_atom" s_datom f fd) (TA : NmA mg K fc fk ff fj) (T : NmRd mg K C aj m_atom m_behind m_close m_put m_gather)
    (G_fits : FnOk P w K mg base CX0 3 ff d_fits ["form", "words"] (spFits K)) (b_fits : Binds K d_fits ["form", "words"] []) (G_put : FnOk P w K mg base CX0 1 m_put d_put ["self", "part"] (spPut K C)) (b_put : Binds K d_put ["self", "part"] []) :
    FnOk P w K mg base CX0 4 f fd ["self", "word"] (spAtom K C) := by
  refine F.ok sc_datom (fun vs H Q E h => ?_) (fun cdv A outer s H vs Q E hr h => ?_)
  · obtain ⟨a, dx, af, ah, lp, lw, fs, hs, st, w, rfl, _⟩ := h
    rfl
  · obtain ⟨a, dx, af, ah, lp, lw, fs, hs, st, wd, rfl, hfm, hh, hf1, hf2, hrd, hok, hwh, hwt, hwd, hbg, q⟩ := h
    have hr1 := hr.mono (show 1 ≤ 3 by decide)
    refine ⟨_, (pss_cons (ps_set (i := 2) sc_datom.nd rfl (.inr rfl) (pe_op op_cat (pe_fld (pv 0) rfl) (pe_lst (pa_cons (pv 1) pa_nil))))
  (pss_cons (ps_setLc (i := 3) (own := [("form", 4)]) (g := gName 4) (tt := ttFits K) (te := tVar 4) rfl sc_datom.nd rfl rfl (sw_true rfl rfl rfl (by decide +kernel)) (pi_tup (pe_fld (pv 0) rfl)) (blkOk_by (own := [("form", 4)]) (N := n_datom) (sc := defScope s_datom) (by decide +kernel)) (fun _ _ _ _ _ => (pg_name (i := 4) sc_datom.nd rfl (.inl rfl))) (fun _ _ _ _ _ => (pts_one (pt_val (pe_call G_fits hr rfl TA.g_fits TA.k_fits b_fits .nil pass0 (pa_cons (pv 4) (pa_cons (pv 2) pa_nil)))))) (fun _ _ _ _ _ => (pv 4)))
  (pss_cons (ps_if (pt_not (pt_truth (pv 3) (by intro _; rfl))) (pss_one (ps_ret pe_bl)) pss_nil)
  (pss_cons (ps_fld (pv 0) (pv 2) rfl)
  (C8.pss_cut (ps_if (pt_cmpR op_eq (pe_callB call_len_seq (by rfl) TA.n_len (by decide +kernel) (pa_cons (pe_ix ix_list (pv 3) pe_int (fun _ _ => rfl)) pa_nil)) (pe_callB call_len_seq (by rfl) TA.n_len (by decide +kernel) (pa_cons (pv 2) pa_nil)) (nomark _)) (pss_cons (ps_fld (pv 0) (pe_lst pa_nil) rfl)
  (pss_one (ps_expr (pe_meth (pv 0) T.cl T.put G_put hr1 b_put .nil pass0 (pa_cons (pe_tup (pa_cons pe_str (pa_cons (pe_callTy call_tuple_of (by rfl) TA.n_tuple (by decide +kernel) (pa_cons (pv 2) pa_nil)) pa_nil))) pa_nil))))) pss_nil)
  (pss_one (ps_ret pe_bl))))))), ?_⟩
    obtain ⟨lb, vs, ea, ep, hp, ew, eb, n1, n2, n3⟩ := hrd.ex
    have hq3 : wtS st = wtW st.wait + wtP st.parts + lenS st.begun := rfl
    have hbl := lenS_le st.begun
    refine ⟨_, rfl, a, C, dx, _, _, rfl, ea, T.cl, T.a_begun, fr_begun, _, rfl, (by show 1 ≤ sizeLine; decide), fun L1 nL1 => ?_⟩
    have S1 := new_same (o := .lst [.str wd]) nL1
    have eL1 : upd H L1 (.lst [.str wd]) L1 = some (.lst [.str wd]) := upd_same
    generalize upd H L1 (.lst [.str wd]) = H1 at *
    refine ⟨lb, L1, _, _, rfl, rfl, S1 _ _ eb, eL1, by rw [List.length_map, sizeLine_eq]; show _ + 1 ≤ _; omega, fun L nL => ?_⟩
    have S2 := new_same (o := .lst (st.begun.map V.str ++ [.str wd])) nL
    have eL : upd H1 L (.lst (st.begun.map V.str ++ [.str wd])) L = some (.lst ((st.begun ++ [wd]).map V.str)) := by
      rw [upd_same, List.map_append]
      rfl
    have nL0 : H L = none := S1.free nL
    generalize upd H1 L (.lst (st.begun.map V.str ++ [.str wd])) = H2 at *
    have S02 := S1.trans S2
    have hwords : ∀ x ∈ st.begun ++ [wd], WdOk x := fun x hx => by
      rcases List.mem_append.mp hx with h | h
      · exact hbg x h
      · rw [List.mem_singleton.mp h]
        exact hwd
    obtain ⟨fvs, hfl, hft, hfa⟩ := hfm.ex
    refine ⟨_, rfl, a, C, dx, _, _, rfl, S02 _ _ ea, T.cl, T.a_forms, fr_forms, af, rfl, ⟨fvs, hft _⟩, fun D nD => ?_⟩
    have kp : ∀ {Hi : Hp}, (∀ b o, b ≠ D → H2 b = some o → Hi b = some o) → Same H2 Hi := fun k b o e => k b o (ne_of_none e nD) e
    refine lc_tup (K := K) (a := af) (xs := fvs) (fun i Hi => (∀ b o, b ≠ D → H2 b = some o → Hi b = some o) ∧ ∃ us, Hi D = some (.lst us) ∧ FmL K us ((fs.take i).filter fun f => fitsB f (st.begun ++ [wd])))
      ⟨fun b o z e => (upd_ne z).trans e, [], upd_same, ⟨rfl, fun i f hf => nomatch hf⟩⟩ (fun i Hi _ p => hft _) (fun i x Hi hx p => ?_) (fun Hi p => ?_)
    · obtain ⟨k1, us, eD, hus⟩ := p
      have hi : i < fvs.length := (List.getElem?_eq_some_iff.mp hx).1
      have hif : i < fs.length := by omega
      have hfi : fs[i]? = some fs[i] := List.getElem?_eq_getElem hif
      obtain ⟨b, hb, hbs⟩ := hfa i _ hfi
      rw [hx] at hb
      cases hb
      refine ⟨rfl, ?_⟩
      refine ⟨_, rfl, _, rfl, b, L, fs[i], st.begun ++ [wd], rfl, hbs _, k1 _ _ (ne_of_none eL nD) eL, hf1 _ (List.getElem_mem _), hwords, fun H3 S3 => ⟨_, rfl, ite2 (fun hb => ?_) (fun hb => ?_)⟩⟩
      · refine ⟨_, rfl, us, S3 _ _ eD, ?_, fun b' o z e => (upd_ne z).trans (S3 _ _ (k1 b' o z e)), us ++ [.ref b], upd_same, ?_⟩
        · have h1 := hus.len
          have h2 := List.length_filter_le (fun f => fitsB f (st.begun ++ [wd])) (fs.take i)
          rw [List.length_take] at h2
          rw [sizeLine_eq]
          omega
        · rw [take_snoc hfi, List.filter_append, List.filter_cons_of_pos (p := fun f => fitsB f (st.begun ++ [wd])) hb, List.filter_nil]
          exact hus.snoc hbs
      · refine ⟨fun b' o z e => S3 _ _ (k1 b' o z e), us, S3 _ _ eD, ?_⟩
        rw [take_snoc hfi, List.filter_append, List.filter_cons_of_neg (p := fun f => fitsB f (st.begun ++ [wd])) hb, List.filter_nil, List.append_nil]
        exact hus
    obtain ⟨k1, us, eD, hus⟩ := p
    rw [hfl, List.take_length] at hus
    have S2i := kp k1
    have S0i := S02.trans S2i
    have eLi := S2i _ _ eL
    have eai := S0i _ _ ea
    have epi := S0i _ _ ep
    have ewi := S0i _ _ ew
    unfold takeA at q
    have hul := hus.len
    have h0 := hus.all 0
    generalize fs.filter (fun f => fitsB f (st.begun ++ [wd])) = ffs at *
    match ffs, hul, h0, q with
    | [], hul, _, q =>
      have e1 : us = [] := List.length_eq_zero_iff.mp hul
      rw [e1] at eD
      refine ⟨_, rfl, _, .inl ⟨_, SqL.of eD, rfl⟩, iteT ?_⟩
      exact q Hi (.of S0i) fun st' e => nomatch e
    | f0 :: ffs, hul, h0, q =>
      obtain ⟨b0, hb0, hbs0⟩ := h0 f0 rfl
      have hne : us ≠ [] := fun e => by rw [e] at hul; cases hul
      refine ⟨_, rfl, true, .inl ⟨_, SqL.of eD, by cases us with | nil => exact absurd rfl hne | cons _ _ => rfl⟩, iteF ?_⟩
      refine ⟨_, rfl, _, rfl, a, C, dx, _, rfl, eai, T.cl, T.a_begun, fr_len, ?_⟩
      rw [put_begun]
      have k2 : ∀ b o, b ≠ a → Hi b = some o → upd Hi a (.ins C dx (fldR af ah lp lw L st.whole)) b = some o := fun b o z e => (upd_ne z).trans e
      have ea2 : upd Hi a (.ins C dx (fldR af ah lp lw L st.whole)) a = some (.ins C dx (fldR af ah lp lw L st.whole)) := upd_same
      have ep2 := k2 _ _ (ne_of epi eai fun z => nomatch z) epi
      have ew2 := k2 _ _ (ne_of ewi eai fun z => nomatch z) ewi
      have eL2 := k2 _ _ (ne_of eLi eai fun z => nomatch z) eLi
      have eD2 := k2 _ _ (ne_of eD eai fun z => nomatch z) eD
      have tk2 : ∀ b xs, H b = some (.tup xs) → upd Hi a (.ins C dx (fldR af ah lp lw L st.whole)) b = some (.tup xs) := fun b xs e => k2 b _ (ne_of (S0i _ _ e) eai fun z => nomatch z) (S0i _ _ e)
      have f2 : FrR H (upd Hi a (.ins C dx (fldR af ah lp lw L st.whole))) a lp lw := fun b o x y z e => k2 b o x (S0i _ _ e)
      generalize upd Hi a (.ins C dx (fldR af ah lp lw L st.whole)) = H4 at *
      have Lp : L ≠ lp := fun z => by rw [z, ep] at nL0; cases nL0
      have Lw : L ≠ lw := fun z => by rw [z, ew] at nL0; cases nL0
      refine ⟨fun σ Hx => FrR H Hx a lp lw ∧ ∀ st', (if f0.length = (st.begun ++ [wd]).length then some (put hs st.wait st.parts (.atom (st.begun ++ [wd]))) else some { st with begun := st.begun ++ [wd] }) = some st' → RdAt C Hx a dx af ah lp lw st', ?_, ?_⟩
      rotate_left
      · rintro σ Hx ⟨fx, rx⟩
        have := q Hx fx rx
        have e1 : ((if f0.length = (st.begun ++ [wd]).length then some (put hs st.wait st.parts (.atom (st.begun ++ [wd]))) else some { st with begun := st.begun ++ [wd] }) : Option RS).isSome = true := by split <;> rfl
        rw [e1] at this
        exact this
      refine ⟨_, rfl, D, _, _, _, rfl, rfl, SqL.of eD2, atI_nat (j := 0) hb0, b0, _, rfl, .inr (hbs0 _), _, rfl, L, _, rfl, .inl (SqL.of eL2), rfl, _, rfl, ite2 (fun hb => ?_) (fun hb => ?_)⟩
      · have hlen : f0.length = (st.begun ++ [wd]).length := by
          have h1 := V.int.inj (of_decide_eq_true hb)
          rw [List.length_map, List.length_map] at h1
          exact Int.ofNat.inj h1
        refine ⟨Nat.zero_le _, fun L5 nL5 => ?_⟩
        have S5 := new_same (o := .lst []) nL5
        have eL5 : upd H4 L5 (.lst []) L5 = some (.lst []) := upd_same
        have L5p : L5 ≠ lp := fun z => by rw [z, ep2] at nL5; cases nL5
        have L5w : L5 ≠ lw := fun z => by rw [z, ew2] at nL5; cases nL5
        generalize upd H4 L5 (.lst []) = H5 at *
        refine ⟨_, rfl, a, C, dx, _, rfl, S5 _ _ ea2, T.cl, T.a_begun, fr_len, ?_⟩
        rw [put_begun]
        have ea5 := S5 _ _ ea2
        have k6 : ∀ b o, b ≠ a → H5 b = some o → upd H5 a (.ins C dx (fldR af ah lp lw L5 st.whole)) b = some o := fun b o z e => (upd_ne z).trans e
        have ea6 : upd H5 a (.ins C dx (fldR af ah lp lw L5 st.whole)) a = some (.ins C dx (fldR af ah lp lw L5 st.whole)) := upd_same
        have ep6 := k6 _ _ (ne_of (S5 _ _ ep2) ea5 fun z => nomatch z) (S5 _ _ ep2)
        have ew6 := k6 _ _ (ne_of (S5 _ _ ew2) ea5 fun z => nomatch z) (S5 _ _ ew2)
        have eb6 := k6 _ _ (ne_of eL5 ea5 fun z => nomatch z) eL5
        have eL6 := k6 _ _ (ne_of (S5 _ _ eL2) ea5 fun z => nomatch z) (S5 _ _ eL2)
        have tk6 : ∀ b xs, H b = some (.tup xs) → upd H5 a (.ins C dx (fldR af ah lp lw L5 st.whole)) b = some (.tup xs) := fun b xs e => k6 b _ (ne_of (S5 _ _ (tk2 b xs e)) ea5 fun z => nomatch z) (S5 _ _ (tk2 b xs e))
        have f6 : FrR H (upd H5 a (.ins C dx (fldR af ah lp lw L5 st.whole))) a lp lw := fun b o x y z e => k6 b o x (S5 _ _ (f2 b o x y z e))
        generalize upd H5 a (.ins C dx (fldR af ah lp lw L5 st.whole)) = H6 at *
        refine ⟨_, rfl, a, dx, _, rfl, ea6, rfl, _, rfl, L, _, rfl, .inl ⟨SqL.of eL6, fun t nt => ⟨(by show 2 ≤ sizeLine; decide), fun r nr => ?_⟩⟩⟩
        have S7 := new_same (o := .tup ((st.begun ++ [wd]).map V.str)) nt
        have S8 := new_same (o := .tup [.str "atom", .ref t]) nr
        have S78 := S7.trans S8
        refine ⟨a, dx, af, ah, lp, lw, hs, ⟨st.parts, st.wait, [], st.whole⟩, .ref r, .atom (st.begun ++ [wd]), rfl, (hh.mono (fun b xs e => S78 _ _ (tk6 b xs e))).sq, .atom upd_same (S8 _ _ upd_same), ⟨L5, vs, S78 _ _ ea6, S78 _ _ ep6, (hp.mono tk6).mono fun b xs e => S78 _ _ e, S78 _ _ ew6, S78 _ _ eb6, n1, L5p, L5w⟩, rfl, ?_, ?_, fun H9 f9 hrd9 => ⟨fun b o x y z e => f9 b o x y z (S78 _ _ (f6 b o x y z e)), fun st' e => ?_⟩⟩
        · have hl := hok.len
          rw [if_neg (by rw [hwh]; exact Bool.false_ne_true)] at hl
          show st.parts.length ≤ nJ st.wait
          omega
        · show wtW st.wait + wtP st.parts + 0 ≤ _
          omega
        · rw [if_pos hlen] at e
          cases e
          exact hrd9
      · have hlen : ¬ f0.length = (st.begun ++ [wd]).length := fun e => hb (by
          rw [List.length_map, List.length_map, e]
          exact decide_eq_true rfl)
        refine ⟨f2, fun st' e => ?_⟩
        rw [if_neg hlen] at e
        cases e
        exact ⟨L, vs, ea2, ep2, hp.mono tk2, ew2, eL2, n1, Lp, Lw⟩
end
end N7

set_option linter.all false
set_option maxRecDepth 100000
set_option maxHeartbeats 8000000
set_option pp.maxSteps 150
namespace N7
open PySem PySem.Spec PyProof.Rows L2 Gx Qp Qh
section
variable {P : Program} {w : World} {K : PySem.W.Frag} {mg : Str → Option Value} {base : Heap} {fc fk ff fj C aj m_atom m_behind m_close m_put m_gather : Addr}
theorem ok_dinit {f : Addr} {fd : FuncData} (F : Fun K "__init__" "Reading.__init__" s_dinit f fd) (T : NmRd mg K C aj m_atom m_behind m_close m_put m_gather) : FnOk P w K mg base CX0 1 f fd ["self", "forms", "heads"] (spDInit C) := by
  refine F.ok sc_dinit (fun vs H Q E h => ?_) (fun cdv A outer s H vs Q E hr h => ?_)
  · obtain ⟨a, dx, af, ah, rfl, _⟩ := h
    rfl
  · obtain ⟨a, dx, af, ah, rfl, ha, q⟩ := h
    refine ⟨_, (pss_cons (ps_fld (pv 0) (pv 1) rfl) (pss_cons (ps_fld (pv 0) (pv 2) rfl) (pss_cons (ps_fld (pv 0) (pe_lst pa_nil) rfl) (pss_cons (ps_fld (pv 0) (pe_lst pa_nil) rfl) (pss_cons (ps_fld (pv 0) (pe_lst pa_nil) rfl) (pss_one (ps_fld (pv 0) pe_bl rfl))))))), ?_⟩
    refine ⟨_, rfl, _, rfl, a, C, dx, [], rfl, ha, T.cl, T.a_forms, (by show 0 < 1000; decide), ?_⟩
    refine ⟨_, rfl, _, rfl, a, C, dx, _, rfl, upd_same, T.cl, T.a_heads, (by show 1 < 1000; decide), ?_⟩
    rw [upd_upd]
    have k1 : ∀ b o, b ≠ a → H b = some o → upd H a (.ins C dx (putF "_heads" (.ref ah) (putF "_forms" (.ref af) []))) b = some o := fun b o z e => (upd_ne z).trans e
    have ea1 : upd H a (.ins C dx (putF "_heads" (.ref ah) (putF "_forms" (.ref af) []))) a = some (.ins C dx (putF "_heads" (.ref ah) (putF "_forms" (.ref af) []))) := upd_same
    have free1 : ∀ b, upd H a (.ins C dx (putF "_heads" (.ref ah) (putF "_forms" (.ref af) []))) b = none → H b = none := fun b n => by
      by_cases z : b = a
      · rw [z, upd_same] at n; cases n
      · rw [upd_ne z] at n; exact n
    generalize upd H a (.ins C dx (putF "_heads" (.ref ah) (putF "_forms" (.ref af) []))) = H1 at *
    -- parts
    refine ⟨Nat.zero_le _, fun lp nlp => ⟨_, rfl, a, C, dx, _, rfl, new_same nlp _ _ ea1, T.cl, T.a_parts, (by show 2 < 1000; decide), ?_⟩⟩
    have S2 := new_same (o := .lst []) nlp
    have ep2 : upd H1 lp (.lst []) lp = some (.lst []) := upd_same
    have ea2 := S2 _ _ ea1
    generalize upd H1 lp (.lst []) = H2 at *
    have k3 : ∀ (o' : HO) b o, b ≠ a → H2 b = some o → upd H2 a o' b = some o := fun o' b o z e => (upd_ne z).trans e
    have ea3 : upd H2 a (.ins C dx (putF "_parts" (.ref lp) (putF "_heads" (.ref ah) (putF "_forms" (.ref af) [])))) a = some (.ins C dx (putF "_parts" (.ref lp) (putF "_heads" (.ref ah) (putF "_forms" (.ref af) [])))) := upd_same
    have ep3 := k3 (.ins C dx (putF "_parts" (.ref lp) (putF "_heads" (.ref ah) (putF "_forms" (.ref af) [])))) _ _ (ne_of ep2 ea2 fun z => nomatch z) ep2
    have k13 : ∀ b o, b ≠ a → H b = some o → upd H2 a (.ins C dx (putF "_parts" (.ref lp) (putF "_heads" (.ref ah) (putF "_forms" (.ref af) [])))) b = some o := fun b o z e => k3 _ b o z (S2 _ _ (k1 b o z e))
    have free3 : ∀ b, upd H2 a (.ins C dx (putF "_parts" (.ref lp) (putF "_heads" (.ref ah) (putF "_forms" (.ref af) [])))) b = none → H b = none ∧ b ≠ lp := fun b n => by
      by_cases z : b = a
      · rw [z, upd_same] at n; cases n
      · rw [upd_ne z] at n
        exact ⟨free1 b (S2.free n), fun e => by rw [e, ep2] at n; cases n⟩
    generalize upd H2 a (.ins C dx (putF "_parts" (.ref lp) (putF "_heads" (.ref ah) (putF "_forms" (.ref af) [])))) = H3 at *
    -- waiting
    refine ⟨Nat.zero_le _, fun lw nlw => ⟨_, rfl, a, C, dx, _, rfl, new_same nlw _ _ ea3, T.cl, T.a_waiting, (by show 3 < 1000; decide), ?_⟩⟩
    have S4 := new_same (o := .lst []) nlw
    have ew4 : upd H3 lw (.lst []) lw = some (.lst []) := upd_same
    have ea4 := S4 _ _ ea3
    have ep4 := S4 _ _ ep3
    obtain ⟨nlw0, lwp⟩ := free3 lw nlw
    generalize upd H3 lw (.lst []) = H4 at *
    have k5 : ∀ (o' : HO) b o, b ≠ a → H4 b = some o → upd H4 a o' b = some o := fun o' b o z e => (upd_ne z).trans e
    have ea5 : upd H4 a (.ins C dx (putF "_waiting" (.ref lw) (putF "_parts" (.ref lp) (putF "_heads" (.ref ah) (putF "_forms" (.ref af) []))))) a = some (.ins C dx (putF "_waiting" (.ref lw) (putF "_parts" (.ref lp) (putF "_heads" (.ref ah) (putF "_forms" (.ref af) []))))) := upd_same
    have ep5 := k5 (.ins C dx (putF "_waiting" (.ref lw) (putF "_parts" (.ref lp) (putF "_heads" (.ref ah) (putF "_forms" (.ref af) []))))) _ _ (ne_of ep4 ea4 fun z => nomatch z) ep4
    have ew5 := k5 (.ins C dx (putF "_waiting" (.ref lw) (putF "_parts" (.ref lp) (putF "_heads" (.ref ah) (putF "_forms" (.ref af) []))))) _ _ (ne_of ew4 ea4 fun z => nomatch z) ew4
    have k15 : ∀ b o, b ≠ a → H b = some o → upd H4 a (.ins C dx (putF "_waiting" (.ref lw) (putF "_parts" (.ref lp) (putF "_heads" (.ref ah) (putF "_forms" (.ref af) []))))) b = some o := fun b o z e => k5 _ b o z (S4 _ _ (k13 b o z e))
    generalize upd H4 a (.ins C dx (putF "_waiting" (.ref lw) (putF "_parts" (.ref lp) (putF "_heads" (.ref ah) (putF "_forms" (.ref af) []))))) = H5 at *
    -- begun
    refine ⟨Nat.zero_le _, fun lb nlb => ⟨_, rfl, a, C, dx, _, rfl, new_same nlb _ _ ea5, T.cl, T.a_begun, (by show 4 < 1000; decide), ?_⟩⟩
    have S6 := new_same (o := .lst []) nlb
    have eb6 : upd H5 lb (.lst []) lb = some (.lst []) := upd_same
    have ea6 := S6 _ _ ea5
    have ep6 := S6 _ _ ep5
    have ew6 := S6 _ _ ew5
    have lbp : lb ≠ lp := fun e => by rw [e, ep5] at nlb; cases nlb
    have lbw : lb ≠ lw := fun e => by rw [e, ew5] at nlb; cases nlb
    generalize upd H5 lb (.lst []) = H6 at *
    refine ⟨_, rfl, a, C, dx, _, rfl, upd_same, T.cl, T.a_whole, (by show 5 < 1000; decide), ?_⟩
    rw [upd_upd]
    have nlp0 : H lp = none := free1 lp nlp
    refine q lp lw _ (fun b o z e => (upd_ne z).trans (S6 _ _ (k15 b o z e))) nlp0 nlw0 ⟨lb, [], upd_same, (upd_ne (ne_of ep6 ea6 fun z => nomatch z)).trans ep6, .nil, (upd_ne (ne_of ew6 ea6 fun z => nomatch z)).trans ew6, (upd_ne (ne_of eb6 ea6 fun z => nomatch z)).trans eb6, Ne.symm lwp, lbp, lbw⟩
theorem ok_dbehind {f : Addr} {fd d_gat d_cl : FuncData} (F : Fun K "_take_behind" "Reading._take_behind" s_dbehind f fd) (T : NmRd mg K C aj m_atom m_behind m_close m_put m_gather)
    (G_gather : FnOk P w K mg base CX0 2 m_gather d_gat ["self", "joints"] (spGather K C)) (b_gather : Binds K d_gat ["self", "joints"] []) (G_close : FnOk P w K mg base CX0 3 m_close d_cl ["self"] (spClose K C)) (b_close : Binds K d_cl ["self"] []) :
    FnOk P w K mg base CX0 4 f fd ["self", "word"] (spBehind K C) := by
  refine F.ok sc_dbehind (fun vs H Q E h => ?_) (fun cdv A outer s H vs Q E hr h => ?_)
  · obtain ⟨a, dx, af, ah, lp, lw, hs, st, w, rfl, _⟩ := h
    rfl
  · obtain ⟨a, dx, af, ah, lp, lw, hs, st, wd, rfl, hh, hrd, hok, hwh, hwt, q⟩ := h
    have hr2 := hr.mono (show 2 ≤ 3 by decide)
    refine ⟨_, (pss_cons (ps_if (pt_cmpR op_eq (pv 1) pe_str (nomark _)) (pss_one (ps_ret (pe_meth0 (pv 0) T.cl T.close G_close hr b_close .nil pass0))) pss_nil)
  (pss_cons (ps_if (pt_cmpR op_notIn_seq (pv 1) (pe_glob (v := .ref _) rfl T.g_JOINTS rfl) rfl) (pss_one (ps_ret pe_bl)) pss_nil)
  (C8.pss_cut (ps_if (pt_cmpR op_eq (pv 1) pe_str (nomark _)) (pss_one (ps_expr (pe_meth (pv 0) T.cl T.gather G_gather hr2 b_gather .nil pass0 (pa_cons (pe_tup (pa_cons pe_str pa_nil)) pa_nil)))) pss_nil)
  (pss_cons (ps_expr (pe_bm PySem.F.plainAttrs_list PySem.F.slot_list_append PySem.F.type_list_append mt_append (pe_fld (pv 0) rfl) (pa_cons (pv 1) pa_nil)))
  (pss_cons (ps_fld (pv 0) pe_bl rfl)
  (pss_one (ps_ret pe_bl))))))), ?_⟩
    obtain ⟨lb0, vs0, ea0, _⟩ := hrd.ex
    have hl := hok.len
    rw [if_pos hwh] at hl
    have hq3 : wtS st = wtW st.wait + wtP st.parts + lenS st.begun := rfl
    unfold takeB at q
    refine ⟨_, rfl, rfl, _, rfl, ite2 (fun h1 => ?_) (fun h1 => ?_)⟩
    · have e1 : wd = ")" := V.str.inj (of_decide_eq_true h1)
      rw [if_pos e1] at q
      exact ⟨_, rfl, a, dx, _, rfl, ea0, rfl, a, dx, af, ah, lp, lw, hs, st, rfl, hh, hrd, hok, hwh, hwt, q⟩
    have e1 : ¬ wd = ")" := fun e => h1 (by rw [e]; exact decide_eq_true rfl)
    rw [if_neg e1] at q
    refine ⟨_, rfl, aj, _, rfl, .inr (T.jts.at_ H), rfl, flat_strs _, _, rfl, ?_⟩
    rw [if_pos rfl, inV_list]
    by_cases hj : wd ∈ Qp.jts
    · rw [decide_eq_true hj]
      rw [if_pos hj] at q
      refine iteF ?_
      refine ⟨fun σ Hx => σ = [some (.ref a), some (.str wd)] ∧ FrR H Hx a lp lw ∧ ∃ W Ps, RdAt C Hx a dx af ah lp lw { st with wait := W, parts := Ps } ∧ W.length ≤ 1000000 ∧ (if wd = "or" then some (⟨(gat ["and"] st.wait st.parts).2, wd :: (gat ["and"] st.wait st.parts).1, st.begun, false⟩ : RS) else some ⟨st.parts, wd :: st.wait, st.begun, false⟩) = some ⟨Ps, wd :: W, st.begun, false⟩, ?_, ?_⟩
      · refine ⟨_, rfl, rfl, _, rfl, ite2 (fun h2 => ?_) (fun h2 => ?_)⟩
        · have e2 : wd = "or" := V.str.inj (of_decide_eq_true h2)
          refine ⟨_, rfl, a, dx, _, rfl, ea0, rfl, (by show 1 ≤ sizeLine; decide), fun t nt => ?_⟩
          have S1 := new_same (o := .tup [.str "and"]) nt
          refine ⟨a, t, dx, af, ah, lp, lw, ["and"], st, rfl, SqT.of upd_same, gat_and, hrd.same S1, hl, hok.wfp, hwt, fun H2 f2 hrd2 => ⟨rfl, fun b o x y z e => f2 b o x y z (S1 _ _ e), _, _, hrd2, ?_, by rw [if_pos e2]⟩⟩
          have g4 := gat_wt ["and"] st.wait st.parts
          have g5 := wtW_len (gat ["and"] st.wait st.parts).1
          omega
        · have e2 : ¬ wd = "or" := fun e => h2 (by rw [e]; exact decide_eq_true rfl)
          have g5 := wtW_len st.wait
          exact ⟨rfl, FrR.refl, st.wait, st.parts, hrd, by omega, by rw [if_neg e2]⟩
      · rintro σ Hx ⟨rfl, fx, W, Ps, hrx, hWl, est⟩
        obtain ⟨lb, vs, ea, ep, hp, ew, eb, n1, n2, n3⟩ := hrx.ex
        refine ⟨_, rfl, a, C, dx, _, _, rfl, ea, T.cl, T.a_waiting, fr_waiting, .inl ⟨rfl, _, SqL.of ew⟩, _, rfl, lw, _, _, rfl, rfl, ew, by rw [List.length_reverse, List.length_map, sizeLine_eq]; show W.length < _; omega, ?_⟩
        have k1 : ∀ b o, b ≠ lw → Hx b = some o → upd Hx lw (.lst ((W.map V.str).reverse ++ [.str wd])) b = some o := fun b o z e => (upd_ne z).trans e
        have ea1 := k1 _ _ (ne_of ea ew fun z => nomatch z) ea
        have ep1 := k1 _ _ n1 ep
        have eb1 := k1 _ _ n3 eb
        have ew1 : upd Hx lw (.lst ((W.map V.str).reverse ++ [.str wd])) lw = some (.lst ((wd :: W).map V.str).reverse) := by rw [upd_same, List.map_cons, List.reverse_cons]
        have tk1 : ∀ b xs, Hx b = some (.tup xs) → upd Hx lw (.lst ((W.map V.str).reverse ++ [.str wd])) b = some (.tup xs) := fun b xs e => k1 b _ (ne_of e ew fun z => nomatch z) e
        have f1 : FrR H (upd Hx lw (.lst ((W.map V.str).reverse ++ [.str wd]))) a lp lw := fun b o x y z e => k1 b o z (fx b o x y z e)
        generalize upd Hx lw (.lst ((W.map V.str).reverse ++ [.str wd])) = H1 at *
        refine ⟨_, rfl, a, C, dx, _, rfl, ea1, T.cl, T.a_whole, fr_len, ?_⟩
        rw [put_whole]
        have k2 : ∀ b o, b ≠ a → H1 b = some o → upd H1 a (.ins C dx (fldR af ah lp lw lb false)) b = some o := fun b o z e => (upd_ne z).trans e
        have tk2 : ∀ b xs, Hx b = some (.tup xs) → upd H1 a (.ins C dx (fldR af ah lp lw lb false)) b = some (.tup xs) := fun b xs e => k2 b _ (ne_of (tk1 b xs e) ea1 fun z => nomatch z) (tk1 b xs e)
        have := q (upd H1 a (.ins C dx (fldR af ah lp lw lb false))) (fun b o x y z e => k2 b o x (f1 b o x y z e)) (fun st' e => by
          rw [est] at e
          cases e
          exact ⟨lb, vs, upd_same, k2 _ _ (ne_of ep1 ea1 fun z => nomatch z) ep1, hp.mono tk2, k2 _ _ (ne_of ew1 ea1 fun z => nomatch z) ew1, k2 _ _ (ne_of eb1 ea1 fun z => nomatch z) eb1, n1, n2, n3⟩)
        rw [est] at this
        exact this
    · rw [decide_eq_false hj]
      rw [if_neg hj] at q
      exact iteT (q H FrR.refl fun st' e => nomatch e)
theorem ok_dtake {f : Addr} {fd d_at d_be : FuncData} (F : Fun K "take" "Reading.take" s_dtake f fd) (T : NmRd mg K C aj m_atom m_behind m_close m_put m_gather)
    (G_atom : FnOk P w K mg base CX0 4 m_atom d_at ["self", "word"] (spAtom K C)) (b_atom : Binds K d_at ["self", "word"] []) (G_behind : FnOk P w K mg base CX0 4 m_behind d_be ["self", "word"] (spBehind K C)) (b_behind : Binds K d_be ["self", "word"] []) :
    FnOk P w K mg base CX0 5 f fd ["self", "word"] (spTakeR K C) := by
  refine F.ok sc_dtake (fun vs H Q E h => ?_) (fun cdv A outer s H vs Q E hr h => ?_)
  · obtain ⟨a, dx, af, ah, lp, lw, fs, hs, st, w, rfl, _⟩ := h
    rfl
  · obtain ⟨a, dx, af, ah, lp, lw, fs, hs, st, wd, rfl, hfm, hh, hf1, hf2, hrd, hok, hwt, hwd, hbg, q⟩ := h
    refine ⟨_, (pss_cons (ps_if (pt_val (pe_fld (pv 0) rfl)) (pss_one (ps_ret (pe_meth (pv 0) T.cl T.behind G_behind hr b_behind .nil pass0 (pa_cons (pv 1) pa_nil)))) pss_nil)
  (C8.pss_cut (ps_if (PW.pt (pw_and (pt_not (pt_truth (pe_fld (pv 0) rfl) (by intro _; rfl))) (pw_and1 (PW.pt (pw_or (pt_cmpR op_eq (pv 1) pe_str (nomark _)) (pw_or1 (pt_cmpR op_in_seq (pv 1) (pe_fld (pv 0) rfl) rfl))))))) (pss_cons (ps_expr (pe_bm PySem.F.plainAttrs_list PySem.F.slot_list_append PySem.F.type_list_append mt_append (pe_fld (pv 0) rfl) (pa_cons (pv 1) pa_nil)))
  (pss_one (ps_ret pe_bl))) pss_nil)
  (pss_one (ps_ret (pe_meth (pv 0) T.cl T.atom G_atom hr b_atom .nil pass0 (pa_cons (pv 1) pa_nil)))))), ?_⟩
    obtain ⟨lb, vs, ea, ep, hp, ew, eb, n1, n2, n3⟩ := hrd.ex
    have hq3 : wtS st = wtW st.wait + wtP st.parts + lenS st.begun := rfl
    have hWl := wtW_len st.wait
    refine ⟨_, rfl, a, C, dx, _, _, rfl, ea, T.cl, T.a_whole, fr_whole, _, rfl, ?_⟩
    unfold takeS at q
    by_cases hwh : st.whole = true
    · rw [hwh]
      rw [if_pos hwh] at q
      refine iteT ?_
      exact ⟨_, rfl, a, dx, _, rfl, ea, rfl, _, rfl, a, dx, af, ah, lp, lw, hs, st, wd, rfl, hh, hrd, hok, hwh, hwt, q⟩
    have hwf : st.whole = false := by
      cases h : st.whole
      · rfl
      · exact absurd h hwh
    have qq := q
    rw [hwf]
    rw [if_neg hwh] at q
    refine iteF ?_
    have atomway : ¬ (st.begun = [] ∧ (wd = "(" ∨ wd ∈ hs)) → (fun σ (Hx : Hp) => σ = [some (V.ref a), some (V.str wd)] ∧ Hx = H ∧ ¬ (st.begun = [] ∧ (wd = "(" ∨ wd ∈ hs))) [some (V.ref a), some (V.str wd)] H := fun hn => ⟨rfl, rfl, hn⟩
    refine ⟨fun σ Hx => σ = [some (V.ref a), some (V.str wd)] ∧ Hx = H ∧ ¬ (st.begun = [] ∧ (wd = "(" ∨ wd ∈ hs)), ?_, ?_⟩
    rotate_left
    · rintro σ Hx ⟨rfl, rfl, hn⟩
      rw [if_neg hn] at q
      exact ⟨_, rfl, a, dx, _, rfl, ea, rfl, _, rfl, a, dx, af, ah, lp, lw, fs, hs, st, wd, rfl, hfm, hh, hf1, hf2, hrd, hok, hwf, hwt, hwd, hbg, q⟩
    cases hb : st.begun with
    | cons b0 bs =>
      have eb' : H lb = some (.lst ((b0 :: bs).map V.str)) := by rw [← hb]; exact eb
      refine ⟨_, rfl, a, C, dx, _, _, rfl, ea, T.cl, T.a_begun, fr_begun, true, .inl ⟨_, SqL.of eb', rfl⟩, iteF (iteF ?_)⟩
      exact ⟨rfl, rfl, fun h => nomatch h.1⟩
    | nil =>
      rw [hb] at q
      have eb' : H lb = some (.lst []) := by rw [show ([] : List V) = ([] : List Str).map V.str from rfl, ← hb]; exact eb
      refine ⟨_, rfl, a, C, dx, _, _, rfl, ea, T.cl, T.a_begun, fr_begun, false, .inl ⟨_, SqL.of eb', rfl⟩, iteT ?_⟩
      have push : (wd = "(" ∨ wd ∈ hs) → ∃ v, ([some (V.ref a), some (V.str wd)] : L2.St)[0]? = some (some v) ∧ True := fun _ => ⟨_, rfl, trivial⟩
      have k1 : ∀ b o, b ≠ lw → H b = some o → upd H lw (.lst ((st.wait.map V.str).reverse ++ [.str wd])) b = some o := fun b o z e => (upd_ne z).trans e
      have tk1 : ∀ b xs, H b = some (.tup xs) → upd H lw (.lst ((st.wait.map V.str).reverse ++ [.str wd])) b = some (.tup xs) := fun b xs e => k1 b _ (ne_of e ew fun z => nomatch z) e
      have go : (wd = "(" ∨ wd ∈ hs) → Q (.bl true) (upd H lw (.lst ((st.wait.map V.str).reverse ++ [.str wd]))) := fun hd => by
        rw [if_pos ⟨rfl, hd⟩] at q
        refine q _ (fun b o x y z e => k1 b o z e) fun st' e => ?_
        cases e
        refine ⟨lb, vs, k1 _ _ (ne_of ea ew fun z => nomatch z) ea, k1 _ _ n1 ep, hp.mono tk1, ?_, k1 _ _ n3 eb', n1, n2, n3⟩
        rw [upd_same, List.map_cons, List.reverse_cons]
      refine ⟨_, rfl, rfl, _, rfl, ite2 (fun h1 => ?_) (fun h1 => ?_)⟩
      · have e1 : wd = "(" := V.str.inj (of_decide_eq_true h1)
        refine iteT ?_
        refine ⟨_, rfl, a, C, dx, _, _, rfl, ea, T.cl, T.a_waiting, fr_waiting, .inl ⟨rfl, _, SqL.of ew⟩, _, rfl, lw, _, _, rfl, rfl, ew, by rw [List.length_reverse, List.length_map, sizeLine_eq]; omega, ?_⟩
        exact go (.inl e1)
      · have e1 : ¬ wd = "(" := fun e => h1 (by rw [e]; exact decide_eq_true rfl)
        refine ⟨_, rfl, _, rfl, a, C, dx, _, _, rfl, ea, T.cl, T.a_heads, fr_heads, ah, _, rfl, .inr hh.sq, rfl, flat_strs _, _, rfl, ?_⟩
        rw [if_neg Bool.false_ne_true, inV_list]
        by_cases hm : wd ∈ hs
        · rw [decide_eq_true hm]
          refine iteT ?_
          refine ⟨_, rfl, a, C, dx, _, _, rfl, ea, T.cl, T.a_waiting, fr_waiting, .inl ⟨rfl, _, SqL.of ew⟩, _, rfl, lw, _, _, rfl, rfl, ew, by rw [List.length_reverse, List.length_map, sizeLine_eq]; omega, ?_⟩
          exact go (.inr hm)
        · rw [decide_eq_false hm]
          refine iteF ⟨rfl, rfl, fun h => ?_⟩
          rcases h.2 with h | h
          · exact e1 h
          · exact hm h
end
end N7

set_option linter.all false
set_option maxRecDepth 100000
set_option maxHeartbeats 4000000
set_option pp.maxSteps 200
/-! sizes of texts, atoms -/
namespace Qp
open PySem L2 Gx
theorem join_ub (y : Str) : ∀ xs : List Str, (Str.join y xs).length ≤ (xs.map (·.length)).sum + xs.length * y.length
  | [] => Nat.zero_le _
  | [x] => by
    show x.length ≤ (x.length + 0) + 1 * y.length
    omega
  | x :: z :: r => by
    have h := join_ub y (z :: r)
    show (x ++ y ++ Str.join y (z :: r)).length ≤ _
    rw [len_app, len_app, List.map_cons, List.sum_cons, List.length_cons, Nat.add_mul, Nat.one_mul]
    omega
theorem hds_len {h : Str} (k : h ∈ hds) : h.length ≤ 6 := by
  simp only [List.mem_cons, List.not_mem_nil, or_false] at k
  rcases k with rfl | rfl | rfl <;> decide +kernel
theorem jts_len2 {h : Str} (k : h ∈ jts) : h.length ≤ 3 := by
  simp only [List.mem_cons, List.not_mem_nil, or_false] at k
  rcases k with rfl | rfl <;> decide +kernel
theorem sp1 : (" " : Str).length = 1 := by decide +kernel
theorem sp2 : ("( " : Str).length = 2 := by decide +kernel
theorem sp3 : (" )" : Str).length = 2 := by decide +kernel
theorem lenS_sum : ∀ ws : List Str, (ws.map (·.length)).sum + ws.length = lenS ws
  | [] => rfl
  | w :: ws => by
    have := lenS_sum ws
    rw [List.map_cons, List.sum_cons, List.length_cons]
    show _ = w.length + 1 + lenS ws
    omega
theorem und_len (p : Pt) (h : Str) : (undT p h).length ≤ (txt p).length + 4 := by
  unfold undT
  split
  · rw [len_app, len_app, sp2, sp3]
    omega
  · omega
mutual
theorem txt_len : ∀ p : Pt, (txt p).length ≤ wt p
  | .atom ws => by
    have h := join_ub " " ws
    have h2 := lenS_sum ws
    rw [sp1] at h
    show (Str.join " " ws).length ≤ 1 + lenS ws
    omega
  | .un h p => by
    have h1 := txt_len p
    have h2 := und_len p h
    show (h ++ " " ++ undT p h).length ≤ h.length + 5 + wt p
    rw [len_app, len_app, sp1]
    omega
  | .jo j ps => by
    have h1 := txts_len j ps
    have h2 := join_ub (" " ++ j ++ " ") (txts j ps)
    rw [len_app, len_app, sp1] at h2
    show (Str.join (" " ++ j ++ " ") (txts j ps)).length ≤ wts j ps
    omega
theorem txts_len (j : Str) : ∀ ps : List Pt, ((txts j ps).map (·.length)).sum + (txts j ps).length * (1 + j.length + 1) ≤ wts j ps
  | [] => by simp [txts, wts]
  | p :: ps => by
    have h1 := txt_len p
    have h2 := und_len p j
    have h3 := txts_len j ps
    show ((undT p j).length + ((txts j ps).map (·.length)).sum) + ((txts j ps).length + 1) * (1 + j.length + 1) ≤ wt p + j.length + 6 + wts j ps
    rw [Nat.add_mul, Nat.one_mul]
    omega
end
theorem txts_get {j : Str} : ∀ {ps : List Pt} {i : Nat} {p : Pt}, ps[i]? = some p → (txts j ps)[i]? = some (undT p j)
  | [], i, p, h => by simp at h
  | q :: ps, 0, p, h => by
    cases h
    rfl
  | q :: ps, i + 1, p, h => by
    show (txts j ps)[i]? = _
    exact txts_get (show ps[i]? = some p from h)
theorem txts_length (j : Str) : ∀ ps : List Pt, (txts j ps).length = ps.length
  | [] => rfl
  | p :: ps => congrArg Nat.succ (txts_length j ps)
theorem hts_get : ∀ {ps : List Pt} {i : Nat} {p : Pt}, ps[i]? = some p → ht p ≤ hts ps
  | [], i, p, h => by simp at h
  | q :: ps, 0, p, h => by
    cases h
    exact Nat.le_max_left _ _
  | q :: ps, i + 1, p, h => Nat.le_trans (hts_get (show ps[i]? = some p from h)) (Nat.le_max_right _ _)
theorem wfs_get : ∀ {ps : List Pt} {i : Nat} {p : Pt}, wfs ps = true → ps[i]? = some p → wf p = true
  | [], i, p, _, h => by simp at h
  | q :: ps, 0, p, w, h => by
    cases h
    have w' : (wf q && wfs ps) = true := w
    rw [Bool.and_eq_true] at w'
    exact w'.1
  | q :: ps, i + 1, p, w, h => by
    have w' : (wf q && wfs ps) = true := w
    rw [Bool.and_eq_true] at w'
    exact wfs_get w'.2 (show ps[i]? = some p from h)
theorem wts_get {j : Str} : ∀ {ps : List Pt} {i : Nat} {p : Pt}, ps[i]? = some p → wt p ≤ wts j ps
  | [], i, p, h => by simp at h
  | q :: ps, 0, p, h => by
    cases h
    show wt q ≤ wt q + j.length + 6 + wts j ps
    omega
  | q :: ps, i + 1, p, h => by
    have := wts_get (j := j) (show ps[i]? = some p from h)
    show wt p ≤ wt q + j.length + 6 + wts j ps
    omega
theorem wf_un {h : Str} {p : Pt} (w : wf (.un h p) = true) : h ∈ hds ∧ wf p = true := by
  have w' : (hds.contains h && wf p) = true := w
  rw [Bool.and_eq_true] at w'
  exact ⟨by simpa using w'.1, w'.2⟩
theorem wf_jo {j : Str} {ps : List Pt} (w : wf (.jo j ps) = true) : j ∈ jts ∧ wfs ps = true := by
  have w' : (jts.contains j && wfs ps) = true := w
  rw [Bool.and_eq_true] at w'
  exact ⟨by simpa using w'.1, w'.2⟩
def AtP (b : Nat) (p : Pt) : Prop := wf p = true ∧ wt p ≤ b
mutual
/-- the atoms: each is smaller than the whole, and all together are not many -/
theorem ats_in : ∀ (p : Pt), wf p = true → ∀ q ∈ ats p, wf q = true ∧ wt q ≤ wt p ∧ ht q ≤ ht p
  | .atom ws, w, q, h => by
    have h' : q ∈ [Pt.atom ws] := h
    rw [List.mem_singleton.mp h']
    exact ⟨rfl, Nat.le_refl _, Nat.le_refl _⟩
  | .un h p, w, q, hq => by
    have hq' : q ∈ (if h ∈ out then [Pt.un h p] else []) ++ ats p := hq
    rcases List.mem_append.mp hq' with h1 | h1
    · split at h1
      · rw [List.mem_singleton.mp h1]
        exact ⟨w, Nat.le_refl _, Nat.le_refl _⟩
      · exact absurd h1 List.not_mem_nil
    · obtain ⟨a, b, c⟩ := ats_in p (wf_un w).2 q h1
      refine ⟨a, ?_, ?_⟩
      · show wt q ≤ h.length + 5 + wt p
        omega
      · show ht q ≤ ht p + 1
        omega
  | .jo j ps, w, q, hq => by
    obtain ⟨a, b, c⟩ := atss_in j ps (wf_jo w).2 q hq
    exact ⟨a, b, Nat.le_succ_of_le c⟩
theorem atss_in (j : Str) : ∀ (ps : List Pt), wfs ps = true → ∀ q ∈ atss ps, wf q = true ∧ wt q ≤ wts j ps ∧ ht q ≤ hts ps
  | [], _, q, h => absurd h List.not_mem_nil
  | p :: ps, w, q, h => by
    have w' : (wf p && wfs ps) = true := w
    rw [Bool.and_eq_true] at w'
    rcases List.mem_append.mp (show q ∈ ats p ++ atss ps from h) with h1 | h1
    · obtain ⟨a, b, c⟩ := ats_in p w'.1 q h1
      refine ⟨a, ?_, Nat.le_trans c (Nat.le_max_left _ _)⟩
      show wt q ≤ wt p + j.length + 6 + wts j ps
      omega
    · obtain ⟨a, b, c⟩ := atss_in j ps w'.2 q h1
      refine ⟨a, ?_, Nat.le_trans c (Nat.le_max_right _ _)⟩
      show wt q ≤ wt p + j.length + 6 + wts j ps
      omega
end
mutual
theorem ats_len : ∀ p : Pt, (ats p).length ≤ wt p
  | .atom ws => by
    show 1 ≤ 1 + lenS ws
    omega
  | .un h p => by
    have := ats_len p
    show ((if h ∈ out then [Pt.un h p] else []) ++ ats p).length ≤ h.length + 5 + wt p
    rw [List.length_append]
    have : (if h ∈ out then [Pt.un h p] else []).length ≤ 1 := by split <;> simp
    omega
  | .jo j ps => atss_len j ps
theorem atss_len (j : Str) : ∀ ps : List Pt, (atss ps).length ≤ wts j ps
  | [] => Nat.le_refl _
  | p :: ps => by
    have h1 := ats_len p
    have h2 := atss_len j ps
    show (ats p ++ atss ps).length ≤ wt p + j.length + 6 + wts j ps
    rw [List.length_append]
    omega
end
end Qp

set_option linter.all false
set_option maxRecDepth 100000
set_option maxHeartbeats 4000000
set_option pp.maxSteps 200
/-! what waits, how deep it is, how high the parts become -/
namespace Qp
open PySem L2 Gx
def okT (hs : List Str) : Bool → List Str → Prop
  | _, [] => True
  | c, w :: W => if w = "(" then okT hs false W else if w ∈ hs then c = false ∧ okT hs false W else w ∈ jts ∧ okT hs true W
theorem okT_eq (hs : List Str) (c : Bool) (w : Str) (W : List Str) : okT hs c (w :: W) = (if w = "(" then okT hs false W else if w ∈ hs then c = false ∧ okT hs false W else w ∈ jts ∧ okT hs true W) := rfl
theorem okT_false {hs : List Str} {c : Bool} : ∀ {W : List Str}, okT hs c W → okT hs false W
  | [], _ => trivial
  | w :: W, h => by
    rw [okT_eq] at h ⊢
    by_cases h1 : w = "("
    · rw [if_pos h1] at h ⊢
      exact h
    · rw [if_neg h1] at h ⊢
      by_cases h2 : w ∈ hs
      · rw [if_pos h2] at h ⊢
        exact ⟨rfl, h.2⟩
      · rw [if_neg h2] at h ⊢
        exact h
def cP (hs : List Str) : List Str → Nat
  | [] => 0
  | w :: W => (if w = "(" then 1 else if w ∈ hs then 1 else 0) + cP hs W
def hW (hs : List Str) : List Str → List Nat × Nat
  | [] => ([], 0)
  | w :: W => if w = "(" then (((hW hs W).2 + 1) :: (hW hs W).1, 0) else if w ∈ hs then ((hW hs W).1, (hW hs W).2 + 1) else ((hW hs W).1, 0)
theorem cP_eq (hs : List Str) (w : Str) (W : List Str) : cP hs (w :: W) = (if w = "(" then 1 else if w ∈ hs then 1 else 0) + cP hs W := rfl
theorem hW_eq (hs : List Str) (w : Str) (W : List Str) : hW hs (w :: W) = (if w = "(" then (((hW hs W).2 + 1) :: (hW hs W).1, 0) else if w ∈ hs then ((hW hs W).1, (hW hs W).2 + 1) else ((hW hs W).1, 0)) := rfl
theorem jt_no {w : Str} (h : w ∈ jts) : w ≠ "(" ∧ w ∉ hds ∧ w ≠ ")" := by
  simp only [List.mem_cons, List.not_mem_nil, or_false] at h
  rcases h with rfl | rfl <;> decide +kernel
theorem hd_no {w : Str} (h : w ∈ hds) : w ≠ "(" ∧ w ∉ jts ∧ w ≠ ")" := by
  simp only [List.mem_cons, List.not_mem_nil, or_false] at h
  rcases h with rfl | rfl | rfl <;> decide +kernel
theorem and_jt : ("and" : Str) ∈ jts := List.mem_cons_self ..
section
variable {hs : List Str} (hhs : ∀ h ∈ hs, h ∈ hds)
include hhs
theorem okT_jo {c : Bool} {j : Str} {W : List Str} (hj : j ∈ jts) : okT hs c (j :: W) ↔ okT hs true W := by
  have h1 := jt_no hj
  rw [okT_eq, if_neg h1.1, if_neg (fun h => h1.2.1 (hhs j h))]
  exact ⟨fun h => h.2, fun h => ⟨hj, h⟩⟩
theorem cP_jo {j : Str} {W : List Str} (hj : j ∈ jts) : cP hs (j :: W) = cP hs W := by
  have h1 := jt_no hj
  show (if j = "(" then 1 else if j ∈ hs then 1 else 0) + cP hs W = _
  rw [if_neg h1.1, if_neg (fun h => h1.2.1 (hhs j h)), Nat.zero_add]
theorem hW_jo {j : Str} {W : List Str} (hj : j ∈ jts) : hW hs (j :: W) = ((hW hs W).1, 0) := by
  have h1 := jt_no hj
  rw [hW_eq, if_neg h1.1, if_neg (fun h => h1.2.1 (hhs j h))]
theorem okT_hW : ∀ {W : List Str}, okT hs true W → (hW hs W).2 = 0
  | [], _ => rfl
  | w :: W, h => by
    rw [okT_eq] at h
    rw [hW_eq]
    by_cases h1 : w = "("
    · rw [if_pos h1]
    · rw [if_neg h1] at h ⊢
      by_cases h2 : w ∈ hs
      · rw [if_pos h2] at h
        exact nomatch h.1
      · rw [if_neg h2]
theorem c_sum : ∀ {W : List Str} {c : Bool}, okT hs c W → cP hs W = (hW hs W).1.sum + (hW hs W).2
  | [], _, _ => rfl
  | w :: W, c, h => by
    rw [okT_eq] at h
    rw [cP_eq, hW_eq]
    by_cases h1 : w = "("
    · rw [if_pos h1] at h
      rw [if_pos h1, if_pos h1]
      have := c_sum h
      show 1 + cP hs W = (((hW hs W).2 + 1) :: (hW hs W).1).sum + 0
      rw [List.sum_cons]
      omega
    · rw [if_neg h1] at h
      rw [if_neg h1, if_neg h1]
      by_cases h2 : w ∈ hs
      · rw [if_pos h2] at h
        rw [if_pos h2, if_pos h2]
        have := c_sum h.2
        show 1 + cP hs W = (hW hs W).1.sum + ((hW hs W).2 + 1)
        omega
      · rw [if_neg h2] at h
        rw [if_neg h2, if_neg h2]
        have := c_sum h.2
        have h0 := okT_hW hhs h.2
        show 0 + cP hs W = (hW hs W).1.sum + 0
        omega
/-- gathering -/
theorem gat_T {js : List Str} (hjs : ∀ j ∈ js, j ∈ jts) : ∀ (W : List Str) (Ps : List Pt), okT hs true W → okT hs true (gat js W Ps).1 ∧ cP hs (gat js W Ps).1 = cP hs W ∧ (hW hs (gat js W Ps).1).1 = (hW hs W).1 := by
  intro W
  induction W with
  | nil => intro Ps _; exact ⟨trivial, rfl, rfl⟩
  | cons j W ih =>
    intro Ps h
    by_cases hj : j ∈ js
    · have hjj := hjs j hj
      have h2 := (okT_jo hhs hjj).mp h
      match Ps with
      | [] =>
        have e : gat js (j :: W) [] = (j :: W, []) := by unfold gat; rw [if_pos hj]
        rw [e]
        exact ⟨h, rfl, rfl⟩
      | [p] =>
        have e : gat js (j :: W) [p] = (j :: W, [p]) := by unfold gat; rw [if_pos hj]
        rw [e]
        exact ⟨h, rfl, rfl⟩
      | r :: l :: Ps =>
        rw [gat_yes hj, cP_jo hhs hjj, hW_jo hhs hjj]
        exact ih _ h2
    · rw [gat_no hj]
      exact ⟨h, rfl, rfl⟩
theorem put_T : ∀ (W : List Str) (p : Pt), okT hs false W → okT hs true (putS hs W p).1 ∧ cP hs (putS hs W p).1 ≤ cP hs W ∧ (hW hs (putS hs W p).1).1 = (hW hs W).1 := by
  intro W
  induction W with
  | nil => intro p _; exact ⟨trivial, Nat.le_refl _, rfl⟩
  | cons h W ih =>
    intro p hT
    unfold putS
    by_cases hm : h ∈ hs
    · rw [if_pos hm]
      have h1 := (hd_no (hhs h hm)).1
      rw [okT_eq, if_neg h1, if_pos hm] at hT
      obtain ⟨a, b, c⟩ := ih (.un h p) hT.2
      refine ⟨a, ?_, ?_⟩
      · show _ ≤ (if h = "(" then 1 else if h ∈ hs then 1 else 0) + cP hs W
        omega
      · rw [c]
        show _ = (hW hs (h :: W)).1
        rw [hW_eq, if_neg h1, if_pos hm]
    · rw [if_neg hm]
      refine ⟨?_, Nat.le_refl _, rfl⟩
      rw [okT_eq] at hT ⊢
      rw [if_neg hm] at hT ⊢
      exact hT
end
/-! heights -/
def l1 (b : Nat) (p : Pt) : Prop := ht p ≤ b ∨ (∃ ps, p = .jo "and" ps) ∧ ht p ≤ b + 1
def l2 (b : Nat) (p : Pt) : Prop := l1 b p ∨ (∃ ps, p = .jo "or" ps) ∧ ht p ≤ b + 2
def okD (hs : List Str) (D : Nat) : List Str → List Pt → Prop
  | [], _ => True
  | w :: W, Ps => if w ∈ jts then (match Ps with
    | p :: Ps' => (if w = "and" then l1 (2 * (D - cP hs W)) p else l2 (2 * (D - cP hs W)) p ∧ W.head? ≠ some "and") ∧ okD hs D W Ps'
    | [] => False) else okD hs D W Ps
theorem okD_eq (hs : List Str) (D : Nat) (w : Str) (W : List Str) (Ps : List Pt) : okD hs D (w :: W) Ps = (if w ∈ jts then (match Ps with
    | p :: Ps' => (if w = "and" then l1 (2 * (D - cP hs W)) p else l2 (2 * (D - cP hs W)) p ∧ W.head? ≠ some "and") ∧ okD hs D W Ps'
    | [] => False) else okD hs D W Ps) := by cases Ps <;> rfl
theorem okD_no {hs : List Str} {D : Nat} {w : Str} {W : List Str} {Ps : List Pt} (h : w ∉ jts) : okD hs D (w :: W) Ps = okD hs D W Ps := by rw [okD_eq, if_neg h]
theorem okD_nil {hs : List Str} {D : Nat} {w : Str} {W : List Str} (h : w ∈ jts) : okD hs D (w :: W) [] = False := by rw [okD_eq, if_pos h]
theorem okD_and {hs : List Str} {D : Nat} {W : List Str} {p : Pt} {Ps : List Pt} : okD hs D ("and" :: W) (p :: Ps) = (l1 (2 * (D - cP hs W)) p ∧ okD hs D W Ps) := by
  rw [okD_eq, if_pos and_jt]
  show ((if ("and" : Str) = "and" then _ else _) ∧ _) = _
  rw [if_pos rfl]
theorem okD_or {hs : List Str} {D : Nat} {W : List Str} {p : Pt} {Ps : List Pt} : okD hs D ("or" :: W) (p :: Ps) = ((l2 (2 * (D - cP hs W)) p ∧ W.head? ≠ some "and") ∧ okD hs D W Ps) := by
  rw [okD_eq, if_pos (List.mem_cons_of_mem _ (List.mem_cons_self ..))]
  show ((if ("or" : Str) = "and" then _ else _) ∧ _) = _
  rw [if_neg (by decide +kernel)]
theorem fl_l1 {b : Nat} {p : Pt} (h : l1 b p) : hts (fl "and" p) ≤ b := by
  cases p with
  | atom ws => exact Nat.zero_le _
  | un x q =>
    rcases h with h | ⟨⟨ps, e⟩, _⟩
    · show max (ht (.un x q)) 0 ≤ b
      omega
    · cases e
  | jo j ps =>
    show hts (if j = "and" then ps else [.jo j ps]) ≤ b
    split
    · rcases h with h | ⟨_, h⟩
      · have h' : hts ps + 1 ≤ b := h
        omega
      · have h' : hts ps + 1 ≤ b + 1 := h
        omega
    · rename_i hj
      rcases h with h | ⟨⟨qs, e⟩, _⟩
      · show max (ht (.jo j ps)) 0 ≤ b
        omega
      · cases e
        exact absurd rfl hj
theorem fl_l2 {b : Nat} {p : Pt} (h : l2 b p) : hts (fl "or" p) ≤ b + 1 := by
  have one : ∀ q : Pt, l1 b q → max (ht q) 0 ≤ b + 1 := fun q hq => by
    rcases hq with h | ⟨_, h⟩ <;> omega
  cases p with
  | atom ws => exact Nat.zero_le _
  | un x q =>
    rcases h with h | ⟨⟨ps, e⟩, _⟩
    · exact one _ h
    · cases e
  | jo j ps =>
    show hts (if j = "or" then ps else [.jo j ps]) ≤ b + 1
    split
    · rename_i hj
      rcases h with h | ⟨_, h⟩
      · have := one _ h
        have h' : ht (.jo j ps) = hts ps + 1 := rfl
        omega
      · have h' : hts ps + 1 ≤ b + 2 := h
        omega
    · rename_i hj
      rcases h with h | ⟨⟨qs, e⟩, _⟩
      · exact one _ h
      · cases e
        exact absurd rfl hj
theorem jn_l1 {b : Nat} {l r : Pt} (hl : l1 b l) (hr : l1 b r) : l1 b (jn "and" l r) := by
  refine .inr ⟨⟨_, rfl⟩, ?_⟩
  show hts (fl "and" l ++ fl "and" r) + 1 ≤ b + 1
  rw [hts_app]
  have := fl_l1 hl
  have := fl_l1 hr
  omega
theorem jn_l2 {b : Nat} {l r : Pt} (hl : l2 b l) (hr : l2 b r) : l2 b (jn "or" l r) := by
  refine .inr ⟨⟨_, rfl⟩, ?_⟩
  show hts (fl "or" l ++ fl "or" r) + 1 ≤ b + 2
  rw [hts_app]
  have := fl_l2 hl
  have := fl_l2 hr
  omega
theorem l2_ht {b : Nat} {p : Pt} (h : l2 b p) : ht p ≤ b + 2 := by
  rcases h with (h | ⟨_, h⟩) | ⟨_, h⟩ <;> omega
section
variable {hs : List Str} (hhs : ∀ h ∈ hs, h ∈ hds) {D : Nat}
include hhs
/-- all joints on top gathered -/
theorem gat_D : ∀ (W : List Str) (Ps : List Pt) (r : Pt), okD hs D W Ps → (l1 (2 * (D - cP hs W)) r ∨ (l2 (2 * (D - cP hs W)) r ∧ W.head? ≠ some "and")) →
    ∃ r' Ps', (gat jts W (r :: Ps)).2 = r' :: Ps' ∧ l2 (2 * (D - cP hs W)) r' ∧ okD hs D (gat jts W (r :: Ps)).1 Ps' := by
  intro W
  induction W with
  | nil =>
    intro Ps r _ hr
    exact ⟨r, Ps, rfl, hr.elim .inl (·.1), trivial⟩
  | cons j W ih =>
    intro Ps r hD hr
    by_cases hj : j ∈ jts
    · rw [cP_jo hhs hj] at hr ⊢
      match Ps, hD with
      | [], hD => rw [okD_nil hj] at hD; exact hD.elim
      | l :: Ps, hD =>
        rw [gat_yes hj]
        have hj2 := hj
        simp only [List.mem_cons, List.not_mem_nil, or_false] at hj2
        rcases hj2 with rfl | rfl
        · rw [okD_and] at hD
          have hr1 : l1 (2 * (D - cP hs W)) r := by
            rcases hr with h | ⟨_, h⟩
            · exact h
            · exact absurd rfl h
          exact ih Ps _ hD.2 (.inl (jn_l1 hD.1 hr1))
        · rw [okD_or] at hD
          have hr2 : l2 (2 * (D - cP hs W)) r := hr.elim .inl (·.1)
          exact ih Ps _ hD.2 (.inr ⟨jn_l2 hD.1.1 hr2, hD.1.2⟩)
    · rw [gat_no hj]
      exact ⟨r, Ps, rfl, hr.elim .inl (·.1), hD⟩
theorem gat_DA : ∀ (W : List Str) (Ps : List Pt) (r : Pt), okD hs D W Ps → l1 (2 * (D - cP hs W)) r →
    ∃ r' Ps', (gat ["and"] W (r :: Ps)).2 = r' :: Ps' ∧ l1 (2 * (D - cP hs W)) r' ∧ okD hs D (gat ["and"] W (r :: Ps)).1 Ps' ∧ (gat ["and"] W (r :: Ps)).1.head? ≠ some "and" := by
  intro W
  induction W with
  | nil =>
    intro Ps r _ hr
    exact ⟨r, Ps, rfl, hr, trivial, fun h => nomatch h⟩
  | cons j W ih =>
    intro Ps r hD hr
    by_cases hj : j = "and"
    · subst hj
      rw [cP_jo hhs and_jt] at hr ⊢
      match Ps, hD with
      | [], hD => rw [okD_nil and_jt] at hD; exact hD.elim
      | l :: Ps, hD =>
        rw [gat_yes (List.mem_singleton.mpr rfl)]
        rw [okD_and] at hD
        exact ih Ps _ hD.2 (jn_l1 hD.1 hr)
    · rw [gat_no (fun h => hj (List.mem_singleton.mp h))]
      exact ⟨r, Ps, rfl, hr, hD, fun h => hj (Option.some.inj h)⟩
theorem put_D : ∀ (W : List Str) (Ps : List Pt) (p : Pt), okD hs D W Ps → cP hs W ≤ D → ht p ≤ 2 * (D - cP hs W) → okD hs D (putS hs W p).1 Ps ∧ ht (putS hs W p).2 ≤ 2 * (D - cP hs (putS hs W p).1) := by
  intro W
  induction W with
  | nil => intro Ps p h _ hp; exact ⟨h, hp⟩
  | cons h W ih =>
    intro Ps p hD hc hp
    unfold putS
    by_cases hm : h ∈ hs
    · have h1 := hd_no (hhs h hm)
      rw [if_pos hm]
      have e : cP hs (h :: W) = 1 + cP hs W := by
        show (if h = "(" then 1 else if h ∈ hs then 1 else 0) + cP hs W = _
        rw [if_neg h1.1, if_pos hm]
      rw [okD_no h1.2.1] at hD
      rw [e] at hc hp
      refine ih Ps (.un h p) hD (by omega) ?_
      show ht p + 1 ≤ _
      omega
    · rw [if_neg hm]
      exact ⟨hD, hp⟩
end
end Qp

set_option linter.all false
set_option maxRecDepth 100000
set_option maxHeartbeats 8000000
set_option pp.maxSteps 150
namespace N7
open PySem PySem.Spec PyProof.Rows L2 Gx Qp
/-! ### conditions of kinds: the law's trees and the words that are written for them -/
abbrev kfs : List (List Str) := [["some", "K"], ["every", "K"], ["first", "K"], ["last", "K"], ["K", "then", "K"], ["K", "next", "K"], ["count", "K", "mod", "2", "is", "0"], ["count", "K", "mod", "2", "is", "1"], ["count", "K", "mod", "3", "is", "0"], ["count", "K", "mod", "3", "is", "1"], ["count", "K", "mod", "3", "is", "2"], ["below", "K"]]
abbrev khs : List Str := ["not"]
/-- a word with the slot's sign for a kind -/
def rep (w : Str) : Str := if kindB w = true then "K" else w
inductive LT where
  | at (ws : List Str)
  | un (h : Str) (t : LT)
  | bi (j : Str) (a b : LT)
def AtWs (ws : List Str) : Prop := ws.map rep ∈ kfs ∧ ∀ w ∈ ws, kindB w = true → CapOk w
def wfT : LT → Prop
  | .at ws => AtWs ws
  | .un h t => h ∈ khs ∧ wfT t
  | .bi j a b => j ∈ jts ∧ wfT a ∧ wfT b
def hdT : LT → Str
  | .at ws => ws.headD ""
  | .un h _ => h
  | .bi j _ _ => j
def clo (z : Str) : Str := "( " ++ z ++ " )"
theorem clo_len (z : Str) : (clo z).length = z.length + 4 := by
  unfold clo
  rw [len_app, len_app, sp2, sp3]
  omega
theorem clo_asc {z : Str} (h : Asc z) : Asc (clo z) := app_asc (app_asc (by decide +kernel) h) (by decide +kernel)
/-- the texts that are written for a tree, with how deep they stand -/
inductive Wr : LT → Str → Nat → Prop
  | at {ws : List Str} : Wr (.at ws) (Str.join " " ws) 0
  | un {h : Str} {t : LT} {z : Str} {d : Nat} : Wr t z d → hdT t ∉ Qp.jts → Wr (.un h t) (h ++ " " ++ z) (d + 1)
  | unc {h : Str} {t : LT} {z : Str} {d : Nat} : Wr t z d → hdT t ∈ Qp.jts → Wr (.un h t) (h ++ " " ++ clo z) (d + 1 + 1)
  | bi {j : Str} {a b : LT} {x y : Str} {d e : Nat} {x' y' : Str} {d' e' : Nat} : Wr a x d → Wr b y e → (x', d') = (if j = "and" ∧ hdT a = "or" then (clo x, d + 1) else (x, d)) → (y', e') = (if j = "and" ∧ hdT b = "or" then (clo y, e + 1) else (y, e)) →
      Wr (.bi j a b) (x' ++ " " ++ j ++ " " ++ y') (max d' e')
  | cl {t : LT} {z : Str} {d : Nat} : Wr t z d → Wr t (clo z) (d + 1)
/-! words of forms -/
def lits : List Str := ["some", "every", "first", "last", "then", "next", "count", "mod", "2", "is", "0", "1", "3", "below"]
theorem lit_no {w : Str} (h : w ∈ lits) : kindB w = false := (by decide +kernel : ∀ w ∈ lits, kindB w = false) w h
theorem form_word {f : List Str} (hf : f ∈ kfs) {a : Str} (h : a ∈ f) : a = "K" ∨ a ∈ lits := (by decide +kernel : ∀ f ∈ kfs, ∀ a ∈ f, a = "K" ∨ a ∈ lits) f hf a h
theorem slB_rep {a w : Str} (h : a = "K" ∨ a ∈ lits) : slB (a, w) = slB (a, rep w) := by
  unfold slB rep
  by_cases hk : kindB w = true
  · rw [if_pos hk]
    by_cases ha : a = "K"
    · rw [if_pos ha, if_pos ha]
      show kindB w = kindB "K"
      rw [hk]
      decide +kernel
    · rw [if_neg ha, if_neg ha]
      have hl := h.resolve_left ha
      have n1 : ¬ w = a := fun e => by
        rw [e, lit_no hl] at hk
        cases hk
      have n2 : ¬ ("K" : Str) = a := fun e => ha e.symm
      show decide (w = a) = decide (("K" : Str) = a)
      rw [decide_eq_false n1, decide_eq_false n2]
  · rw [if_neg hk]
theorem fits_rep : ∀ {f ws : List Str}, (∀ a ∈ f, a = "K" ∨ a ∈ lits) → fitsB f ws = fitsB f (ws.map rep)
  | [], ws, _ => by cases ws <;> rfl
  | a :: f, [], _ => rfl
  | a :: f, w :: ws, h => by
    have ih := fits_rep (f := f) (ws := ws) fun b hb => h b (List.mem_cons_of_mem _ hb)
    unfold fitsB at ih ⊢
    rw [List.map_cons, List.zip_cons_cons, List.zip_cons_cons, List.all_cons, List.all_cons, ih, slB_rep (h a (List.mem_cons_self ..))]
theorem filt_rep (ws : List Str) : kfs.filter (fun f => fitsB f ws) = kfs.filter (fun f => fitsB f (ws.map rep)) := by
  refine List.filter_congr fun f hf => ?_
  exact fits_rep fun a ha => form_word hf ha
/-- along a form the first that fits is as long as what is begun just at its end -/
theorem form_run : ∀ f ∈ kfs, ∀ n, n < f.length → ∃ g r, kfs.filter (fun h => fitsB h (f.take (n + 1))) = g :: r ∧ (g.length = n + 1 ↔ n + 1 = f.length) := by
  have h : ∀ f ∈ kfs, ∀ n, n < f.length → (match kfs.filter (fun h => fitsB h (f.take (n + 1))) with | g :: _ => decide (g.length = n + 1 ↔ n + 1 = f.length) | [] => false) = true := by decide +kernel
  intro f hf n hn
  have h1 := h f hf n hn
  cases e : kfs.filter (fun h => fitsB h (f.take (n + 1))) with
  | nil =>
    rw [e] at h1
    cases h1
  | cons g r =>
    rw [e] at h1
    exact ⟨g, r, rfl, of_decide_eq_true h1⟩
abbrev stn (W : List Str) (P : List Pt) : RS := ⟨P, W, [], false⟩
theorem rep_hd {w : Str} (h : rep w ≠ "(" ∧ rep w ∉ khs) : w ≠ "(" ∧ w ∉ khs := by
  unfold rep at h
  by_cases hk : kindB w = true
  · refine ⟨fun e => ?_, fun e => ?_⟩
    · rw [e] at hk
      exact absurd hk (by decide +kernel)
    · rw [List.mem_singleton.mp e] at hk
      exact absurd hk (by decide +kernel)
  · rw [if_neg hk] at h
    exact h
theorem run_from {ws : List Str} (h : ws.map rep ∈ kfs) (W : List Str) (P : List Pt) : ∀ (k n i : Nat), n + k = ws.length → 0 < k → runS kfs khs ⟨P, W, ws.take n, false⟩ (ws.drop n) i = .inl (put khs W P (.atom ws))
  | 0, _, _, _, h => absurd h (Nat.lt_irrefl 0)
  | k + 1, n, i, hl, _ => by
    have hn : n < ws.length := by omega
    have hd : ws.drop n = ws[n] :: ws.drop (n + 1) := List.drop_eq_getElem_cons hn
    have ht : ws.take n ++ [ws[n]] = ws.take (n + 1) := (List.take_append_getElem hn)
    obtain ⟨g, r, hf, hg⟩ := form_run _ h n (by rw [List.length_map]; exact hn)
    rw [← List.map_take, ← filt_rep] at hf
    rw [List.length_map] at hg
    have hns : ¬ (ws.take n = [] ∧ (ws[n] = "(" ∨ ws[n] ∈ khs)) := fun z => by
      have hm : rep ws[n] ∈ ws.map rep := List.mem_map_of_mem (List.getElem_mem hn)
      have hw := form_word h hm
      have hr : rep ws[n] ≠ "(" ∧ rep ws[n] ∉ khs := by
        rcases hw with e | e
        · rw [e]
          decide +kernel
        · exact (by decide +kernel : ∀ w ∈ lits, w ≠ "(" ∧ w ∉ khs) _ e
      have := rep_hd hr
      exact z.2.elim this.1 this.2
    have ha : takeS kfs khs ⟨P, W, ws.take n, false⟩ ws[n] = (if g.length = (ws.take (n + 1)).length then some (put khs W P (.atom (ws.take (n + 1)))) else some ⟨P, W, ws.take (n + 1), false⟩) := by
      unfold takeS
      rw [if_neg Bool.false_ne_true, if_neg hns]
      unfold takeA
      dsimp only
      rw [ht, hf]
    have hlt : (ws.take (n + 1)).length = n + 1 := by rw [List.length_take]; omega
    rw [hlt] at ha
    rw [hd, runS, ha]
    by_cases hk : k = 0
    · rw [if_pos (hg.mpr (by omega)), List.take_of_length_le (by omega), List.drop_of_length_le (by omega)]
      rfl
    · rw [if_neg fun z => hk (by have := hg.mp z; omega)]
      exact run_from h W P k (n + 1) (i + 1) (by omega) (by omega)
theorem at_pos {ws : List Str} (h : AtWs ws) : 0 < ws.length := by
  have h1 := (by decide +kernel : ∀ f ∈ kfs, 0 < f.length) _ h.1
  rw [List.length_map] at h1
  exact h1
theorem run_at {ws : List Str} (h : AtWs ws) (W : List Str) (P : List Pt) (i : Nat) : runS kfs khs (stn W P) ws i = .inl (put khs W P (.atom ws)) := run_from h.1 W P ws.length 0 i (Nat.zero_add _) (at_pos h)
theorem at_hd {ws : List Str} (h : AtWs ws) : ∃ x r, ws = x :: r ∧ x ∉ Qp.jts ∧ x ∉ hds := by
  cases ws with
  | nil => exact absurd (at_pos h) (Nat.lt_irrefl 0)
  | cons x r =>
    refine ⟨x, r, rfl, ?_⟩
    have hw := form_word h.1 (List.mem_map_of_mem (List.mem_cons_self ..) : rep x ∈ (x :: r).map rep)
    unfold rep at hw
    by_cases hk : kindB x = true
    · refine ⟨fun e => ?_, fun e => ?_⟩
      · have := (by decide +kernel : ∀ w ∈ Qp.jts, kindB w = false) x e
        rw [hk] at this
        cases this
      · have := (by decide +kernel : ∀ w ∈ hds, kindB w = false) x e
        rw [hk] at this
        cases this
    · rw [if_neg hk] at hw
      rcases hw with e | e
      · rw [e] at hk
        exact absurd (by decide +kernel) hk
      · exact (by decide +kernel : ∀ w ∈ lits, w ∉ Qp.jts ∧ w ∉ hds) x e
theorem hd_wf {t : LT} (h : wfT t) : (∃ ws, t = .at ws ∧ AtWs ws) ∨ (∃ k u, t = .un k u ∧ k ∈ khs ∧ wfT u) ∨ ∃ j a b, t = .bi j a b ∧ j ∈ Qp.jts ∧ wfT a ∧ wfT b := by
  cases t with
  | «at» ws => exact .inl ⟨ws, rfl, h⟩
  | un k u => exact .inr (.inl ⟨k, u, rfl, h.1, h.2⟩)
  | bi j a b => exact .inr (.inr ⟨j, a, b, rfl, h.1, h.2.1, h.2.2⟩)
end N7

set_option linter.all false
set_option maxRecDepth 100000
set_option maxHeartbeats 4000000
set_option pp.maxSteps 200
/-! a tree of the law and the condition that is read of it -/
namespace N7
open PySem PyProof.Rows L2 Gx Qp
/-- the condition that stands for a tree -/
def nrm : LT → Pt
  | .at ws => .atom ws
  | .un h t => .un h (nrm t)
  | .bi j a b => jn j (nrm a) (nrm b)
theorem fl_jn (j : Str) (a b : Pt) : fl j (jn j a b) = fl j a ++ fl j b := by
  show (if j = j then fl j a ++ fl j b else _) = _
  rw [if_pos rfl]
theorem jn_assoc (j : Str) (a b c : Pt) : jn j (jn j a b) c = jn j a (jn j b c) := by
  unfold jn
  rw [show Pt.jo j (fl j a ++ fl j b) = jn j a b from rfl, show Pt.jo j (fl j b ++ fl j c) = jn j b c from rfl, fl_jn, fl_jn, List.append_assoc]
theorem hdP_nrm : ∀ t : LT, hdP (nrm t) = (match t with
    | .at _ => "atom"
    | .un h _ => h
    | .bi j _ _ => j)
  | .at _ => rfl
  | .un _ _ => rfl
  | .bi _ _ _ => rfl
/-! texts -/
def bdB (t : LT) (w : Str) : Bool := decide (hdT t = "or") && !decide (w = "or") || decide (hdT t = "and") && !decide (w ∈ Qp.jts)
def bd (z : Str) (b : Bool) : Str := if b then clo z else z
def shL : LT → Str
  | .at ws => Str.join " " ws
  | .un h t => h ++ " " ++ bd (shL t) (bdB t h)
  | .bi j a b => bd (shL a) (bdB a j) ++ " " ++ j ++ " " ++ bd (shL b) (bdB b j)
theorem at_no {ws : List Str} (h : AtWs ws) : hdT (.at ws) ≠ "or" ∧ hdT (.at ws) ≠ "and" := by
  obtain ⟨x, r, rfl, n1, _⟩ := at_hd h
  exact ⟨fun e => n1 (by rw [show x = "or" from e]; decide +kernel), fun e => n1 (by rw [show x = "and" from e]; decide +kernel)⟩
theorem hd_no2 {h : Str} (k : h ∈ khs) : h ≠ "or" ∧ h ≠ "and" := by
  rw [List.mem_singleton.mp k]
  decide +kernel
/-- the head of the condition against the head of the tree -/
theorem hd_same {t : LT} (w : wfT t) (j : Str) (hj : j ∈ Qp.jts) : hdP (nrm t) = j ↔ hdT t = j := by
  rcases hd_wf w with ⟨ws, rfl, hws⟩ | ⟨k, u, rfl, _⟩ | ⟨k, a, b, rfl, _⟩
  · obtain ⟨x, r, rfl, n1, _⟩ := at_hd hws
    constructor
    · intro e
      have e' : ("atom" : Str) = j := e
      rw [← e'] at hj
      exact absurd hj (by decide +kernel)
    · intro e
      have e' : x = j := e
      exact absurd hj (by rw [← e']; exact n1)
  · exact Iff.rfl
  · exact Iff.rfl
theorem encl_bd {t : LT} (w : wfT t) {h : Str} (hh : h ≠ "or") : encl (nrm t) h = bdB t h := by
  have e1 : decide (hdP (nrm t) = "or") = decide (hdT t = "or") := decide_eq_decide.mpr (hd_same w "or" (by decide +kernel))
  have e2 : decide (hdP (nrm t) = "and") = decide (hdT t = "and") := decide_eq_decide.mpr (hd_same w "and" (by decide +kernel))
  unfold encl bdB
  rw [e1, e2, decide_eq_false hh]
  simp
/-- what a chain of one joint shows -/
theorem und_txt (p : Pt) (h : Str) : undT p h = bd (txt p) (encl p h) := by
  unfold undT bd clo
  rfl
theorem txts_app (j : Str) (a b : List Pt) : txts j (a ++ b) = txts j a ++ txts j b := by
  induction a with
  | nil => rfl
  | cons p a ih =>
    show (if encl p j then "( " ++ txt p ++ " )" else txt p) :: txts j (a ++ b) = (if encl p j then "( " ++ txt p ++ " )" else txt p) :: (txts j a ++ txts j b)
    rw [ih]
theorem join_cons (y a : Str) {r : List Str} (h : r ≠ []) : Str.join y (a :: r) = a ++ y ++ Str.join y r := by
  cases r with
  | nil => exact absurd rfl h
  | cons b r => rfl
theorem join_app (y : Str) : ∀ {a b : List Str}, a ≠ [] → b ≠ [] → Str.join y (a ++ b) = Str.join y a ++ y ++ Str.join y b
  | [], _, h, _ => absurd rfl h
  | [x], b, _, hb => by
    rw [List.singleton_append, join_cons y x hb]
    rfl
  | x :: z :: a, b, _, hb => by
    have h1 := join_app y (a := z :: a) (List.cons_ne_nil _ _) hb
    rw [List.cons_append, join_cons y x (by rw [List.cons_append]; exact List.cons_ne_nil _ _), h1, join_cons y x (List.cons_ne_nil z a)]
    simp only [Str.append_assoc]
/-- parts of a chain are no chains of the same joint -/
theorem fl_part {j : Str} (hj : j ∈ Qp.jts) {t : LT} (w : wfT t) : (hdT t = j ∧ ∃ ps, nrm t = .jo j ps ∧ fl j (nrm t) = ps) ∨ (hdT t ≠ j ∧ fl j (nrm t) = [nrm t]) := by
  rcases hd_wf w with ⟨ws, rfl, hws⟩ | ⟨k, u, rfl, hk, _⟩ | ⟨k, a, b, rfl, hk, _⟩
  · refine .inr ⟨?_, rfl⟩
    have := at_no hws
    simp only [List.mem_cons, List.not_mem_nil, or_false] at hj
    rcases hj with rfl | rfl
    · exact this.2
    · exact this.1
  · refine .inr ⟨?_, rfl⟩
    have := hd_no2 hk
    simp only [List.mem_cons, List.not_mem_nil, or_false] at hj
    rcases hj with rfl | rfl
    · exact this.2
    · exact this.1
  · by_cases e : k = j
    · subst e
      refine .inl ⟨rfl, _, rfl, ?_⟩
      show (if k = k then _ else _) = _
      rw [if_pos rfl]
    · refine .inr ⟨e, ?_⟩
      show (if k = j then _ else _) = _
      rw [if_neg e]
      rfl
theorem fl_ne {j : Str} (hj : j ∈ Qp.jts) : ∀ {t : LT}, wfT t → fl j (nrm t) ≠ []
  | .at _, _ => List.cons_ne_nil _ _
  | .un _ _, _ => List.cons_ne_nil _ _
  | .bi k a b, w => by
    show (if k = j then fl k (nrm a) ++ fl k (nrm b) else [jn k (nrm a) (nrm b)]) ≠ []
    split
    · intro e
      exact fl_ne (j := k) w.1 w.2.1 (List.append_eq_nil_iff.mp e).1
    · exact List.cons_ne_nil _ _
theorem txts_ne {j : Str} {ps : List Pt} (h : ps ≠ []) : txts j ps ≠ [] := by
  cases ps with
  | nil => exact absurd rfl h
  | cons p ps => exact List.cons_ne_nil _ _
theorem part_txt {j : Str} (hj : j ∈ Qp.jts) {t : LT} (w : wfT t) (ih : txt (nrm t) = shL t) : Str.join (" " ++ j ++ " ") (txts j (fl j (nrm t))) = bd (shL t) (bdB t j) := by
  rcases fl_part hj w with ⟨h1, ps, h2, h3⟩ | ⟨h1, h2⟩
  · rw [h3, ← ih, h2]
    have hb : bdB t j = false := by
      unfold bdB
      rw [h1]
      simp only [List.mem_cons, List.not_mem_nil, or_false] at hj
      rcases hj with rfl | rfl <;> decide +kernel
    rw [hb]
    rfl
  · rw [h2]
    show undT (nrm t) j = _
    rw [und_txt, ih]
    congr 1
    by_cases ho : j = "or"
    · subst ho
      have n1 : decide (hdP (nrm t) = "or") = false := decide_eq_false fun e => h1 ((hd_same w "or" (by decide +kernel)).mp e)
      have n2 : decide (("or" : Str) ∈ Qp.jts) = true := by decide +kernel
      unfold encl bdB
      rw [n1, n2]
      simp
    · exact encl_bd w ho
theorem txt_nrm : ∀ {t : LT}, wfT t → txt (nrm t) = shL t
  | .at ws, _ => rfl
  | .un h t, w => by
    have ih := txt_nrm w.2
    show h ++ " " ++ undT (nrm t) h = h ++ " " ++ bd (shL t) (bdB t h)
    rw [und_txt, ih, encl_bd w.2 (hd_no2 w.1).1]
  | .bi j a b, w => by
    have iha := txt_nrm w.2.1
    have ihb := txt_nrm w.2.2
    show Str.join (" " ++ j ++ " ") (txts j (fl j (nrm a) ++ fl j (nrm b))) = _
    rw [txts_app, join_app _ (txts_ne (fl_ne w.1 w.2.1)) (txts_ne (fl_ne w.1 w.2.2)), part_txt w.1 w.2.1 iha, part_txt w.1 w.2.2 ihb]
    show _ = bd (shL a) (bdB a j) ++ " " ++ j ++ " " ++ bd (shL b) (bdB b j)
    simp only [Str.append_assoc]
end N7

set_option linter.all false
set_option maxRecDepth 100000
set_option maxHeartbeats 4000000
set_option pp.maxSteps 200
/-! the words of a written tree, read -/
namespace N7
open PySem PyProof.Rows L2 Gx Qp
def clW (ws : List Str) : List Str := ("(" : Str) :: (ws ++ [(")" : Str)])
def czW (j : Str) (t : LT) (ws : List Str) (d : Nat) (c : Bool) : List Str × Nat × Bool := if j = "and" ∧ hdT t = "or" then (clW ws, d + 1, true) else (ws, d, c)
/-- as Wr, in words; the mark: it stands as one part -/
inductive WrW : LT → List Str → Nat → Bool → Prop
  | at {ws : List Str} : WrW (.at ws) ws 0 true
  | un {h : Str} {t : LT} {ws : List Str} {d : Nat} {c : Bool} : WrW t ws d c → hdT t ∉ Qp.jts → WrW (.un h t) (h :: ws) (d + 1) true
  | unc {h : Str} {t : LT} {ws : List Str} {d : Nat} {c : Bool} : WrW t ws d c → hdT t ∈ Qp.jts → WrW (.un h t) (h :: clW ws) (d + 1 + 1) true
  | bi {j : Str} {a b : LT} {x y : List Str} {d e : Nat} {c c2 : Bool} : WrW a x d c → WrW b y e c2 → WrW (.bi j a b) ((czW j a x d c).1 ++ j :: (czW j b y e c2).1) (max (czW j a x d c).2.1 (czW j b y e c2).2.1) false
  | cl {t : LT} {ws : List Str} {d : Nat} {c : Bool} : WrW t ws d c → WrW t (clW ws) (d + 1) true
theorem runS_app (st : RS) (a b : List Str) (i : Nat) : runS kfs khs st (a ++ b) i = match runS kfs khs st a i with
    | .inl st' => runS kfs khs st' b (i + a.length)
    | .inr n => .inr n := by
  induction a generalizing st i with
  | nil => rfl
  | cons w a ih =>
    rw [List.cons_append, runS, runS]
    cases takeS kfs khs st w with
    | none => rfl
    | some st' =>
      show runS kfs khs st' (a ++ b) (i + 1) = _
      rw [ih, List.length_cons, show i + 1 + a.length = i + (a.length + 1) from by omega]
def foldJ (j : Str) : List Pt → Pt
  | [] => .atom []
  | [p] => p
  | r :: l :: ps => foldJ j (jn j l r :: ps)
  termination_by ps => ps.length
theorem foldJ_two (j : Str) (r l : Pt) (ps : List Pt) : foldJ j (r :: l :: ps) = foldJ j (jn j l r :: ps) := by rw [foldJ]
theorem foldJ_one (j : Str) (p : Pt) : foldJ j [p] = p := by rw [foldJ]
theorem foldJ_cons (j : Str) : ∀ (n : Nat) (ps : List Pt) (r : Pt), ps.length ≤ n → ps ≠ [] → foldJ j (r :: ps) = jn j (foldJ j ps) r
  | _, [], _, _, h => absurd rfl h
  | _, [l], r, _, _ => by rw [foldJ_two, foldJ_one, foldJ_one]
  | 0, _ :: _ :: _, _, h, _ => absurd h (by simp)
  | n + 1, l :: k :: ps, r, hn, _ => by
    have hn' : ps.length + 1 ≤ n := by
      simp only [List.length_cons] at hn
      omega
    rw [foldJ_two, foldJ_two]
    cases ps with
    | nil => rw [foldJ_one, foldJ_two, foldJ_one, jn_assoc]
    | cons q ps =>
      have hn2 : ps.length + 1 + 1 ≤ n := hn'
      rw [foldJ_cons j n (q :: ps) (jn j k (jn j l r)) (by rw [List.length_cons]; omega) (List.cons_ne_nil _ _), foldJ_cons j n (k :: q :: ps) l (by rw [List.length_cons, List.length_cons]; omega) (List.cons_ne_nil _ _), foldJ_cons j n (q :: ps) k (by rw [List.length_cons]; omega) (List.cons_ne_nil _ _), jn_assoc, jn_assoc]
theorem foldJ_c (j : Str) (r : Pt) {ps : List Pt} (h : ps ≠ []) : foldJ j (r :: ps) = jn j (foldJ j ps) r := foldJ_cons j _ ps r (Nat.le_refl _) h
theorem foldJ_app (j : Str) : ∀ (a b : List Pt), a ≠ [] → b ≠ [] → foldJ j (a ++ b) = jn j (foldJ j b) (foldJ j a)
  | [], _, h, _ => absurd rfl h
  | [r], b, _, hb => by rw [List.singleton_append, foldJ_c j r hb, foldJ_one]
  | r :: l :: a, b, _, hb => by
    rw [List.cons_append, foldJ_c j r (by rw [List.cons_append]; exact List.cons_ne_nil _ _), foldJ_app j (l :: a) b (List.cons_ne_nil _ _) hb, foldJ_c j r (List.cons_ne_nil _ _), jn_assoc]
/-- gathering a row of one joint -/
theorem gat_rep {js : List Str} {j : Str} (hj : j ∈ js) (W : List Str) (P : List Pt) : ∀ (k : Nat) (rs : List Pt), rs.length = k + 1 → gat js (List.replicate k j ++ W) (rs ++ P) = gat js W (foldJ j rs :: P)
  | 0, [r], _ => by rw [foldJ_one]; rfl
  | 0, [], h => absurd h (by decide)
  | 0, _ :: _ :: _, h => absurd h (by simp)
  | k + 1, [], h => absurd h (by simp)
  | k + 1, [r], h => absurd h (by simp)
  | k + 1, r :: l :: rs, h => by
    rw [List.replicate_succ, List.cons_append, List.cons_append, List.cons_append, gat_yes hj, ← List.cons_append, gat_rep hj W P k (jn j l r :: rs) (by simpa using h), foldJ_two]
def noHd : List Str → Bool
  | [] => true
  | w :: _ => !decide (w ∈ khs)
def noAnd : List Str → Bool
  | [] => true
  | w :: _ => !decide (w = "and")
theorem put_noHd {W : List Str} (h : noHd W = true) (P : List Pt) (p : Pt) : put khs W P p = ⟨p :: P, W, [], true⟩ := by
  unfold put
  cases W with
  | nil => rfl
  | cons w W =>
    have hw : w ∉ khs := by
      unfold noHd at h
      simpa using h
    rw [putS, if_neg hw]
theorem put_hd {h : Str} (k : h ∈ khs) (W : List Str) (P : List Pt) (p : Pt) : put khs (h :: W) P p = put khs W P (.un h p) := by
  unfold put
  rw [putS, if_pos k]
theorem take_open (W : List Str) (P : List Pt) : takeS kfs khs (stn W P) "(" = some (stn ("(" :: W) P) := by
  unfold takeS
  rw [if_neg Bool.false_ne_true, if_pos ⟨rfl, .inl rfl⟩]
theorem take_hd {h : Str} (k : h ∈ khs) (W : List Str) (P : List Pt) : takeS kfs khs (stn W P) h = some (stn (h :: W) P) := by
  unfold takeS
  rw [if_neg Bool.false_ne_true, if_pos ⟨rfl, .inr k⟩]
end N7

set_option linter.all false
set_option maxRecDepth 100000
set_option maxHeartbeats 4000000
set_option pp.maxSteps 200
/-! a written tree is read as its condition -/
namespace N7
open PySem PyProof.Rows L2 Gx Qp
theorem noHd_c {w : Str} {W : List Str} (h : w ∉ khs) : noHd (w :: W) = true := by
  show (!decide (w ∈ khs)) = true
  rw [decide_eq_false h]
  rfl
theorem noAnd_c {w : Str} {W : List Str} (h : w ≠ "and") : noAnd (w :: W) = true := by
  show (!decide (w = "and")) = true
  rw [decide_eq_false h]
  rfl
def Shp (W : List Str) (P : List Pt) (p : Pt) (st : RS) (k m : Nat) (rs ss : List Pt) : Prop :=
  st = ⟨rs ++ (ss ++ P), List.replicate k ("and" : Str) ++ (List.replicate m ("or" : Str) ++ W), [], true⟩ ∧ rs.length = k + 1 ∧ ss.length = m ∧ foldJ "or" (foldJ "and" rs :: ss) = p
theorem shp_one {W : List Str} {P : List Pt} {p : Pt} (h : noHd W = true) : Shp W P p (put khs W P p) 0 0 [p] [] := by
  refine ⟨?_, rfl, rfl, ?_⟩
  · rw [put_noHd h]
    rfl
  · rw [foldJ_one, foldJ_one]
def Parse (t : LT) (ws : List Str) (c : Bool) : Prop := ∀ (W : List Str) (P : List Pt) (i : Nat), (c = true → runS kfs khs (stn W P) ws i = .inl (put khs W P (nrm t))) ∧
  (noHd W = true → (hdT t = "or" ∧ c = false → noAnd W = true) → ∃ st' k m rs ss, runS kfs khs (stn W P) ws i = .inl st' ∧ Shp W P (nrm t) st' k m rs ss ∧ (hdT t ≠ "or" ∨ c = true → m = 0))
theorem parse_prim {t : LT} {ws : List Str} (h : ∀ (W : List Str) (P : List Pt) (i : Nat), runS kfs khs (stn W P) ws i = .inl (put khs W P (nrm t))) : Parse t ws true := fun W P i =>
  ⟨fun _ => h W P i, fun hW _ => ⟨_, 0, 0, _, _, h W P i, shp_one hW, fun _ => rfl⟩⟩
theorem or_jt : ("or" : Str) ∈ Qp.jts := by decide +kernel
theorem run_cons {st st' : RS} {w : Str} (h : takeS kfs khs st w = some st') (ws : List Str) (i : Nat) : runS kfs khs st (w :: ws) i = runS kfs khs st' ws (i + 1) := by
  rw [runS, h]
theorem gat_shp {W : List Str} {P : List Pt} {p : Pt} {st : RS} {k m : Nat} {rs ss : List Pt} (h : Shp W P p st k m rs ss) : gat jts st.wait st.parts = gat jts W (p :: P) := by
  obtain ⟨rfl, hr, hs, hp⟩ := h
  show gat jts (List.replicate k ("and" : Str) ++ (List.replicate m ("or" : Str) ++ W)) (rs ++ (ss ++ P)) = _
  rw [gat_rep and_jt _ _ k rs hr, show foldJ "and" rs :: (ss ++ P) = (foldJ "and" rs :: ss) ++ P from rfl, gat_rep or_jt _ _ m _ (by rw [List.length_cons, hs]), hp]
theorem parse_cl {t : LT} {ws : List Str} {c : Bool} (h : Parse t ws c) (W : List Str) (P : List Pt) (i : Nat) : runS kfs khs (stn W P) (clW ws) i = .inl (put khs W P (nrm t)) := by
  have n1 : noHd (("(" : Str) :: W) = true := noHd_c (by decide +kernel)
  have n2 : noAnd (("(" : Str) :: W) = true := noAnd_c (by decide +kernel)
  obtain ⟨st', k, m, rs, ss, hr, hs, _⟩ := (h (("(" : Str) :: W) P (i + 1)).2 n1 fun _ => n2
  unfold clW
  rw [run_cons (take_open W P), runS_app, hr]
  show runS kfs khs st' [(")" : Str)] _ = _
  have hg := gat_shp hs
  have hg2 : gat jts (("(" : Str) :: W) (nrm t :: P) = (("(" : Str) :: W, nrm t :: P) := gat_no (by decide +kernel)
  have e : takeS kfs khs st' ")" = some (put khs W P (nrm t)) := by
    have hw : st'.whole = true := by rw [hs.1]
    unfold takeS takeB closeS
    rw [if_pos hw, if_pos rfl, hg, hg2]
  rw [run_cons e]
  rfl
theorem oper {j : Str} (hj : j ∈ Qp.jts) {a : LT} {x : List Str} {d : Nat} {c : Bool} (h : Parse a x c) (W : List Str) (P : List Pt) (i : Nat) (hW : noHd W = true) (hO : j = "or" → noAnd W = true) :
    ∃ st' k m rs ss, runS kfs khs (stn W P) (czW j a x d c).1 i = .inl st' ∧ Shp W P (nrm a) st' k m rs ss ∧ (j = "and" → m = 0) := by
  by_cases e : j = "and" ∧ hdT a = "or"
  · refine ⟨_, 0, 0, _, _, ?_, shp_one hW, fun _ => rfl⟩
    unfold czW
    rw [if_pos e]
    exact parse_cl h W P i
  · have hor : hdT a = "or" ∧ c = false → noAnd W = true := fun h => by
      simp only [List.mem_cons, List.not_mem_nil, or_false] at hj
      rcases hj with hj | hj
      · exact absurd ⟨hj, h.1⟩ e
      · exact hO hj
    obtain ⟨st', k, m, rs, ss, hr, hs, hm⟩ := (h W P i).2 hW hor
    refine ⟨st', k, m, rs, ss, ?_, hs, fun ha => hm (.inl fun ho => e ⟨ha, ho⟩)⟩
    unfold czW
    rw [if_neg e]
    exact hr
theorem rep_and (a b : Nat) (W : List Str) (j : Str) : List.replicate a j ++ (j :: (List.replicate b j ++ W)) = List.replicate (a + 1 + b) j ++ W := by
  rw [show j :: (List.replicate b j ++ W) = (List.replicate 1 j ++ List.replicate b j) ++ W from rfl, ← List.append_assoc, ← List.append_assoc, List.replicate_append_replicate, List.replicate_append_replicate]
theorem noAnd_rep {m : Nat} {W : List Str} (h : noAnd W = true) : noAnd (List.replicate m ("or" : Str) ++ W) = true := by
  cases m with
  | zero => exact h
  | succ m =>
    rw [List.replicate_succ]
    exact noAnd_c (by decide +kernel)
theorem gat_noAnd {W : List Str} (h : noAnd W = true) (P : List Pt) : gat ["and"] W P = (W, P) := by
  cases W with
  | nil => rfl
  | cons w W =>
    refine gat_no fun hm => ?_
    have h' : (!decide (w = "and")) = true := h
    rw [decide_eq_true (List.mem_singleton.mp hm)] at h'
    cases h'
theorem parse_all : ∀ {t : LT} {ws : List Str} {d : Nat} {c : Bool}, WrW t ws d c → wfT t → Parse t ws c
  | _, _, _, _, .at, w => parse_prim fun W P i => run_at w W P i
  | _, _, _, _, .un (h := h) (t := t) (ws := ws) hw hj, w => by
    have ih := parse_all hw w.2
    refine parse_prim fun W P i => ?_
    rw [run_cons (take_hd w.1 W P)]
    have hc : runS kfs khs (stn (h :: W) P) ws (i + 1) = .inl (put khs (h :: W) P (nrm t)) := by
      cases hw with
      | «at» => exact (ih (h :: W) P (i + 1)).1 rfl
      | un => exact (ih (h :: W) P (i + 1)).1 rfl
      | unc => exact (ih (h :: W) P (i + 1)).1 rfl
      | bi => exact absurd w.2.1 hj
      | cl => exact (ih (h :: W) P (i + 1)).1 rfl
    rw [hc, put_hd w.1]
    rfl
  | _, _, _, _, .unc (h := h) (t := t) (ws := ws) hw hj, w => by
    have ih := parse_all hw w.2
    refine parse_prim fun W P i => ?_
    rw [run_cons (take_hd w.1 W P), parse_cl ih, put_hd w.1]
    rfl
  | _, _, _, _, .cl (t := t) (ws := ws) hw, w => parse_prim fun W P i => parse_cl (parse_all hw w) W P i
  | _, _, _, _, .bi (j := j) (a := a) (b := b) (x := x) (y := y) (d := d) (e := e) (c := c) (c2 := c2) ha hb, w => by
    have iha := parse_all ha w.2.1
    have ihb := parse_all hb w.2.2
    intro W P i
    refine ⟨(fun z => nomatch z), fun hW hA => ?_⟩
    obtain ⟨st1, ka, ma, rsa, ssa, hr1, ⟨e1, l1, l2, f1⟩, hm1⟩ := oper (d := d) w.1 iha W P i hW fun hj => hA ⟨hj, rfl⟩
    have hjj := w.1
    rw [runS_app, hr1]
    show ∃ st' k m rs ss, runS kfs khs st1 (j :: (czW j b y e c2).1) _ = .inl st' ∧ _ ∧ _
    generalize i + (czW j a x d c).1.length = i2
    simp only [List.mem_cons, List.not_mem_nil, or_false] at hjj
    rcases hjj with hja | hjo
    · subst hja
      obtain rfl := hm1 rfl
      obtain rfl := List.length_eq_zero_iff.mp l2
      have tk : takeS kfs khs st1 "and" = some (stn (("and" : Str) :: (List.replicate ka ("and" : Str) ++ W)) (rsa ++ P)) := by
        rw [e1]
        unfold takeS takeB
        rw [if_pos rfl, if_neg (by decide +kernel), if_pos and_jt, if_neg (by decide +kernel)]
        rfl
      rw [run_cons tk]
      have n1 : noHd (("and" : Str) :: (List.replicate ka ("and" : Str) ++ W)) = true := noHd_c (by decide +kernel)
      obtain ⟨st2, kb, mb, rsb, ssb, hr2, ⟨e2, k1, k2, f2⟩, hm2⟩ := oper (d := e) and_jt ihb _ (rsa ++ P) (i2 + 1) n1 fun z => absurd z (by decide +kernel)
      obtain rfl := hm2 rfl
      obtain rfl := List.length_eq_zero_iff.mp k2
      have hra : rsa ≠ [] := fun z => by
        rw [z] at l1
        cases l1
      have hrb : rsb ≠ [] := fun z => by
        rw [z] at k1
        cases k1
      rw [foldJ_one] at f1 f2
      refine ⟨st2, kb + 1 + ka, 0, rsb ++ rsa, [], hr2, ⟨?_, by rw [List.length_append, k1, l1]; omega, rfl, ?_⟩, fun _ => rfl⟩
      · rw [e2]
        show RS.mk (rsb ++ (rsa ++ P)) (List.replicate kb ("and" : Str) ++ (("and" : Str) :: (List.replicate ka ("and" : Str) ++ W))) [] true = RS.mk (rsb ++ rsa ++ P) (List.replicate (kb + 1 + ka) ("and" : Str) ++ W) [] true
        rw [rep_and, List.append_assoc]
      · rw [foldJ_one, foldJ_app _ _ _ hrb hra, f1, f2]
        rfl
    · subst hjo
      have hNA := hA ⟨rfl, rfl⟩
      have tk : takeS kfs khs st1 "or" = some (stn (("or" : Str) :: (List.replicate ma ("or" : Str) ++ W)) (foldJ "and" rsa :: (ssa ++ P))) := by
        rw [e1]
        unfold takeS takeB
        rw [if_pos rfl, if_neg (by decide +kernel), if_pos or_jt, if_pos rfl]
        show some (RS.mk (gat ["and"] (List.replicate ka ("and" : Str) ++ (List.replicate ma ("or" : Str) ++ W)) (rsa ++ (ssa ++ P))).2 (("or" : Str) :: (gat ["and"] (List.replicate ka ("and" : Str) ++ (List.replicate ma ("or" : Str) ++ W)) (rsa ++ (ssa ++ P))).1) [] false) = _
        rw [gat_rep (List.mem_singleton.mpr rfl) _ _ ka rsa l1, gat_noAnd (noAnd_rep hNA)]
      rw [run_cons tk]
      have n1 : noHd (("or" : Str) :: (List.replicate ma ("or" : Str) ++ W)) = true := noHd_c (by decide +kernel)
      have n2 : noAnd (("or" : Str) :: (List.replicate ma ("or" : Str) ++ W)) = true := noAnd_c (by decide +kernel)
      obtain ⟨st2, kb, mb, rsb, ssb, hr2, ⟨e2, k1, k2, f2⟩, _⟩ := oper (d := e) or_jt ihb _ (foldJ "and" rsa :: (ssa ++ P)) (i2 + 1) n1 fun _ => n2
      refine ⟨st2, kb, mb + 1 + ma, rsb, ssb ++ (foldJ "and" rsa :: ssa), hr2, ⟨?_, k1, by rw [List.length_append, List.length_cons, k2, l2]; omega, ?_⟩, fun z => ?_⟩
      · rw [e2]
        show RS.mk (rsb ++ (ssb ++ (foldJ "and" rsa :: (ssa ++ P)))) (List.replicate kb ("and" : Str) ++ (List.replicate mb ("or" : Str) ++ (("or" : Str) :: (List.replicate ma ("or" : Str) ++ W)))) [] true = RS.mk (rsb ++ (ssb ++ (foldJ "and" rsa :: ssa) ++ P)) (List.replicate kb ("and" : Str) ++ (List.replicate (mb + 1 + ma) ("or" : Str) ++ W)) [] true
        rw [rep_and, List.append_assoc]
        rfl
      · rw [show foldJ "and" rsb :: (ssb ++ (foldJ "and" rsa :: ssa)) = (foldJ "and" rsb :: ssb) ++ (foldJ "and" rsa :: ssa) from rfl, foldJ_app _ _ _ (List.cons_ne_nil _ _) (List.cons_ne_nil _ _), f1, f2]
        rfl
      · rcases z with z | z
        · exact absurd rfl z
        · exact nomatch z
/-- a whole text -/
theorem parse_end {t : LT} {ws : List Str} {d : Nat} {c : Bool} (h : WrW t ws d c) (w : wfT t) : ∃ st, runS kfs khs st0 ws 0 = .inl st ∧ endS st = some (nrm t) := by
  obtain ⟨st', k, m, rs, ss, hr, hs, _⟩ := (parse_all h w [] [] 0).2 rfl fun _ => rfl
  refine ⟨st', hr, ?_⟩
  have hw : st'.whole = true := by rw [hs.1]
  unfold endS
  rw [if_pos hw, gat_shp hs]
  rfl
end N7

set_option linter.all false
set_option maxRecDepth 100000
set_option maxHeartbeats 8000000
set_option pp.maxSteps 150
namespace N7
open PySem PySem.Spec PyProof.Rows L2 Gx Qp Qh
/-! ### texts of conditions -/
abbrev s_encl : Stmt := topS 16
theorem sc_encl : FnScope ["part", "head"] ["part", "head"] (defScope s_encl) := ⟨rfl, rfl, rfl, by decide +kernel, rfl, by decide +kernel, by decide +kernel⟩
abbrev s_tunder : Stmt := topS 17
theorem sc_tunder : FnScope ["part", "head"] ["part", "head"] (defScope s_tunder) := ⟨rfl, rfl, rfl, by decide +kernel, rfl, by decide +kernel, by decide +kernel⟩
abbrev s_tof : Stmt := topS 18
abbrev n_tof : List Str := ["part", "head", "under", "one"]
theorem sc_tof : FnScope n_tof ["part"] (defScope s_tof) := ⟨rfl, rfl, rfl, by decide +kernel, rfl, by decide +kernel, by decide +kernel⟩
structure NmTx (mg : Str → Option Value) (K : PySem.W.Frag) (fe fu ft aj : Addr) : Prop where
  g_encl : mg "is_enclosed" = some (.ref fe)
  k_encl : PySem.W.keepIn K (.ref fe) = true
  g_under : mg "text_under" = some (.ref fu)
  k_under : PySem.W.keepIn K (.ref fu) = true
  g_text : mg "text_of" = some (.ref ft)
  k_text : PySem.W.keepIn K (.ref ft) = true
  g_JOINTS : mg "JOINTS" = some (.ref aj)
  jts : HdK K aj jts
def spEncl : Sp := fun vs H Q _ => ∃ (v : V) (p : Pt) (h : Str), vs = [v, .str h] ∧ PtAt H v p ∧ Q (.bl (encl p h)) H
def spTxt (d : Nat) : Sp := fun vs H Q _ => ∃ (v : V) (p : Pt), vs = [v] ∧ PtAt H v p ∧ wf p = true ∧ ht p < d ∧ Qp.wt p ≤ 1000000 ∧ ∀ H' : Hp, Same H H' → Q (.str (txt p)) H'
def spUnd (d : Nat) : Sp := fun vs H Q _ => ∃ (v : V) (p : Pt) (h : Str), vs = [v, .str h] ∧ PtAt H v p ∧ wf p = true ∧ ht p < d ∧ Qp.wt p ≤ 1000000 ∧ ∀ H' : Hp, Same H H' → Q (.str (undT p h)) H'
section
variable {P : Program} {w : World} {K : PySem.W.Frag} {mg : Str → Option Value} {base : Heap} {fe fu ft aj : Addr}
theorem ok_encl {f : Addr} {fd : FuncData} (F : Fun K "is_enclosed" "is_enclosed" s_encl f fd) (T : NmTx mg K fe fu ft aj) : FnOk P w K mg base CX0 1 f fd ["part", "head"] spEncl := by
  refine F.ok sc_encl (fun vs H Q E h => ?_) (fun cdv A outer s H vs Q E hr h => ?_)
  · obtain ⟨v, p, h, rfl, _⟩ := h
    rfl
  · obtain ⟨v, p, h, rfl, hv, q⟩ := h
    refine ⟨_, pss_one (ps_ret (pe_or (pe_cmpR op_eq (pe_ix ix_tup (pv 0) pe_int (fun _ _ => rfl)) pe_str (nomark _)) (pe_one (pe_and (pe_cmpR op_eq (pe_ix ix_tup (pv 0) pe_int (fun _ _ => rfl)) pe_str (nomark _)) (pe_one (pe_cmpR op_notIn_seq (pv 1) (pe_glob (v := .ref _) rfl T.g_JOINTS rfl) rfl)))))), ?_⟩
    obtain ⟨a, u, rfl, ea⟩ := hv.head
    have dec : ∀ z : Str, decide (V.str (hdP p) = V.str z) = decide (hdP p = z) := fun z => decide_eq_decide.mpr ⟨V.str.inj, congrArg V.str⟩
    refine ⟨_, rfl, a, _, _, _, rfl, rfl, SqT.of ea, atI_nat (j := 0) rfl, rfl, _, rfl, ?_⟩
    unfold encl at q
    rw [dec]
    by_cases h1 : hdP p = "or"
    · rw [decide_eq_true h1] at q ⊢
      exact iteT q
    · rw [decide_eq_false h1] at q ⊢
      refine iteF ⟨_, rfl, a, _, _, _, rfl, rfl, SqT.of ea, atI_nat (j := 0) rfl, rfl, _, rfl, ?_⟩
      rw [dec]
      by_cases h2 : hdP p = "and"
      · rw [decide_eq_true h2] at q ⊢
        refine iteT ⟨_, rfl, aj, _, rfl, .inr (T.jts.at_ H), rfl, flat_strs _, ?_⟩
        rw [if_pos rfl, inV_list]
        exact q
      · rw [decide_eq_false h2] at q ⊢
        exact iteF q
theorem ok_tunder {f : Addr} {fd fde fdt : FuncData} {d k : Nat} (F : Fun K "text_under" "text_under" s_tunder f fd) (T : NmTx mg K fe fu ft aj) (G_encl : FnOk P w K mg base CX0 1 fe fde ["part", "head"] spEncl) (b_encl : Binds K fde ["part", "head"] [])
    (G_text : FnOk P w K mg base CX0 (k + 1) ft fdt ["part"] (spTxt d)) (b_text : Binds K fdt ["part"] []) : FnOk P w K mg base CX0 (k + 1 + 1) f fd ["part", "head"] (spUnd d) := by
  refine F.ok sc_tunder (fun vs H Q E h => ?_) (fun cdv A outer s H vs Q E hr h => ?_)
  · obtain ⟨v, p, h, rfl, _⟩ := h
    rfl
  · obtain ⟨v, p, h, rfl, hv, hw, hd, hz, q⟩ := h
    have hr1 := hr.mono (show 1 ≤ k + 1 by omega)
    refine ⟨_, (pss_cons (ps_if (pt_val (pe_call G_encl hr1 rfl T.g_encl T.k_encl b_encl .nil pass0 (pa_cons (pv 0) (pa_cons (pv 1) pa_nil)))) (pss_one (ps_ret (pe_joined (.cons pe_str (.cons (pe_fmt (pe_call G_text hr rfl T.g_text T.k_text b_text .nil pass0 (pa_cons (pv 0) pa_nil))) (.cons pe_str .nil)))))) pss_nil)
      (pss_one (ps_ret (pe_call G_text hr rfl T.g_text T.k_text b_text .nil pass0 (pa_cons (pv 0) pa_nil))))), ?_⟩
    have hl := txt_len p
    refine ⟨_, rfl, _, rfl, v, p, h, rfl, hv, _, rfl, ?_⟩
    unfold undT at q
    by_cases he : encl p h = true
    · rw [he]
      rw [if_pos he] at q
      refine iteT ?_
      refine ⟨"( ", rfl, by rw [empty_app, sp2, sizeLine_eq]; omega, _, rfl, v, p, rfl, hv, hw, hd, hz, fun H' S => .inl ⟨txt p, rfl, by rw [sizeLine_eq]; omega, ?_⟩⟩
      refine ⟨txt p, rfl, by rw [empty_app, len_app, sp2, sizeLine_eq]; omega, " )", rfl, by rw [empty_app, len_app, len_app, sp2, sp3, sizeLine_eq]; omega, ?_⟩
      rw [empty_app]
      exact q H' S
    · have he' : encl p h = false := by
        cases e : encl p h
        · rfl
        · exact absurd e he
      rw [he']
      rw [if_neg he] at q
      refine iteF ?_
      exact ⟨_, rfl, v, p, rfl, hv, hw, hd, hz, q⟩
theorem ok_tof {fde fdt fdu : FuncData} (F : Fun K "text_of" "text_of" s_tof ft fdt) (Fu : Fun K "text_under" "text_under" s_tunder fu fdu) (T : NmTx mg K fe fu ft aj) (G_encl : FnOk P w K mg base CX0 1 fe fde ["part", "head"] spEncl) (b_encl : Binds K fde ["part", "head"] [])
    (b_text : Binds K fdt ["part"] []) (b_under : Binds K fdu ["part", "head"] []) : ∀ d, FnOk P w K mg base CX0 (2 * d + 1 + 1) ft fdt ["part"] (spTxt d) := by
  intro d
  induction d with
  | zero =>
    exact ⟨fun vs H Q E h => by
      obtain ⟨v, p, rfl, _⟩ := h
      rfl, fun A outer s H args us vs Q E _ _ _ _ h => by
      obtain ⟨v, p, _, _, _, h0, _⟩ := h
      exact absurd h0 (Nat.not_lt_zero _)⟩
  | succ d IH =>
    have G_under := ok_tunder Fu T G_encl b_encl IH b_text
    have G' : FnOk P w K mg base CX0 (2 * d + 1 + 1 + 1 + 1) ft fdt ["part"] (spTxt (d + 1)) := by
      refine F.ok sc_tof (fun vs H Q E h => ?_) (fun cdv A outer s H vs Q E hr h => ?_)
      · obtain ⟨v, p, rfl, _⟩ := h
        rfl
      · obtain ⟨v, p, rfl, hv, hw, hd, hz, q⟩ := h
        refine ⟨_, (pss_cons (ps_asg (pv 0) (pg_tup rfl (pgs_cons (pg_name (i := 1) sc_tof.nd rfl (.inr rfl)) (pgs_cons (pg_name (i := 2) sc_tof.nd rfl (.inl rfl)) pgs_nil))))
          (pss_cons (ps_if (pt_cmpR op_eq (pv 1) pe_str (nomark _)) (pss_one (ps_ret (pe_join pe_str (pv 2)))) pss_nil)
          (pss_cons (ps_if (pt_cmpR op_in_seq (pv 1) (pe_glob (v := .ref _) rfl T.g_JOINTS rfl) rfl) (pss_one (ps_ret (pe_join (pe_joined (.cons pe_str (.cons (pe_fmt (pv 1)) (.cons pe_str .nil)))) (pe_lc (own := [("one", 3)]) (g := gName 3) (tt := tYes) (te := tCall (spUnd d) [] E0 (tCons (tVar 3) (tCons (tVar 1) tNil))) rfl sc_tof.nd (pi_tup (pv 2)) (blkOk_by (own := [("one", 3)]) (N := n_tof) (sc := defScope s_tof) (by decide +kernel)) (fun _ _ _ _ _ => (pg_name (i := 3) sc_tof.nd rfl (.inl rfl))) (fun _ _ _ _ _ => pts_nil)
            (fun _ _ _ _ _ => (pe_call G_under hr rfl T.g_under T.k_under b_under .nil pass0 (pa_cons (pv 3) (pa_cons (pv 1) pa_nil)))))))) pss_nil)
          (pss_one (ps_ret (pe_joined (.cons (pe_fmt (pv 1)) (.cons pe_str (.cons (pe_fmt (pe_call G_under hr rfl T.g_under T.k_under b_under .nil pass0 (pa_cons (pv 2) (pa_cons (pv 1) pa_nil)))) .nil))))))))), ?_⟩
        have hl := txt_len p
        match p, hv, hw, hd, hz, q, hl with
        | .atom ws, hv, hw, hd, hz, q, hl =>
          cases hv with
          | @atom a u _ h1 h2 =>
            refine ⟨_, rfl, a, _, rfl, SqT.of h1, rfl, _, _, rfl, _, _, rfl, rfl, ?_⟩
            refine ⟨_, rfl, rfl, _, rfl, iteT ?_⟩
            refine ⟨⟨_, rfl⟩, _, rfl, _, u, ws, rfl, rfl, .inr (SqT.of h2), ?_, ?_⟩
            · have := lenS_sum ws
              have hz' : 1 + lenS ws ≤ 1000000 := hz
              rw [sp1]
              omega
            · rw [TL.join_eq]
              exact q H (Same.refl _)
        | .un h p0, hv, hw, hd, hz, q, hl =>
          obtain ⟨hm, hw0⟩ := wf_un hw
          cases hv with
          | @un a _ u _ h1 h2 =>
            have hd' : ht p0 + 1 < d + 1 := hd
            have hz' : h.length + 5 + Qp.wt p0 ≤ 1000000 := hz
            have n1 : ¬ h = "atom" := fun e => by
              rw [e] at hm
              exact absurd hm (by decide +kernel)
            have n2 : h ∉ Qp.jts := fun e => by
              simp only [List.mem_cons, List.not_mem_nil, or_false] at hm e
              rcases hm with rfl | rfl | rfl <;> exact absurd e (by decide +kernel)
            refine ⟨_, rfl, a, _, rfl, SqT.of h1, rfl, _, _, rfl, _, _, rfl, rfl, ?_⟩
            refine ⟨_, rfl, rfl, _, rfl, ?_⟩
            rw [decide_eq_false (fun e => n1 (V.str.inj e))]
            refine iteF ⟨_, rfl, aj, _, rfl, .inr (T.jts.at_ H), rfl, flat_strs _, _, rfl, ?_⟩
            rw [if_neg Bool.false_ne_true, inV_list, decide_eq_false n2]
            refine iteF ?_
            have hul := und_len p0 h
            have htl := txt_len p0
            refine ⟨_, rfl, .inl ⟨h, rfl, by rw [sizeLine_eq]; omega, ?_⟩⟩
            refine ⟨h, rfl, by rw [empty_app, sizeLine_eq]; omega, " ", rfl, by rw [empty_app, len_app, sp1, sizeLine_eq]; omega, ?_⟩
            refine ⟨_, rfl, _, rfl, u, p0, h, rfl, h2, hw0, by omega, by omega, fun H' S => .inl ⟨undT p0 h, rfl, by rw [sizeLine_eq]; omega, ?_⟩⟩
            refine ⟨undT p0 h, rfl, by rw [empty_app, len_app, len_app, sp1, sizeLine_eq]; omega, ?_⟩
            rw [empty_app]
            exact q H' S
        | .jo j ps, hv, hw, hd, hz, q, hl =>
          obtain ⟨hm, hw0⟩ := wf_jo hw
          cases hv with
          | @jo a t _ vs _ h1 h2 h3 =>
            have hd' : hts ps + 1 < d + 1 := hd
            have hz' : wts j ps ≤ 1000000 := hz
            have n1 : ¬ j = "atom" := fun e => by
              rw [e] at hm
              exact absurd hm (by decide +kernel)
            have hjl := jts_len2 hm
            have h3l := h3.len
            refine ⟨_, rfl, a, _, rfl, SqT.of h1, rfl, _, _, rfl, _, _, rfl, rfl, ?_⟩
            refine ⟨_, rfl, rfl, _, rfl, ?_⟩
            rw [decide_eq_false (fun e => n1 (V.str.inj e))]
            refine iteF ⟨_, rfl, aj, _, rfl, .inr (T.jts.at_ H), rfl, flat_strs _, _, rfl, ?_⟩
            rw [if_neg Bool.false_ne_true, inV_list, decide_eq_true hm]
            refine iteT ?_
            refine ⟨" ", rfl, by rw [empty_app, sp1, sizeLine_eq]; omega, _, rfl, .inl ⟨j, rfl, by rw [sizeLine_eq]; omega, ?_⟩⟩
            refine ⟨j, rfl, by rw [empty_app, len_app, sp1, sizeLine_eq]; omega, " ", rfl, by rw [empty_app, len_app, len_app, sp1, sizeLine_eq]; omega, ?_⟩
            rw [empty_app]
            refine ⟨⟨_, rfl⟩, _, rfl, t, rfl, ⟨_, SqT.of h2⟩, fun D nD => ?_⟩
            have kp : ∀ {Hi : Hp}, (∀ b o, b ≠ D → H b = some o → Hi b = some o) → Same H Hi := fun k b o e => k b o (ne_of_none e nD) e
            have hts' := txts_len j ps
            have htl := txts_length j ps
            refine lc_tup (K := K) (a := t) (xs := vs) (fun i Hi => (∀ b o, b ≠ D → H b = some o → Hi b = some o) ∧ Hi D = some (.lst (((txts j ps).take i).map V.str)))
              ⟨fun b o z e => (upd_ne z).trans e, upd_same⟩ (fun i Hi _ p => SqT.of ((kp p.1) _ _ h2)) (fun i x Hi hx p => ?_) (fun Hi p => ?_)
            · obtain ⟨p0, hp0, hv0⟩ := h3.get hx
              have hi : i < vs.length := (List.getElem?_eq_some_iff.mp hx).1
              have g1 := hts_get hp0
              have g2 := wfs_get hw0 hp0
              have g3 := wts_get (j := j) hp0
              refine ⟨rfl, keep1' ?_⟩
              refine ⟨_, rfl, _, rfl, x, p0, j, rfl, hv0.mono (fun b xs e => kp p.1 _ _ e), g2, by omega, by omega, fun H2 S2 => ?_⟩
              refine ⟨_, S2 _ _ p.2, ?_, fun b o z e => (upd_ne z).trans (S2 _ _ (p.1 b o z e)), ?_⟩
              · have : vs.length ≤ 1000000 := by
                  have := jts_len j ps
                  omega
                rw [List.length_map, List.length_take, sizeLine_eq]
                omega
              · rw [upd_same, take_snoc (txts_get hp0), List.map_append]
                rfl
            · have eD := p.2
              rw [h3l, ← htl, List.take_length] at eD
              refine ⟨_, D, txts j ps, rfl, rfl, .inl (SqL.of eD), ?_, ?_⟩
              · rw [len_app, len_app, sp1]
                omega
              · rw [TL.join_eq]
                exact q Hi (kp p.1)
    exact G'
end
end N7

set_option linter.all false
set_option maxRecDepth 100000
set_option maxHeartbeats 8000000
set_option pp.maxSteps 150
namespace N7
open PySem PySem.Spec PyProof.Rows L2 Gx Qp Qh
/-! ### atoms, outer conditions, depths -/
/-- a walk with any body -/
theorem lc_gen {J : It} {n : Nat} {G : Hp → Prop} {Y : Nat → Hp → V → Hp → Prop} (w : Walk J n G Y) {H0 : Hp} {Qd : Hp → Prop} {B : V → Hp → (Hp → Prop) → Prop} (Pv : Nat → Hp → Prop) (h0 : Pv 0 H0) (hG : ∀ i H, i ≤ n → Pv i H → G H)
    (hs : ∀ i x H H', i < n → Pv i H → Y i H x H' → B x H' (Pv (i + 1))) (hd : ∀ H, Pv n H → Qd H) :
    ∃ W : Nat → Nat → Hp → Prop, (∃ m, W 0 m H0) ∧ ∀ i m H, W i m H → (J.stop i H ∧ Qd H) ∨ (J.go i H ∧ ∃ Nx : Hp → Prop, (∀ H', Nx H' → ∃ m', m' < m ∧ W (i + 1) m' H') ∧ ∀ x H', J.yld i H x H' → B x H' Nx) := by
  refine ⟨fun i m H => m = n - i ∧ i ≤ n ∧ Pv i H, ⟨n, by omega, Nat.zero_le _, h0⟩, ?_⟩
  rintro i m H ⟨rfl, hi, p⟩
  have g := hG i H hi p
  by_cases lt : i < n
  · exact .inr ⟨w.goes i H lt g, Pv (i + 1), fun H' p' => ⟨n - (i + 1), by omega, rfl, lt, p'⟩, fun x H' y => hs i x H H' lt p (w.yields i H x H' lt g y)⟩
  · obtain rfl : i = n := by omega
    exact .inl ⟨w.stops H g, hd H p⟩
abbrev s_ato : Stmt := topS 20
abbrev n_ato : List Str := ["part", "head", "under", "one", "atom"]
theorem sc_ato : FnScope n_ato ["part"] (defScope s_ato) := ⟨rfl, rfl, rfl, by decide +kernel, rfl, by decide +kernel, by decide +kernel⟩
structure NmAt (mg : Str → Option Value) (K : PySem.W.Frag) (fa ao : Addr) : Prop where
  g_ato : mg "atoms_of" = some (.ref fa)
  k_ato : PySem.W.keepIn K (.ref fa) = true
  g_OUTER : mg "OUTER" = some (.ref ao)
  out : HdK K ao out
def spAts (d : Nat) : Sp := fun vs H Q _ => ∃ (v : V) (p : Pt), vs = [v] ∧ PtAt H v p ∧ wf p = true ∧ ht p < d ∧ Qp.wt p ≤ 1000000 ∧ ∀ (l : Addr) (us : List V) (H' : Hp), Same H H' → H l = none → H' l = some (.lst us) → PtsAt H' us (ats p) → Q (.ref l) H'
theorem atss_part : ∀ (ps : List Pt) (i : Nat) (p : Pt), ps[i]? = some p → atss (ps.take (i + 1)) = atss (ps.take i) ++ ats p
  | [], i, p, h => by simp at h
  | q :: ps, 0, p, h => by
    cases h
    show ats q ++ atss (ps.take 0) = [] ++ ats q
    rw [List.take_zero]
    show ats q ++ [] = _
    rw [List.append_nil, List.nil_append]
  | q :: ps, i + 1, p, h => by
    have ih := atss_part ps i p h
    show ats q ++ atss (ps.take (i + 1)) = (ats q ++ atss (ps.take i)) ++ ats p
    rw [ih, List.append_assoc]
theorem atss_take (j : Str) (ps : List Pt) (i : Nat) : (atss (ps.take i)).length ≤ wts j ps := by
  have h1 := atss_len j (ps.take i)
  have h2 : ∀ (ps : List Pt) (i : Nat), wts j (ps.take i) ≤ wts j ps := by
    intro ps
    induction ps with
    | nil => intro i; rw [List.take_nil]; exact Nat.le_refl _
    | cons p ps ih =>
      intro i
      cases i with
      | zero => exact Nat.zero_le _
      | succ i =>
        have := ih i
        show wt p + j.length + 6 + wts j (ps.take i) ≤ wt p + j.length + 6 + wts j ps
        omega
  exact Nat.le_trans h1 (h2 ps i)
section
variable {P : Program} {w : World} {K : PySem.W.Frag} {mg : Str → Option Value} {base : Heap} {fe fu ft aj fa ao : Addr}
theorem ok_ato {fda : FuncData} (F : Fun K "atoms_of" "atoms_of" s_ato fa fda) (T : NmTx mg K fe fu ft aj) (TA : NmAt mg K fa ao) (b_ato : Binds K fda ["part"] []) : ∀ d, FnOk P w K mg base CX0 (d + 1) fa fda ["part"] (spAts d) := by
  intro d
  induction d with
  | zero =>
    exact ⟨fun vs H Q E h => by
      obtain ⟨v, p, rfl, _⟩ := h
      rfl, fun A outer s H args us vs Q E _ _ _ _ h => by
      obtain ⟨v, p, _, _, _, h0, _⟩ := h
      exact absurd h0 (Nat.not_lt_zero _)⟩
  | succ d G_ato =>
    refine F.ok sc_ato (fun vs H Q E h => ?_) (fun cdv A outer s H vs Q E hr h => ?_)
    · obtain ⟨v, p, rfl, _⟩ := h
      rfl
    · obtain ⟨v, p, rfl, hv, hw, hd, hz, q⟩ := h
      refine ⟨_, (pss_cons (ps_asg (pv 0) (pg_tup rfl (pgs_cons (pg_name (i := 1) sc_ato.nd rfl (.inl rfl)) (pgs_cons (pg_name (i := 2) sc_ato.nd rfl (.inl rfl)) pgs_nil))))
        (pss_cons (ps_if (pt_cmpR op_eq (pv 1) pe_str (nomark _)) (pss_one (ps_ret (pe_lst (pa_cons (pv 0) pa_nil)))) pss_nil)
        (pss_cons (ps_if (pt_cmpR op_in_seq (pv 1) (pe_glob (v := .ref _) rfl T.g_JOINTS rfl) rfl) (pss_one (ps_ret (pe_lc2 (own := [("one", 3), ("atom", 4)]) (vs1 := [4]) (g := gName 3) (g1 := gName 4) (tt := tYes) (tt1 := tYes) (te := tVar 4) (wi1 := iList K (tCall (spAts d) [] E0 (tCons (tVar 3) tNil))) rfl sc_ato.nd (pi_tup (pv 2)) (blkOk_by (own := [("one", 3), ("atom", 4)]) (N := n_ato) (sc := defScope s_ato) (by decide +kernel)) (by decide) (fun _ _ _ _ _ => (pg_name (i := 3) sc_ato.nd rfl (.inl rfl))) (fun _ _ _ _ _ => pts_nil)
          (fun _ _ _ _ _ => pi_list (pe_call G_ato hr rfl TA.g_ato TA.k_ato b_ato .nil pass0 (pa_cons (pv 3) pa_nil))) (fun _ _ _ _ _ => (pg_name (i := 4) sc_ato.nd rfl (.inl rfl))) (fun _ _ _ _ _ => pts_nil) (fun _ _ _ _ _ => (pv 4))))) pss_nil)
        (pss_cons (ps_if (pt_cmpR op_in_seq (pv 1) (pe_glob (v := .ref _) rfl TA.g_OUTER rfl) rfl) (pss_one (ps_ret (pe_op op_cat (pe_lst (pa_cons (pv 0) pa_nil)) (pe_call G_ato hr rfl TA.g_ato TA.k_ato b_ato .nil pass0 (pa_cons (pv 2) pa_nil))))) pss_nil)
        (pss_one (ps_ret (pe_call G_ato hr rfl TA.g_ato TA.k_ato b_ato .nil pass0 (pa_cons (pv 2) pa_nil)))))))), ?_⟩
      match p, hv, hw, hd, hz, q with
      | .atom ws, hv, hw, hd, hz, q =>
        have hv0 := hv
        cases hv with
        | @atom a u _ h1 h2 =>
          refine ⟨_, rfl, a, _, rfl, SqT.of h1, rfl, _, _, rfl, _, _, rfl, rfl, ?_⟩
          refine ⟨_, rfl, rfl, _, rfl, iteT ?_⟩
          refine ⟨_, rfl, (by show 1 ≤ sizeLine; decide), fun l nl => ?_⟩
          exact q l _ _ (new_same nl) nl upd_same (.cons (hv0.mono fun b xs e => new_same nl _ _ e) .nil)
      | .un h p0, hv, hw, hd, hz, q =>
        have hv0 := hv
        obtain ⟨hm, hw0⟩ := wf_un hw
        cases hv with
        | @un a _ u _ h1 h2 =>
          have hd' : ht p0 + 1 < d + 1 := hd
          have hz' : h.length + 5 + Qp.wt p0 ≤ 1000000 := hz
          have n1 : ¬ h = "atom" := fun e => by
            rw [e] at hm
            exact absurd hm (by decide +kernel)
          have n2 : h ∉ Qp.jts := fun e => by
            simp only [List.mem_cons, List.not_mem_nil, or_false] at hm e
            rcases hm with rfl | rfl | rfl <;> exact absurd e (by decide +kernel)
          refine ⟨_, rfl, a, _, rfl, SqT.of h1, rfl, _, _, rfl, _, _, rfl, rfl, ?_⟩
          refine ⟨_, rfl, rfl, _, rfl, ?_⟩
          rw [decide_eq_false (fun e => n1 (V.str.inj e))]
          refine iteF ⟨_, rfl, aj, _, rfl, .inr (T.jts.at_ H), rfl, flat_strs _, _, rfl, ?_⟩
          rw [if_neg Bool.false_ne_true, inV_list, decide_eq_false n2]
          refine iteF ⟨_, rfl, ao, _, rfl, .inr (TA.out.at_ H), rfl, flat_strs _, _, rfl, ?_⟩
          rw [if_neg Bool.false_ne_true, inV_list]
          have hal := ats_len p0
          have hats : ats (.un h p0) = (if h ∈ Qp.out then [Pt.un h p0] else []) ++ ats p0 := rfl
          rw [hats] at q
          by_cases ho : h ∈ Qp.out
          · rw [decide_eq_true ho]
            rw [if_pos ho] at q
            refine iteT ?_
            refine ⟨_, rfl, (by show 1 ≤ sizeLine; decide), fun l1 nl1 => ?_⟩
            have S1 := new_same (o := .lst [.ref a]) nl1
            have e1 : upd H l1 (.lst [.ref a]) l1 = some (.lst [.ref a]) := upd_same
            generalize upd H l1 (.lst [.ref a]) = H1 at *
            refine ⟨_, rfl, u, p0, rfl, h2.mono (fun b xs e => S1 _ _ e), hw0, by omega, by omega, fun l2 us H2 S2 nl2 e2 hus => ?_⟩
            have hul := hus.len
            refine ⟨l1, l2, _, _, rfl, rfl, S2 _ _ e1, e2, by rw [sizeLine_eq]; show 1 + _ ≤ _; omega, fun l3 nl3 => ?_⟩
            have S3 := new_same (o := .lst ([V.ref a] ++ us)) nl3
            have S13 := S1.trans (S2.trans S3)
            exact q l3 _ _ S13 (S1.free (S2.free nl3)) upd_same (.cons (hv0.mono fun b xs e => S13 _ _ e) (hus.mono fun b xs e => S3 _ _ e))
          · rw [decide_eq_false ho]
            rw [if_neg ho] at q
            refine iteF ?_
            exact ⟨_, rfl, u, p0, rfl, h2, hw0, by omega, by omega, q⟩
      | .jo j ps, hv, hw, hd, hz, q =>
        obtain ⟨hm, hw0⟩ := wf_jo hw
        cases hv with
        | @jo a t _ vs _ h1 h2 h3 =>
          have hd' : hts ps + 1 < d + 1 := hd
          have hz' : wts j ps ≤ 1000000 := hz
          have n1 : ¬ j = "atom" := fun e => by
            rw [e] at hm
            exact absurd hm (by decide +kernel)
          have h3l := h3.len
          refine ⟨_, rfl, a, _, rfl, SqT.of h1, rfl, _, _, rfl, _, _, rfl, rfl, ?_⟩
          refine ⟨_, rfl, rfl, _, rfl, ?_⟩
          rw [decide_eq_false (fun e => n1 (V.str.inj e))]
          refine iteF ⟨_, rfl, aj, _, rfl, .inr (T.jts.at_ H), rfl, flat_strs _, _, rfl, ?_⟩
          rw [if_neg Bool.false_ne_true, inV_list, decide_eq_true hm]
          refine iteT ?_
          refine ⟨_, rfl, t, rfl, ⟨_, SqT.of h2⟩, fun D nD => ?_⟩
          have kp : ∀ {Hi : Hp}, (∀ b o, b ≠ D → H b = some o → Hi b = some o) → Same H Hi := fun k b o e => k b o (ne_of_none e nD) e
          have tkD : ∀ {Hi : Hp} {xs : List V} (o : HO), Hi D = some (.lst xs) → ∀ b us, Hi b = some (.tup us) → upd Hi D o b = some (.tup us) := fun o e b us eb => (upd_ne (ne_of eb e fun z => nomatch z)).trans eb
          refine lc_gen (walk_tup (K := K) (a := t) (xs := vs)) (fun i Hi => (∀ b o, b ≠ D → H b = some o → Hi b = some o) ∧ ∃ us, Hi D = some (.lst us) ∧ PtsAt Hi us (atss (ps.take i)))
            ⟨fun b o z e => (upd_ne z).trans e, [], upd_same, .nil⟩ (fun i Hi _ p => SqT.of ((kp p.1) _ _ h2)) (fun i x Hi Hi' hi p y => ?_) (fun Hi p => ?_)
          · obtain ⟨rfl, hx⟩ := y
            obtain ⟨k1, us, eD, hus⟩ := p
            obtain ⟨p0, hp0, hv0⟩ := h3.get hx
            have g1 := hts_get hp0
            have g2 := wfs_get hw0 hp0
            have g3 := wts_get (j := j) hp0
            refine ⟨rfl, keep1' ?_⟩
            refine ⟨_, rfl, x, p0, rfl, hv0.mono (fun b xs e => kp k1 _ _ e), g2, by omega, by omega, fun l ls H2 S2 nl el hls => ⟨l, rfl, ⟨_, SqL.of el⟩, ?_⟩⟩
            have hll := hls.len
            have hal := ats_len p0
            have lD : l ≠ D := fun e => by rw [e, eD] at nl; cases nl
            refine lc_gen (walk_list (K := K) (a := l) (xs := ls)) (fun u Hu => (∀ b o, b ≠ D → H2 b = some o → Hu b = some o) ∧ Hu D = some (.lst (us ++ ls.take u)))
              ⟨fun b o _ e => e, by rw [List.take_zero, List.append_nil]; exact S2 _ _ eD⟩ (fun u Hu _ p => SqL.of (p.1 _ _ lD el)) (fun u y Hu Hu' hu p yy => ?_) (fun Hu p => ?_)
            · obtain ⟨rfl, hy⟩ := yy
              refine ⟨rfl, keep1' ?_⟩
              refine ⟨_, rfl, _, p.2, ?_, fun b o z e => (upd_ne z).trans (p.1 b o z e), ?_⟩
              · have h4 := hus.len
                have h5 := atss_take j ps i
                rw [List.length_append, List.length_take, sizeLine_eq]
                omega
              · rw [upd_same, take_snoc hy, List.append_assoc]
            · obtain ⟨k2, e2⟩ := p
              rw [List.take_length] at e2
              have tk : ∀ b xs, H2 b = some (.tup xs) → Hu b = some (.tup xs) := fun b xs e => k2 b _ (ne_of e (S2 _ _ eD) fun z => nomatch z) e
              refine ⟨fun b o z e => k2 b o z (S2 _ _ (k1 b o z e)), us ++ ls, e2, ?_⟩
              rw [atss_part ps i p0 hp0]
              exact (hus.mono fun b xs e => tk _ _ (S2 _ _ e)).app (hls.mono tk)
          · obtain ⟨k1, us, eD, hus⟩ := p
            rw [h3l, List.take_length] at hus
            exact q D us Hi (kp k1) nD eD hus
end
end N7

set_option linter.all false
set_option maxRecDepth 100000
set_option maxHeartbeats 8000000
set_option pp.maxSteps 150
namespace N7
open PySem PySem.Spec PyProof.Rows L2 Gx Qp Qh
abbrev s_depth : Stmt := topS 19
abbrev n_depth : List Str := ["words", "deepest", "held", "depth", "heads", "word"]
theorem sc_depth : FnScope n_depth ["words"] (defScope s_depth) := ⟨rfl, rfl, rfl, by decide +kernel, rfl, by decide +kernel, by decide +kernel⟩
structure NmDp (mg : Str → Option Value) (K : PySem.W.Frag) (ah : Addr) : Prop where
  g_HEADS : mg "HEADS" = some (.ref ah)
  hds : HdK K ah hds
  n_max : mg "max" = none
/-- no parenthesis closes that was not opened -/
def bal : Nat → List Str → Prop
  | _, [] => True
  | n, w :: ws => if w ∈ hds then bal n ws else if w = "(" then bal (n + 1) ws else if w = ")" then 0 < n ∧ bal (n - 1) ws else bal n ws
def spDepth (K : PySem.W.Frag) : Sp := fun vs H Q _ => ∃ (l : Addr) (ws : List Str), vs = [.ref l] ∧ SqT K H l (ws.map V.str) ∧ bal 0 ws ∧ ws.length ≤ 10000 ∧ ∀ H' : Hp, Same H H' → Q (.int (depthW ws : Nat)) H'
theorem drun_snoc (d : DS) (ws : List Str) (w : Str) : drun d (ws ++ [w]) = dstep (drun d ws) w := by
  induction ws generalizing d with
  | nil => rfl
  | cons x ws ih => exact ih (dstep d x)
theorem max_eq (a b : Nat) : (if ((b : Nat) : Int) > ((a : Nat) : Int) then ((b : Nat) : Int) else ((a : Nat) : Int)) = ((max a b : Nat) : Int) := by
  split <;> omega
section
variable {P : Program} {w : World} {K : PySem.W.Frag} {mg : Str → Option Value} {base : Heap} {fe fu ft aj fa ao ah : Addr}
theorem ok_depth {f : Addr} {fd : FuncData} (F : Fun K "depth_of" "depth_of" s_depth f fd) (T : NmDp mg K ah) : FnOk P w K mg base CX0 1 f fd ["words"] (spDepth K) := by
  refine F.ok sc_depth (fun vs H Q E h => ?_) (fun cdv A outer s H vs Q E hr h => ?_)
  · obtain ⟨l, ws, rfl, _⟩ := h
    rfl
  · obtain ⟨l, ws, rfl, hl, hb, hn, q⟩ := h
    refine ⟨_, (pss_cons (ps_set (i := 1) sc_depth.nd rfl (.inl rfl) pe_int)
      (pss_cons (ps_set (i := 2) sc_depth.nd rfl (.inl rfl) (pe_lst pa_nil))
      (pss_cons (ps_set (i := 3) sc_depth.nd rfl (.inl rfl) pe_int)
      (pss_cons (ps_set (i := 4) sc_depth.nd rfl (.inl rfl) pe_int)
      (pss_cons (ps_for PassesOwn.never rfl (pi_tup (pv 0)) (pg_name (i := 5) sc_depth.nd rfl (.inl rfl))
        (C8.pss_cut (ps_if (pt_cmpR op_in_seq (pv 5) (pe_glob (v := .ref _) rfl T.g_HEADS rfl) rfl) (pss_one (ps_aug (i := 4) sc_depth.nd rfl (.inl rfl) pe_int ip_add))
          (pss_one (ps_if (pt_cmpR op_eq (pv 5) pe_str (nomark _)) (pss_cons (ps_expr (pe_bm PySem.F.plainAttrs_list PySem.F.slot_list_append PySem.F.type_list_append mt_append (pv 2) (pa_cons (pe_op op_add (pv 4) pe_int) pa_nil)))
              (pss_cons (ps_set (i := 3) sc_depth.nd rfl (.inl rfl) (pe_op op_add (pe_op op_add (pv 3) (pv 4)) pe_int))
              (pss_one (ps_set (i := 4) sc_depth.nd rfl (.inl rfl) pe_int))))
            (pss_cons (ps_if (pt_cmpR op_eq (pv 5) pe_str (nomark _)) (pss_one (ps_set (i := 3) sc_depth.nd rfl (.inl rfl) (pe_op op_sub (pv 3) (pe_bm0 PySem.F.plainAttrs_list PySem.F.slot_list_pop PySem.F.type_list_pop mt_pop (pv 2))))) pss_nil)
            (pss_one (ps_set (i := 4) sc_depth.nd rfl (.inl rfl) pe_int))))))
        (pss_one (ps_set (i := 1) sc_depth.nd rfl (.inl rfl) (pe_callB (call_max2 rfl) (by rfl) T.n_max (by decide +kernel) (pa_cons (pv 1) (pa_cons (pe_op op_add (pv 3) (pv 4)) pa_nil)))))))
      (pss_one (ps_ret (pv 1)))))))), ?_⟩
    refine ⟨Nat.zero_le _, fun Lh nL => ?_⟩
    have S1 := new_same (o := .lst []) nL
    have eL : upd H Lh (.lst []) Lh = some (.lst []) := upd_same
    generalize upd H Lh (.lst []) = H1 at *
    have hl1 := sqT_mono S1 hl
    refine ⟨_, rfl, l, rfl, ⟨_, hl1⟩, ?_⟩
    have kp : ∀ {Hi : Hp}, (∀ b o, b ≠ Lh → H1 b = some o → Hi b = some o) → Same H Hi := fun k b o e => k b o (ne_of_none e nL) (S1 _ _ e)
    refine for_tup (K := K) (a := l) (xs := ws.map V.str) (fun i σ Hi => (∀ b o, b ≠ Lh → H1 b = some o → Hi b = some o) ∧ ∃ (d : DS) (b5 : Option V), d = drun ⟨0, [], 0, 0⟩ (ws.take i) ∧ σ = [some (.ref l), some (.int (d.deepest : Nat)), some (.ref Lh), some (.int (d.depth : Nat)), some (.int (d.heads : Nat)), b5] ∧ Hi Lh = some (.lst (d.held.map fun n => V.int (n : Nat)).reverse) ∧ d.depth = d.held.sum ∧ bal d.held.length (ws.drop i) ∧ d.held.length ≤ i)
      ⟨fun _ _ _ e => e, ⟨0, [], 0, 0⟩, none, rfl, rfl, eL, rfl, hb, Nat.le_refl _⟩ (fun i σ Hi _ p => sqT_mono (kp p.1) hl) (fun i x σ Hi hx p => ?_) (fun σ Hi p => ?_)
    · obtain ⟨k1, d, b5, hd, rfl, eH, hsum, hbal, hhl⟩ := p
      obtain ⟨wd, hwd, rfl⟩ := map_get hx
      have hi : i < ws.length := (List.getElem?_eq_some_iff.mp hwd).1
      have hdrop : ws.drop i = wd :: ws.drop (i + 1) := by
        rw [List.drop_eq_getElem_cons hi, (List.getElem?_eq_some_iff.mp hwd).2]
      rw [hdrop] at hbal
      have hnext : drun ⟨0, [], 0, 0⟩ (ws.take (i + 1)) = dstep d wd := by rw [take_snoc hwd, drun_snoc, ← hd]
      refine ⟨fun σ Hx => (∀ b o, b ≠ Lh → H1 b = some o → Hx b = some o) ∧ ∃ (dep hd' : Nat) (hl' : List Nat), σ = [some (.ref l), some (.int (d.deepest : Nat)), some (.ref Lh), some (.int (dep : Nat)), some (.int (hd' : Nat)), some (.str wd)] ∧ dstep d wd = ⟨max d.deepest (dep + hd'), hl', dep, hd'⟩ ∧ Hx Lh = some (.lst (hl'.map fun n => V.int (n : Nat)).reverse) ∧ dep = hl'.sum ∧ bal hl'.length (ws.drop (i + 1)) ∧ hl'.length ≤ i + 1, ?_, ?_⟩
      rotate_left
      · rintro σ Hx ⟨kx, dep, hd', hl', rfl, hst, eX, hs', hb', hle⟩
        refine ⟨_, rfl, _, rfl, _, rfl, _, _, rfl, rfl, _, _, rfl, kx, dstep d wd, some (.str wd), hnext.symm, ?_, ?_, ?_, ?_, ?_⟩
        · rw [hst]
          have e1 : ((dep : Nat) : Int) + ((hd' : Nat) : Int) = ((dep + hd' : Nat) : Int) := (Int.natCast_add _ _).symm
          show [some (V.ref l), some (V.int (if ((dep : Nat) : Int) + ((hd' : Nat) : Int) > ((d.deepest : Nat) : Int) then ((dep : Nat) : Int) + ((hd' : Nat) : Int) else ((d.deepest : Nat) : Int))), some (V.ref Lh), some (V.int ((dep : Nat) : Int)), some (V.int ((hd' : Nat) : Int)), some (V.str wd)] = _
          rw [e1, max_eq]
        · rw [hst]
          exact eX
        · rw [hst]
          exact hs'
        · rw [hst]
          exact hb'
        · rw [hst]
          exact hle
      refine ⟨_, rfl, ah, _, rfl, .inr (T.hds.at_ Hi), rfl, flat_strs _, _, rfl, ?_⟩
      rw [if_neg Bool.false_ne_true, inV_list]
      by_cases h1 : wd ∈ Qp.hds
      · rw [decide_eq_true h1]
        refine iteT ?_
        have hb2 : bal d.held.length (ws.drop (i + 1)) := by
          have := hbal
          unfold bal at this
          rw [if_pos h1] at this
          exact this
        refine ⟨_, rfl, _, _, rfl, rfl, k1, d.depth, d.heads + 1, d.held, rfl, ?_, eH, hsum, hb2, by omega⟩
        unfold dstep
        rw [if_pos h1]
      · rw [decide_eq_false h1]
        refine iteF ?_
        refine ⟨_, rfl, rfl, _, rfl, ite2 (fun h => ?_) (fun h => ?_)⟩
        · have h2 : wd = "(" := V.str.inj (of_decide_eq_true h)
          have hb2 : bal (d.held.length + 1) (ws.drop (i + 1)) := by
            have := hbal
            unfold bal at this
            rw [if_neg h1, if_pos h2] at this
            exact this
          refine ⟨_, rfl, .inl ⟨rfl, _, SqL.of eH⟩, _, rfl, _, _, rfl, rfl, Lh, _, _, rfl, rfl, eH, by rw [List.length_reverse, List.length_map, sizeLine_eq]; omega, ?_⟩
          refine ⟨_, rfl, _, rfl, _, _, rfl, rfl, _, _, rfl, rfl, fun b o z e => (upd_ne z).trans (k1 b o z e), d.depth + d.heads + 1, 0, (d.heads + 1) :: d.held, ?_, ?_, ?_, ?_, hb2, by rw [List.length_cons]; omega⟩
          · rfl
          · unfold dstep
            rw [if_neg h1, if_pos h2]
          · rw [upd_same, List.map_cons, List.reverse_cons]
            rfl
          · rw [List.sum_cons]
            omega
        · have h2 : ¬ wd = "(" := fun e => h (by rw [e]; exact decide_eq_true rfl)
          refine ⟨_, rfl, rfl, _, rfl, ite2 (fun h => ?_) (fun h => ?_)⟩
          · have h3 : wd = ")" := V.str.inj (of_decide_eq_true h)
            have hb2 : 0 < d.held.length ∧ bal (d.held.length - 1) (ws.drop (i + 1)) := by
              have := hbal
              unfold bal at this
              rw [if_neg h1, if_neg h2, if_pos h3] at this
              exact this
            cases hh : d.held with
            | nil => rw [hh] at hb2; exact absurd hb2.1 (by simp)
            | cons x xs =>
              rw [hh] at eH hsum hb2 hhl
              rw [List.sum_cons] at hsum
              rw [List.length_cons] at hhl
              have eH' : Hi Lh = some (.lst (V.int (x : Nat) :: xs.map fun n => V.int (n : Nat)).reverse) := eH
              refine ⟨_, rfl, _, rfl, .inl ⟨rfl, _, SqL.of eH'⟩, Lh, _, _, rfl, rfl, eH', rev_last _ _, ?_⟩
              refine ⟨_, _, rfl, rfl, fun b o z e => (upd_ne z).trans (k1 b o z e), d.depth - x, 0, xs, ?_, ?_, upd_same.trans (by rw [rev_drop]), by omega, hb2.2, by omega⟩
              · show [some (V.ref l), some (V.int (d.deepest : Nat)), some (V.ref Lh), some (V.int (((d.depth : Nat) : Int) - ((x : Nat) : Int))), some (V.int 0), some (V.str wd)] = _
                rw [show ((d.depth : Nat) : Int) - ((x : Nat) : Int) = ((d.depth - x : Nat) : Int) from by omega]
                rfl
              · unfold dstep
                rw [if_neg h1, if_neg h2, if_pos h3, hh]
                rfl
          · have h3 : ¬ wd = ")" := fun e => h (by rw [e]; exact decide_eq_true rfl)
            have hb2 : bal d.held.length (ws.drop (i + 1)) := by
              have := hbal
              unfold bal at this
              rw [if_neg h1, if_neg h2, if_neg h3] at this
              exact this
            refine ⟨k1, d.depth, 0, d.held, rfl, ?_, eH, hsum, hb2, by omega⟩
            unfold dstep
            rw [if_neg h1, if_neg h2, if_neg h3]
    · obtain ⟨k1, d, b5, hd, rfl, eH, hsum, hbal, hhl⟩ := p
      rw [List.length_map, List.take_length] at hd
      refine ⟨_, rfl, ?_⟩
      have := q Hi (kp k1)
      unfold depthW at this
      rw [← hd] at this
      exact this
end
end N7

set_option linter.all false
set_option maxRecDepth 100000
set_option maxHeartbeats 4000000
set_option pp.maxSteps 200
/-! what a written condition of kinds is read as, how many atoms, how deep -/
namespace N7
open PySem PyProof.Rows L2 Gx Qp
abbrev katw : List Str := ["some", "every", "first", "last", "then", "next", "count", "below"]
def nA : LT → Nat
  | .at _ => 1
  | .un _ t => nA t
  | .bi _ a b => nA a + nA b
theorem khs_hds {h : Str} (k : h ∈ khs) : h ∈ hds := by
  rw [List.mem_singleton.mp k]
  decide +kernel
def cO (j : Str) (t : LT) : Nat := if j = "and" ∧ hdT t = "or" then 1 else 0
def dL : LT → Nat
  | .at _ => 0
  | .un _ t => dL t + 1 + (if hdT t ∈ Qp.jts then 1 else 0)
  | .bi j a b => max (dL a + cO j a) (dL b + cO j b)
theorem cntW_app (a b s : List Str) : cntW (a ++ b) s = cntW a s + cntW b s := by
  unfold cntW
  rw [List.filter_append, List.length_append]
theorem cntW_cons (x : Str) (a s : List Str) : cntW (x :: a) s = (if x ∈ s then 1 else 0) + cntW a s := by
  unfold cntW
  rw [List.filter_cons]
  split
  · rename_i h
    rw [if_pos (of_decide_eq_true h), List.length_cons]
    omega
  · rename_i h
    rw [if_neg (fun z => h (decide_eq_true z)), Nat.zero_add]
theorem cnt_rep : ∀ ws : List Str, cntW ws katw = cntW (ws.map rep) katw
  | [] => rfl
  | w :: ws => by
    rw [List.map_cons, cntW_cons, cntW_cons, cnt_rep ws]
    congr 1
    unfold rep
    by_cases hk : kindB w = true
    · have n1 : w ∉ katw := fun e => by
        have := (by decide +kernel : ∀ w ∈ katw, kindB w = false) w e
        rw [hk] at this
        cases this
      rw [if_pos hk, if_neg n1, if_neg (by decide +kernel)]
    · rw [if_neg hk]
theorem cnt_clW (ws : List Str) : cntW (clW ws) katw = cntW ws katw := by
  unfold clW
  rw [cntW_cons, if_neg (by decide +kernel), cntW_app, cntW_cons, if_neg (by decide +kernel)]
  show 0 + (_ + (0 + 0)) = _
  omega
theorem cnt_cz (j : Str) (t : LT) (ws : List Str) (d : Nat) (c : Bool) : cntW (czW j t ws d c).1 katw = cntW ws katw := by
  unfold czW
  split
  · exact cnt_clW ws
  · rfl
theorem cnt_wr : ∀ {t : LT} {ws : List Str} {d : Nat} {c : Bool}, WrW t ws d c → wfT t → cntW ws katw = nA t
  | _, _, _, _, .at, w => by
    rw [cnt_rep]
    exact (by decide +kernel : ∀ f ∈ kfs, cntW f katw = 1) _ w.1
  | _, _, _, _, .un (h := h) hw _, w => by
    rw [cntW_cons, cnt_wr hw w.2, if_neg ((by decide +kernel : ∀ h ∈ khs, h ∉ katw) h w.1), Nat.zero_add]
    rfl
  | _, _, _, _, .unc (h := h) hw _, w => by
    rw [cntW_cons, cnt_clW, cnt_wr hw w.2, if_neg ((by decide +kernel : ∀ h ∈ khs, h ∉ katw) h w.1), Nat.zero_add]
    rfl
  | _, _, _, _, .bi (j := j) ha hb, w => by
    have hj : j ∉ katw := (by decide +kernel : ∀ j ∈ Qp.jts, j ∉ katw) j w.1
    rw [cntW_app, cntW_cons, if_neg hj, cnt_cz, cnt_cz, cnt_wr ha w.2.1, cnt_wr hb w.2.2, Nat.zero_add]
    rfl
  | _, _, _, _, .cl hw, w => by rw [cnt_clW, cnt_wr hw w]
/-! how deep -/
theorem drun_app (d : DS) (a b : List Str) : drun d (a ++ b) = drun (drun d a) b := by
  induction a generalizing d with
  | nil => rfl
  | cons w a ih => exact ih _
theorem dstep_hd {d : DS} {w : Str} (h : w ∈ hds) : dstep d w = ⟨max d.deepest (d.depth + (d.heads + 1)), d.held, d.depth, d.heads + 1⟩ := if_pos h
theorem dstep_op {d : DS} : dstep d "(" = ⟨max d.deepest (d.depth + d.heads + 1 + 0), (d.heads + 1) :: d.held, d.depth + d.heads + 1, 0⟩ := by
  unfold dstep
  rw [if_neg (by decide +kernel), if_pos rfl]
theorem dstep_cl {d : DS} : dstep d ")" = ⟨max d.deepest (d.depth - d.held.headD 0 + 0), d.held.tail, d.depth - d.held.headD 0, 0⟩ := by
  unfold dstep
  rw [if_neg (by decide +kernel), if_neg (by decide +kernel), if_pos rfl]
theorem dstep_pl {d : DS} {w : Str} (h : w ∉ hds ∧ w ≠ "(" ∧ w ≠ ")") : dstep d w = ⟨max d.deepest (d.depth + 0), d.held, d.depth, 0⟩ := by
  unfold dstep
  rw [if_neg h.1, if_neg h.2.1, if_neg h.2.2]
def DepW (ws : List Str) (d : Nat) (c : Bool) : Prop := ∀ (m : Nat) (hl : List Nat) (p k : Nat), p + k ≤ m → (c = false → k = 0) → drun ⟨m, hl, p, k⟩ ws = ⟨max m (p + k + d), hl, p, 0⟩
theorem dep_cl {ws : List Str} {d : Nat} {c : Bool} (h : DepW ws d c) : DepW (clW ws) (d + 1) true := fun m hl p k hm _ => by
  unfold clW
  rw [drun, dstep_op, drun_app]
  show drun (drun ⟨max m (p + k + 1 + 0), (k + 1) :: hl, p + k + 1, 0⟩ ws) [")"] = _
  rw [h _ _ _ _ (by omega) (fun _ => rfl), drun, dstep_cl, drun]
  show DS.mk (max (max (max m (p + k + 1 + 0)) (p + k + 1 + 0 + d)) (p + k + 1 - (k + 1) + 0)) hl (p + k + 1 - (k + 1)) 0 = _
  congr 1
  · omega
  · omega
theorem dep_cz {j : Str} {t : LT} {ws : List Str} {d : Nat} {c : Bool} (h : DepW ws d c) : DepW (czW j t ws d c).1 (czW j t ws d c).2.1 false := by
  unfold czW
  split
  · exact fun m hl p k hm hk => dep_cl h m hl p k hm (fun z => nomatch z)
  · exact fun m hl p k hm hk => h m hl p k hm (fun _ => hk rfl)
/-- words of atoms are neither heads nor parentheses -/
theorem at_plain {ws : List Str} (h : AtWs ws) : ∀ w ∈ ws, w ∉ hds ∧ w ≠ "(" ∧ w ≠ ")" := fun w hw => by
  have hf := form_word h.1 (List.mem_map_of_mem hw : rep w ∈ ws.map rep)
  unfold rep at hf
  by_cases hk : kindB w = true
  · refine ⟨fun e => ?_, fun e => ?_, fun e => ?_⟩
    · have := (by decide +kernel : ∀ w ∈ hds, kindB w = false) w e
      rw [hk] at this
      cases this
    · rw [e] at hk
      exact absurd hk (by decide +kernel)
    · rw [e] at hk
      exact absurd hk (by decide +kernel)
  · rw [if_neg hk] at hf
    rcases hf with e | e
    · rw [e] at hk
      exact absurd (by decide +kernel) hk
    · exact (by decide +kernel : ∀ w ∈ lits, w ∉ hds ∧ w ≠ "(" ∧ w ≠ ")") w e
theorem jt_plain {j : Str} (h : j ∈ Qp.jts) : j ∉ hds ∧ j ≠ "(" ∧ j ≠ ")" := (by decide +kernel : ∀ w ∈ Qp.jts, w ∉ hds ∧ w ≠ "(" ∧ w ≠ ")") j h
theorem dep_pl : ∀ (ws : List Str), (∀ w ∈ ws, w ∉ hds ∧ w ≠ "(" ∧ w ≠ ")") → ws ≠ [] → DepW ws 0 true
  | [], _, h => absurd rfl h
  | [w], hw, _ => fun m hl p k hm _ => by
    rw [drun, dstep_pl (hw w (List.mem_cons_self ..)), drun]
    show DS.mk (max m (p + 0)) hl p 0 = _
    congr 1
    omega
  | w :: x :: ws, hw, _ => fun m hl p k hm hk => by
    rw [drun, dstep_pl (hw w (List.mem_cons_self ..))]
    show drun ⟨max m (p + 0), hl, p, 0⟩ (x :: ws) = _
    rw [dep_pl (x :: ws) (fun y hy => hw y (List.mem_cons_of_mem _ hy)) (List.cons_ne_nil _ _) _ hl p 0 (by omega) (fun _ => rfl)]
    congr 1
    omega
theorem dep_wr : ∀ {t : LT} {ws : List Str} {d : Nat} {c : Bool}, WrW t ws d c → wfT t → DepW ws d c
  | _, _, _, _, .at, w => fun m hl p k hm hk => dep_pl _ (at_plain w) (fun e => absurd (at_pos w) (by rw [e]; exact Nat.lt_irrefl 0)) m hl p k hm hk
  | _, _, _, _, .un (h := h) (t := t) hw hj, w => fun m hl p k hm _ => by
    rw [drun, dstep_hd (khs_hds w.1)]
    show drun ⟨max m (p + (k + 1)), hl, p, k + 1⟩ _ = _
    have ih := dep_wr hw w.2 (max m (p + (k + 1))) hl p (k + 1) (by omega) (fun z => by
      cases hw with
      | «at» => exact nomatch z
      | un => exact nomatch z
      | unc => exact nomatch z
      | bi => exact absurd w.2.1 hj
      | cl => exact nomatch z)
    rw [ih]
    congr 1
    omega
  | _, _, _, _, .unc hw hj, w => fun m hl p k hm _ => by
    rw [drun, dstep_hd (khs_hds w.1)]
    show drun ⟨max m (p + (k + 1)), hl, p, k + 1⟩ _ = _
    rw [dep_cl (dep_wr hw w.2) (max m (p + (k + 1))) hl p (k + 1) (by omega) (fun z => nomatch z)]
    congr 1
    omega
  | _, _, _, _, .bi (j := j) ha hb, w => fun m hl p k hm hk => by
    obtain rfl := hk rfl
    rw [drun_app, dep_cz (dep_wr ha w.2.1) m hl p 0 hm (fun _ => rfl), drun, dstep_pl (jt_plain w.1)]
    show drun ⟨max (max m (p + 0 + _)) (p + 0), hl, p, 0⟩ _ = _
    rw [dep_cz (dep_wr hb w.2.2) _ hl p 0 (by omega) (fun _ => rfl)]
    congr 1
    omega
  | _, _, _, _, .cl hw, w => dep_cl (dep_wr hw w)
theorem depth_wr {t : LT} {ws : List Str} {d : Nat} {c : Bool} (h : WrW t ws d c) (w : wfT t) : depthW ws = d := by
  unfold depthW
  rw [dep_wr h w 0 [] 0 0 (Nat.le_refl _) (fun _ => rfl)]
  show max 0 (0 + 0 + d) = d
  omega
/-! the words of a text -/
def Wd (x : Str) : Prop := 32 ∉ x.cps.toList ∧ 1 ≤ x.length
theorem join_clW {ws : List Str} (h : ws ≠ []) : Str.join " " (clW ws) = clo (Str.join " " ws) := by
  unfold clW clo
  rw [join_cons _ _ (by simp), join_app _ h (List.cons_ne_nil _ _)]
  show ("(" : Str) ++ " " ++ (Str.join " " ws ++ " " ++ (")" : Str)) = "( " ++ Str.join " " ws ++ " )"
  rw [show ("( " : Str) = "(" ++ " " from by decide +kernel, show (" )" : Str) = " " ++ ")" from by decide +kernel]
  simp only [Str.append_assoc]
theorem wd_hd {h : Str} (k : h ∈ khs) : Wd h := by
  rw [List.mem_singleton.mp k]
  exact ⟨by decide +kernel, by decide +kernel⟩
theorem wd_jt {h : Str} (k : h ∈ Qp.jts) : Wd h := by
  simp only [List.mem_cons, List.not_mem_nil, or_false] at k
  rcases k with rfl | rfl <;> exact ⟨by decide +kernel, by decide +kernel⟩
theorem wd_kind {k : Str} (h : kindB k = true) : Wd k := by
  unfold kindB consB at h
  simp only [Bool.and_eq_true, decide_eq_true_eq, List.all_eq_true] at h
  exact ⟨fun z => by have := h.2.2 _ z; omega, h.1⟩
theorem wd_at {ws : List Str} (h : AtWs ws) : ws ≠ [] ∧ ∀ x ∈ ws, Wd x := by
  refine ⟨fun e => absurd (at_pos h) (by rw [e]; exact Nat.lt_irrefl 0), fun x hx => ?_⟩
  have hf := form_word h.1 (List.mem_map_of_mem hx : rep x ∈ ws.map rep)
  unfold rep at hf
  by_cases hk : kindB x = true
  · exact wd_kind hk
  · rw [if_neg hk] at hf
    rcases hf with e | e
    · rw [e] at hk
      exact absurd (by decide +kernel) hk
    · exact (by decide +kernel : ∀ w ∈ lits, 32 ∉ w.cps.toList ∧ 1 ≤ w.length) x e
theorem wd_cl {ws : List Str} (h : ∀ x ∈ ws, Wd x) : ∀ x ∈ clW ws, Wd x := fun x hx => by
  unfold clW at hx
  rcases List.mem_cons.mp hx with rfl | hx
  · exact ⟨by decide +kernel, by decide +kernel⟩
  · rcases List.mem_append.mp hx with hx | hx
    · exact h x hx
    · rw [List.mem_singleton.mp hx]
      exact ⟨by decide +kernel, by decide +kernel⟩
theorem clW_ne (ws : List Str) : clW ws ≠ [] := List.cons_ne_nil _ _
theorem cz_words {j : Str} {t : LT} {z : Str} {ws : List Str} {d : Nat} {c : Bool} {z' : Str} {d' : Nat} (hn : ws ≠ []) (hz : z = Str.join " " ws) (hd : ∀ x ∈ ws, Wd x)
    (e : (z', d') = (if j = "and" ∧ hdT t = "or" then (clo z, d + 1) else (z, d))) : z' = Str.join " " (czW j t ws d c).1 ∧ d' = (czW j t ws d c).2.1 ∧ (czW j t ws d c).1 ≠ [] ∧ ∀ x ∈ (czW j t ws d c).1, Wd x := by
  unfold czW
  split at e
  · rename_i h
    cases e
    rw [if_pos h]
    exact ⟨by rw [join_clW hn, hz], rfl, clW_ne ws, wd_cl hd⟩
  · rename_i h
    cases e
    rw [if_neg h]
    exact ⟨hz, rfl, hn, hd⟩
theorem wr_words : ∀ {t : LT} {z : Str} {d : Nat}, Wr t z d → wfT t → ∃ ws c, WrW t ws d c ∧ ws ≠ [] ∧ z = Str.join " " ws ∧ ∀ x ∈ ws, Wd x
  | _, _, _, .at (ws := ws), w => ⟨ws, true, .at, (wd_at w).1, rfl, (wd_at w).2⟩
  | _, _, _, .un (h := h) hw hj, w => by
    obtain ⟨ws, c, k, hn, hz, hd⟩ := wr_words hw w.2
    refine ⟨h :: ws, true, .un k hj, List.cons_ne_nil _ _, by rw [join_cons _ _ hn, hz], fun x hx => ?_⟩
    rcases List.mem_cons.mp hx with rfl | hx
    · exact wd_hd w.1
    · exact hd x hx
  | _, _, _, .unc (h := h) hw hj, w => by
    obtain ⟨ws, c, k, hn, hz, hd⟩ := wr_words hw w.2
    refine ⟨h :: clW ws, true, .unc k hj, List.cons_ne_nil _ _, by rw [join_cons _ _ (clW_ne ws), join_clW hn, hz], fun x hx => ?_⟩
    rcases List.mem_cons.mp hx with rfl | hx
    · exact wd_hd w.1
    · exact wd_cl hd x hx
  | _, _, _, .bi (j := j) (a := a) (b := b) (d := d) (e := e) ha hb e1 e2, w => by
    obtain ⟨x, c, k, hn, hz, hd⟩ := wr_words ha w.2.1
    obtain ⟨y, c2, k2, hn2, hz2, hd2⟩ := wr_words hb w.2.2
    obtain ⟨p1, p2, p3, p4⟩ := cz_words (c := c) hn hz hd e1
    obtain ⟨q1, q2, q3, q4⟩ := cz_words (c := c2) hn2 hz2 hd2 e2
    refine ⟨(czW j a x d c).1 ++ j :: (czW j b y e c2).1, false, by rw [p2, q2]; exact .bi k k2, by simp, ?_, fun v hv => ?_⟩
    · rw [join_app _ p3 (List.cons_ne_nil _ _), join_cons _ _ q3, p1, q1]
      simp only [Str.append_assoc]
    · rcases List.mem_append.mp hv with hv | hv
      · exact p4 v hv
      · rcases List.mem_cons.mp hv with rfl | hv
        · exact wd_jt w.1
        · exact q4 v hv
  | _, _, _, .cl hw, w => by
    obtain ⟨ws, c, k, hn, hz, hd⟩ := wr_words hw w
    exact ⟨clW ws, true, .cl k, clW_ne ws, by rw [join_clW hn, hz], wd_cl hd⟩
theorem split_ws {ws : List Str} (hn : ws ≠ []) (hd : ∀ x ∈ ws, Wd x) : wordsL (Str.join " " ws) = ws := by
  have hne : ¬ Str.join " " ws = "" := fun z => by
    obtain ⟨x, r, rfl⟩ : ∃ x r, ws = x :: r := by
      cases ws with
      | nil => exact absurd rfl hn
      | cons x r => exact ⟨x, r, rfl⟩
    have h1 := join_ge (ys := x :: r) (y := x) (List.mem_cons_self ..)
    rw [z, show ("" : Str).length = 0 from by decide +kernel] at h1
    have := (hd x (List.mem_cons_self ..)).2
    omega
  rw [wordsL_of hne, ← tjoin]
  obtain ⟨x, r, rfl⟩ : ∃ x r, ws = x :: r := by
    cases ws with
    | nil => exact absurd rfl hn
    | cons x r => exact ⟨x, r, rfl⟩
  exact TL.split_join (s := 32) (S := []) (by decide +kernel) (by decide +kernel) (by simp) fun p hp hm => (hd p hp).1 hm
theorem cO_bd {j : Str} (hj : j ∈ Qp.jts) (t : LT) : bdB t j = decide (j = "and" ∧ hdT t = "or") := by
  unfold bdB
  rw [decide_eq_true hj]
  simp only [List.mem_cons, List.not_mem_nil, or_false] at hj
  rcases hj with rfl | rfl
  · rw [show decide (("and" : Str) = "or") = false from by decide +kernel]
    simp
  · rw [show decide (("or" : Str) = "or") = true from by decide +kernel]
    simp
    exact fun e => absurd e (by decide +kernel)
theorem bd_un {h : Str} (k : h ∈ khs) (t : LT) : bdB t h = decide (hdT t ∈ Qp.jts) := by
  unfold bdB
  have n1 : decide (h = "or") = false := decide_eq_false (hd_no2 k).1
  have n2 : decide (h ∈ Qp.jts) = false := decide_eq_false (hd_no (khs_hds k)).2.1
  rw [n1, n2]
  simp only [Bool.not_false, Bool.and_true]
  by_cases e1 : hdT t = "or"
  · rw [e1]
    decide +kernel
  · by_cases e2 : hdT t = "and"
    · rw [e2]
      decide +kernel
    · rw [decide_eq_false e1, decide_eq_false e2, decide_eq_false]
      · rfl
      · intro z
        simp only [List.mem_cons, List.not_mem_nil, or_false] at z
        exact z.elim e2 e1
theorem wr_sh : ∀ {t : LT}, wfT t → Wr t (shL t) (dL t)
  | .at ws, _ => .at
  | .un h t, w => by
    have ih := wr_sh w.2
    show Wr (.un h t) (h ++ " " ++ bd (shL t) (bdB t h)) (dL t + 1 + (if hdT t ∈ Qp.jts then 1 else 0))
    rw [bd_un w.1]
    by_cases e : hdT t ∈ Qp.jts
    · rw [decide_eq_true e, if_pos e]
      exact .unc ih e
    · rw [decide_eq_false e, if_neg e]
      exact .un ih e
  | .bi j a b, w => by
    have ia := wr_sh w.2.1
    have ib := wr_sh w.2.2
    have cz : ∀ t : LT, (bd (shL t) (bdB t j), dL t + cO j t) = (if j = "and" ∧ hdT t = "or" then (clo (shL t), dL t + 1) else (shL t, dL t)) := fun t => by
      rw [cO_bd w.1]
      unfold cO bd
      by_cases e : j = "and" ∧ hdT t = "or"
      · rw [decide_eq_true e, if_pos e, if_pos e]
        rfl
      · rw [decide_eq_false e, if_neg e, if_neg e]
        rfl
    exact .bi ia ib (cz a) (cz b)
theorem dL_le : ∀ {t : LT} {z : Str} {d : Nat}, Wr t z d → dL t ≤ d
  | _, _, _, .at => Nat.le_refl _
  | _, _, _, .un (h := h) (t := t) hw hj => by
    have := dL_le hw
    show dL t + 1 + (if hdT t ∈ Qp.jts then 1 else 0) ≤ _
    rw [if_neg hj]
    omega
  | _, _, _, .unc (h := h) (t := t) hw hj => by
    have := dL_le hw
    show dL t + 1 + (if hdT t ∈ Qp.jts then 1 else 0) ≤ _
    rw [if_pos hj]
    omega
  | _, _, _, .bi (j := j) (a := a) (b := b) (d := d) (e := e) (d' := d') (e' := e') ha hb e1 e2 => by
    have h1 := dL_le ha
    have h2 := dL_le hb
    have one : ∀ {t : LT} {x x' : Str} {d d' : Nat}, dL t ≤ d → (x', d') = (if j = "and" ∧ hdT t = "or" then (clo x, d + 1) else (x, d)) → dL t + cO j t ≤ d' := fun {t x x' d d'} h e => by
      unfold cO
      split at e
      · rename_i k
        cases e
        rw [if_pos k]
        omega
      · rename_i k
        cases e
        rw [if_neg k]
        exact h
    have k1 := one h1 e1
    have k2 := one h2 e2
    show max (dL a + cO j a) (dL b + cO j b) ≤ max d' e'
    omega
  | _, _, _, .cl hw => by
    have := dL_le hw
    omega
/-- parentheses close what they opened -/
theorem bal_app : ∀ (a : List Str) (n : Nat) (b : List Str), (∀ w ∈ a, w ∉ hds ∧ w ≠ "(" ∧ w ≠ ")") → (bal n (a ++ b) ↔ bal n b)
  | [], _, _, _ => Iff.rfl
  | w :: a, n, b, h => by
    obtain ⟨h1, h2, h3⟩ := h w (List.mem_cons_self ..)
    rw [List.cons_append, bal, if_neg h1, if_neg h2, if_neg h3]
    exact bal_app a n b fun x hx => h x (List.mem_cons_of_mem _ hx)
theorem bal_cl {ws : List Str} (h : ∀ n b, bal n b → bal n (ws ++ b)) : ∀ n b, bal n b → bal n (clW ws ++ b) := fun n b k => by
  unfold clW
  rw [List.cons_append, bal, if_neg (by decide +kernel), if_pos rfl, List.append_assoc]
  refine h (n + 1) _ ?_
  rw [List.singleton_append, bal, if_neg (by decide +kernel), if_neg (by decide +kernel), if_pos rfl]
  exact ⟨Nat.succ_pos n, k⟩
theorem bal_cz {j : Str} {t : LT} {ws : List Str} {d : Nat} {c : Bool} (h : ∀ n b, bal n b → bal n (ws ++ b)) : ∀ n b, bal n b → bal n ((czW j t ws d c).1 ++ b) := by
  unfold czW
  split
  · exact bal_cl h
  · exact h
theorem bal_wr : ∀ {t : LT} {ws : List Str} {d : Nat} {c : Bool}, WrW t ws d c → wfT t → ∀ n b, bal n b → bal n (ws ++ b)
  | _, _, _, _, .at, w, n, b, k => (bal_app _ n b (at_plain w)).mpr k
  | _, _, _, _, .un (h := h) hw _, w, n, b, k => by
    rw [List.cons_append, bal, if_pos (khs_hds w.1)]
    exact bal_wr hw w.2 n b k
  | _, _, _, _, .unc (h := h) hw _, w, n, b, k => by
    rw [List.cons_append, bal, if_pos (khs_hds w.1)]
    exact bal_cl (bal_wr hw w.2) n b k
  | _, _, _, _, .bi (j := j) ha hb, w, n, b, k => by
    obtain ⟨h1, h2, h3⟩ := jt_plain w.1
    rw [List.append_assoc]
    refine bal_cz (bal_wr ha w.2.1) n _ ?_
    rw [List.cons_append, bal, if_neg h1, if_neg h2, if_neg h3]
    exact bal_cz (bal_wr hb w.2.2) n b k
  | _, _, _, _, .cl hw, w, n, b, k => bal_cl (bal_wr hw w) n b k
theorem bal_ws {t : LT} {ws : List Str} {d : Nat} {c : Bool} (h : WrW t ws d c) (w : wfT t) : bal 0 ws := by
  have := bal_wr h w 0 [] trivial
  rw [List.append_nil] at this
  exact this
/-! the condition's height, weight and form -/
theorem wf_nrm : ∀ {t : LT}, wfT t → wf (nrm t) = true
  | .at _, _ => rfl
  | .un h t, w => by
    show (hds.contains h && wf (nrm t)) = true
    rw [wf_nrm w.2, List.contains_iff_mem.mpr (khs_hds w.1)]
    rfl
  | .bi j a b, w => jn_wf (List.contains_iff_mem.mpr w.1) (wf_nrm w.2.1) (wf_nrm w.2.2)
theorem ht_nrm : ∀ {t : LT}, wfT t → ht (nrm t) ≤ 2 * dL t + (if hdT t = "or" then 2 else if hdT t = "and" then 1 else 0)
  | .at _, _ => Nat.zero_le _
  | .un h t, w => by
    have ih := ht_nrm w.2
    obtain ⟨n1, n2⟩ := hd_no2 w.1
    show ht (nrm t) + 1 ≤ 2 * (dL t + 1 + (if hdT t ∈ Qp.jts then 1 else 0)) + (if h = "or" then 2 else if h = "and" then 1 else 0)
    rw [if_neg n1, if_neg n2]
    by_cases h1 : hdT t = "or"
    · rw [if_pos h1] at ih
      rw [if_pos (by rw [h1]; decide +kernel)]
      omega
    · rw [if_neg h1] at ih
      by_cases h2 : hdT t = "and"
      · rw [if_pos h2] at ih
        rw [if_pos (by rw [h2]; decide +kernel)]
        omega
      · rw [if_neg h2] at ih
        omega
  | .bi j a b, w => by
    have part : ∀ {t : LT}, wfT t → ht (nrm t) ≤ 2 * dL t + (if hdT t = "or" then 2 else if hdT t = "and" then 1 else 0) → hts (fl j (nrm t)) ≤ 2 * (dL t + cO j t) + (if j = "or" then 1 else 0) := fun {t} wt ih => by
      have hone : hts [nrm t] = ht (nrm t) := Nat.max_zero _
      have hne : ¬ ("and" : Str) = "or" := by decide +kernel
      rcases fl_part w.1 wt with ⟨h1, ps, h2, h3⟩ | ⟨h1, h2⟩
      · rw [h3]
        rw [h2] at ih
        have ih' : hts ps + 1 ≤ 2 * dL t + (if hdT t = "or" then 2 else if hdT t = "and" then 1 else 0) := ih
        rw [h1] at ih'
        have hj := w.1
        simp only [List.mem_cons, List.not_mem_nil, or_false] at hj
        rcases hj with rfl | rfl
        · rw [if_neg hne, if_pos rfl] at ih'
          rw [if_neg hne]
          omega
        · rw [if_pos rfl] at ih'
          rw [if_pos rfl]
          omega
      · rw [h2, hone]
        have hj := w.1
        simp only [List.mem_cons, List.not_mem_nil, or_false] at hj
        unfold cO
        rcases hj with rfl | rfl
        · rw [if_neg hne]
          by_cases h3 : hdT t = "or"
          · rw [if_pos h3] at ih
            rw [if_pos ⟨rfl, h3⟩]
            omega
          · rw [if_neg h3, if_neg h1] at ih
            omega
        · rw [if_pos rfl]
          rw [if_neg h1] at ih
          by_cases h3 : hdT t = "and"
          · rw [if_pos h3] at ih
            omega
          · rw [if_neg h3] at ih
            omega
    have ia := part w.2.1 (ht_nrm w.2.1)
    have ib := part w.2.2 (ht_nrm w.2.2)
    show hts (fl j (nrm a) ++ fl j (nrm b)) + 1 ≤ 2 * max (dL a + cO j a) (dL b + cO j b) + (if j = "or" then 2 else if j = "and" then 1 else 0)
    rw [hts_app]
    have hj := w.1
    simp only [List.mem_cons, List.not_mem_nil, or_false] at hj
    have hne : ¬ ("and" : Str) = "or" := by decide +kernel
    rcases hj with rfl | rfl
    · rw [if_neg hne] at ia ib
      rw [if_neg hne, if_pos rfl]
      omega
    · rw [if_pos rfl] at ia ib
      rw [if_pos rfl]
      omega
theorem ht_lt {t : LT} (w : wfT t) (h : dL t ≤ 6) : ht (nrm t) < 15 := by
  have := ht_nrm w
  split at this
  · omega
  · split at this <;> omega
def BT : LT → Nat
  | .at _ => 40
  | .un h t => h.length + 9 + BT t
  | .bi j a b => 2 * (j.length + 14) + BT a + BT b
theorem at_lens {ws : List Str} (h : AtWs ws) : lenS ws ≤ 36 ∧ ∀ w ∈ ws, w.length ≤ 5 ∧ Asc w := by
  have hw : ∀ w ∈ ws, w.length ≤ 5 ∧ Asc w := fun w hw => by
    by_cases hk : kindB w = true
    · have := h.2 w hw hk
      exact ⟨by have := this.1; omega, this.2.1⟩
    · have hf := form_word h.1 (List.mem_map_of_mem hw : rep w ∈ ws.map rep)
      unfold rep at hf
      rw [if_neg hk] at hf
      rcases hf with e | e
      · rw [e] at hk
        exact absurd (by decide +kernel) hk
      · exact (by decide +kernel : ∀ w ∈ lits, w.length ≤ 5 ∧ ∀ c ∈ w.cps.toList, c < 256) w e
  refine ⟨?_, hw⟩
  have hl := (by decide +kernel : ∀ f ∈ kfs, f.length ≤ 6) _ h.1
  rw [List.length_map] at hl
  have : ∀ xs : List Str, (∀ w ∈ xs, w.length ≤ 5 ∧ Asc w) → lenS xs ≤ 6 * xs.length := fun xs => by
    induction xs with
    | nil => intro _; exact Nat.zero_le _
    | cons x xs ih =>
      intro k
      have h1 := (k x (List.mem_cons_self ..)).1
      have h2 := ih fun w hw => k w (List.mem_cons_of_mem _ hw)
      show x.length + 1 + lenS xs ≤ 6 * (xs.length + 1)
      omega
  have := this ws hw
  omega
theorem wt_nrm : ∀ {t : LT}, wfT t → Qp.wt (nrm t) ≤ BT t
  | .at ws, w => by
    have := (at_lens w).1
    show 1 + lenS ws ≤ 40
    omega
  | .un h t, w => by
    have := wt_nrm w.2
    show h.length + 5 + Qp.wt (nrm t) ≤ h.length + 9 + BT t
    omega
  | .bi j a b, w => by
    have h1 := wt_nrm w.2.1
    have h2 := wt_nrm w.2.2
    have h3 := jn_wt j (nrm a) (nrm b)
    show Qp.wt (jn j (nrm a) (nrm b)) ≤ 2 * (j.length + 14) + BT a + BT b
    omega
/-- what is read of the words of a condition -/
def condS (ws : List Str) : Option Pt := match runS kfs khs st0 ws 0 with
  | .inl st => endS st
  | .inr _ => none
theorem cond_ws {t : LT} {ws : List Str} {d : Nat} {c : Bool} (k : WrW t ws d c) (w : wfT t) : condS ws = some (nrm t) := by
  obtain ⟨st, hr, he⟩ := parse_end k w
  unfold condS
  rw [hr]
  exact he
end N7

set_option linter.all false
set_option maxRecDepth 100000
set_option maxHeartbeats 8000000
set_option pp.maxSteps 150
namespace N7
open PySem PySem.Spec PyProof.Rows L2 Gx Qp Qh
abbrev s_rows_in : Stmt := topS 3
abbrev n_rows_in : List Str := ["text"]
theorem sc_rows_in : FnScope n_rows_in ["text"] (defScope s_rows_in) := ⟨rfl, rfl, rfl, by decide +kernel, rfl, by decide +kernel, by decide +kernel⟩
abbrev s_is_name : Stmt := topS 6
abbrev n_is_name : List Str := ["word"]
theorem sc_is_name : FnScope n_is_name ["word"] (defScope s_is_name) := ⟨rfl, rfl, rfl, by decide +kernel, rfl, by decide +kernel, by decide +kernel⟩
abbrev s_is_place : Stmt := topS 33
abbrev n_is_place : List Str := ["word"]
theorem sc_is_place : FnScope n_is_place ["word"] (defScope s_is_place) := ⟨rfl, rfl, rfl, by decide +kernel, rfl, by decide +kernel, by decide +kernel⟩
abbrev s_condition_of : Stmt := topS 34
abbrev n_condition_of : List Str := ["words", "reading", "word"]
theorem sc_condition_of : FnScope n_condition_of ["words"] (defScope s_condition_of) := ⟨rfl, rfl, rfl, by decide +kernel, rfl, by decide +kernel, by decide +kernel⟩
/-- what the program's defs of kinds ask of the names -/
structure NmK (mg : Str → Option Value) (K : PySem.W.Frag) (fc fin fpl fct fdp fcond Cr mtake mended an ak aw : Addr) : Prop where
  g_consists_of : mg "consists_of" = some (.ref fc)
  k_consists_of : PySem.W.keepIn K (.ref fc) = true
  g_is_name : mg "is_name" = some (.ref fin)
  k_is_name : PySem.W.keepIn K (.ref fin) = true
  g_is_place : mg "is_place" = some (.ref fpl)
  k_is_place : PySem.W.keepIn K (.ref fpl) = true
  g_count_of : mg "count_of" = some (.ref fct)
  k_count_of : PySem.W.keepIn K (.ref fct) = true
  g_depth_of : mg "depth_of" = some (.ref fdp)
  k_depth_of : PySem.W.keepIn K (.ref fdp) = true
  g_condition_of : mg "condition_of" = some (.ref fcond)
  k_condition_of : PySem.W.keepIn K (.ref fcond) = true
  g_Reading : mg "Reading" = some (.ref Cr)
  rcl : Cls K Cr
  m_take : Meth K Cr "take" mtake
  m_ended : Meth K Cr "ended" mended
  g_NO_NAMES : mg "NO_NAMES" = some (.ref an)
  t_NO_NAMES : ∀ H : Hp, SqT K H an [.str "any", .str "other", .str "where"]
  g_KIND_FORMS : mg "KIND_FORMS" = some (.ref ak)
  forms : FmK K ak kfs
  g_ATOM_WORDS : mg "ATOM_WORDS" = some (.ref aw)
  atw_ : HdK K aw katw
  n_len : mg "len" = none
  n_set : mg "set" = none
  n_all : mg "all" = none
  n_any : mg "any" = none
  n_enumerate : mg "enumerate" = none
/-- the rows of a text -/
def rowsL (z : Str) : List Str := if z = "" then [] else Txt.split z "\n"
def spRowsIn : Sp := fun vs H Q _ => ∃ z : Str, vs = [.str z] ∧ z.length ≤ 20000 ∧ ∀ (a : Addr) (H' : Hp), Same H H' → H a = none → H' a = some (.lst ((rowsL z).map V.str)) → Q (.ref a) H'
def placeB (z : Str) : Bool := nameB z || decide (z = "any" ∨ z = "other")
theorem in2 (z : Str) : inV (V.str z) [.str "any", .str "other"] = decide (z = "any" ∨ z = "other") := by
  have h := inV_list z ["any", "other"]
  rw [show ([.str "any", .str "other"] : List V) = (["any", "other"] : List Str).map V.str from rfl, h]
  exact decide_eq_decide.mpr (by simp)
section
variable {P : Program} {w : World} {K : PySem.W.Frag} {mg : Str → Option Value} {base : Heap} {fc fin fpl fct fdp fcond Cr mtake mended an ak aw fRI : Addr}
theorem ok_rows_in {f : Addr} {fd : FuncData} (F : Fun K "rows_in" "rows_in" s_rows_in f fd) : FnOk P w K mg base CX0 1 f fd ["text"] spRowsIn := by
  refine F.ok sc_rows_in (fun vs H Q E h => ?_) (fun cdv A outer s H vs Q E hr h => ?_)
  · obtain ⟨z, rfl, _⟩ := h
    rfl
  · obtain ⟨z, rfl, hz, q⟩ := h
    refine ⟨_, (pss_cons (ps_if (pt_cmpR op_eq (pv 0) pe_str (nomark _)) (pss_one (ps_ret (pe_lst pa_nil))) pss_nil)
      (pss_one (ps_ret (pe_split (pv 0) pe_str)))), ?_⟩
    refine ⟨_, rfl, rfl, _, rfl, ite2 (fun h0 => ?_) (fun h0 => ?_)⟩
    · have e0 : z = "" := V.str.inj (of_decide_eq_true h0)
      refine ⟨Nat.zero_le _, fun a na => q a _ (new_same na) na ?_⟩
      rw [rowsL, if_pos e0]
      exact upd_same
    · have e0 : ¬ z = "" := fun h => h0 (decide_eq_true (congrArg V.str h))
      refine ⟨_, rfl, ⟨_, rfl⟩, _, _, rfl, rfl, by decide +kernel, (by rw [sizeLine_eq]; omega), fun L nL => ?_⟩
      refine q L _ (new_same nL) nL ?_
      rw [rowsL, if_neg e0]
      exact upd_same
theorem ok_is_name {f : Addr} {fd fdc : FuncData} (F : Fun K "is_name" "is_name" s_is_name f fd) (T : NmK mg K fc fin fpl fct fdp fcond Cr mtake mended an ak aw)
    (G_consists_of : FnOk P w K mg base CX0 1 fc fdc ["word", "low", "high", "most"] spCons) (b_consists_of : Binds K fdc ["word", "low", "high", "most"] []) : FnOk P w K mg base CX0 2 f fd ["word"] (spIs nameB) := by
  refine F.ok sc_is_name (fun vs H Q E h => ?_) (fun cdv A outer s H vs Q E hr h => ?_)
  · obtain ⟨z, rfl, _⟩ := h
    rfl
  · obtain ⟨z, rfl, hz, hA, q⟩ := h
    refine ⟨_, pss_one (ps_ret (pe_and (pe_call G_consists_of hr rfl T.g_consists_of T.k_consists_of b_consists_of .nil pass0 (pa_cons (pv 0) (pa_cons pe_str (pa_cons pe_str (pa_cons pe_int pa_nil)))))
      (pe_one (pe_cmpR op_notIn_seq (pv 0) (pe_glob (v := .ref an) rfl T.g_NO_NAMES rfl) (by rfl))))), ?_⟩
    refine ⟨_, rfl, z, _, _, 97, 122, 8, rfl, hz, by decide +kernel, by decide +kernel, fun H1 s1 => ⟨_, rfl, ite2 (fun h0 => ?_) (fun h0 => ?_)⟩⟩
    · refine ⟨_, rfl, an, _, rfl, .inr (T.t_NO_NAMES H1), rfl, by decide, ?_⟩
      have e := cons_name z
      rw [h0, Bool.true_and] at e
      show Q (V.bl (!inV (V.str z) [.str "any", .str "other", .str "where"])) H1
      rw [e]
      exact q H1 s1
    · have e := cons_name z
      rw [Bool.eq_false_iff.mpr h0, Bool.false_and] at e
      rw [← e] at q
      exact q H1 s1
theorem ok_is_place {f : Addr} {fd fdn : FuncData} (F : Fun K "is_place" "is_place" s_is_place f fd) (T : NmK mg K fc fin fpl fct fdp fcond Cr mtake mended an ak aw)
    (G_is_name : FnOk P w K mg base CX0 2 fin fdn ["word"] (spIs nameB)) (b_is_name : Binds K fdn ["word"] []) : FnOk P w K mg base CX0 3 f fd ["word"] (spIs placeB) := by
  refine F.ok sc_is_place (fun vs H Q E h => ?_) (fun cdv A outer s H vs Q E hr h => ?_)
  · obtain ⟨z, rfl, _⟩ := h
    rfl
  · obtain ⟨z, rfl, hz, hA, q⟩ := h
    refine ⟨_, pss_one (ps_ret (pe_or (pe_call G_is_name hr rfl T.g_is_name T.k_is_name b_is_name .nil pass0 (pa_cons (pv 0) pa_nil))
      (pe_one (pe_cmpR op_in_seq (pv 0) (pe_tup (pa_cons pe_str (pa_cons pe_str pa_nil))) (by rfl))))), ?_⟩
    refine ⟨_, rfl, z, rfl, hz, hA, fun H1 s1 => ⟨_, rfl, ite2 (fun h0 => ?_) (fun h0 => ?_)⟩⟩
    · unfold placeB at q
      rw [h0] at q
      exact q H1 s1
    · unfold placeB at q
      rw [Bool.eq_false_iff.mpr h0, Bool.false_or] at q
      refine ⟨_, rfl, (by decide), fun a na => ?_⟩
      refine ⟨a, _, rfl, .inr (SqT.of upd_same), rfl, by decide, ?_⟩
      show Q (V.bl (inV (V.str z) [.str "any", .str "other"])) _
      rw [in2]
      exact q _ (s1.trans (new_same na))
/-- sums of words -/
theorem wtW_app (a b : List Str) : wtW (a ++ b) = wtW a + wtW b := by
  induction a with
  | nil => exact (Nat.zero_add _).symm
  | cons x a ih =>
    show 2 * (x.length + 6) + wtW (a ++ b) = 2 * (x.length + 6) + wtW a + wtW b
    omega
theorem wtW_take' (ws : List Str) (i : Nat) : wtW (ws.take i) ≤ wtW ws := by
  have h := congrArg wtW (List.take_append_drop i ws)
  rw [wtW_app] at h
  omega
theorem wtW_snoc' {ws : List Str} {i : Nat} {x : Str} (h : ws[i]? = some x) : wtW (ws.take (i + 1)) = wtW (ws.take i) + 2 * (x.length + 6) := by
  rw [take_snoc h, wtW_app]
  rfl
theorem runS_at' {fs : List (List Str)} {hs : List Str} {st : RS} {ws : List Str} {x : Str} {i : Nat} (h : ws[i]? = some x) : runS fs hs st (ws.drop i) i = match takeS fs hs st x with
    | none => .inr i
    | some st' => runS fs hs st' (ws.drop (i + 1)) (i + 1) := by
  have hi : i < ws.length := (List.getElem?_eq_some_iff.mp h).1
  rw [List.drop_eq_getElem_cons hi, (List.getElem?_eq_some_iff.mp h).2]
  cases h2 : takeS fs hs st x <;> simp only [runS, h2]
theorem take_begun {fs : List (List Str)} {hs : List Str} {st st' : RS} {x : Str} (h : takeS fs hs st x = some st') : ∀ y ∈ st'.begun, y ∈ st.begun ∨ y = x := by
  unfold takeS at h
  by_cases hw : st.whole = true
  · rw [if_pos hw] at h
    unfold takeB at h
    by_cases h1 : x = ")"
    · rw [if_pos h1] at h
      unfold closeS at h
      generalize gat jts st.wait st.parts = g at h
      obtain ⟨W, P⟩ := g
      cases W with
      | nil => cases h
      | cons a W =>
        cases P with
        | nil => cases h
        | cons p P =>
          cases h
          exact fun y hy => absurd hy (List.not_mem_nil)
    · rw [if_neg h1] at h
      by_cases h2 : x ∈ jts
      · rw [if_pos h2] at h
        by_cases h3 : x = "or"
        · rw [if_pos h3] at h
          cases h
          exact fun y hy => .inl hy
        · rw [if_neg h3] at h
          cases h
          exact fun y hy => .inl hy
      · rw [if_neg h2] at h
        cases h
  · rw [if_neg hw] at h
    by_cases h1 : st.begun = [] ∧ (x = "(" ∨ x ∈ hs)
    · rw [if_pos h1] at h
      cases h
      exact fun y hy => .inl hy
    · rw [if_neg h1] at h
      unfold takeA at h
      generalize fs.filter (fun f => fitsB f (st.begun ++ [x])) = g at h
      cases g with
      | nil => cases h
      | cons f r =>
        dsimp only at h
        by_cases h2 : f.length = (st.begun ++ [x]).length
        · rw [if_pos h2] at h
          cases h
          exact fun y hy => absurd hy (List.not_mem_nil)
        · rw [if_neg h2] at h
          cases h
          intro y hy
          rcases List.mem_append.mp hy with z | z
          · exact .inl z
          · exact .inr (List.mem_singleton.mp z)
theorem kfs_len : ∀ f ∈ kfs, f.length ≤ 1000 := by decide +kernel
theorem khs_in : ∀ h ∈ khs, h ∈ hds := fun h k => khs_hds k
def spCond (K : PySem.W.Frag) : Sp := fun vs H Q _ => ∃ (l : Addr) (ws : List Str) (t : LT) (d : Nat) (c : Bool), vs = [.ref l] ∧ H l = some (.lst (ws.map V.str)) ∧ WrW t ws d c ∧ wfT t ∧ (∀ x ∈ ws, WdOk x) ∧ wtW ws ≤ 100000 ∧
  ∀ (v : V) (H' : Hp), Same H H' → PtAt H' v (nrm t) → Q v H'
theorem ok_condition_of {f : Addr} {fd fdI fdt fde : FuncData} (F : Fun K "condition_of" "condition_of" s_condition_of f fd) (T : NmK mg K fc fin fpl fct fdp fcond Cr mtake mended an ak aw)
    (M_R : Mk K Cr fRI) (G_dinit : FnOk P w K mg base CX0 1 fRI fdI ["self", "forms", "heads"] (spDInit Cr)) (b_dinit : Binds K fdI ["self", "forms", "heads"] [])
    (G_take : FnOk P w K mg base CX0 5 mtake fdt ["self", "word"] (spTakeR K Cr)) (b_take : Binds K fdt ["self", "word"] [])
    (G_ended : FnOk P w K mg base CX0 3 mended fde ["self"] (spEnded Cr)) (b_ended : Binds K fde ["self"] []) : FnOk P w K mg base CX0 6 f fd ["words"] (spCond K) := by
  refine F.ok sc_condition_of (fun vs H Q E h => ?_) (fun cdv A outer s H vs Q E hr h => ?_)
  · obtain ⟨l, ws, t, d, c, rfl, _⟩ := h
    rfl
  · obtain ⟨l, ws, t, d, c, rfl, hl, hW, hw, hwd, hwt, q⟩ := h
    have r2 := hr.mono (show 2 ≤ 5 by decide)
    have r3 := hr.mono (show 3 ≤ 5 by decide)
    have r5 := hr.mono (show 5 ≤ 5 by decide)
    refine ⟨_, pss_cons (ps_set (i := 1) sc_condition_of.nd rfl (.inl rfl) (pe_make M_R G_dinit r2 rfl T.g_Reading b_dinit .nil pass0 (pa_cons (pe_glob (v := .ref _) rfl T.g_KIND_FORMS rfl) (pa_cons (pe_tup (pa_cons pe_str pa_nil)) pa_nil))))
      (pss_cons (ps_for PassesOwn.never rfl (pi_list (pv 0)) (pg_name (i := 2) sc_condition_of.nd rfl (.inl rfl))
        (pss_one (ps_if (pt_not (pt_val (pe_meth (pv 1) T.rcl T.m_take G_take r5 b_take .nil pass0 (pa_cons (pv 2) pa_nil)))) (pss_one (ps_ret pe_non)) pss_nil)))
      (pss_one (ps_ret (pe_meth0 (pv 1) T.rcl T.m_ended G_ended r3 b_ended .nil pass0)))), ?_⟩
    refine ⟨(by show 1 ≤ sizeLine; rw [sizeLine_eq]; decide), fun ah nah => ?_⟩
    have S1 : Same H (upd H ah (.tup [.str "not"])) := new_same nah
    have eh1 : upd H ah (.tup [.str "not"]) ah = some (.tup [.str "not"]) := upd_same
    generalize upd H ah (.tup [.str "not"]) = H1 at *
    intro a dx na nd dxa
    refine ⟨a, dx, ak, ah, rfl, upd_same, fun lp lw H2 k2 nlp nlw hrd0 => ⟨rfl, ?_⟩⟩
    have S2 : Same H1 (upd (upd H1 dx (.own a)) a (.ins Cr dx [])) := fun b o e => by
      rw [upd_ne (ne_of_none e na), upd_ne (ne_of_none e nd)]
      exact e
    have up1 : Same H1 H2 := fun b o e => k2 b o (ne_of_none e na) (S2 b o e)
    have n1a : ∀ {b : Addr} {o : HO}, H1 b = some o → b ≠ a ∧ b ≠ lp ∧ b ≠ lw := fun {b o} e => ⟨ne_of_none e na, ne_of_none (S2 b o e) nlp, ne_of_none (S2 b o e) nlw⟩
    have up : ∀ {Hi : Hp}, FrR H2 Hi a lp lw → Same H1 Hi := fun f b o e => by
      obtain ⟨x, y, z⟩ := n1a e
      exact f b o x y z (up1 _ _ e)
    have upL : ∀ {Hi : Hp}, FrR H2 Hi a lp lw → Hi l = some (.lst (ws.map V.str)) := fun f => up f _ _ (S1 _ _ hl)
    obtain ⟨sE, hE, hP⟩ := parse_end hW hw
    refine ⟨_, rfl, l, rfl, ⟨_, SqL.of (up1 _ _ (S1 _ _ hl))⟩, ?_⟩
    refine for_it walk_list (fun i σ Hi => FrR H2 Hi a lp lw ∧ ∃ (st : RS) (b3 : Option V), RdAt Cr Hi a dx ak ah lp lw st ∧ Ok st ∧ wtS st ≤ wtW (ws.take i) ∧ runS kfs khs st (ws.drop i) i = .inl sE ∧ (∀ x ∈ st.begun, x ∈ ws) ∧ σ = [some (.ref l), some (.ref a), b3])
      ⟨FrR.refl, st0, none, hrd0, st0_ok, Nat.zero_le _, hE, (fun x hx => absurd hx (List.not_mem_nil)), rfl⟩ (fun i σ H' _ p => SqL.of (upL p.1)) (fun j x σ H5 H6 hj p y => ?_) (fun σ H5 p => ?_)
    · obtain ⟨f5, st, b3, hrd, I, hwt5, hrun, hbg, rfl⟩ := p
      obtain ⟨rfl, ex⟩ := y
      obtain ⟨wd, hwdj, rfl⟩ := map_get ex
      have hm := List.mem_of_getElem? hwdj
      have wl := wtW_take' ws j
      refine ⟨_, rfl, a, dx, _, rfl, hrd.ex.choose_spec.choose_spec.1, rfl, _, rfl, a, dx, ak, ah, lp, lw, kfs, khs, st, wd, rfl, T.forms, .inl (up f5 _ _ eh1), kfs_len, by decide, hrd, I, by omega, hwd wd hm, fun x hx => hwd x (hbg x hx), fun H7 f7 hrd7 => ?_⟩
      have hat := runS_at' (fs := kfs) (hs := khs) (st := st) hwdj
      have f27 := f5.trans f7
      cases ht : takeS kfs khs st wd with
      | none =>
        rw [ht, hrun] at hat
        cases hat
      | some st' =>
        rw [ht, hrun] at hat
        refine ⟨_, rfl, iteF ?_⟩
        have hk := take_ok khs_in I ht
        refine ⟨f27, st', _, hrd7 st' ht, hk.1, ?_, hat.symm, (fun x hx => (take_begun ht x hx).elim (hbg x) fun e => e ▸ hm), rfl⟩
        rw [wtW_snoc' hwdj]
        omega
    · obtain ⟨f5, st, b3, hrd, I, hwt5, hrun, hbg, rfl⟩ := p
      rw [List.length_map, List.drop_length, runS] at hrun
      cases hrun
      rw [List.length_map] at hwt5
      have wl := wtW_take' ws ws.length
      refine ⟨_, rfl, a, dx, _, rfl, hrd.ex.choose_spec.choose_spec.1, rfl, a, dx, ak, ah, lp, lw, _, rfl, hrd, I, by omega, fun H6 f6 => ⟨fun hn => ?_, fun p v hp hv => ?_⟩⟩
      · rw [hP] at hn
        cases hn
      · rw [hP] at hp
        cases hp
        exact q v H6 (S1.trans (up (f5.trans f6))) hv
end
end N7

set_option linter.all false
set_option maxRecDepth 100000
set_option maxHeartbeats 8000000
set_option pp.maxSteps 150
namespace N7
open PySem PySem.Spec PyProof.Rows L2 Gx Qp Qh
/-! ### a row of kinds -/
abbrev s_rinit : Stmt := inClass (topS 32) 0
abbrev n_rinit : List Str := ["self", "kind", "names", "words", "condition"]
theorem sc_rinit : FnScope n_rinit ["self", "kind", "names", "words", "condition"] (defScope s_rinit) := ⟨rfl, rfl, rfl, by decide +kernel, rfl, by decide +kernel, by decide +kernel⟩
abbrev s_line : Stmt := inClass (topS 32) 1
abbrev n_line : List Str := ["self", "text"]
theorem sc_line : FnScope n_line ["self"] (defScope s_line) := ⟨rfl, rfl, rfl, by decide +kernel, rfl, by decide +kernel, by decide +kernel⟩
abbrev s_unlike : Stmt := inClass (topS 32) 2
abbrev n_unlike : List Str := ["self", "atom"]
theorem sc_unlike : FnScope n_unlike ["self"] (defScope s_unlike) := ⟨rfl, rfl, rfl, by decide +kernel, rfl, by decide +kernel, by decide +kernel⟩
abbrev s_used : Stmt := inClass (topS 32) 3
abbrev n_used : List Str := ["self", "word"]
theorem sc_used : FnScope n_used ["self"] (defScope s_used) := ⟨rfl, rfl, rfl, by decide +kernel, rfl, by decide +kernel, by decide +kernel⟩
structure Row where
  kind : Str
  names : List Str
  words : List Str
  cond : Option LT
def fldW (k : Str) (a1 a2 : Addr) (v : V) : List (Str × V) := [("kind", .str k), ("names", .ref a1), ("words", .ref a2), ("condition", v)]
def condAt (H : Hp) (v : V) : Option LT → Prop
  | none => v = .non
  | some t => PtAt H v (nrm t)
def RowAt (C : Addr) (H : Hp) (a : Addr) (r : Row) : Prop := ∃ (dx a1 a2 : Addr) (v : V), H a = some (.ins C dx (fldW r.kind a1 a2 v)) ∧ H a1 = some (.tup (r.names.map V.str)) ∧ H a2 = some (.tup (r.words.map V.str)) ∧ condAt H v r.cond
theorem RowAt.same {C a : Addr} {H H' : Hp} {r : Row} (h : RowAt C H a r) (s : Same H H') : RowAt C H' a r := by
  obtain ⟨dx, a1, a2, v, e, e1, e2, ec⟩ := h
  refine ⟨dx, a1, a2, v, s _ _ e, s _ _ e1, s _ _ e2, ?_⟩
  cases hc : r.cond with
  | none => rw [hc] at ec; exact ec
  | some t => rw [hc] at ec; exact PtAt.mono (fun b xs e => s _ _ e) ec
def lineS (r : Row) : Str := match r.cond with
  | none => "kind " ++ r.kind ++ " of " ++ PySem.Str.join " " r.names
  | some t => "kind " ++ r.kind ++ " of " ++ PySem.Str.join " " r.names ++ " where " ++ txt (nrm t)
structure RowOk (r : Row) : Prop where
  kl : r.kind.length ≤ 4
  ka : Asc r.kind
  kk : kindB r.kind = true
  nl : r.names.length ≤ 4
  nn : ∀ z ∈ r.names, z.length ≤ 8 ∧ Asc z ∧ placeB z = true
  wl : r.words.length ≤ 2000
  ww : ∀ z ∈ r.words, WdOk z
  wb : bal 0 r.words
  wa : cntW r.words katw ≤ 8
  wd : depthW r.words ≤ 6
  cw : ∀ t, r.cond = some t → wfT t ∧ dL t ≤ 6 ∧ Qp.wt (nrm t) ≤ 40000 ∧ (ats (nrm t)).length ≤ 8
  cn : r.cond = none → r.words = []
/-- the unlike texts, from the left -/
def unS (l : List Str) : List Str := l.foldl Wt.addL []
/-- the texts of the row's atoms -/
def atT (r : Row) : List Str := match r.cond with
  | none => []
  | some t => (ats (nrm t)).map txt
structure NmR (mg : Str → Option Value) (K : PySem.W.Frag) (Cw fk : Addr) : Prop where
  g_KindRow : mg "KindRow" = some (.ref Cw)
  cl : Cls K Cw
  a_kind : NoAttr K Cw "kind"
  a_names : NoAttr K Cw "names"
  a_words : NoAttr K Cw "words"
  a_cond : NoAttr K Cw "condition"
  g_is_kind : mg "is_kind_name" = some (.ref fk)
  k_is_kind : PySem.W.keepIn K (.ref fk) = true
  n_tuple : mg "tuple" = none
  n_sorted : mg "sorted" = none
def spRInit (K : PySem.W.Frag) (C : Addr) : Sp := fun vs H Q _ => ∃ (a dx l1 l2 : Addr) (v : V) (r : Row), vs = [.ref a, .str r.kind, .ref l1, .ref l2, v] ∧ H a = some (.ins C dx []) ∧ H l1 = some (.lst (r.names.map V.str)) ∧ H l2 = some (.lst (r.words.map V.str)) ∧ condAt H v r.cond ∧
  ∀ H' : Hp, (∀ b o, b ≠ a → H b = some o → H' b = some o) → RowAt C H' a r → Q .non H'
def spLine (C : Addr) : Sp := fun vs H Q _ => ∃ (a : Addr) (r : Row), vs = [.ref a] ∧ RowAt C H a r ∧ RowOk r ∧ ∀ H' : Hp, Same H H' → Q (.str (lineS r)) H'
def spUnlike (C : Addr) : Sp := fun vs H Q _ => ∃ (a : Addr) (r : Row), vs = [.ref a] ∧ RowAt C H a r ∧ RowOk r ∧ ∀ (l : Addr) (ys : List Str) (H' : Hp), Same H H' → H' l = some (.lst (ys.map V.str)) → ys.Perm (unS (atT r)) → sortedS ys = true → Q (.ref l) H'
def spUsed (C : Addr) : Sp := fun vs H Q _ => ∃ (a : Addr) (r : Row), vs = [.ref a] ∧ RowAt C H a r ∧ RowOk r ∧ ∀ (l : Addr) (H' : Hp), Same H H' → H' l = some (.lst ((r.words.filter kindB).map V.str)) → Q (.ref l) H'
theorem sum_le {b : Nat} : ∀ {l : List Str}, (∀ z ∈ l, z.length ≤ b) → (l.map (·.length)).sum ≤ b * l.length
  | [], _ => Nat.zero_le _
  | x :: l, h => by
    have h1 := h x (List.mem_cons_self ..)
    have h2 := sum_le (l := l) fun z hz => h z (List.mem_cons_of_mem _ hz)
    rw [List.map_cons, List.sum_cons, List.length_cons, Nat.mul_add]
    omega
theorem RowOk.names_fit {r : Row} (ok : RowOk r) : (r.names.map (·.length)).sum + r.names.length * (" " : Str).length ≤ 36 := by
  have h1 := sum_le (b := 8) fun z hz => (ok.nn z hz).1
  have h2 := ok.nl
  have h3 : (" " : Str).length = 1 := by decide +kernel
  rw [h3]
  omega
theorem RowOk.names_len {r : Row} (ok : RowOk r) : (PySem.Str.join " " r.names).length ≤ 36 := Nat.le_trans (Qp.join_ub " " r.names) ok.names_fit
theorem addL_len (m : List Str) (k : Str) : (Wt.addL m k).length ≤ m.length + 1 := by
  unfold Wt.addL
  by_cases h : k ∈ m
  · rw [if_pos h]
    omega
  · rw [if_neg h, List.length_cons]
    omega
theorem fold_len : ∀ (l : List Pt) (m : List Str), (l.foldl (fun m q => Wt.addL m (txt q)) m).length ≤ m.length + l.length
  | [], _ => Nat.le_refl _
  | x :: l, m => by
    have h1 := fold_len l (Wt.addL m (txt x))
    have h2 := addL_len m (txt x)
    rw [List.foldl_cons, List.length_cons]
    omega
section
variable {P : Program} {w : World} {K : PySem.W.Frag} {mg : Str → Option Value} {base : Heap} {Cw fk fa ao fe fu ft aj : Addr}
theorem ok_rinit {f : Addr} {fd : FuncData} (F : Fun K "__init__" "KindRow.__init__" s_rinit f fd) (T : NmR mg K Cw fk) : FnOk P w K mg base CX0 1 f fd ["self", "kind", "names", "words", "condition"] (spRInit K Cw) := by
  refine F.ok sc_rinit (fun vs H Q E h => ?_) (fun cdv A outer s H vs Q E hr h => ?_)
  · obtain ⟨a, dx, l1, l2, v, r, rfl, _⟩ := h
    rfl
  · obtain ⟨a, dx, l1, l2, v, r, rfl, ha, h1, h2, hv, q⟩ := h
    refine ⟨_, (pss_cons (ps_fld (pv 0) (pv 1) rfl) (pss_cons (ps_fld (pv 0) (pe_callTy call_tuple_of (by rfl) T.n_tuple (by decide +kernel) (pa_cons (pv 2) pa_nil)) rfl)
      (pss_cons (ps_fld (pv 0) (pe_callTy call_tuple_of (by rfl) T.n_tuple (by decide +kernel) (pa_cons (pv 3) pa_nil)) rfl) (pss_one (ps_fld (pv 0) (pv 4) rfl))))), ?_⟩
    have nL : ∀ {b : Addr} {xs : List V}, H b = some (.lst xs) → b ≠ a := fun e => ne_of e ha fun z => nomatch z
    have nT : ∀ {b : Addr} {xs : List V}, H b = some (.tup xs) → b ≠ a := fun e => ne_of e ha fun z => nomatch z
    refine ⟨_, rfl, _, rfl, a, Cw, dx, _, rfl, ha, T.cl, T.a_kind, (by show 0 < 1000; decide), ?_⟩
    have k1 : ∀ b o, b ≠ a → H b = some o → upd H a (.ins Cw dx (putF "kind" (.str r.kind) [])) b = some o := fun b o n e => (upd_ne n).trans e
    have e1 : upd H a (.ins Cw dx (putF "kind" (.str r.kind) [])) a = some (.ins Cw dx [("kind", .str r.kind)]) := upd_same
    generalize upd H a (.ins Cw dx (putF "kind" (.str r.kind) [])) = H1 at *
    refine ⟨_, rfl, l1, _, rfl, .inl ⟨SqL.of (k1 _ _ (nL h1) h1), fun p np => ?_⟩⟩
    have S2 := new_same (o := .tup (r.names.map V.str)) np
    have et : upd H1 p (.tup (r.names.map V.str)) p = some (.tup (r.names.map V.str)) := upd_same
    generalize upd H1 p (.tup (r.names.map V.str)) = H2 at *
    refine ⟨_, rfl, a, Cw, dx, _, rfl, S2 _ _ e1, T.cl, T.a_names, (by show 1 < 1000; decide), ?_⟩
    have pa : p ≠ a := fun z => by
      rw [z, e1] at np
      cases np
    have k3 : ∀ b o, b ≠ a → H2 b = some o → upd H2 a (.ins Cw dx (putF "names" (.ref p) [("kind", .str r.kind)])) b = some o := fun b o n e => (upd_ne n).trans e
    have e3 : upd H2 a (.ins Cw dx (putF "names" (.ref p) [("kind", .str r.kind)])) a = some (.ins Cw dx [("kind", .str r.kind), ("names", .ref p)]) := upd_same
    generalize upd H2 a (.ins Cw dx (putF "names" (.ref p) [("kind", .str r.kind)])) = H3 at *
    refine ⟨_, rfl, l2, _, rfl, .inl ⟨SqL.of (k3 _ _ (nL h2) (S2 _ _ (k1 _ _ (nL h2) h2))), fun p2 np2 => ?_⟩⟩
    have S4 := new_same (o := .tup (r.words.map V.str)) np2
    have et4 : upd H3 p2 (.tup (r.words.map V.str)) p2 = some (.tup (r.words.map V.str)) := upd_same
    generalize upd H3 p2 (.tup (r.words.map V.str)) = H4 at *
    refine ⟨_, rfl, a, Cw, dx, _, rfl, S4 _ _ e3, T.cl, T.a_words, (by show 2 < 1000; decide), ?_⟩
    have pa2 : p2 ≠ a := fun z => by
      rw [z, e3] at np2
      cases np2
    have k5 : ∀ b o, b ≠ a → H4 b = some o → upd H4 a (.ins Cw dx (putF "words" (.ref p2) [("kind", .str r.kind), ("names", .ref p)])) b = some o := fun b o n e => (upd_ne n).trans e
    have e5 : upd H4 a (.ins Cw dx (putF "words" (.ref p2) [("kind", .str r.kind), ("names", .ref p)])) a = some (.ins Cw dx [("kind", .str r.kind), ("names", .ref p), ("words", .ref p2)]) := upd_same
    generalize upd H4 a (.ins Cw dx (putF "words" (.ref p2) [("kind", .str r.kind), ("names", .ref p)])) = H5 at *
    refine ⟨_, rfl, _, rfl, a, Cw, dx, _, rfl, e5, T.cl, T.a_cond, (by show 3 < 1000; decide), ?_⟩
    have k6 : ∀ b o, b ≠ a → H5 b = some o → upd H5 a (.ins Cw dx (putF "condition" v [("kind", .str r.kind), ("names", .ref p), ("words", .ref p2)])) b = some o := fun b o n e => (upd_ne n).trans e
    have e6 : upd H5 a (.ins Cw dx (putF "condition" v [("kind", .str r.kind), ("names", .ref p), ("words", .ref p2)])) a = some (.ins Cw dx (fldW r.kind p p2 v)) := upd_same
    generalize upd H5 a (.ins Cw dx (putF "condition" v [("kind", .str r.kind), ("names", .ref p), ("words", .ref p2)])) = H6 at *
    have kk : ∀ b o, b ≠ a → H b = some o → H6 b = some o := fun b o n e => k6 b o n (k5 b o n (S4 b o (k3 b o n (S2 b o (k1 b o n e)))))
    refine q H6 kk ⟨dx, p, p2, v, e6, k6 _ _ pa (k5 _ _ pa (S4 _ _ (k3 _ _ pa et))), k6 _ _ pa2 (k5 _ _ pa2 et4), ?_⟩
    cases hc : r.cond with
    | none => rw [hc] at hv; exact hv
    | some t => rw [hc] at hv; exact PtAt.mono (fun b xs e => kk b _ (nT e) e) hv
theorem ok_line {f : Addr} {fd fdt : FuncData} (F : Fun K "line" "KindRow.line" s_line f fd) (T : NmR mg K Cw fk) (TX : NmTx mg K fe fu ft aj)
    (G_text : FnOk P w K mg base CX0 32 ft fdt ["part"] (spTxt 15)) (b_text : Binds K fdt ["part"] []) : FnOk P w K mg base CX0 33 f fd ["self"] (spLine Cw) := by
  refine F.ok sc_line (fun vs H Q E h => ?_) (fun cdv A outer s H vs Q E hr h => ?_)
  · obtain ⟨a, r, rfl, _⟩ := h
    rfl
  · obtain ⟨a, r, rfl, ha, ok, q⟩ := h
    refine ⟨_, (pss_cons (ps_set (i := 1) sc_line.nd rfl (.inl rfl) (pe_op op_add_str (pe_joined (.cons pe_str (.cons (pe_fmt (pe_fld (pv 0) rfl)) (.cons pe_str .nil)))) (pe_join pe_str (pe_fld (pv 0) rfl))))
      (pss_cons (ps_if (pt_cmpR op_isN (pe_fld (pv 0) rfl) pe_non (nomark _)) (pss_one (ps_ret (pv 1))) pss_nil)
      (pss_one (ps_ret (pe_joined (.cons (pe_fmt (pv 1)) (.cons pe_str (.cons (pe_fmt (pe_call G_text hr rfl TX.g_text TX.k_text b_text .nil pass0 (pa_cons (pe_fld (pv 0) rfl) pa_nil))) .nil)))))))), ?_⟩
    obtain ⟨dx, a1, a2, v, e, e1, e2, ec⟩ := ha
    have l1 : ("kind " : Str).length = 5 := by decide +kernel
    have l2 : (" of " : Str).length = 4 := by decide +kernel
    have l3 : (" where " : Str).length = 7 := by decide +kernel
    have kl := ok.kl
    have nl := ok.names_len
    have nf := ok.names_fit
    have b0 : (("kind " : Str) ++ r.kind ++ " of " ++ PySem.Str.join " " r.names).length ≤ 100 := by
      rw [len_app, len_app, len_app]
      omega
    refine ⟨_, rfl, (by rw [empty_app, sizeLine_eq]; omega), _, rfl, a, Cw, dx, _, _, rfl, e, T.cl, T.a_kind, rfl, .inl ⟨r.kind, rfl, (by rw [sizeLine_eq]; omega), _, rfl, (by rw [empty_app, len_app, sizeLine_eq]; omega), _, rfl, (by rw [empty_app, len_app, len_app, sizeLine_eq]; omega), ?_⟩⟩
    rw [empty_app]
    refine ⟨⟨_, rfl⟩, _, rfl, a, Cw, dx, _, _, rfl, e, T.cl, T.a_names, rfl, _, a1, r.names, rfl, rfl, .inr (SqT.of e1), Nat.le_trans nf (by decide), _, _, rfl, rfl, ?_, ?_⟩
    · rw [len_app, len_app, sizeLine_eq, tjoin]
      omega
    · rw [tjoin]
      unfold lineS at q
      generalize hb : (("kind " : Str) ++ r.kind ++ " of " ++ PySem.Str.join " " r.names) = b at *
      refine ⟨_, rfl, a, Cw, dx, _, _, rfl, e, T.cl, T.a_cond, rfl, rfl, _, rfl, ?_⟩
      cases hc : r.cond with
      | none =>
        rw [hc] at ec q
        cases (show v = .non from ec)
        exact iteT ⟨_, rfl, q H (Same.refl H)⟩
      | some t =>
        rw [hc] at ec q
        obtain ⟨wt0, wd0, ww0, _⟩ := ok.cw t hc
        have ec : PtAt H v (nrm t) := ec
        have tl := txt_len (nrm t)
        obtain ⟨va, vu, rfl, _⟩ := ec.head
        refine iteF ⟨_, rfl, .inl ⟨b, rfl, (by rw [sizeLine_eq]; omega), _, rfl, (by rw [empty_app, sizeLine_eq]; omega), _, rfl, (by rw [empty_app, len_app, sizeLine_eq]; omega), ?_⟩⟩
        refine ⟨_, rfl, a, Cw, dx, _, _, rfl, e, T.cl, T.a_cond, rfl, _, _, rfl, ec, wf_nrm wt0, ht_lt wt0 wd0, by omega, fun H1 S1 => .inl ⟨_, rfl, (by rw [sizeLine_eq]; omega), _, rfl, (by rw [empty_app, len_app, len_app, sizeLine_eq]; omega), ?_⟩⟩
        rw [empty_app]
        exact q H1 S1
theorem ok_unlike {f : Addr} {fd fdt fda : FuncData} (F : Fun K "unlike_atoms" "KindRow.unlike_atoms" s_unlike f fd) (T : NmR mg K Cw fk) (TX : NmTx mg K fe fu ft aj) (TA : NmAt mg K fa ao)
    (G_text : FnOk P w K mg base CX0 32 ft fdt ["part"] (spTxt 15)) (b_text : Binds K fdt ["part"] []) (G_ats : FnOk P w K mg base CX0 16 fa fda ["part"] (spAts 15)) (b_ats : Binds K fda ["part"] []) : FnOk P w K mg base CX0 33 f fd ["self"] (spUnlike Cw) := by
  refine F.ok sc_unlike (fun vs H Q E h => ?_) (fun cdv A outer s H vs Q E hr h => ?_)
  · obtain ⟨a, r, rfl, _⟩ := h
    rfl
  · obtain ⟨a, r, rfl, ha, ok, q⟩ := h
    refine ⟨_, (pss_cons (ps_if (pt_cmpR op_isN (pe_fld (pv 0) rfl) pe_non (nomark _)) (pss_one (ps_ret (pe_lst pa_nil))) pss_nil)
      (pss_one (ps_ret (pe_callB (Wc.cr_sort rfl) (by rfl) T.n_sorted (by decide +kernel) (pa_cons (Wc.pe_one (own := [("atom", 1)]) (g := gName 1) (tt := tYes) (te := tCall (spTxt 15) [] E0 (tCons (tVar 1) tNil)) rfl sc_unlike.nd (pi_list (pe_call G_ats (hr.mono (show 16 ≤ 32 by decide)) rfl TA.g_ato TA.k_ato b_ats .nil pass0 (pa_cons (pe_fld (pv 0) rfl) pa_nil)))
        (blkOk_by (own := [("atom", 1)]) (N := n_unlike) (sc := defScope s_unlike) (by decide +kernel)) (fun _ _ _ _ _ => ⟨pg_name (i := 1) sc_unlike.nd rfl (.inl rfl), pts_nil, pe_call G_text hr rfl TX.g_text TX.k_text b_text .nil pass0 (pa_cons (pv 1) pa_nil)⟩)) pa_nil))))), ?_⟩
    obtain ⟨dx, a1, a2, v, e, e1, e2, ec⟩ := ha
    refine ⟨_, rfl, a, Cw, dx, _, _, rfl, e, T.cl, T.a_cond, rfl, rfl, _, rfl, ?_⟩
    unfold atT at q
    cases hc : r.cond with
    | none =>
      rw [hc] at ec q
      cases (show v = .non from ec)
      exact iteT ⟨Nat.zero_le _, fun l nl => q l [] _ (new_same nl) upd_same (.refl _) rfl⟩
    | some t =>
      rw [hc] at ec q
      obtain ⟨wt0, wd0, ww0, wn0⟩ := ok.cw t hc
      have ec : PtAt H v (nrm t) := ec
      obtain ⟨va, vu, rfl, _⟩ := ec.head
      have hin := ats_in (nrm t) (wf_nrm wt0)
      have hlt := ht_lt wt0 wd0
      dsimp only at q
      refine iteF ⟨_, rfl, a, Cw, dx, _, _, rfl, e, T.cl, T.a_cond, rfl, _, _, rfl, ec, wf_nrm wt0, hlt, by omega, fun l us H1 S1 nl el pl => ?_⟩
      refine ⟨l, rfl, ⟨_, SqL.of el⟩, fun D nD => ?_⟩
      have lD : l ≠ D := ne_of_none el nD
      refine Wc.trn_it walk_list (fun i Hi => (∀ b o, b ≠ D → H1 b = some o → Hi b = some o) ∧ Hi D = some (Wc.SetT w D (((ats (nrm t)).take i).foldl (fun m q => Wt.addL m (txt q)) [])))
        ⟨fun b o x e => by rw [upd_ne x]; exact e, upd_same⟩ (fun i Hi _ p => SqL.of (p.1 l _ lD el)) (fun i x Hi Hj hil p y => ?_) (fun Hi p => ?_)
      · obtain ⟨rfl, ex⟩ := y
        obtain ⟨p0, ep, hp⟩ := pl.get ex
        obtain ⟨w1, w2, w3⟩ := hin p0 (List.mem_of_getElem? ep)
        have hpj : PtAt Hj x p0 := hp.mono fun b xs e => p.1 b _ (ne_of_none e nD) e
        refine ⟨rfl, keep1' ?_⟩
        refine ⟨_, rfl, _, _, rfl, hpj, w1, by omega, by omega, fun H2 S2 => ⟨txt p0, _, rfl, S2 _ _ p.2, ?_, fun b o x e => (upd_ne x).trans (S2 _ _ (p.1 b o x e)), ?_⟩⟩
        · have h1 := fold_len ((ats (nrm t)).take i) []
          have h2 := List.length_take_le i (ats (nrm t))
          have h3 : ((ats (nrm t)).take i).length ≤ (ats (nrm t)).length := List.length_take_le' ..
          rw [List.length_nil] at h1
          unfold scanBound
          omega
        · rw [upd_same, take_snoc ep, List.foldl_append]
          rfl
      · have len0 : us.length = (ats (nrm t)).length := pl.len
        have eD := p.2
        rw [len0, List.take_length] at eD
        have h1 := fold_len (ats (nrm t)) []
        rw [List.length_nil] at h1
        refine ⟨D, _, rfl, eD, by omega, fun ys l2 pm so nl2 => q l2 ys _ ?_ upd_same ?_ so⟩
        · intro b o e
          rw [upd_ne (ne_of_none (p.1 b o (ne_of_none (S1 _ _ e) nD) (S1 _ _ e)) nl2)]
          exact p.1 b o (ne_of_none (S1 _ _ e) nD) (S1 _ _ e)
        · unfold unS
          rw [List.foldl_map]
          exact pm
theorem ok_used {f : Addr} {fd fdk : FuncData} (F : Fun K "used_kinds" "KindRow.used_kinds" s_used f fd) (T : NmR mg K Cw fk)
    (G_is_kind : FnOk P w K mg base CX0 2 fk fdk ["word"] (spIs kindB)) (b_is_kind : Binds K fdk ["word"] []) : FnOk P w K mg base CX0 3 f fd ["self"] (spUsed Cw) := by
  refine F.ok sc_used (fun vs H Q E h => ?_) (fun cdv A outer s H vs Q E hr h => ?_)
  · obtain ⟨a, r, rfl, _⟩ := h
    rfl
  · obtain ⟨a, r, rfl, ha, ok, q⟩ := h
    refine ⟨_, pss_one (ps_ret (pe_lc (own := [("word", 1)]) (g := gName 1) (te := tVar 1) rfl sc_used.nd (pi_tup (pe_fld (pv 0) rfl)) (blkOk_by (own := [("word", 1)]) (N := n_used) (sc := defScope s_used) (by decide +kernel)) (fun _ _ _ _ _ => (pg_name (i := 1) sc_used.nd rfl (.inl rfl)))
      (fun _ _ _ _ _ => pts_one (pt_val (pe_call G_is_kind hr rfl T.g_is_kind T.k_is_kind b_is_kind .nil pass0 (pa_cons (pv 1) pa_nil)))) (fun _ _ _ _ _ => (pv 1)))), ?_⟩
    obtain ⟨dx, a1, a2, v, e, e1, e2, ec⟩ := ha
    refine ⟨_, rfl, a, Cw, dx, _, _, rfl, e, T.cl, T.a_words, rfl, a2, rfl, ⟨_, SqT.of e2⟩, fun D nD => ?_⟩
    have n2 : a2 ≠ D := ne_of_none e2 nD
    refine lc_it walk_tup (fun i Hi => (∀ b o, b ≠ D → H b = some o → Hi b = some o) ∧ Hi D = some (.lst (((r.words.take i).filter kindB).map V.str)))
      ⟨fun b o x e => by rw [upd_ne x]; exact e, upd_same⟩ (fun i Hi _ p => SqT.of (p.1 _ _ n2 e2)) (fun i x Hi Hj hil p y => ?_) (fun Hi p => ?_)
    · obtain ⟨rfl, ex⟩ := y
      obtain ⟨wd, ew, rfl⟩ := map_get ex
      obtain ⟨wl, wa⟩ := ok.ww wd (List.mem_of_getElem? ew)
      refine ⟨rfl, ?_⟩
      refine ⟨_, rfl, wd, rfl, wl, wa, fun H2 S2 => ⟨_, rfl, ite2 (fun h0 => ?_) (fun h0 => ?_)⟩⟩
      · have h2 := List.length_filter_le kindB (r.words.take i)
        have h3 : (r.words.take i).length ≤ r.words.length := List.length_take_le' ..
        have h4 := ok.wl
        refine ⟨_, rfl, _, S2 _ _ p.2, (by rw [List.length_map, sizeLine_eq]; omega), fun b o x e => (upd_ne x).trans (S2 _ _ (p.1 b o x e)), ?_⟩
        rw [upd_same, take_snoc ew, List.filter_append, List.filter_cons_of_pos h0, List.map_append]
        rfl
      · refine ⟨fun b o x e => S2 _ _ (p.1 b o x e), ?_⟩
        rw [take_snoc ew, List.filter_append, List.filter_cons_of_neg h0, List.filter_nil, List.append_nil]
        exact S2 _ _ p.2
    · have eD := p.2
      rw [List.length_map, List.take_length] at eD
      exact q D Hi (fun b o e => p.1 b o (ne_of_none e nD) e) eD
end
end N7

set_option linter.all false
set_option maxRecDepth 100000
set_option maxHeartbeats 8000000
set_option pp.maxSteps 150
namespace N7
open PySem PySem.Spec PyProof.Rows L2 Gx Qp Qh
abbrev s_kind_row_of : Stmt := topS 35
abbrev n_kind_row_of : List Str := ["words", "ahead", "names", "condition", "name"]
theorem sc_kind_row_of : FnScope n_kind_row_of ["words"] (defScope s_kind_row_of) := ⟨rfl, rfl, rfl, by decide +kernel, rfl, by decide +kernel, by decide +kernel⟩
/-- the words of a row -/
def whW (r : Row) : List Str := match r.cond with
  | none => []
  | some _ => ("where" : Str) :: r.words
def rowW (r : Row) : List Str := ("kind" : Str) :: r.kind :: ("of" : Str) :: (r.names ++ whW r)
/-- a row that can be read -/
structure RowR (r : Row) : Prop where
  ok : RowOk r
  ne : r.names ≠ []
  nd : r.names.Nodup
  cw : ∀ t, r.cond = some t → ∃ d c, WrW t r.words d c
  ww : wtW r.words ≤ 100000
def spKindRow (C : Addr) : Sp := fun vs H Q _ => ∃ (l : Addr) (r : Row), vs = [.ref l] ∧ H l = some (.lst ((rowW r).map V.str)) ∧ RowR r ∧ ∀ (a : Addr) (H' : Hp), Same H H' → RowAt C H' a r → Q (.ref a) H'
theorem met_nodup {zs : List Str} (h : zs.Nodup) : ∀ i, i ≤ zs.length → Ws.met zs i = i
  | 0, _ => rfl
  | i + 1, hi => by
    have hlt : i < zs.length := hi
    have ih := met_nodup h i (by omega)
    have e : zs[i]? = some zs[i] := List.getElem?_eq_getElem hlt
    have nm : zs[i] ∉ zs.take i := fun z => by
      obtain ⟨j, hj, e2⟩ := List.mem_iff_getElem.mp z
      have hj' : j < i := by
        have := hj
        rw [List.length_take] at this
        omega
      rw [List.getElem_take] at e2
      have := (List.getElem_inj h).mp e2
      omega
    unfold Ws.met
    rw [e]
    dsimp only
    rw [if_neg nm, ih]
theorem pe_wk {X : Cx} {e : Expr} {t t' : TE} (h : PE X e t) (k : ∀ σ H Q, t' σ H Q → t σ H Q) : PE X e t' := ⟨fun pins s σ H Q I w => h.run pins s σ H Q I (k σ H Q w)⟩
def tAhd (l : Addr) (r : Row) : TE := fun σ H Q => σ[0]? = some (some (.ref l)) ∧ H l = some (.lst ((rowW r).map V.str)) ∧ Q (.int ((3 + r.names.length : Nat) : Int)) H
theorem eq_str (a b : Str) : eqV (.str a) (.str b) = decide (a = b) := by
  have h := inV_list b [a]
  have e : inV (.str b) [.str a] = eqV (.str a) (.str b) := by
    unfold inV
    simp
  rw [← e]
  refine h.trans (decide_eq_decide.mpr ?_)
  rw [List.mem_singleton]
  exact eq_comm
theorem flat_strs (l : List Str) : (l.map V.str).all flatV = true := by
  rw [List.all_map]
  exact List.all_eq_true.mpr fun _ _ => rfl
theorem no_where {r : Row} (R : RowR r) : ∀ (m : Nat) (x : Str), m < 3 + r.names.length → (rowW r)[m]? = some x → x ≠ "where"
  | 0, x, _, e => by
    cases e
    decide
  | 1, x, _, e => by
    cases e
    intro z
    have := R.ok.kk
    rw [z] at this
    exact absurd this (by decide +kernel)
  | 2, x, _, e => by
    cases e
    decide
  | m + 3, x, h, e => by
    have e : (r.names ++ whW r)[m]? = some x := e
    rw [List.getElem?_append_left (by omega)] at e
    have := (R.ok.nn x (List.mem_of_getElem? e)).2.2
    intro z
    rw [z] at this
    exact absurd this (by decide +kernel)
theorem row_len (r : Row) : (rowW r).length = 3 + (r.names.length + (whW r).length) := by
  show (r.names ++ whW r).length + 1 + 1 + 1 = _
  rw [List.length_append]
  omega
theorem cut_names (r : Row) : cutV ((rowW r).map V.str) (some 3) (some ((3 + r.names.length : Nat) : Int)) = r.names.map V.str := by
  have h8 := row_len r
  unfold cutV
  rw [show (some (3 : Int)) = some ((3 : Nat) : Int) from rfl, HT.sIx_nat, HT.sIx_nat, List.length_map, Nat.min_eq_left (by omega), Nat.min_eq_left (by omega), Nat.add_sub_cancel_left]
  show ((r.names ++ whW r).map V.str).take r.names.length = _
  rw [List.map_append]
  exact List.take_left' (List.length_map ..)
theorem cut_words {r : Row} {t : LT} (h : r.cond = some t) : cutV ((rowW r).map V.str) (some (((3 + r.names.length : Nat) : Int) + 1)) none = r.words.map V.str := by
  have h8 := row_len r
  have e0 : whW r = ("where" : Str) :: r.words := by unfold whW; rw [h]
  rw [e0, List.length_cons] at h8
  unfold cutV
  rw [show (((3 + r.names.length : Nat) : Int) + 1) = ((4 + r.names.length : Nat) : Int) by omega, HT.sIx_nat, HT.sIx_none, List.length_map, Nat.min_eq_left (by omega), List.take_of_length_le (by rw [List.length_drop, List.length_map]; exact Nat.le_refl _)]
  rw [← List.map_drop, show 4 + r.names.length = (r.names.length + 1) + 3 by omega]
  show ((r.names ++ whW r).drop (r.names.length + 1)).map V.str = _
  rw [e0, List.drop_append, List.drop_of_length_le (by omega), Nat.add_sub_cancel_left]
  rfl
theorem iteN {c : Bool} {A B : Prop} (h : c = false) (b : B) : if c = true then A else B := by
  rw [h]
  exact iteF b
theorem iteY {c : Bool} {A B : Prop} (h : c = true) (a : A) : if c = true then A else B := by
  rw [h]
  exact iteT a
section
variable {P : Program} {w : World} {K : PySem.W.Frag} {mg : Str → Option Value} {base : Heap} {fc fin fpl fct fdp fcond Cr mtake mended an ak aw Cw fk fWI : Addr}
theorem ok_kind_row_of {f : Addr} {fd fdk fdp' fdc fdI : FuncData} (F : Fun K "kind_row_of" "kind_row_of" s_kind_row_of f fd) (T : NmK mg K fc fin fpl fct fdp fcond Cr mtake mended an ak aw) (TR : NmR mg K Cw fk)
    (G_is_kind : FnOk P w K mg base CX0 2 fk fdk ["word"] (spIs kindB)) (b_is_kind : Binds K fdk ["word"] []) (G_place : FnOk P w K mg base CX0 3 fpl fdp' ["word"] (spIs placeB)) (b_place : Binds K fdp' ["word"] [])
    (G_cond : FnOk P w K mg base CX0 6 fcond fdc ["words"] (spCond K)) (b_cond : Binds K fdc ["words"] []) (M_W : Mk K Cw fWI) (G_rinit : FnOk P w K mg base CX0 1 fWI fdI ["self", "kind", "names", "words", "condition"] (spRInit K Cw)) (b_rinit : Binds K fdI ["self", "kind", "names", "words", "condition"] []) :
    FnOk P w K mg base CX0 7 f fd ["words"] (spKindRow Cw) := by
  refine F.ok sc_kind_row_of (fun vs H Q E h => ?_) (fun cdv A outer s H vs Q E hr h => ?_)
  · obtain ⟨l, r, rfl, _⟩ := h
    rfl
  · obtain ⟨l, r, rfl, hl, R, q⟩ := h
    have r2 := hr.mono (show 2 ≤ 6 by decide)
    have r3 := hr.mono (show 3 ≤ 6 by decide)
    have r6 := hr.mono (show 6 ≤ 6 by decide)
    refine ⟨_, pss_cons (ps_if (PW.pt (pw_or (pt_cmpR op_lt (pe_callB call_len_seq (by rfl) T.n_len (by decide +kernel) (pa_cons (pv 0) pa_nil)) pe_int (nomark _))
        (pw_or (pt_cmpR op_ne (pe_ix ix_list (pv 0) pe_int (fun _ _ => rfl)) pe_str (nomark _))
        (pw_or (pt_not (pt_val (pe_call G_is_kind r2 rfl TR.g_is_kind TR.k_is_kind b_is_kind .nil pass0 (pa_cons (pe_ix ix_list (pv 0) pe_int (fun _ _ => rfl)) pa_nil))))
        (pw_or1 (pt_cmpR op_ne (pe_ix ix_list (pv 0) pe_int (fun _ _ => rfl)) pe_str (nomark _))))))) (pss_one ps_never) pss_nil)
      (pss_cons (ps_set (i := 1) sc_kind_row_of.nd rfl (.inl rfl) (pe_wk (t' := tAhd l r) (pe_ifExp (pt_cmpR op_in_seq pe_str (pv 0) rfl)
        (pe_bm PySem.F.plainAttrs_list PySem.F.slot_list_index PySem.F.type_list_index mt_index (pv 0) (pa_cons pe_str pa_nil)) (pe_callB call_len_seq (by rfl) T.n_len (by decide +kernel) (pa_cons (pv 0) pa_nil))) ?ahd))
      (pss_cons (ps_set (i := 2) sc_kind_row_of.nd rfl (.inl rfl) (pe_slice sl_list (pv 0) (po_some pe_int) (po_some (pv 1))))
      (pss_cons (ps_if (PW.pt (pw_or (pt_not (pt_chain op_le op_le pe_int (pe_callB call_len_seq (by rfl) T.n_len (by decide +kernel) (pa_cons (pv 2) pa_nil)) pe_int))
        (pw_or1 (pt_cmpR op_lt (Ws.pe_lenZ (by rfl) T.n_len (by rfl) T.n_set (pv 2)) (pe_callB call_len_seq (by rfl) T.n_len (by decide +kernel) (pa_cons (pv 2) pa_nil)) (nomark _))))) (pss_one ps_never) pss_nil)
      (pss_cons (ps_if (pt_not (pt_val (pe_callB (cr_all rfl) (by rfl) T.n_all (by decide +kernel) (pa_cons (pe_lc (own := [("name", 4)]) (g := gName 4) (tt := tYes) (te := tCall (spIs placeB) [] E0 (tCons (tVar 4) tNil)) rfl sc_kind_row_of.nd (pi_list (pv 2))
        (blkOk_by (own := [("name", 4)]) (N := n_kind_row_of) (sc := defScope s_kind_row_of) (by decide +kernel)) (fun _ _ _ _ _ => (pg_name (i := 4) sc_kind_row_of.nd rfl (.inl rfl))) (fun _ _ _ _ _ => pts_nil)
        (fun _ _ _ _ _ => pe_call G_place r3 rfl T.g_is_place T.k_is_place b_place .nil pass0 (pa_cons (pv 4) pa_nil))) pa_nil)))) (pss_one ps_never) pss_nil)
      (pss_cons (ps_if (pt_cmpR op_eq (pv 1) (pe_callB call_len_seq (by rfl) T.n_len (by decide +kernel) (pa_cons (pv 0) pa_nil)) (nomark _))
        (pss_one (ps_ret (pe_make M_W G_rinit r2 rfl TR.g_KindRow b_rinit .nil pass0 (pa_cons (pe_ix ix_list (pv 0) pe_int (fun _ _ => rfl)) (pa_cons (pv 2) (pa_cons (pe_lst pa_nil) (pa_cons pe_non pa_nil))))))) pss_nil)
      (pss_cons (ps_set (i := 3) sc_kind_row_of.nd rfl (.inl rfl) (pe_call G_cond r6 rfl T.g_condition_of T.k_condition_of b_cond .nil pass0 (pa_cons (pe_slice sl_list (pv 0) (po_some (pe_op op_add (pv 1) pe_int)) po_none) pa_nil)))
      (pss_cons (ps_if (pt_cmpR op_isN (pv 3) pe_non (nomark _)) (pss_one ps_never) pss_nil)
      (pss_one (ps_ret (pe_make M_W G_rinit r2 rfl TR.g_KindRow b_rinit .nil pass0 (pa_cons (pe_ix ix_list (pv 0) pe_int (fun _ _ => rfl)) (pa_cons (pv 2) (pa_cons (pe_slice sl_list (pv 0) (po_some (pe_op op_add (pv 1) pe_int)) po_none) (pa_cons (pv 3) pa_nil)))))))))))))), ?_⟩
    case ahd =>
      rintro σ H9 Q9 ⟨h0, h1, h2⟩
      cases hc : r.cond with
      | none =>
        have e0 : whW r = [] := by unfold whW; rw [hc]
        refine ⟨_, h0, l, _, rfl, .inl (SqL.of h1), rfl, flat_strs _, _, rfl, iteN ?_ ?_⟩
        · show inV (.str "where") ((rowW r).map V.str) = false
          rw [inV_list]
          refine decide_eq_false fun z => ?_
          obtain ⟨m, hm, e⟩ := List.mem_iff_getElem.mp z
          refine no_where R m _ ?_ (List.getElem?_eq_getElem hm) e
          have h8 : (rowW r).length = 3 + (r.names.length + (whW r).length) := by
            show (r.names ++ whW r).length + 1 + 1 + 1 = _
            rw [List.length_append]
            omega
          rw [e0, List.length_nil] at h8
          omega
        · refine ⟨_, h0, l, _, rfl, .inl (SqL.of h1), ?_⟩
          have h8 : ((rowW r).map V.str).length = 3 + r.names.length := by
            rw [List.length_map]
            show (r.names ++ whW r).length + 1 + 1 + 1 = _
            rw [List.length_append, e0, List.length_nil]
            omega
          rw [h8]
          exact h2
      | some t =>
        have e0 : whW r = ("where" : Str) :: r.words := by unfold whW; rw [hc]
        have eW : (rowW r)[3 + r.names.length]? = some "where" := by
          rw [show 3 + r.names.length = r.names.length + 3 by omega]
          show (r.names ++ whW r)[r.names.length]? = _
          rw [List.getElem?_append_right (Nat.le_refl _), Nat.sub_self, e0]
          rfl
        refine ⟨_, h0, l, _, rfl, .inl (SqL.of h1), rfl, flat_strs _, _, rfl, iteY ?_ ?_⟩
        · show inV (.str "where") ((rowW r).map V.str) = true
          rw [inV_list]
          exact decide_eq_true (List.mem_of_getElem? eW)
        · refine ⟨_, h0, .inl ⟨rfl, _, SqL.of h1⟩, l, _, _, 3 + r.names.length, .str "where", rfl, rfl, SqL.of h1, rfl, flat_strs _, ?_, ?_, fun m z' hm hz => ?_, h2⟩
          · rw [List.getElem?_map, eW]
            rfl
          · rw [eq_str]
            exact decide_eq_true rfl
          · rw [List.getElem?_map] at hz
            obtain ⟨x, hx, rfl⟩ := Option.map_eq_some_iff.mp hz
            rw [eq_str]
            exact decide_eq_false (no_where R m x hm hx)
    have hl4 : (rowW r).length = 3 + (r.names.length + (whW r).length) := by
      show (r.names ++ whW r).length + 1 + 1 + 1 = _
      rw [List.length_append]
      omega
    have n1 : 1 ≤ r.names.length := by
      rcases List.eq_nil_or_concat r.names with z | ⟨_, _, z⟩
      · exact absurd z R.ne
      · rw [z, List.length_concat]
        omega
    have lm : ((rowW r).map V.str).length = (rowW r).length := List.length_map ..
    refine ⟨_, rfl, l, _, rfl, .inl (SqL.of hl), _, _, rfl, rfl, _, rfl, iteN (decide_eq_false (by rw [lm]; omega)) ?_⟩
    have x0 : atI ((rowW r).map V.str) 0 = some (.str "kind") := atI_nat (j := 0) rfl
    have x1 : atI ((rowW r).map V.str) 1 = some (.str r.kind) := atI_nat (j := 1) rfl
    have x2 : atI ((rowW r).map V.str) 2 = some (.str "of") := atI_nat (j := 2) rfl
    refine ⟨_, rfl, l, _, _, _, rfl, rfl, SqL.of hl, x0, rfl, _, rfl, iteN (by decide) ?_⟩
    refine ⟨_, rfl, l, _, _, _, rfl, rfl, SqL.of hl, x1, _, rfl, (by have := R.ok.kl; omega), R.ok.ka, fun H1 S1 => ⟨_, rfl, ?_⟩⟩
    rw [R.ok.kk]
    refine iteN rfl ?_
    refine ⟨_, rfl, l, _, _, _, rfl, rfl, SqL.of (S1 _ _ hl), x2, rfl, _, rfl, iteN (by decide) ?_⟩
    refine ⟨rfl, S1 _ _ hl, ?_⟩
    refine ⟨_, rfl, _, rfl, _, rfl, _, rfl, l, _, rfl, SqL.of (S1 _ _ hl), fun ln nln => ?_⟩
    rw [cut_names]
    have S2 : Same H (upd H1 ln (.lst (r.names.map V.str))) := S1.trans (new_same nln)
    have eln : upd H1 ln (.lst (r.names.map V.str)) ln = some (.lst (r.names.map V.str)) := upd_same
    generalize upd H1 ln (.lst (r.names.map V.str)) = H2 at *
    have ln2 : (r.names.map V.str).length = r.names.length := List.length_map ..
    have n4 := R.ok.nl
    refine ⟨_, rfl, ln, _, rfl, .inl (SqL.of eln), _, _, rfl, rfl, _, rfl, iteY (decide_eq_true (by omega)) ⟨_, _, rfl, rfl, _, rfl, iteN ?_ ?_⟩⟩
    · rw [decide_eq_true (by omega)]
      rfl
    refine ⟨_, rfl, ln, r.names, rfl, SqL.of eln, by omega, _, rfl, ln, _, rfl, .inl (SqL.of eln), _, _, rfl, rfl, _, rfl, iteN ?_ ?_⟩
    · rw [met_nodup R.nd _ (Nat.le_refl _)]
      exact decide_eq_false (by omega)
    refine ⟨_, rfl, ln, rfl, ⟨_, SqL.of eln⟩, fun D nD => ?_⟩
    have lD : ln ≠ D := ne_of_none eln nD
    refine lc_it walk_list (fun i Hi => (∀ b o, b ≠ D → H2 b = some o → Hi b = some o) ∧ Hi D = some (.lst ((((r.names.take i).map placeB)).map V.bl)))
      ⟨fun b o x e => by rw [upd_ne x]; exact e, upd_same⟩ (fun i Hi _ p => SqL.of (p.1 ln _ lD eln)) (fun i x Hi Hj hil p y => ?_) (fun Hi p => ?_)
    · obtain ⟨rfl, ex⟩ := y
      obtain ⟨wd, ew, rfl⟩ := map_get ex
      obtain ⟨wl, wa, _⟩ := R.ok.nn wd (List.mem_of_getElem? ew)
      refine ⟨rfl, keep1' ?_⟩
      refine ⟨_, rfl, wd, rfl, by omega, wa, fun H3 S3 => ⟨_, S3 _ _ p.2, ?_, fun b o x e => (upd_ne x).trans (S3 _ _ (p.1 b o x e)), ?_⟩⟩
      · have h3 : (r.names.take i).length ≤ r.names.length := List.length_take_le' ..
        rw [List.length_map, List.length_map, sizeLine_eq]
        omega
      · rw [upd_same, take_snoc ew, List.map_append, List.map_append]
        rfl
    · have eD := p.2
      rw [ln2, List.take_length] at eD
      refine ⟨D, _, rfl, SqL.of eD, _, rfl, iteN ?_ ?_⟩
      · have : (r.names.map placeB).all id = true := by
          rw [List.all_map]
          exact List.all_eq_true.mpr fun z hz => (R.ok.nn z hz).2.2
        rw [this]
        rfl
      have S3 : Same H Hi := fun b o e => p.1 b o (ne_of_none (S2 _ _ e) nD) (S2 _ _ e)
      have eln3 := p.1 ln _ lD eln
      have hl3 := S3 _ _ hl
      have up2 : ∀ {Hx : Hp} {x dx : Addr}, Hx x = none → Hx dx = none → Same Hx (upd (upd Hx dx (.own x)) x (.ins Cw dx [])) := fun nx nd b o e => by
        rw [upd_ne (ne_of_none e nx), upd_ne (ne_of_none e nd)]
        exact e
      refine ⟨_, rfl, _, rfl, l, _, rfl, .inl (SqL.of hl3), rfl, _, rfl, ?_⟩
      cases hc : r.cond with
      | none =>
        have e0 : whW r = [] := by unfold whW; rw [hc]
        refine iteY (decide_eq_true ?_) ?_
        · rw [lm, hl4, e0]
          rfl
        refine ⟨_, rfl, l, _, _, _, rfl, rfl, SqL.of hl3, x1, _, rfl, Nat.zero_le _, fun le nle => ?_⟩
        intro a dx na nd dxa
        have S4 := new_same (o := .lst []) nle
        have ele : upd Hi le (.lst []) le = some (.lst []) := upd_same
        generalize upd Hi le (.lst []) = H4 at *
        have S5 := up2 na nd
        refine ⟨a, dx, ln, le, .non, r, rfl, upd_same, S5 _ _ (S4 _ _ eln3), ?_, ?_, fun H6 k6 h6 => ⟨rfl, q a H6 (fun b o e => ?_) h6⟩⟩
        · rw [R.ok.cn hc]
          exact S5 _ _ ele
        · rw [hc]
          rfl
        · have e4 := S4 _ _ (S3 _ _ e)
          exact k6 b o (ne_of_none e4 na) (S5 _ _ e4)
      | some t =>
        have e0 : whW r = ("where" : Str) :: r.words := by unfold whW; rw [hc]
        obtain ⟨wt0, wd0, ww0, _⟩ := R.ok.cw t hc
        obtain ⟨d, c, hW⟩ := R.cw t hc
        refine iteN (decide_eq_false ?_) ?_
        · rw [lm, hl4, e0, List.length_cons]
          intro z
          have := V.int.inj z
          omega
        refine ⟨_, rfl, _, rfl, _, _, rfl, rfl, _, rfl, l, _, rfl, SqL.of hl3, fun lw nlw => ?_⟩
        rw [cut_words hc]
        have S4 := new_same (o := .lst (r.words.map V.str)) nlw
        have elw : upd Hi lw (.lst (r.words.map V.str)) lw = some (.lst (r.words.map V.str)) := upd_same
        generalize upd Hi lw (.lst (r.words.map V.str)) = H4 at *
        refine ⟨lw, r.words, t, d, c, rfl, elw, hW, wt0, R.ok.ww, R.ww, fun v H5 S5 hv => ?_⟩
        obtain ⟨va, vu, rfl, _⟩ := hv.head
        refine ⟨_, rfl, rfl, _, rfl, iteF ?_⟩
        have S45 := S4.trans S5
        refine ⟨_, rfl, l, _, _, _, rfl, rfl, SqL.of (S45 _ _ hl3), x1, _, rfl, _, rfl, _, rfl, _, _, rfl, rfl, _, rfl, l, _, rfl, SqL.of (S45 _ _ hl3), fun le nle => ?_⟩
        rw [cut_words hc]
        have S6 := new_same (o := .lst (r.words.map V.str)) nle
        have ele : upd H5 le (.lst (r.words.map V.str)) le = some (.lst (r.words.map V.str)) := upd_same
        generalize upd H5 le (.lst (r.words.map V.str)) = H6 at *
        refine ⟨_, rfl, ?_⟩
        intro a dx na nd dxa
        have S7 := up2 na nd
        have S67 := S6.trans S7
        refine ⟨a, dx, ln, le, _, r, rfl, upd_same, S67 _ _ (S45 _ _ eln3), S7 _ _ ele, ?_, fun H8 k8 h8 => ⟨rfl, q a H8 (fun b o e => ?_) h8⟩⟩
        · rw [hc]
          exact PtAt.mono (fun b xs e => S67 _ _ e) hv
        · have e6 := S6 _ _ (S45 _ _ (S3 _ _ e))
          exact k8 b o (ne_of_none e6 na) (S7 _ _ e6)
end
end N7

set_option linter.all false
set_option maxRecDepth 100000
set_option maxHeartbeats 8000000
set_option pp.maxSteps 150
namespace N7
open PySem PySem.Spec PyProof.Rows L2 Gx Qp Qh
abbrev s_faults : Stmt := topS 36
abbrev n_faults : List Str := ["rows", "kinds", "at", "kind", "row"]
theorem sc_faults : FnScope n_faults ["rows"] (defScope s_faults) := ⟨rfl, rfl, rfl, by decide +kernel, rfl, by decide +kernel, by decide +kernel⟩
def RowsAt (C : Addr) (H : Hp) (us : List V) (rs : List Row) : Prop := us.length = rs.length ∧ ∀ (i : Nat) (r : Row), rs[i]? = some r → ∃ a, us[i]? = some (.ref a) ∧ RowAt C H a r
theorem RowsAt.same {C : Addr} {H H' : Hp} {us : List V} {rs : List Row} (h : RowsAt C H us rs) (s : Same H H') : RowsAt C H' us rs :=
  ⟨h.1, fun i r e => let ⟨a, e1, e2⟩ := h.2 i r e; ⟨a, e1, e2.same s⟩⟩
theorem RowsAt.get {C : Addr} {H : Hp} {us : List V} {rs : List Row} (h : RowsAt C H us rs) {i : Nat} {x : V} (e : us[i]? = some x) : ∃ a r, x = .ref a ∧ rs[i]? = some r ∧ RowAt C H a r := by
  have hi : i < rs.length := by
    rw [← h.1]
    exact (List.getElem?_eq_some_iff.mp e).1
  obtain ⟨a, e1, e2⟩ := h.2 i rs[i] (List.getElem?_eq_getElem hi)
  rw [e] at e1
  exact ⟨a, rs[i], Option.some.inj e1, List.getElem?_eq_getElem hi, e2⟩
structure NmF (mg : Str → Option Value) (K : PySem.W.Frag) (Cw m_line m_unl m_used : Addr) : Prop where
  m_line : Meth K Cw "line" m_line
  m_unl : Meth K Cw "unlike_atoms" m_unl
  m_used : Meth K Cw "used_kinds" m_used
/-- rows that are right together -/
structure RowsOk (rs : List Row) : Prop where
  len : rs.length ≤ 4
  each : ∀ r ∈ rs, RowOk r
  kinds : (rs.map Row.kind).Nodup
  used : ∀ r ∈ rs, ∀ x ∈ r.words, kindB x = true → x ∈ rs.map Row.kind
def spFaults (C : Addr) : Sp := fun vs H Q _ => ∃ (l : Addr) (us : List V) (rs : List Row), vs = [.ref l] ∧ H l = some (.lst us) ∧ RowsAt C H us rs ∧ RowsOk rs ∧ ∀ H' : Hp, Same H H' → Q .non H'
theorem cut_take (xs : List V) (j : Nat) (h : j ≤ xs.length) : cutV xs none (some (j : Int)) = xs.take j := by
  unfold cutV
  rw [HT.sIx_none, HT.sIx_nat, Nat.min_eq_left h, List.drop_zero, Nat.sub_zero]
theorem rep_snoc (i : Nat) (b : Bool) : List.map V.bl (List.replicate i b) ++ [V.bl b] = List.map V.bl (List.replicate (i + 1) b) := by
  rw [List.replicate_succ', List.map_append]
  rfl
theorem not_in_take {ks : List Str} (h : ks.Nodup) {j : Nat} {k : Str} (e : ks[j]? = some k) : k ∉ ks.take j := fun z => by
  obtain ⟨hj, e1⟩ := List.getElem?_eq_some_iff.mp e
  obtain ⟨m, hm, e2⟩ := List.mem_iff_getElem.mp z
  have hm' : m < j := by
    have := hm
    rw [List.length_take] at this
    omega
  rw [List.getElem_take] at e2
  have := (List.getElem_inj h).mp (e2.trans e1.symm)
  omega
section
variable {P : Program} {w : World} {K : PySem.W.Frag} {mg : Str → Option Value} {base : Heap} {fc fin fpl fct fdp fcond Cr mtake mended an ak aw Cw fk m_line m_unl m_used : Addr}
theorem ok_faults {f : Addr} {fd fdu fdc fdd : FuncData} (F : Fun K "refuse_faults" "refuse_faults" s_faults f fd) (T : NmK mg K fc fin fpl fct fdp fcond Cr mtake mended an ak aw) (TR : NmR mg K Cw fk) (TF : NmF mg K Cw m_line m_unl m_used)
    (G_used : FnOk P w K mg base CX0 3 m_used fdu ["self"] (spUsed Cw)) (b_used : Binds K fdu ["self"] [])
    (G_count : FnOk P w K mg base CX0 1 fct fdc ["words", "wanted"] (spCount K)) (b_count : Binds K fdc ["words", "wanted"] [])
    (G_depth : FnOk P w K mg base CX0 1 fdp fdd ["words"] (spDepth K)) (b_depth : Binds K fdd ["words"] []) : FnOk P w K mg base CX0 4 f fd ["rows"] (spFaults Cw) := by
  refine F.ok sc_faults (fun vs H Q E h => ?_) (fun cdv A outer s H vs Q E hr h => ?_)
  · obtain ⟨l, us, rs, rfl, _⟩ := h
    rfl
  · obtain ⟨l, us, rs, rfl, hl, hR, ok, q⟩ := h
    have r1 := hr.mono (show 1 ≤ 3 by decide)
    have r3 := hr.mono (show 3 ≤ 3 by decide)
    refine ⟨_, pss_cons (ps_set (i := 1) sc_faults.nd rfl (.inr rfl) (pe_lc (own := [("row", 4)]) (g := gName 4) (tt := tYes) (te := tFld K (tVar 4) "kind") rfl sc_faults.nd (pi_list (pv 0)) (blkOk_by (own := [("row", 4)]) (N := n_faults) (sc := defScope s_faults) (by decide +kernel))
        (fun _ _ _ _ _ => (pg_name (i := 4) sc_faults.nd rfl (.inl rfl))) (fun _ _ _ _ _ => pts_nil) (fun _ _ _ _ _ => pe_fld (pv 4) rfl)))
      (pss_cons (ps_for PassesOwn.never rfl (pi_enum (by rfl) T.n_enumerate (pa_cons (pv 1) pa_nil)) (pg_tup rfl (pgs_cons (pg_name (i := 2) sc_faults.nd rfl (.inl rfl)) (pgs_cons (pg_name (i := 3) sc_faults.nd rfl (.inl rfl)) pgs_nil)))
        (pss_one (ps_if (pt_cmpR op_in_seq (pv 3) (pe_slice sl_list (pv 1) po_none (po_some (pv 2))) rfl) (pss_one ps_never) pss_nil)))
      (pss_cons (ps_for PassesOwn.never rfl (pi_enum (by rfl) T.n_enumerate (pa_cons (pv 0) pa_nil)) (pg_tup rfl (pgs_cons (pg_name (i := 2) sc_faults.nd rfl (.inl rfl)) (pgs_cons (pg_name (i := 4) sc_faults.nd rfl (.inl rfl)) pgs_nil)))
        (pss_one (ps_if (pt_not (pt_val (pe_callB (cr_all rfl) (by rfl) T.n_all (by decide +kernel) (pa_cons (pe_lc (own := [("kind", 3)]) (g := gName 3) (tt := tYes) (te := tOp (rIn K false) (tVar 3) (tVar 1)) rfl sc_faults.nd (pi_list (pe_meth0 (pv 4) TR.cl TF.m_used G_used r3 b_used .nil pass0))
          (blkOk_by (own := [("kind", 3)]) (N := n_faults) (sc := defScope s_faults) (by decide +kernel)) (fun _ _ _ _ _ => (pg_name (i := 3) sc_faults.nd rfl (.inl rfl))) (fun _ _ _ _ _ => pts_nil) (fun _ _ _ _ _ => pe_cmpR op_in_seq (pv 3) (pv 1) (by rfl))) pa_nil)))) (pss_one ps_never) pss_nil)))
      (pss_cons (ps_if (pt_cmpR op_gt (pe_callB call_len_seq (by rfl) T.n_len (by decide +kernel) (pa_cons (pv 0) pa_nil)) pe_int (nomark _)) (pss_one ps_never) pss_nil)
      (pss_cons (ps_if (pt_val (pe_callB (cr_any rfl) (by rfl) T.n_any (by decide +kernel) (pa_cons (pe_lc (own := [("row", 4)]) (g := gName 4) (tt := tYes) (te := tOp (rI0 fun i j => .bl (decide (i > j))) (tCall (spCount K) [] E0 (tCons (tFld K (tVar 4) "words") (tCons (tC (.ref aw)) tNil))) (tC (.int 8))) rfl sc_faults.nd (pi_list (pv 0))
          (blkOk_by (own := [("row", 4)]) (N := n_faults) (sc := defScope s_faults) (by decide +kernel)) (fun _ _ _ _ _ => (pg_name (i := 4) sc_faults.nd rfl (.inl rfl))) (fun _ _ _ _ _ => pts_nil)
          (fun _ _ _ _ _ => pe_cmpR op_gt (pe_call G_count r1 rfl T.g_count_of T.k_count_of b_count .nil pass0 (pa_cons (pe_fld (pv 4) rfl) (pa_cons (pe_glob (v := .ref _) rfl T.g_ATOM_WORDS rfl) pa_nil))) pe_int (nomark _))) pa_nil))) (pss_one ps_never) pss_nil)
      (pss_one (ps_if (pt_val (pe_callB (cr_any rfl) (by rfl) T.n_any (by decide +kernel) (pa_cons (pe_lc (own := [("row", 4)]) (g := gName 4) (tt := tYes) (te := tOp (rI0 fun i j => .bl (decide (i > j))) (tCall (spDepth K) [] E0 (tCons (tFld K (tVar 4) "words") tNil)) (tC (.int 6))) rfl sc_faults.nd (pi_list (pv 0))
          (blkOk_by (own := [("row", 4)]) (N := n_faults) (sc := defScope s_faults) (by decide +kernel)) (fun _ _ _ _ _ => (pg_name (i := 4) sc_faults.nd rfl (.inl rfl))) (fun _ _ _ _ _ => pts_nil)
          (fun _ _ _ _ _ => pe_cmpR op_gt (pe_call G_depth r1 rfl T.g_depth_of T.k_depth_of b_depth .nil pass0 (pa_cons (pe_fld (pv 4) rfl) pa_nil)) pe_int (nomark _))) pa_nil))) (pss_one ps_never) pss_nil)))))), ?_⟩
    refine ⟨_, rfl, l, rfl, ⟨_, SqL.of hl⟩, fun D nD => ?_⟩
    have lD : l ≠ D := ne_of_none hl nD
    have rl := ok.len
    have ul := hR.1
    refine lc_it walk_list (fun i Hi => (∀ b o, b ≠ D → H b = some o → Hi b = some o) ∧ Hi D = some (.lst (((rs.take i).map Row.kind).map V.str)))
      ⟨fun b o x e => by rw [upd_ne x]; exact e, upd_same⟩ (fun i Hi _ p => SqL.of (p.1 l _ lD hl)) (fun i x Hi Hj hil p y => ?_) (fun H1 p => ?_)
    · obtain ⟨rfl, ex⟩ := y
      obtain ⟨a, r, rfl, er, ra⟩ := hR.get ex
      obtain ⟨dx, a1, a2, v, e, e1, e2, ec⟩ := ra.same fun b o e => p.1 b o (ne_of_none e nD) e
      refine ⟨rfl, keep1' ?_⟩
      refine ⟨_, rfl, a, Cw, dx, _, _, rfl, e, TR.cl, TR.a_kind, rfl, _, p.2, ?_, fun b o x e => (upd_ne x).trans (p.1 b o x e), ?_⟩
      · have h3 : (rs.take i).length ≤ rs.length := List.length_take_le' ..
        rw [List.length_map, List.length_map, sizeLine_eq]
        omega
      · rw [upd_same, take_snoc er, List.map_append, List.map_append]
        rfl
    have S1 : Same H H1 := fun b o e => p.1 b o (ne_of_none e nD) e
    have eK := p.2
    rw [ul, List.take_length] at eK
    have hR1 := hR.same S1
    have hl1 := S1 _ _ hl
    clear p
    have kl : (rs.map Row.kind).length = rs.length := List.length_map ..
    generalize hks : rs.map Row.kind = ks at *
    refine ⟨_, rfl, D, _, rfl, SqL.of eK, ?_⟩
    refine for_it walk_enum (fun i σ Hi => Same H1 Hi ∧ ∃ (b2 b3 : Option V), σ = [some (.ref l), some (.ref D), b2, b3, none])
      ⟨Same.refl _, none, none, rfl⟩ (fun i σ H' _ p => SqL.of (p.1 _ _ eK)) (fun j x σ H5 H6 hj p y => ?_) (fun σ H5 p => ?_)
    · obtain ⟨s5, b2, b3, rfl⟩ := p
      obtain ⟨T0, x', y', rfl, nT, rfl, ex, ey⟩ := y
      cases ex
      obtain ⟨kd, hk, rfl⟩ := map_get ey
      have s6 := s5.trans (new_same (o := .tup [.int (j : Nat), .str kd]) nT)
      have eT : upd H5 T0 (.tup [.int (j : Nat), .str kd]) T0 = some (.tup [.int (j : Nat), .str kd]) := upd_same
      generalize upd H5 T0 (.tup [.int (j : Nat), .str kd]) = H6 at *
      refine ⟨T0, _, rfl, SqT.of eT, rfl, _, _, rfl, _, _, rfl, rfl, ?_⟩
      refine ⟨_, rfl, _, rfl, _, rfl, _, rfl, D, _, rfl, SqL.of (s6 _ _ eK), fun p np => ?_⟩
      rw [cut_take _ _ (Nat.le_of_lt hj), ← List.map_take]
      refine ⟨p, _, rfl, .inl (SqL.of upd_same), rfl, flat_strs _, _, rfl, iteN ?_ ?_⟩
      · show inV (.str kd) ((ks.take j).map V.str) = false
        rw [inV_list]
        exact decide_eq_false (not_in_take (by rw [← hks]; exact ok.kinds) hk)
      · exact ⟨s6.trans (new_same np), _, _, rfl⟩
    obtain ⟨s5, b2, b3, rfl⟩ := p
    have hR5 := hR1.same s5
    refine ⟨_, rfl, l, _, rfl, SqL.of (s5 _ _ hl1), ?_⟩
    refine for_it walk_enum (fun i σ Hi => Same H5 Hi ∧ ∃ (b2 b3 b4 : Option V), σ = [some (.ref l), some (.ref D), b2, b3, b4])
      ⟨Same.refl _, _, _, _, rfl⟩ (fun i σ H' _ p => SqL.of (p.1 _ _ (s5 _ _ hl1))) (fun j x σ H7 H8 hj p y => ?_) (fun σ H7 p => ?_)
    · obtain ⟨s7, c2, c3, c4, rfl⟩ := p
      obtain ⟨T0, x', y', rfl, nT, rfl, ex, ey⟩ := y
      cases ex
      obtain ⟨a, r, rfl, er, ra⟩ := hR5.get ey
      have rm := List.mem_of_getElem? er
      have s8 := s7.trans (new_same (o := .tup [.int (j : Nat), .ref a]) nT)
      have eT : upd H7 T0 (.tup [.int (j : Nat), .ref a]) T0 = some (.tup [.int (j : Nat), .ref a]) := upd_same
      generalize upd H7 T0 (.tup [.int (j : Nat), .ref a]) = H8 at *
      refine ⟨T0, _, rfl, SqT.of eT, rfl, _, _, rfl, _, _, rfl, rfl, ?_⟩
      have ra8 := ra.same s8
      have ra9 := ra8
      obtain ⟨dx, a1, a2, v, e, e1, e2, ec⟩ := ra8
      refine ⟨_, rfl, a, dx, _, rfl, e, rfl, a, r, rfl, ra9, ok.each r rm, fun lu Hu Su elu => ⟨lu, rfl, ⟨_, SqL.of elu⟩, fun D2 nD2 => ?_⟩⟩
      have luD : lu ≠ D2 := ne_of_none elu nD2
      have eKu := Su _ _ (s8 _ _ (s5 _ _ eK))
      have KD : D ≠ D2 := ne_of_none eKu nD2
      refine lc_it walk_list (fun i Hi => (∀ b o, b ≠ D2 → Hu b = some o → Hi b = some o) ∧ Hi D2 = some (.lst ((List.replicate i true).map V.bl)))
        ⟨fun b o x e => by rw [upd_ne x]; exact e, upd_same⟩ (fun i Hi _ p => SqL.of (p.1 lu _ luD elu)) (fun i x Hi Hj hil p y => ?_) (fun H9 p => ?_)
      · obtain ⟨rfl, ex⟩ := y
        obtain ⟨wd, ew, rfl⟩ := map_get ex
        have wm := List.mem_filter.mp (List.mem_of_getElem? ew)
        have wl := (ok.each r rm).wl
        have il : i ≤ 2000 := by
          have h1 := List.length_filter_le kindB r.words
          rw [List.length_map] at hil
          omega
        refine ⟨rfl, keep1' ?_⟩
        refine ⟨_, rfl, _, rfl, D, _, rfl, .inl (SqL.of (p.1 D _ KD eKu)), rfl, flat_strs _, _, p.2, ?_, fun b o x e => (upd_ne x).trans (p.1 b o x e), ?_⟩
        · rw [List.length_map, List.length_replicate, sizeLine_eq]
          omega
        · rw [upd_same, inV_list, decide_eq_true (by rw [← hks]; exact ok.used r rm wd wm.1 wm.2), ← rep_snoc]
          rfl
      · refine ⟨D2, _, rfl, SqL.of p.2, _, rfl, iteN ?_ ?_⟩
        · have : (List.replicate ((r.words.filter kindB).map V.str).length true).all id = true := by
            rw [List.all_replicate]
            split <;> rfl
          rw [this]
          rfl
        · exact ⟨fun b o e => p.1 b o (ne_of_none (Su _ _ (s8 _ _ e)) nD2) (Su _ _ (s8 _ _ e)), _, _, _, rfl⟩
    obtain ⟨s7, c2, c3, c4, rfl⟩ := p
    have hR7 := hR5.same s7
    have hl7 := s7 _ _ (s5 _ _ hl1)
    refine ⟨_, rfl, l, _, rfl, .inl (SqL.of hl7), _, _, rfl, rfl, _, rfl, iteN (decide_eq_false (by omega)) ?_⟩
    have S7 : Same H H7 := S1.trans (s5.trans s7)
    refine ⟨_, rfl, l, rfl, ⟨_, SqL.of hl7⟩, fun D3 nD3 => ?_⟩
    have l3 : l ≠ D3 := ne_of_none hl7 nD3
    refine lc_it walk_list (fun i Hi => (∀ b o, b ≠ D3 → H7 b = some o → Hi b = some o) ∧ Hi D3 = some (.lst ((List.replicate i false).map V.bl)))
      ⟨fun b o x e => by rw [upd_ne x]; exact e, upd_same⟩ (fun i Hi _ p => SqL.of (p.1 l _ l3 hl7)) (fun i x Hi Hj hil p y => ?_) (fun H8 p => ?_)
    · obtain ⟨rfl, ex⟩ := y
      obtain ⟨a, r, rfl, er, ra⟩ := hR7.get ex
      have rm := List.mem_of_getElem? er
      obtain ⟨dx, a1, a2, v, e, e1, e2, ec⟩ := ra.same fun b o e => p.1 b o (ne_of_none e nD3) e
      have wl := (ok.each r rm).wl
      refine ⟨rfl, keep1' ?_⟩
      refine ⟨_, rfl, a, Cw, dx, _, _, rfl, e, TR.cl, TR.a_words, rfl, a2, aw, r.words, katw, rfl, SqT.of e2, T.atw_.at_ _, by omega, fun H9 S9 => ?_⟩
      refine ⟨_, _, rfl, rfl, _, S9 _ _ p.2, ?_, fun b o x e => (upd_ne x).trans (S9 _ _ (p.1 b o x e)), ?_⟩
      · rw [List.length_map, List.length_replicate, sizeLine_eq]
        omega
      · have := (ok.each r rm).wa
        rw [upd_same]
        dsimp only
        rw [decide_eq_false (by omega), rep_snoc]
    refine ⟨D3, _, rfl, SqL.of p.2, _, rfl, iteN ?_ ?_⟩
    · rw [List.any_replicate]
      split <;> rfl
    have s8 : Same H7 H8 := fun b o e => p.1 b o (ne_of_none e nD3) e
    have hR8 := hR7.same s8
    have hl8 := s8 _ _ hl7
    clear p
    refine ⟨_, rfl, l, rfl, ⟨_, SqL.of hl8⟩, fun D4 nD4 => ?_⟩
    have l4 : l ≠ D4 := ne_of_none hl8 nD4
    refine lc_it walk_list (fun i Hi => (∀ b o, b ≠ D4 → H8 b = some o → Hi b = some o) ∧ Hi D4 = some (.lst ((List.replicate i false).map V.bl)))
      ⟨fun b o x e => by rw [upd_ne x]; exact e, upd_same⟩ (fun i Hi _ p => SqL.of (p.1 l _ l4 hl8)) (fun i x Hi Hj hil p y => ?_) (fun H9 p => ?_)
    · obtain ⟨rfl, ex⟩ := y
      obtain ⟨a, r, rfl, er, ra⟩ := hR8.get ex
      have rm := List.mem_of_getElem? er
      obtain ⟨dx, a1, a2, v, e, e1, e2, ec⟩ := ra.same fun b o e => p.1 b o (ne_of_none e nD4) e
      have wl := (ok.each r rm).wl
      refine ⟨rfl, keep1' ?_⟩
      refine ⟨_, rfl, a, Cw, dx, _, _, rfl, e, TR.cl, TR.a_words, rfl, a2, r.words, rfl, SqT.of e2, (ok.each r rm).wb, by omega, fun H9 S9 => ?_⟩
      refine ⟨_, _, rfl, rfl, _, S9 _ _ p.2, ?_, fun b o x e => (upd_ne x).trans (S9 _ _ (p.1 b o x e)), ?_⟩
      · rw [List.length_map, List.length_replicate, sizeLine_eq]
        omega
      · have := (ok.each r rm).wd
        rw [upd_same]
        dsimp only
        rw [decide_eq_false (by omega), rep_snoc]
    refine ⟨D4, _, rfl, SqL.of p.2, _, rfl, iteN ?_ ?_⟩
    · rw [List.any_replicate]
      split <;> rfl
    exact q H9 (S7.trans (s8.trans fun b o e => p.1 b o (ne_of_none e nD4) e))
end
end N7

set_option linter.all false
set_option maxRecDepth 100000
set_option maxHeartbeats 8000000
set_option pp.maxSteps 150
namespace N7
open PySem PySem.Spec PyProof.Rows L2 Gx Qp Qh
/-! ### kinds -/
abbrev s_kinit : Stmt := inClass (topS 39) 0
abbrev n_kinit : List Str := ["self", "rows", "row", "name", "atom"]
theorem sc_kinit : FnScope n_kinit ["self", "rows"] (defScope s_kinit) := ⟨rfl, rfl, rfl, by decide +kernel, rfl, by decide +kernel, by decide +kernel⟩
/-- the members of ms, each once -/
def UN (ms : List Str) (S : Str → Prop) : Prop := ms.Nodup ∧ ∀ x, x ∈ ms ↔ S x
theorem UN.nil : UN [] (fun _ => False) := ⟨List.nodup_nil, fun x => by simp⟩
theorem UN.add {ms : List Str} {S : Str → Prop} (h : UN ms S) (k : Str) : UN (Wt.addL ms k) (fun x => S x ∨ x = k) := by
  unfold Wt.addL
  by_cases hk : k ∈ ms
  · rw [if_pos hk]
    refine ⟨h.1, fun x => ⟨fun z => .inl ((h.2 x).mp z), fun z => z.elim (h.2 x).mpr fun e => e ▸ hk⟩⟩
  · rw [if_neg hk]
    refine ⟨List.nodup_cons.mpr ⟨hk, h.1⟩, fun x => ?_⟩
    rw [List.mem_cons, h.2 x]
    exact Or.comm
theorem UN.congr {ms : List Str} {S T : Str → Prop} (h : UN ms S) (e : ∀ x, S x ↔ T x) : UN ms T := ⟨h.1, fun x => (h.2 x).trans (e x)⟩
theorem UN.perm {ms ns : List Str} {S : Str → Prop} (h : UN ms S) (p : ns.Perm ms) : UN ns S := ⟨p.nodup_iff.mpr h.1, fun x => p.mem_iff.trans (h.2 x)⟩
theorem un_fold : ∀ (l ms : List Str) (S : Str → Prop), UN ms S → UN (l.foldl Wt.addL ms) (fun x => S x ∨ x ∈ l)
  | [], ms, S, h => h.congr fun x => by simp
  | k :: l, ms, S, h => (un_fold l _ _ (h.add k)).congr fun x => by
    rw [List.mem_cons, or_assoc]
theorem un_unS (l : List Str) : UN (unS l) (fun x => x ∈ l) := (un_fold l [] _ UN.nil).congr fun x => by simp
def kText (rs : List Row) : Str := Txt.join "\n" (rs.map lineS)
def nameOf (rs : List Row) (x : Str) : Prop := ∃ r ∈ rs, x ∈ r.names ∧ nameB x = true
def atomOf (rs : List Row) (x : Str) : Prop := ∃ r ∈ rs, x ∈ atT r
def fldK (k1 k2 k3 k4 : Addr) (z : Str) : List (Str × V) := [("words", .ref k1), ("names", .ref k2), ("rows", .ref k3), ("atoms", .ref k4), ("_text", .str z)]
def KAt (C Cw : Addr) (H : Hp) (a : Addr) (rs : List Row) : Prop := ∃ (dx k1 k2 k3 k4 : Addr) (nm as : List Str) (us : List V), H a = some (.ins C dx (fldK k1 k2 k3 k4 (kText rs))) ∧ H k1 = some (.tup ((rs.map Row.kind).map V.str)) ∧
  H k2 = some (.tup (nm.map V.str)) ∧ UN nm (nameOf rs) ∧ sortedS nm = true ∧ H k3 = some (.tup us) ∧ RowsAt Cw H us rs ∧ H k4 = some (.tup (as.map V.str)) ∧ UN as (atomOf rs) ∧ sortedS as = true
theorem KAt.same {C Cw a : Addr} {H H' : Hp} {rs : List Row} (h : KAt C Cw H a rs) (s : Same H H') : KAt C Cw H' a rs := by
  obtain ⟨dx, k1, k2, k3, k4, nm, as, us, e, e1, e2, u1, s1, e3, hR, e4, u2, s2⟩ := h
  exact ⟨dx, k1, k2, k3, k4, nm, as, us, s _ _ e, s _ _ e1, s _ _ e2, u1, s1, s _ _ e3, hR.same s, s _ _ e4, u2, s2⟩
theorem RowAt.keep {C C2 a b dx2 : Addr} {H H' : Hp} {fs : List (Str × V)} {r : Row} (h : RowAt C H b r) (ha : H a = some (.ins C2 dx2 fs)) (hf : fs.lookup ("kind" : Str) = none) (k : ∀ b o, b ≠ a → H b = some o → H' b = some o) : RowAt C H' b r := by
  obtain ⟨dx, a1, a2, v, e, e1, e2, ec⟩ := h
  have nT : ∀ {b : Addr} {xs : List V}, H b = some (.tup xs) → b ≠ a := fun e => ne_of e ha fun z => nomatch z
  have nb : b ≠ a := fun z => by
    rw [z, ha] at e
    cases e
    exact absurd hf (by intro z; exact nomatch z)
  refine ⟨dx, a1, a2, v, k _ _ nb e, k _ _ (nT e1) e1, k _ _ (nT e2) e2, ?_⟩
  cases hc : r.cond with
  | none => rw [hc] at ec; exact ec
  | some t => rw [hc] at ec; exact PtAt.mono (fun b xs e => k _ _ (nT e) e) ec
theorem RowsAt.keep {C C2 a dx2 : Addr} {H H' : Hp} {fs : List (Str × V)} {us : List V} {rs : List Row} (h : RowsAt C H us rs) (ha : H a = some (.ins C2 dx2 fs)) (hf : fs.lookup ("kind" : Str) = none) (k : ∀ b o, b ≠ a → H b = some o → H' b = some o) : RowsAt C H' us rs :=
  ⟨h.1, fun i r e => let ⟨b, e1, e2⟩ := h.2 i r e; ⟨b, e1, e2.keep ha hf k⟩⟩
theorem snoc_mem {α : Type} {rs : List α} {i : Nat} {r : α} (e : rs[i]? = some r) (S : α → Prop) : (∃ q ∈ rs.take (i + 1), S q) ↔ (∃ q ∈ rs.take i, S q) ∨ S r := by
  rw [take_snoc e]
  constructor
  · rintro ⟨q, hq, h⟩
    rcases List.mem_append.mp hq with z | z
    · exact .inl ⟨q, z, h⟩
    · rw [List.mem_singleton.mp z] at h
      exact .inr h
  · rintro (⟨q, hq, h⟩ | h)
    · exact ⟨q, List.mem_append_left _ hq, h⟩
    · exact ⟨r, List.mem_append_right _ (List.mem_singleton.mpr rfl), h⟩
theorem take_mem {xs : List Str} {j : Nat} {z : Str} (e : xs[j]? = some z) (x : Str) : x ∈ xs.take (j + 1) ↔ x ∈ xs.take j ∨ x = z := by
  rw [take_snoc e, List.mem_append, List.mem_singleton]
theorem atT_len {r : Row} (ok : RowOk r) : (atT r).length ≤ 8 := by
  unfold atT
  cases hc : r.cond with
  | none => exact Nat.zero_le _
  | some t =>
    rw [List.length_map]
    exact (ok.cw t hc).2.2.2
theorem lineS_len {r : Row} (ok : RowOk r) : (lineS r).length ≤ 41000 := by
  have l1 : ("kind " : Str).length = 5 := by decide +kernel
  have l2 : (" of " : Str).length = 4 := by decide +kernel
  have l3 : (" where " : Str).length = 7 := by decide +kernel
  have kl := ok.kl
  have nl := ok.names_len
  unfold lineS
  cases hc : r.cond with
  | none =>
    dsimp only
    rw [len_app, len_app, len_app]
    omega
  | some t =>
    have h1 := (ok.cw t hc).2.2.1
    have h2 := txt_len (nrm t)
    dsimp only
    rw [len_app, len_app, len_app, len_app, len_app]
    omega
structure NmKd (mg : Str → Option Value) (K : PySem.W.Frag) (C : Addr) : Prop where
  g_Kinds : mg "Kinds" = some (.ref C)
  cl : Cls K C
  a_words : NoAttr K C "words"
  a_names : NoAttr K C "names"
  a_rows : NoAttr K C "rows"
  a_atoms : NoAttr K C "atoms"
  a_text : NoAttr K C "_text"
def spKInit (C Cw : Addr) : Sp := fun vs H Q _ => ∃ (a dx l : Addr) (us : List V) (rs : List Row), vs = [.ref a, .ref l] ∧ H a = some (.ins C dx []) ∧ H l = some (.lst us) ∧ RowsAt Cw H us rs ∧ rs.length ≤ 4 ∧ (∀ r ∈ rs, RowOk r) ∧
  ∀ H' : Hp, (∀ b o, b ≠ a → H b = some o → H' b = some o) → KAt C Cw H' a rs → Q .non H'
section
variable {P : Program} {w : World} {K : PySem.W.Frag} {mg : Str → Option Value} {base : Heap} {fc fin fpl fct fdp fcond Cr mtake mended an ak aw C Cw fk m_line m_unl m_used : Addr}
theorem ok_kinit {f : Addr} {fd fdn fdl fdu : FuncData} (F : Fun K "__init__" "Kinds.__init__" s_kinit f fd) (T : NmK mg K fc fin fpl fct fdp fcond Cr mtake mended an ak aw) (TR : NmR mg K Cw fk) (TF : NmF mg K Cw m_line m_unl m_used) (TK : NmKd mg K C)
    (G_is_name : FnOk P w K mg base CX0 2 fin fdn ["word"] (spIs nameB)) (b_is_name : Binds K fdn ["word"] []) (G_line : FnOk P w K mg base CX0 33 m_line fdl ["self"] (spLine Cw)) (b_line : Binds K fdl ["self"] [])
    (G_unl : FnOk P w K mg base CX0 33 m_unl fdu ["self"] (spUnlike Cw)) (b_unl : Binds K fdu ["self"] []) : FnOk P w K mg base CX0 34 f fd ["self", "rows"] (spKInit C Cw) := by
  refine F.ok sc_kinit (fun vs H Q E h => ?_) (fun cdv A outer s H vs Q E hr h => ?_)
  · obtain ⟨a, dx, l, us, rs, rfl, _⟩ := h
    rfl
  · obtain ⟨a, dx, l, us, rs, rfl, ha, hl, hR, hn, hok, q⟩ := h
    have r2 := hr.mono (show 2 ≤ 33 by decide)
    refine ⟨_, pss_cons (ps_fld (pv 0) (pe_callTy call_tuple_of (by rfl) TR.n_tuple (by decide +kernel) (pa_cons (pe_lc (own := [("row", 2)]) (g := gName 2) (tt := tYes) (te := tFld K (tVar 2) "kind") rfl sc_kinit.nd (pi_list (pv 1)) (blkOk_by (own := [("row", 2)]) (N := n_kinit) (sc := defScope s_kinit) (by decide +kernel))
        (fun _ _ _ _ _ => (pg_name (i := 2) sc_kinit.nd rfl (.inl rfl))) (fun _ _ _ _ _ => pts_nil) (fun _ _ _ _ _ => pe_fld (pv 2) rfl)) pa_nil)) rfl)
      (pss_cons (ps_fld (pv 0) (pe_callTy call_tuple_of (by rfl) TR.n_tuple (by decide +kernel) (pa_cons (pe_callB (Wc.cr_sort rfl) (by rfl) TR.n_sorted (by decide +kernel) (pa_cons (Wc.pe_two (own := [("row", 2), ("name", 3)]) (vs1 := [3]) (g := gName 2) (tt := tYes) (wi1 := iTup K (tFld K (tVar 2) "names")) (g1 := gName 3) (tt1 := tB (tCall (spIs nameB) [] E0 (tCons (tVar 3) tNil))) (te := tVar 3) rfl sc_kinit.nd (pi_list (pv 1))
        (blkOk_by (own := [("row", 2), ("name", 3)]) (N := n_kinit) (sc := defScope s_kinit) (by decide +kernel)) (by decide)
        (fun _ _ _ _ _ => ⟨pg_name (i := 2) sc_kinit.nd rfl (.inl rfl), pts_nil⟩) (fun _ _ _ _ _ => ⟨pi_tup (pe_fld (pv 2) rfl), pg_name (i := 3) sc_kinit.nd rfl (.inl rfl), pts_one (pt_val (pe_call G_is_name r2 rfl T.g_is_name T.k_is_name b_is_name .nil pass0 (pa_cons (pv 3) pa_nil))), pv 3⟩)) pa_nil)) pa_nil)) rfl)
      (pss_cons (ps_fld (pv 0) (pe_callTy call_tuple_of (by rfl) TR.n_tuple (by decide +kernel) (pa_cons (pv 1) pa_nil)) rfl)
      (pss_cons (ps_fld (pv 0) (pe_callTy call_tuple_of (by rfl) TR.n_tuple (by decide +kernel) (pa_cons (pe_callB (Wc.cr_sort rfl) (by rfl) TR.n_sorted (by decide +kernel) (pa_cons (Wc.pe_two (own := [("row", 2), ("atom", 4)]) (vs1 := [4]) (g := gName 2) (tt := tYes) (wi1 := iList K (tMeth Cw "unlike_atoms" (spUnlike Cw) [] E0 (tVar 2) tNil)) (g1 := gName 4) (tt1 := tYes) (te := tVar 4) rfl sc_kinit.nd (pi_list (pv 1))
        (blkOk_by (own := [("row", 2), ("atom", 4)]) (N := n_kinit) (sc := defScope s_kinit) (by decide +kernel)) (by decide)
        (fun _ _ _ _ _ => ⟨pg_name (i := 2) sc_kinit.nd rfl (.inl rfl), pts_nil⟩) (fun _ _ _ _ _ => ⟨pi_list (pe_meth0 (pv 2) TR.cl TF.m_unl G_unl hr b_unl .nil pass0), pg_name (i := 4) sc_kinit.nd rfl (.inl rfl), pts_nil, pv 4⟩)) pa_nil)) pa_nil)) rfl)
      (pss_one (ps_fld (pv 0) (pe_join pe_str (pe_lc (own := [("row", 2)]) (g := gName 2) (tt := tYes) (te := tMeth Cw "line" (spLine Cw) [] E0 (tVar 2) tNil) rfl sc_kinit.nd (pi_list (pv 1)) (blkOk_by (own := [("row", 2)]) (N := n_kinit) (sc := defScope s_kinit) (by decide +kernel))
        (fun _ _ _ _ _ => (pg_name (i := 2) sc_kinit.nd rfl (.inl rfl))) (fun _ _ _ _ _ => pts_nil) (fun _ _ _ _ _ => pe_meth0 (pv 2) TR.cl TF.m_line G_line hr b_line .nil pass0))) rfl))))), ?_⟩
    have ul := hR.1
    -- the words
    refine ⟨_, rfl, l, rfl, ⟨_, SqL.of hl⟩, fun D nD => ?_⟩
    have lD : l ≠ D := ne_of_none hl nD
    refine lc_it walk_list (fun i Hi => (∀ b o, b ≠ D → H b = some o → Hi b = some o) ∧ Hi D = some (.lst (((rs.take i).map Row.kind).map V.str)))
      ⟨fun b o x e => by rw [upd_ne x]; exact e, upd_same⟩ (fun i Hi _ p => SqL.of (p.1 l _ lD hl)) (fun i x Hi Hj hil p y => ?_) (fun H1 p => ?_)
    · obtain ⟨rfl, ex⟩ := y
      obtain ⟨b, r, rfl, er, ra⟩ := hR.get ex
      obtain ⟨dx, a1, a2, v, e, e1, e2, ec⟩ := ra.same fun b o e => p.1 b o (ne_of_none e nD) e
      refine ⟨rfl, keep1' ?_⟩
      refine ⟨_, rfl, b, Cw, dx, _, _, rfl, e, TR.cl, TR.a_kind, rfl, _, p.2, ?_, fun b o x e => (upd_ne x).trans (p.1 b o x e), ?_⟩
      · have h3 : (rs.take i).length ≤ rs.length := List.length_take_le' ..
        rw [List.length_map, List.length_map, sizeLine_eq]
        omega
      · rw [upd_same, take_snoc er, List.map_append, List.map_append]
        rfl
    have S1 : Same H H1 := fun b o e => p.1 b o (ne_of_none e nD) e
    have eK := p.2
    rw [ul, List.take_length] at eK
    clear p
    refine ⟨D, _, rfl, .inl ⟨SqL.of eK, fun k1 nk1 => ?_⟩⟩
    have S2 := S1.trans (new_same (o := .tup ((rs.map Row.kind).map V.str)) nk1)
    have et1 : upd H1 k1 (.tup ((rs.map Row.kind).map V.str)) k1 = some (.tup ((rs.map Row.kind).map V.str)) := upd_same
    generalize upd H1 k1 (.tup ((rs.map Row.kind).map V.str)) = H2 at *
    refine ⟨_, rfl, a, C, dx, _, rfl, S2 _ _ ha, TK.cl, TK.a_words, (by show 0 < 1000; decide), ?_⟩
    have k2 : ∀ b o, b ≠ a → H2 b = some o → upd H2 a (.ins C dx (putF "words" (.ref k1) [])) b = some o := fun b o n e => (upd_ne n).trans e
    have e3 : upd H2 a (.ins C dx (putF "words" (.ref k1) [])) a = some (.ins C dx [("words", .ref k1)]) := upd_same
    generalize upd H2 a (.ins C dx (putF "words" (.ref k1) [])) = H3 at *
    have naL : l ≠ a := ne_of hl ha fun z => nomatch z
    have nak1 : k1 ≠ a := ne_of et1 (S2 _ _ ha) fun z => nomatch z
    have hl3 := k2 _ _ naL (S2 _ _ hl)
    have hR3 : RowsAt Cw H3 us rs := (hR.same S2).keep (S2 _ _ ha) rfl k2
    have et13 := k2 _ _ nak1 et1
    have kk3 : ∀ b o, b ≠ a → H b = some o → H3 b = some o := fun b o n e => k2 b o n (S2 b o e)
    -- the names
    refine ⟨_, rfl, l, rfl, ⟨_, SqL.of hl3⟩, fun D nD => ?_⟩
    have lD : l ≠ D := ne_of_none hl3 nD
    refine Wc.trn_it walk_list (fun i Hi => (∀ b o, b ≠ D → H3 b = some o → Hi b = some o) ∧ ∃ ms : List Str, Hi D = some (Wc.SetT w D ms) ∧ UN ms (nameOf (rs.take i)) ∧ ms.length ≤ 4 * i)
      ⟨fun b o x e => by rw [upd_ne x]; exact e, [], upd_same, UN.nil.congr fun x => ⟨False.elim, fun ⟨r, hr, _⟩ => absurd hr (by simp)⟩, Nat.zero_le _⟩ (fun i Hi _ p => SqL.of (p.1 l _ lD hl3)) (fun i x Hi Hj hil p y => ?_) (fun H4 p => ?_)
    · obtain ⟨rfl, ex⟩ := y
      obtain ⟨kp, ms0, em0, un0, lm0⟩ := p
      obtain ⟨b, r, rfl, er, ra⟩ := hR3.get ex
      have ok := hok r (List.mem_of_getElem? er)
      have nl := ok.nl
      have il : i < rs.length := (List.getElem?_eq_some_iff.mp er).1
      obtain ⟨dx, a1, a2, v, e, e1, e2, ec⟩ := ra.same fun b o e => kp b o (ne_of_none e nD) e
      have a1D : a1 ≠ D := ne_of e1 em0 fun z => nomatch z
      refine ⟨rfl, keep1' ?_⟩
      refine ⟨_, rfl, b, Cw, dx, _, _, rfl, e, TR.cl, TR.a_names, rfl, a1, rfl, ⟨_, SqT.of e1⟩, ?_⟩
      refine Wc.trn_it walk_tup (fun j Hx => (∀ b o, b ≠ D → Hj b = some o → Hx b = some o) ∧ ∃ ms : List Str, Hx D = some (Wc.SetT w D ms) ∧ UN ms (fun x => nameOf (rs.take i) x ∨ (x ∈ r.names.take j ∧ nameB x = true)) ∧ ms.length ≤ 4 * i + j)
        ⟨fun b o x e => e, ms0, em0, un0.congr fun x => by simp, lm0⟩ (fun j Hx _ p => SqT.of (p.1 a1 _ a1D e1)) (fun j x Hx Hy hjl p y => ?_) (fun Hx p => ?_)
      · obtain ⟨rfl, ex⟩ := y
        obtain ⟨kp2, ms, em, un, lm⟩ := p
        obtain ⟨z, ez, rfl⟩ := map_get ex
        have jl : j < r.names.length := (List.getElem?_eq_some_iff.mp ez).1
        obtain ⟨zl, za, _⟩ := ok.nn z (List.mem_of_getElem? ez)
        refine ⟨rfl, ?_⟩
        refine ⟨_, rfl, z, rfl, by omega, za, fun H5 S5 => ⟨_, rfl, ite2 (fun h0 => ?_) (fun h0 => ?_)⟩⟩
        · refine ⟨_, rfl, z, ms, rfl, S5 _ _ em, (by unfold scanBound; omega), fun b o x e => (upd_ne x).trans (S5 _ _ (kp2 b o x e)), _, upd_same, (un.add z).congr fun x => ?_, ?_⟩
          · rw [take_mem ez]
            constructor
            · rintro ((h | ⟨h, k⟩) | rfl)
              · exact .inl h
              · exact .inr ⟨.inl h, k⟩
              · exact .inr ⟨.inr rfl, h0⟩
            · rintro (h | ⟨h | rfl, k⟩)
              · exact .inl (.inl h)
              · exact .inl (.inr ⟨h, k⟩)
              · exact .inr rfl
          · have := addL_len ms z
            omega
        · refine ⟨fun b o x e => S5 _ _ (kp2 b o x e), ms, S5 _ _ em, un.congr fun x => ?_, by omega⟩
          rw [take_mem ez]
          constructor
          · rintro (h | ⟨h, k⟩)
            · exact .inl h
            · exact .inr ⟨.inl h, k⟩
          · rintro (h | ⟨h | rfl, k⟩)
            · exact .inl h
            · exact .inr ⟨h, k⟩
            · exact absurd k h0
      · obtain ⟨kp2, ms, em, un, lm⟩ := p
        rw [List.length_map] at un lm
        rw [List.take_length] at un
        refine ⟨fun b o x e => kp2 b o x (kp b o x e), ms, em, un.congr fun x => ?_, by omega⟩
        exact (snoc_mem er fun q => x ∈ q.names ∧ nameB x = true).symm
    obtain ⟨kp, ms, em, un, lm⟩ := p
    rw [ul] at un lm
    rw [List.take_length] at un
    refine ⟨D, ms, rfl, em, by omega, fun nm pD pm so npD => ?_⟩
    refine ⟨pD, _, rfl, .inl ⟨SqL.of upd_same, fun k2' nk2 => ?_⟩⟩
    have S4 : Same H3 H4 := fun b o e => kp b o (ne_of_none e nD) e
    have S5 := S4.trans ((new_same npD).trans (new_same (o := .tup (nm.map V.str)) nk2))
    have et2 : upd (upd H4 pD (.lst (nm.map V.str))) k2' (.tup (nm.map V.str)) k2' = some (.tup (nm.map V.str)) := upd_same
    have unN := un.perm pm
    generalize upd (upd H4 pD (.lst (nm.map V.str))) k2' (.tup (nm.map V.str)) = H5 at *
    clear kp em un pm
    refine ⟨_, rfl, a, C, dx, _, rfl, S5 _ _ e3, TK.cl, TK.a_names, (by show 1 < 1000; decide), ?_⟩
    have k6 : ∀ b o, b ≠ a → H5 b = some o → upd H5 a (.ins C dx (putF "names" (.ref k2') [("words", .ref k1)])) b = some o := fun b o n e => (upd_ne n).trans e
    have e6 : upd H5 a (.ins C dx (putF "names" (.ref k2') [("words", .ref k1)])) a = some (.ins C dx [("words", .ref k1), ("names", .ref k2')]) := upd_same
    generalize upd H5 a (.ins C dx (putF "names" (.ref k2') [("words", .ref k1)])) = H6 at *
    have nak2 : k2' ≠ a := ne_of et2 (S5 _ _ e3) fun z => nomatch z
    have k36 : ∀ b o, b ≠ a → H3 b = some o → H6 b = some o := fun b o n e => k6 b o n (S5 b o e)
    have hl6 := k36 _ _ naL hl3
    have hR6 : RowsAt Cw H6 us rs := (hR3.same S5).keep (S5 _ _ e3) rfl k6
    have et16 := k36 _ _ nak1 et13
    have et26 := k6 _ _ nak2 et2
    have kk6 : ∀ b o, b ≠ a → H b = some o → H6 b = some o := fun b o n e => k36 b o n (kk3 b o n e)
    -- the rows
    refine ⟨_, rfl, l, us, rfl, .inl ⟨SqL.of hl6, fun k3 nk3 => ?_⟩⟩
    have S7 := new_same (o := .tup us) nk3
    have et3 : upd H6 k3 (.tup us) k3 = some (.tup us) := upd_same
    generalize upd H6 k3 (.tup us) = H7 at *
    refine ⟨_, rfl, a, C, dx, _, rfl, S7 _ _ e6, TK.cl, TK.a_rows, (by show 2 < 1000; decide), ?_⟩
    have k8 : ∀ b o, b ≠ a → H7 b = some o → upd H7 a (.ins C dx (putF "rows" (.ref k3) [("words", .ref k1), ("names", .ref k2')])) b = some o := fun b o n e => (upd_ne n).trans e
    have e8 : upd H7 a (.ins C dx (putF "rows" (.ref k3) [("words", .ref k1), ("names", .ref k2')])) a = some (.ins C dx [("words", .ref k1), ("names", .ref k2'), ("rows", .ref k3)]) := upd_same
    generalize upd H7 a (.ins C dx (putF "rows" (.ref k3) [("words", .ref k1), ("names", .ref k2')])) = H8 at *
    have nak3 : k3 ≠ a := ne_of et3 (S7 _ _ e6) fun z => nomatch z
    have k68 : ∀ b o, b ≠ a → H6 b = some o → H8 b = some o := fun b o n e => k8 b o n (S7 b o e)
    have hl8 := k68 _ _ naL hl6
    have hR8 : RowsAt Cw H8 us rs := (hR6.same S7).keep (S7 _ _ e6) rfl k8
    have et18 := k68 _ _ nak1 et16
    have et28 := k68 _ _ nak2 et26
    have et38 := k8 _ _ nak3 et3
    have kk8 : ∀ b o, b ≠ a → H b = some o → H8 b = some o := fun b o n e => k68 b o n (kk6 b o n e)
    -- the atoms
    refine ⟨_, rfl, l, rfl, ⟨_, SqL.of hl8⟩, fun D nD => ?_⟩
    have lD : l ≠ D := ne_of_none hl8 nD
    refine Wc.trn_it walk_list (fun i Hi => (∀ b o, b ≠ D → H8 b = some o → Hi b = some o) ∧ ∃ ms : List Str, Hi D = some (Wc.SetT w D ms) ∧ UN ms (atomOf (rs.take i)) ∧ ms.length ≤ 8 * i)
      ⟨fun b o x e => by rw [upd_ne x]; exact e, [], upd_same, UN.nil.congr fun x => ⟨False.elim, fun ⟨r, hr, _⟩ => absurd hr (by simp)⟩, Nat.zero_le _⟩ (fun i Hi _ p => SqL.of (p.1 l _ lD hl8)) (fun i x Hi Hj hil p y => ?_) (fun H9 p => ?_)
    · obtain ⟨rfl, ex⟩ := y
      obtain ⟨kp, ms0, em0, un0, lm0⟩ := p
      obtain ⟨b, r, rfl, er, ra⟩ := hR8.get ex
      have ok := hok r (List.mem_of_getElem? er)
      have al := atT_len ok
      have il : i < rs.length := (List.getElem?_eq_some_iff.mp er).1
      have ra2 := ra.same fun b o e => kp b o (ne_of_none e nD) e
      have ra3 := ra2
      obtain ⟨dx, a1, a2, v, e, e1, e2, ec⟩ := ra2
      refine ⟨rfl, keep1' ?_⟩
      refine ⟨_, rfl, b, dx, _, rfl, e, rfl, b, r, rfl, ra3, ok, fun lu ys H10 S10 elu pm so => ⟨lu, rfl, ⟨_, SqL.of elu⟩, ?_⟩⟩
      have uy := (un_unS (atT r)).perm pm
      have yl : ys.length ≤ 8 := by
        have h1 : (unS (atT r)).length ≤ ([] : List Str).length + (atT r).length := by
          unfold unS
          generalize ([] : List Str) = m
          generalize atT r = q
          induction q generalizing m with
          | nil => exact Nat.le_refl _
          | cons x q ih =>
            have h1 := ih (Wt.addL m x)
            have h2 := addL_len m x
            rw [List.foldl_cons, List.length_cons]
            omega
        rw [List.length_nil] at h1
        rw [pm.length_eq]
        omega
      have luD : lu ≠ D := ne_of elu (S10 _ _ em0) fun z => nomatch z
      refine Wc.trn_it walk_list (fun j Hx => (∀ b o, b ≠ D → H10 b = some o → Hx b = some o) ∧ ∃ ms : List Str, Hx D = some (Wc.SetT w D ms) ∧ UN ms (fun x => atomOf (rs.take i) x ∨ x ∈ ys.take j) ∧ ms.length ≤ 8 * i + j)
        ⟨fun b o x e => e, ms0, S10 _ _ em0, un0.congr fun x => by simp, lm0⟩ (fun j Hx _ p => SqL.of (p.1 lu _ luD elu)) (fun j x Hx Hy hjl p y => ?_) (fun Hx p => ?_)
      · obtain ⟨rfl, ex⟩ := y
        obtain ⟨kp2, ms, em, un, lm⟩ := p
        obtain ⟨z, ez, rfl⟩ := map_get ex
        have jl : j < ys.length := (List.getElem?_eq_some_iff.mp ez).1
        refine ⟨rfl, keep1' ?_⟩
        refine ⟨_, rfl, z, ms, rfl, em, (by unfold scanBound; omega), fun b o x e => (upd_ne x).trans (kp2 b o x e), _, upd_same, (un.add z).congr fun x => ?_, ?_⟩
        · rw [take_mem ez, or_assoc]
        · have := addL_len ms z
          omega
      · obtain ⟨kp2, ms, em, un, lm⟩ := p
        rw [List.length_map] at un lm
        rw [List.take_length] at un
        refine ⟨fun b o x e => kp2 b o x (S10 _ _ (kp b o x e)), ms, em, un.congr fun x => ?_, by omega⟩
        rw [uy.2 x]
        exact (snoc_mem er fun q => x ∈ atT q).symm
    obtain ⟨kp, ms, em, un, lm⟩ := p
    rw [ul] at un lm
    rw [List.take_length] at un
    refine ⟨D, ms, rfl, em, by omega, fun as pD pm so2 npD => ?_⟩
    refine ⟨pD, _, rfl, .inl ⟨SqL.of upd_same, fun k4 nk4 => ?_⟩⟩
    have S9 : Same H8 H9 := fun b o e => kp b o (ne_of_none e nD) e
    have S10 := S9.trans ((new_same npD).trans (new_same (o := .tup (as.map V.str)) nk4))
    have et4 : upd (upd H9 pD (.lst (as.map V.str))) k4 (.tup (as.map V.str)) k4 = some (.tup (as.map V.str)) := upd_same
    have unA := un.perm pm
    generalize upd (upd H9 pD (.lst (as.map V.str))) k4 (.tup (as.map V.str)) = H10 at *
    clear kp em un pm
    refine ⟨_, rfl, a, C, dx, _, rfl, S10 _ _ e8, TK.cl, TK.a_atoms, (by show 3 < 1000; decide), ?_⟩
    have k11 : ∀ b o, b ≠ a → H10 b = some o → upd H10 a (.ins C dx (putF "atoms" (.ref k4) [("words", .ref k1), ("names", .ref k2'), ("rows", .ref k3)])) b = some o := fun b o n e => (upd_ne n).trans e
    have e11 : upd H10 a (.ins C dx (putF "atoms" (.ref k4) [("words", .ref k1), ("names", .ref k2'), ("rows", .ref k3)])) a = some (.ins C dx [("words", .ref k1), ("names", .ref k2'), ("rows", .ref k3), ("atoms", .ref k4)]) := upd_same
    generalize upd H10 a (.ins C dx (putF "atoms" (.ref k4) [("words", .ref k1), ("names", .ref k2'), ("rows", .ref k3)])) = H11 at *
    have nak4 : k4 ≠ a := ne_of et4 (S10 _ _ e8) fun z => nomatch z
    have k811 : ∀ b o, b ≠ a → H8 b = some o → H11 b = some o := fun b o n e => k11 b o n (S10 b o e)
    have hl11 := k811 _ _ naL hl8
    have hR11 : RowsAt Cw H11 us rs := (hR8.same S10).keep (S10 _ _ e8) rfl k11
    have kk11 : ∀ b o, b ≠ a → H b = some o → H11 b = some o := fun b o n e => k811 b o n (kk8 b o n e)
    -- the text
    refine ⟨⟨_, rfl⟩, _, rfl, l, rfl, ⟨_, SqL.of hl11⟩, fun D nD => ?_⟩
    have lD : l ≠ D := ne_of_none hl11 nD
    refine lc_it walk_list (fun i Hi => (∀ b o, b ≠ D → H11 b = some o → Hi b = some o) ∧ Hi D = some (.lst (((rs.take i).map lineS).map V.str)))
      ⟨fun b o x e => by rw [upd_ne x]; exact e, upd_same⟩ (fun i Hi _ p => SqL.of (p.1 l _ lD hl11)) (fun i x Hi Hj hil p y => ?_) (fun H12 p => ?_)
    · obtain ⟨rfl, ex⟩ := y
      obtain ⟨b, r, rfl, er, ra⟩ := hR11.get ex
      have ok := hok r (List.mem_of_getElem? er)
      have ra2 := ra.same fun b o e => p.1 b o (ne_of_none e nD) e
      have ra3 := ra2
      obtain ⟨dx, a1, a2, v, e, e1, e2, ec⟩ := ra2
      refine ⟨rfl, keep1' ?_⟩
      refine ⟨_, rfl, b, dx, _, rfl, e, rfl, b, r, rfl, ra3, ok, fun H13 S13 => ⟨_, S13 _ _ p.2, ?_, fun b o x e => (upd_ne x).trans (S13 _ _ (p.1 b o x e)), ?_⟩⟩
      · have h3 : (rs.take i).length ≤ rs.length := List.length_take_le' ..
        rw [List.length_map, List.length_map, sizeLine_eq]
        omega
      · rw [upd_same, take_snoc er, List.map_append, List.map_append]
        rfl
    have S12 : Same H11 H12 := fun b o e => p.1 b o (ne_of_none e nD) e
    have eL := p.2
    rw [ul, List.take_length] at eL
    clear p
    have sl := sum_le (b := 41000) (l := rs.map lineS) fun z hz => by
      obtain ⟨r, hr, rfl⟩ := List.mem_map.mp hz
      exact lineS_len (hok r hr)
    rw [List.length_map] at sl
    refine ⟨_, D, rs.map lineS, rfl, rfl, .inl (SqL.of eL), ?_, ?_⟩
    · rw [List.length_map, show ("\n" : Str).length = 1 from by decide +kernel]
      omega
    refine ⟨_, rfl, a, C, dx, _, rfl, S12 _ _ e11, TK.cl, TK.a_text, (by show 4 < 1000; decide), ?_⟩
    have k13 : ∀ b o, b ≠ a → H12 b = some o → upd H12 a (.ins C dx (putF "_text" (.str (kText rs)) [("words", .ref k1), ("names", .ref k2'), ("rows", .ref k3), ("atoms", .ref k4)])) b = some o := fun b o n e => (upd_ne n).trans e
    have e13 : upd H12 a (.ins C dx (putF "_text" (.str (kText rs)) [("words", .ref k1), ("names", .ref k2'), ("rows", .ref k3), ("atoms", .ref k4)])) a = some (.ins C dx (fldK k1 k2' k3 k4 (kText rs))) := upd_same
    show Q .non (upd H12 a (.ins C dx (putF "_text" (.str (kText rs)) [("words", .ref k1), ("names", .ref k2'), ("rows", .ref k3), ("atoms", .ref k4)])))
    generalize upd H12 a (.ins C dx (putF "_text" (.str (kText rs)) [("words", .ref k1), ("names", .ref k2'), ("rows", .ref k3), ("atoms", .ref k4)])) = H13 at *
    have k1113 : ∀ b o, b ≠ a → H11 b = some o → H13 b = some o := fun b o n e => k13 b o n (S12 b o e)
    refine q H13 (fun b o n e => k1113 b o n (kk11 b o n e)) ⟨dx, k1, k2', k3, k4, nm, as, us, e13, ?_, ?_, unN, so, ?_, (hR11.same S12).keep (S12 _ _ e11) rfl k13, ?_, unA, so2⟩
    · exact k1113 _ _ nak1 (k811 _ _ nak1 et18)
    · exact k1113 _ _ nak2 (k811 _ _ nak2 et28)
    · exact k1113 _ _ nak3 (k811 _ _ nak3 et38)
    · exact k1113 _ _ nak4 (k11 _ _ nak4 et4)
end
end N7

set_option linter.all false
set_option maxRecDepth 100000
set_option maxHeartbeats 8000000
set_option pp.maxSteps 150
namespace N7
open PySem PySem.Spec PyProof.Rows L2 Gx Qp Qh
abbrev s_kread : Stmt := inClass (topS 39) 1
abbrev n_kread : List Str := ["text", "rows", "at", "row", "found"]
theorem sc_kread : FnScope n_kread ["text"] (defScope s_kread) := ⟨rfl, rfl, rfl, by decide +kernel, rfl, by decide +kernel, by decide +kernel⟩
abbrev s_kstr : Stmt := inClass (topS 39) 2
theorem sc_kstr : FnScope ["self"] ["self"] (defScope s_kstr) := ⟨rfl, rfl, rfl, by decide +kernel, rfl, by decide +kernel, by decide +kernel⟩
abbrev s_keq : Stmt := inClass (topS 39) 3
theorem sc_keq : FnScope ["self", "other"] ["self", "other"] (defScope s_keq) := ⟨rfl, rfl, rfl, by decide +kernel, rfl, by decide +kernel, by decide +kernel⟩
abbrev s_klen : Stmt := inClass (topS 39) 4
theorem sc_klen : FnScope ["self"] ["self"] (defScope s_klen) := ⟨rfl, rfl, rfl, by decide +kernel, rfl, by decide +kernel, by decide +kernel⟩
abbrev s_kcon : Stmt := inClass (topS 39) 5
theorem sc_kcon : FnScope ["self", "word"] ["self", "word"] (defScope s_kcon) := ⟨rfl, rfl, rfl, by decide +kernel, rfl, by decide +kernel, by decide +kernel⟩
/-- the text z has the rows rs -/
structure TextOf (z : Str) (rs : List Row) : Prop where
  len : (rowsL z).length = rs.length
  zl : z.length ≤ 20000
  at_ : ∀ (i : Nat) (x : Str), (rowsL z)[i]? = some x → x.length ≤ 4000 ∧ ∃ r, rs[i]? = some r ∧ wordsL x = rowW r
  all : RowsOk rs
  each : ∀ r ∈ rs, RowR r
def spKRead (C Cw : Addr) : Sp := fun vs H Q _ => ∃ (z : Str) (rs : List Row), vs = [.str z] ∧ TextOf z rs ∧ ∀ (a : Addr) (H' : Hp), Same H H' → H a = none → KAt C Cw H' a rs → Q (.ref a) H'
def spKStr (C Cw : Addr) : Sp := fun vs H Q _ => ∃ (a : Addr) (rs : List Row), vs = [.ref a] ∧ KAt C Cw H a rs ∧ (kText rs).length ≤ 1000000 ∧ Q (.str (kText rs)) H
def spKLen (C Cw : Addr) : Sp := fun vs H Q _ => ∃ (a : Addr) (rs : List Row), vs = [.ref a] ∧ KAt C Cw H a rs ∧ Q (.int (rs.length : Nat)) H
def spKCon (C Cw : Addr) : Sp := fun vs H Q _ => ∃ (a : Addr) (x : Str) (rs : List Row), vs = [.ref a, .str x] ∧ KAt C Cw H a rs ∧ Q (.bl (decide (x ∈ rs.map Row.kind))) H
def spKEq (C Cw : Addr) (K : PySem.W.Frag) : Sp := fun vs H Q _ => ∃ (a : Addr) (rs : List Row) (y : V), vs = [.ref a, y] ∧ KAt C Cw H a rs ∧
  ((∃ b qs, y = .ref b ∧ KAt C Cw H b qs ∧ Q (.bl (decide (kText rs = kText qs))) H) ∨ (∃ t, TyX K H y t ∧ PySem.W.kitOne K t (.ref C) = some false ∧ Q (.bl false) H))
structure NmKr (mg : Str → Option Value) (K : PySem.W.Frag) (fri fwi fkr frf : Addr) : Prop where
  g_rows_in : mg "rows_in" = some (.ref fri)
  k_rows_in : PySem.W.keepIn K (.ref fri) = true
  g_words_in : mg "words_in" = some (.ref fwi)
  k_words_in : PySem.W.keepIn K (.ref fwi) = true
  g_kind_row : mg "kind_row_of" = some (.ref fkr)
  k_kind_row : PySem.W.keepIn K (.ref fkr) = true
  g_faults : mg "refuse_faults" = some (.ref frf)
  k_faults : PySem.W.keepIn K (.ref frf) = true
  n_isinstance : mg "isinstance" = none
structure NmKe (K : PySem.W.Frag) (C : Addr) : Prop where
  ha : PySem.W.findIn K (.ref C) "__class__" = some (some (.builtin "object.__class__"))
  hn : PySem.W.specialIn K (.builtin "object.__class__") "__get__" = some (some (.builtin "getset_descriptor.__get__"))
  htk : PySem.W.takesIn K (.builtin "object.__class__") = some true
  hm : PySem.W.mroIn K C (.type "object") = some true
  kit : PySem.W.kitOne K (.ref C) (.ref C) = some true
section
variable {P : Program} {w : World} {K : PySem.W.Frag} {mg : Str → Option Value} {base : Heap} {fc fin fpl fct fdp fcond Cr mtake mended an ak aw C Cw fk m_line m_unl m_used fri fwi fkr frf fKI : Addr}
theorem ok_kread {f : Addr} {fd fdr fdw fdk fdf fdI : FuncData} (F : Fun K "read" "Kinds.read" s_kread f fd) (T : NmK mg K fc fin fpl fct fdp fcond Cr mtake mended an ak aw) (TK : NmKd mg K C) (TJ : NmKr mg K fri fwi fkr frf)
    (G_rows_in : FnOk P w K mg base CX0 1 fri fdr ["text"] spRowsIn) (b_rows_in : Binds K fdr ["text"] []) (G_words_in : FnOk P w K mg base CX0 1 fwi fdw ["row"] spWords) (b_words_in : Binds K fdw ["row"] [])
    (G_kr : FnOk P w K mg base CX0 7 fkr fdk ["words"] (spKindRow Cw)) (b_kr : Binds K fdk ["words"] []) (G_faults : FnOk P w K mg base CX0 4 frf fdf ["rows"] (spFaults Cw)) (b_faults : Binds K fdf ["rows"] [])
    (M_K : Mk K C fKI) (G_kinit : FnOk P w K mg base CX0 34 fKI fdI ["self", "rows"] (spKInit C Cw)) (b_kinit : Binds K fdI ["self", "rows"] []) : FnOk P w K mg base CX0 36 f fd ["text"] (spKRead C Cw) := by
  refine F.ok sc_kread (fun vs H Q E h => ?_) (fun cdv A outer s H vs Q E hr h => ?_)
  · obtain ⟨z, rs, rfl, _⟩ := h
    rfl
  · obtain ⟨z, rs, rfl, tx, q⟩ := h
    have r1 := hr.mono (show 1 ≤ 35 by decide)
    have r4 := hr.mono (show 4 ≤ 35 by decide)
    have r7 := hr.mono (show 7 ≤ 35 by decide)
    have r35 := hr.mono (show 35 ≤ 35 by decide)
    refine ⟨_, pss_cons (ps_set (i := 1) sc_kread.nd rfl (.inl rfl) (pe_lst pa_nil))
      (pss_cons (ps_for PassesOwn.never rfl (pi_enum (by rfl) T.n_enumerate (pa_cons (pe_call G_rows_in r1 rfl TJ.g_rows_in TJ.k_rows_in b_rows_in .nil pass0 (pa_cons (pv 0) pa_nil)) pa_nil)) (pg_tup rfl (pgs_cons (pg_name (i := 2) sc_kread.nd rfl (.inl rfl)) (pgs_cons (pg_name (i := 3) sc_kread.nd rfl (.inl rfl)) pgs_nil)))
        (pss_cons (ps_set (i := 4) sc_kread.nd rfl (.inl rfl) (pe_call G_kr r7 rfl TJ.g_kind_row TJ.k_kind_row b_kr .nil pass0 (pa_cons (pe_call G_words_in r1 rfl TJ.g_words_in TJ.k_words_in b_words_in .nil pass0 (pa_cons (pv 3) pa_nil)) pa_nil)))
        (pss_cons (ps_if (pt_cmpR op_isN (pv 4) pe_non (nomark _)) (pss_one ps_never) pss_nil)
        (pss_one (ps_expr (pe_bm PySem.F.plainAttrs_list PySem.F.slot_list_append PySem.F.type_list_append mt_append (pv 1) (pa_cons (pv 4) pa_nil)))))))
      (pss_cons (ps_expr (pe_call G_faults r4 rfl TJ.g_faults TJ.k_faults b_faults .nil pass0 (pa_cons (pv 1) pa_nil)))
      (pss_one (ps_ret (pe_make M_K G_kinit r35 rfl TK.g_Kinds b_kinit .nil pass0 (pa_cons (pv 1) pa_nil)))))), ?_⟩
    refine ⟨Nat.zero_le _, fun L nL => ?_⟩
    have S1 := new_same (o := .lst []) nL
    have eL : upd H L (.lst []) L = some (.lst []) := upd_same
    generalize upd H L (.lst []) = H1 at *
    refine ⟨_, rfl, z, rfl, tx.zl, fun R H2 S2 nR eR => ?_⟩
    have eL2 := S2 _ _ eL
    have LR : R ≠ L := fun z => by
      rw [z, eL] at nR
      cases nR
    refine ⟨R, _, rfl, SqL.of eR, ?_⟩
    have rl := tx.all.len
    refine for_it walk_enum (fun i σ Hi => (∀ b o, b ≠ L → H2 b = some o → Hi b = some o) ∧ ∃ (us : List V) (b2 b3 b4 : Option V), Hi L = some (.lst us) ∧ RowsAt Cw Hi us (rs.take i) ∧ σ = [some (.str z), some (.ref L), b2, b3, b4])
      ⟨fun b o n e => e, [], none, none, none, eL2, ⟨rfl, fun i r e => absurd e (by simp)⟩, rfl⟩ (fun i σ H' _ p => SqL.of (p.1 _ _ LR eR)) (fun j x σ H5 H6 hj p y => ?_) (fun σ H5 p => ?_)
    · obtain ⟨k5, us, b2, b3, b4, eL5, hR5, rfl⟩ := p
      obtain ⟨T0, x', y', rfl, nT, rfl, ex, ey⟩ := y
      cases ex
      obtain ⟨x, hx, rfl⟩ := map_get ey
      obtain ⟨xl, r, er, hw⟩ := tx.at_ j x hx
      have s6 := new_same (o := .tup [.int (j : Nat), .str x]) nT
      have eT : upd H5 T0 (.tup [.int (j : Nat), .str x]) T0 = some (.tup [.int (j : Nat), .str x]) := upd_same
      generalize upd H5 T0 (.tup [.int (j : Nat), .str x]) = H6 at *
      refine ⟨T0, _, rfl, SqT.of eT, rfl, _, _, rfl, _, _, rfl, rfl, ?_⟩
      refine ⟨_, rfl, x, rfl, xl, fun W H7 S7 nW eW => ?_⟩
      rw [hw] at eW
      refine ⟨W, r, rfl, eW, tx.each r (List.mem_of_getElem? er), fun a H8 S8 ra => ?_⟩
      have S58 := s6.trans (S7.trans S8)
      have eL8 := S58 _ _ eL5
      have ul : us.length ≤ 4 := by
        rw [hR5.1, List.length_take]
        omega
      refine ⟨_, rfl, rfl, _, rfl, iteF ?_⟩
      refine ⟨_, rfl, .inl ⟨rfl, _, SqL.of eL8⟩, _, rfl, L, _, _, rfl, rfl, eL8, (by rw [sizeLine_eq]; omega), ?_⟩
      have k9 : ∀ b o, b ≠ L → H8 b = some o → upd H8 L (.lst (us ++ [.ref a])) b = some o := fun b o n e => (upd_ne n).trans e
      refine ⟨fun b o n e => k9 b o n (S58 _ _ (k5 b o n e)), us ++ [.ref a], _, _, _, upd_same, ?_, rfl⟩
      have hR8 := hR5.same S58
      have keepL : ∀ {b : Addr} {q : Row}, RowAt Cw H8 b q → RowAt Cw (upd H8 L (.lst (us ++ [.ref a]))) b q := fun {b q} h => by
        obtain ⟨dx, a1, a2, v, e, e1, e2, ec⟩ := h
        have nT : ∀ {b : Addr} {xs : List V}, H8 b = some (.tup xs) → b ≠ L := fun e => ne_of e eL8 fun z => nomatch z
        refine ⟨dx, a1, a2, v, k9 _ _ (ne_of e eL8 fun z => nomatch z) e, k9 _ _ (nT e1) e1, k9 _ _ (nT e2) e2, ?_⟩
        cases hc : q.cond with
        | none => rw [hc] at ec; exact ec
        | some t => rw [hc] at ec; exact PtAt.mono (fun b xs e => k9 _ _ (nT e) e) ec
      have jl : j < rs.length := (List.getElem?_eq_some_iff.mp er).1
      refine ⟨?_, fun i q e => ?_⟩
      · rw [List.length_append, List.length_singleton, hR8.1, take_snoc er, List.length_append, List.length_singleton]
      · by_cases hi : i < us.length
        · have hi2 : i < (rs.take j).length := by rw [← hR8.1]; exact hi
          rw [take_snoc er, List.getElem?_append_left hi2] at e
          obtain ⟨b, e1, e2⟩ := hR8.2 i q e
          exact ⟨b, by rw [List.getElem?_append_left hi]; exact e1, keepL e2⟩
        · rw [take_snoc er] at e
          have hl := (List.getElem?_eq_some_iff.mp e).1
          rw [List.length_append, List.length_singleton, ← hR8.1] at hl
          have hi3 : i = us.length := by omega
          subst hi3
          rw [hR8.1, List.getElem?_append_right (Nat.le_refl _), Nat.sub_self] at e
          cases e
          exact ⟨a, by rw [List.getElem?_append_right (Nat.le_refl _), Nat.sub_self]; rfl, keepL ra⟩
    · obtain ⟨k5, us, b2, b3, b4, eL5, hR5, rfl⟩ := p
      rw [List.length_map, tx.len, List.take_length] at hR5
      refine ⟨_, rfl, L, us, rs, rfl, eL5, hR5, tx.all, fun H6 S6 => ?_⟩
      refine ⟨_, rfl, fun a dx na nd dxa => ?_⟩
      have S7 : Same H6 (upd (upd H6 dx (.own a)) a (.ins C dx [])) := fun b o e => by
        rw [upd_ne (ne_of_none e na), upd_ne (ne_of_none e nd)]
        exact e
      have S67 := S6.trans S7
      have up6 : Same H H6 := fun b o e => S6 _ _ (k5 b o (ne_of_none e nL) (S2 _ _ (S1 _ _ e)))
      refine ⟨a, dx, L, us, rs, rfl, upd_same, S67 _ _ eL5, hR5.same S67, tx.all.len, tx.all.each, fun H8 k8 hK => ⟨rfl, q a H8 (fun b o e => ?_) (up6.free na) hK⟩⟩
      have e6 := up6 b o e
      exact k8 b o (ne_of_none e6 na) (S7 _ _ e6)
theorem ok_kstr {f : Addr} {fd : FuncData} (F : Fun K "__str__" "Kinds.__str__" s_kstr f fd) (TK : NmKd mg K C) : FnOk P w K mg base CX0 1 f fd ["self"] (spKStr C Cw) := by
  refine F.ok sc_kstr (fun vs H Q E h => ?_) (fun cdv A outer s H vs Q E hr h => ?_)
  · obtain ⟨a, rs, rfl, _⟩ := h
    rfl
  · obtain ⟨a, rs, rfl, ⟨dx, k1, k2, k3, k4, nm, as, us, e, _⟩, hw, q⟩ := h
    refine ⟨_, pss_one (ps_ret (pe_joined1 (pe_fmt (pe_fld (pv 0) rfl)))), ?_⟩
    exact ⟨_, rfl, a, C, dx, _, _, rfl, e, TK.cl, TK.a_text, rfl, .inl ⟨_, rfl, by rw [sizeLine_eq]; omega, q⟩⟩
theorem ok_klen {f : Addr} {fd : FuncData} (F : Fun K "__len__" "Kinds.__len__" s_klen f fd) (T : NmK mg K fc fin fpl fct fdp fcond Cr mtake mended an ak aw) (TK : NmKd mg K C) : FnOk P w K mg base CX0 1 f fd ["self"] (spKLen C Cw) := by
  refine F.ok sc_klen (fun vs H Q E h => ?_) (fun cdv A outer s H vs Q E hr h => ?_)
  · obtain ⟨a, rs, rfl, _⟩ := h
    rfl
  · obtain ⟨a, rs, rfl, ⟨dx, k1, k2, k3, k4, nm, as, us, e, e1, _⟩, q⟩ := h
    refine ⟨_, pss_one (ps_ret (pe_callB call_len_seq (by rfl) T.n_len (by decide +kernel) (pa_cons (pe_fld (pv 0) rfl) pa_nil))), ?_⟩
    refine ⟨_, rfl, a, C, dx, _, _, rfl, e, TK.cl, TK.a_words, rfl, k1, _, rfl, .inr (SqT.of e1), ?_⟩
    rw [List.length_map, List.length_map]
    exact q
theorem ok_kcon {f : Addr} {fd : FuncData} (F : Fun K "__contains__" "Kinds.__contains__" s_kcon f fd) (TK : NmKd mg K C) : FnOk P w K mg base CX0 1 f fd ["self", "word"] (spKCon C Cw) := by
  refine F.ok sc_kcon (fun vs H Q E h => ?_) (fun cdv A outer s H vs Q E hr h => ?_)
  · obtain ⟨a, x, rs, rfl, _⟩ := h
    rfl
  · obtain ⟨a, x, rs, rfl, ⟨dx, k1, k2, k3, k4, nm, as, us, e, e1, _⟩, q⟩ := h
    refine ⟨_, pss_one (ps_ret (pe_cmpR op_in_seq (pv 1) (pe_fld (pv 0) rfl) (by rfl))), ?_⟩
    refine ⟨_, rfl, _, rfl, a, C, dx, _, _, rfl, e, TK.cl, TK.a_words, rfl, k1, _, rfl, .inr (SqT.of e1), rfl, flat_strs _, ?_⟩
    show Q (.bl (inV (.str x) ((rs.map Row.kind).map V.str))) H
    rw [inV_list]
    exact q
theorem ok_keq {f : Addr} {fd : FuncData} (F : Fun K "__eq__" "Kinds.__eq__" s_keq f fd) (TK : NmKd mg K C) (TJ : NmKr mg K fri fwi fkr frf) (TE : NmKe K C) : FnOk P w K mg base CX0 1 f fd ["self", "other"] (spKEq C Cw K) := by
  refine F.ok sc_keq (fun vs H Q E h => ?_) (fun cdv A outer s H vs Q E hr h => ?_)
  · obtain ⟨a, rs, y, rfl, _⟩ := h
    rfl
  · obtain ⟨a, rs, y, rfl, ⟨dx, k1, k2, k3, k4, nm, as, us, e, _⟩, h⟩ := h
    refine ⟨_, pss_one (ps_ret (pe_and (pe_callB call_isi (by rfl) TJ.n_isinstance (by decide +kernel) (pa_cons (pv 1) (pa_cons (pe_glob (v := .ref _) rfl TK.g_Kinds rfl) pa_nil))) (pe_one (pe_cmpR op_eq (pe_fld (pv 0) rfl) (pe_fld (pv 1) rfl) (nomark _))))), ?_⟩
    rcases h with ⟨b, qs, rfl, ⟨dy, m1, m2, m3, m4, nm2, as2, us2, e2, _⟩, q⟩ | ⟨ty, hty, hk, q⟩
    · refine ⟨_, rfl, _, _, _, _, _, rfl, .own C, .base (.ins e2 TK.cl TE.ha TE.hn TE.htk TE.hm), TE.kit, _, rfl, iteT ?_⟩
      refine ⟨_, rfl, a, C, dx, _, _, rfl, e, TK.cl, TK.a_text, rfl, _, rfl, b, C, dy, _, _, rfl, e2, TK.cl, TK.a_text, rfl, rfl, ?_⟩
      rw [show decide (V.str (kText rs) = V.str (kText qs)) = decide (kText rs = kText qs) from decide_eq_decide.mpr ⟨V.str.inj, congrArg V.str⟩]
      exact q
    · exact ⟨_, rfl, _, _, _, _, _, rfl, .own C, hty, hk, _, rfl, iteF q⟩
end
end N7

set_option linter.all false
set_option maxRecDepth 100000
set_option maxHeartbeats 8000000
set_option pp.maxSteps 150
namespace N7
open PySem PySem.Spec PyProof.Rows L2 Gx Qp Qh
/-! ### the law's trees -/
inductive AT where
  | one (h c : Str)
  | two (j a b : Str)
  | cnt (c : Str) (m k : Nat)
def dig : Nat → Str
  | 0 => "0"
  | 1 => "1"
  | 2 => "2"
  | _ => "3"
def AT.ws : AT → List Str
  | .one h c => [h, c]
  | .two j a b => [a, j, b]
  | .cnt c m k => ["count", c, "mod", dig m, "is", dig k]
abbrev ones : List Str := ["some", "every", "first", "last", "below"]
abbrev twos : List Str := ["then", "next"]
def atOk : AT → Prop
  | .one h c => h ∈ ones ∧ CapOk c
  | .two j a b => j ∈ twos ∧ CapOk a ∧ CapOk b
  | .cnt c m k => CapOk c ∧ (m = 2 ∨ m = 3) ∧ k < m
inductive DT where
  | at (a : AT)
  | un (t : DT)
  | bi (j : Str) (a b : DT)
def lt : DT → LT
  | .at a => .at a.ws
  | .un t => .un "not" (lt t)
  | .bi j a b => .bi j (lt a) (lt b)
def wfD : DT → Prop
  | .at a => atOk a
  | .un t => wfD t
  | .bi j a b => j ∈ Qp.jts ∧ wfD a ∧ wfD b
def htD : DT → Nat
  | .at _ => 0
  | .un t => htD t + 1
  | .bi _ a b => max (htD a) (htD b) + 1
def hdA : AT → Str
  | .one h _ => h
  | .two j _ _ => j
  | .cnt _ _ _ => "count"
def hdD : DT → Str
  | .at a => hdA a
  | .un _ => "not"
  | .bi j _ _ => j
theorem rep_cap {c : Str} (h : CapOk c) : rep c = "K" := by
  unfold rep
  rw [if_pos (show kindB c = true from h.2.2)]
theorem rep_lit {c : Str} (h : c ∈ lits) : rep c = c := by
  unfold rep
  rw [if_neg (by rw [lit_no h]; exact Bool.false_ne_true)]
theorem atOk_ws {a : AT} (h : atOk a) : AtWs a.ws := by
  cases a with
  | one w c =>
    obtain ⟨h1, h2⟩ := h
    have e : [w, c].map rep = [w, "K"] := by
      show [rep w, rep c] = _
      rw [rep_cap h2, rep_lit ((by decide +kernel : ∀ x ∈ ones, x ∈ lits) w h1)]
    refine ⟨?_, fun x hx hk => ?_⟩
    · show [w, c].map rep ∈ kfs
      rw [e]
      exact (by decide +kernel : ∀ x ∈ ones, [x, ("K" : Str)] ∈ kfs) w h1
    · rcases List.mem_cons.mp hx with rfl | hx
      · rw [lit_no ((by decide +kernel : ∀ x ∈ ones, x ∈ lits) _ h1)] at hk
        cases hk
      · rw [List.mem_singleton.mp hx]
        exact h2
  | two j x y =>
    obtain ⟨h1, h2, h3⟩ := h
    have hj := (by decide +kernel : ∀ x ∈ twos, x ∈ lits) j h1
    refine ⟨?_, fun z hz hk => ?_⟩
    · show [rep x, rep j, rep y] ∈ kfs
      rw [rep_cap h2, rep_cap h3, rep_lit hj]
      exact (by decide +kernel : ∀ x ∈ twos, [("K" : Str), x, "K"] ∈ kfs) j h1
    · rcases List.mem_cons.mp hz with rfl | hz
      · exact h2
      · rcases List.mem_cons.mp hz with rfl | hz
        · rw [lit_no hj] at hk
          cases hk
        · rw [List.mem_singleton.mp hz]
          exact h3
  | cnt c m k =>
    obtain ⟨h1, h2, h3⟩ := h
    have h4 : (m = 2 ∧ (k = 0 ∨ k = 1)) ∨ (m = 3 ∧ (k = 0 ∨ k = 1 ∨ k = 2)) := by omega
    have e : ∀ m k : Nat, (AT.cnt c m k).ws.map rep = ([("count" : Str), "K", "mod", rep (dig m), "is", rep (dig k)] : List Str) := fun m k => by
      show [rep "count", rep c, rep "mod", rep (dig m), rep "is", rep (dig k)] = _
      rw [rep_cap h1, rep_lit (show ("count" : Str) ∈ lits by decide +kernel), rep_lit (show ("mod" : Str) ∈ lits by decide +kernel), rep_lit (show ("is" : Str) ∈ lits by decide +kernel)]
    refine ⟨?_, fun z hz hk => ?_⟩
    · rw [e]
      rcases h4 with ⟨rfl, rfl | rfl⟩ | ⟨rfl, rfl | rfl | rfl⟩ <;> decide +kernel
    · have hz' : z ∈ [("count" : Str), "mod", dig m, "is", dig k] ∨ z = c := by
        simp only [AT.ws, List.mem_cons, List.not_mem_nil, or_false] at hz ⊢
        rcases hz with h | h | h | h | h | h
        · exact .inl (.inl h)
        · exact .inr h
        · exact .inl (.inr (.inl h))
        · exact .inl (.inr (.inr (.inl h)))
        · exact .inl (.inr (.inr (.inr (.inl h))))
        · exact .inl (.inr (.inr (.inr (.inr h))))
      rcases hz' with h | rfl
      · have hl : z ∈ lits := by
          rcases h4 with ⟨rfl, rfl | rfl⟩ | ⟨rfl, rfl | rfl | rfl⟩
          · exact (by decide +kernel : ∀ x ∈ [("count" : Str), "mod", dig 2, "is", dig 0], x ∈ lits) z h
          · exact (by decide +kernel : ∀ x ∈ [("count" : Str), "mod", dig 2, "is", dig 1], x ∈ lits) z h
          · exact (by decide +kernel : ∀ x ∈ [("count" : Str), "mod", dig 3, "is", dig 0], x ∈ lits) z h
          · exact (by decide +kernel : ∀ x ∈ [("count" : Str), "mod", dig 3, "is", dig 1], x ∈ lits) z h
          · exact (by decide +kernel : ∀ x ∈ [("count" : Str), "mod", dig 3, "is", dig 2], x ∈ lits) z h
        rw [lit_no hl] at hk
        cases hk
      · exact h1
theorem wfD_lt : ∀ {t : DT}, wfD t → wfT (lt t)
  | .at a, h => atOk_ws h
  | .un t, h => ⟨List.mem_singleton.mpr rfl, wfD_lt (t := t) h⟩
  | .bi j a b, h => ⟨h.1, wfD_lt h.2.1, wfD_lt h.2.2⟩
theorem hdD_at {a : AT} (h : atOk a) : hdA a ∉ Qp.jts ∧ hdA a ≠ "not" := by
  cases a with
  | one w c => exact (by decide +kernel : ∀ x ∈ ones, x ∉ Qp.jts ∧ x ≠ "not") w h.1
  | two j x y => exact (by decide +kernel : ∀ x ∈ twos, x ∉ Qp.jts ∧ x ≠ "not") j h.1
  | cnt c m k => exact ⟨(by decide +kernel : ("count" : Str) ∉ Qp.jts), (by decide +kernel : ("count" : Str) ≠ "not")⟩
theorem hdD_eq {t : DT} (h : wfD t) {j : Str} (hj : j ∈ Qp.jts) : hdD t = j ↔ hdT (lt t) = j := by
  cases t with
  | «at» a =>
    have h1 := (hdD_at h).1
    obtain ⟨x, r, e, n1, _⟩ := at_hd (atOk_ws h)
    constructor
    · intro z
      exact absurd hj (by rw [← z]; exact h1)
    · intro z
      have z' : a.ws.headD "" = j := z
      rw [e] at z'
      exact absurd hj (by rw [← z']; exact n1)
  | un t => exact Iff.rfl
  | bi k a b => exact Iff.rfl
def AtAt (H : Hp) (v : V) : AT → Prop
  | .one h c => ∃ a, v = .ref a ∧ H a = some (.tup [.str h, .str c])
  | .two j x y => ∃ a, v = .ref a ∧ H a = some (.tup [.str j, .str x, .str y])
  | .cnt c m k => ∃ a, v = .ref a ∧ H a = some (.tup [.str "count", .str c, .int (m : Nat), .int (k : Nat)])
def DAt (H : Hp) (v : V) : DT → Prop
  | .at a => AtAt H v a
  | .un t => ∃ a u, v = .ref a ∧ H a = some (.tup [.str "not", u]) ∧ DAt H u t
  | .bi j x y => ∃ a u w, v = .ref a ∧ H a = some (.tup [.str j, u, w]) ∧ DAt H u x ∧ DAt H w y
theorem DAt.mono {H H' : Hp} (s : ∀ a xs, H a = some (.tup xs) → H' a = some (.tup xs)) : ∀ {t : DT} {v : V}, DAt H v t → DAt H' v t
  | .at (.one h c), v, ⟨a, e, e1⟩ => ⟨a, e, s _ _ e1⟩
  | .at (.two j x y), v, ⟨a, e, e1⟩ => ⟨a, e, s _ _ e1⟩
  | .at (.cnt c m k), v, ⟨a, e, e1⟩ => ⟨a, e, s _ _ e1⟩
  | .un t, v, ⟨a, u, e, e1, h⟩ => ⟨a, u, e, s _ _ e1, DAt.mono s h⟩
  | .bi j x y, v, ⟨a, u, w, e, e1, h, k⟩ => ⟨a, u, w, e, s _ _ e1, DAt.mono s h, DAt.mono s k⟩
theorem DAt.head {H : Hp} {t : DT} {v : V} (h : DAt H v t) : ∃ a xs, v = .ref a ∧ H a = some (.tup (.str (hdD t) :: xs)) := by
  cases t with
  | «at» a =>
    cases a with
    | one w c => obtain ⟨a, e, e1⟩ := h; exact ⟨a, _, e, e1⟩
    | two j x y => obtain ⟨a, e, e1⟩ := h; exact ⟨a, _, e, e1⟩
    | cnt c m k => obtain ⟨a, e, e1⟩ := h; exact ⟨a, _, e, e1⟩
  | un t => obtain ⟨a, u, e, e1, _⟩ := h; exact ⟨a, _, e, e1⟩
  | bi j x y => obtain ⟨a, u, w, e, e1, _⟩ := h; exact ⟨a, _, e, e1⟩
theorem shL_len {t : LT} (w : wfT t) : (shL t).length ≤ BT t := by
  rw [← txt_nrm w]
  exact Nat.le_trans (txt_len (nrm t)) (wt_nrm w)
/-! ### _law_bound, _law_shown -/
abbrev s_bound : Stmt := topS 47
abbrev n_bound : List Str := ["_law_tree", "_law_word", "_law_text", "_law_needs"]
theorem sc_bound : FnScope n_bound ["_law_tree", "_law_word"] (defScope s_bound) := ⟨rfl, rfl, rfl, by decide +kernel, rfl, by decide +kernel, by decide +kernel⟩
abbrev s_shown : Stmt := topS 48
abbrev n_shown : List Str := ["_law_tree", "_law_word"]
theorem sc_shown : FnScope n_shown ["_law_tree"] (defScope s_shown) := ⟨rfl, rfl, rfl, by decide +kernel, rfl, by decide +kernel, by decide +kernel⟩
structure NmS (mg : Str → Option Value) (K : PySem.W.Frag) (fb fs : Addr) : Prop where
  g_bound : mg "_law_bound" = some (.ref fb)
  k_bound : PySem.W.keepIn K (.ref fb) = true
  g_shown : mg "_law_shown" = some (.ref fs)
  k_shown : PySem.W.keepIn K (.ref fs) = true
  n_str : mg "str" = none
def spShown (d : Nat) : Sp := fun vs H Q _ => ∃ (v : V) (t : DT), vs = [v] ∧ DAt H v t ∧ wfD t ∧ htD t ≤ d ∧ BT (lt t) ≤ 100000 ∧ ∀ H' : Hp, Same H H' → Q (.str (shL (lt t))) H'
def spBound (d : Nat) : Sp := fun vs H Q _ => ∃ (v : V) (t : DT) (j : Str), vs = [v, .str j] ∧ DAt H v t ∧ wfD t ∧ htD t ≤ d ∧ BT (lt t) ≤ 100000 ∧ ∀ H' : Hp, Same H H' → Q (.str (bd (shL (lt t)) (bdB (lt t) j))) H'
def tNd (v : V) (j : Str) (t : DT) : TE := fun σ H Q => σ[0]? = some (some v) ∧ σ[1]? = some (some (.str j)) ∧ DAt H v t ∧ ∀ H', Same H H' → Q (.bl (bdB (lt t) j)) H'
theorem dec_str (a b : Str) : decide (V.str a = V.str b) = decide (a = b) := decide_eq_decide.mpr ⟨V.str.inj, congrArg V.str⟩
theorem in_jts (z : Str) : inV (V.str z) [.str "and", .str "or"] = decide (z ∈ Qp.jts) := by
  have h := inV_list z ["and", "or"]
  exact h.trans (decide_eq_decide.mpr Iff.rfl)
section
variable {P : Program} {w : World} {K : PySem.W.Frag} {mg : Str → Option Value} {base : Heap} {fb fs : Addr}
theorem ok_bound {d : Nat} {f : Addr} {fd fds : FuncData} (F : Fun K "_law_bound" "_law_bound" s_bound f fd) (T : NmS mg K fb fs)
    (G_shown : FnOk P w K mg base CX0 (2 * d + 1) fs fds ["_law_tree"] (spShown d)) (b_shown : Binds K fds ["_law_tree"] []) : FnOk P w K mg base CX0 (2 * d + 2) f fd ["_law_tree", "_law_word"] (spBound d) := by
  refine F.ok sc_bound (fun vs H Q E h => ?_) (fun cdv A outer s H vs Q E hr h => ?_)
  · obtain ⟨v, t, j, rfl, _⟩ := h
    rfl
  · obtain ⟨v, t, j, rfl, hv, hw, hh, hB, q⟩ := h
    refine ⟨_, pss_cons (ps_set (i := 2) sc_bound.nd rfl (.inl rfl) (pe_call G_shown hr rfl T.g_shown T.k_shown b_shown .nil pass0 (pa_cons (pv 0) pa_nil)))
      (pss_cons (ps_set (i := 3) sc_bound.nd rfl (.inl rfl) (pe_wk (t' := tNd v j t) (pe_or (pe_and (pe_cmpR op_eq (pe_ix ix_tup (pv 0) pe_int (fun _ _ => rfl)) pe_str (nomark _)) (pe_one (pe_cmpR op_ne (pv 1) pe_str (nomark _))))
        (pe_one (pe_and (pe_cmpR op_eq (pe_ix ix_tup (pv 0) pe_int (fun _ _ => rfl)) pe_str (nomark _)) (pe_one (pe_cmpR op_notIn_seq (pv 1) (pe_tup (pa_cons pe_str (pa_cons pe_str pa_nil))) (by rfl)))))) ?nd))
      (pss_one (ps_ret (pe_ifExp (pt_val (pv 3)) (pe_op op_add_str (pe_op op_add_str pe_str (pv 2)) pe_str) (pv 2))))), ?_⟩
    case nd =>
      rintro σ H0 Q0 ⟨h0, h1, hv0, q0⟩
      obtain ⟨va, xs, rfl, eh⟩ := hv0.head
      have hor := hdD_eq hw (j := "or") (by decide +kernel)
      have han := hdD_eq hw (j := "and") (by decide +kernel)
      have ebd : bdB (lt t) j = (decide (hdD t = "or") && !decide (j = "or") || decide (hdD t = "and") && !decide (j ∈ Qp.jts)) := by
        unfold bdB
        rw [decide_eq_decide.mpr hor, decide_eq_decide.mpr han]
      have x0 : atI (V.str (hdD t) :: xs) 0 = some (.str (hdD t)) := atI_nat (j := 0) rfl
      have fin : ∀ {b : Bool} {H' : Hp}, (decide (hdD t = "or") && !decide (j = "or") || decide (hdD t = "and") && !decide (j ∈ Qp.jts)) = b → Same H0 H' → Q0 (.bl b) H' := fun {b H'} e s => by
        rw [← e, ← ebd]
        exact q0 H' s
      refine ⟨_, h0, va, _, _, _, rfl, rfl, SqT.of eh, x0, rfl, ?_⟩
      rw [dec_str]
      refine ⟨_, rfl, ite2 (fun c0 => ?_) (fun c0 => ?_)⟩
      · refine ⟨_, h1, rfl, ?_⟩
        refine ⟨_, rfl, ite2 (fun c1 => ?_) (fun c1 => ?_)⟩
        · have e : j ≠ "or" := fun e => by
            rw [e] at c1
            simp at c1
          exact fin (by rw [c0, decide_eq_false e]; rfl) (Same.refl _)
        · have e : j = "or" := Classical.byContradiction fun e => c1 (by simp [e])
          have e2 : hdD t ≠ "and" := fun z => by
            rw [z] at c0
            exact absurd (of_decide_eq_true c0) (by decide +kernel)
          refine ⟨_, h0, va, _, _, _, rfl, rfl, SqT.of eh, x0, rfl, ?_⟩
          rw [dec_str]
          refine ⟨_, rfl, iteN (decide_eq_false e2) (fin ?_ (Same.refl _))⟩
          rw [decide_eq_true e, decide_eq_false e2, Bool.not_true, Bool.and_false]
          rfl
      · have e : decide (hdD t = "or") = false := Bool.eq_false_iff.mpr c0
        refine ⟨_, rfl, iteF ⟨_, h0, va, _, _, _, rfl, rfl, SqT.of eh, x0, rfl, ?_⟩⟩
        rw [dec_str]
        refine ⟨_, rfl, ite2 (fun c2 => ?_) (fun c2 => ?_)⟩
        · refine ⟨_, h1, (by show 2 ≤ sizeLine; rw [sizeLine_eq]; decide), fun p np => ⟨p, _, rfl, .inr (SqT.of upd_same), rfl, by decide, ?_⟩⟩
          show Q0 (.bl (!inV (.str j) [.str "and", .str "or"])) _
          rw [in_jts]
          exact fin (by rw [e, c2]; simp) (new_same np)
        · exact fin (by rw [e, Bool.eq_false_iff.mpr c2]; rfl) (Same.refl _)
    refine ⟨_, rfl, v, t, rfl, hv, hw, hh, hB, fun H1 S1 => ?_⟩
    refine ⟨rfl, rfl, hv.mono (fun a xs e => S1 _ _ e), fun H2 S2 => ?_⟩
    have sl := shL_len (wfD_lt hw)
    have l1 : ("( " : Str).length = 2 := by decide +kernel
    have l2 : (" )" : Str).length = 2 := by decide +kernel
    refine ⟨_, rfl, _, rfl, ?_⟩
    have q2 := q H2 (S1.trans S2)
    cases hb : bdB (lt t) j with
    | false =>
      rw [hb] at q2
      exact iteF ⟨_, rfl, q2⟩
    | true =>
      rw [hb] at q2
      refine iteT ⟨_, rfl, _, _, rfl, rfl, (by rw [sizeLine_eq]; omega), _, _, rfl, rfl, (by rw [len_app, sizeLine_eq]; omega), q2⟩
end
end N7
namespace N7
open PySem PySem.Spec PyProof.Rows L2 Gx Qp Qh
section
variable {P : Program} {w : World} {K : PySem.W.Frag} {mg : Str → Option Value} {base : Heap} {fb fs : Addr}
theorem BT_un (h : Str) (t : LT) : BT (.un h t) = h.length + 9 + BT t := rfl
theorem BT_bi (j : Str) (a b : LT) : BT (.bi j a b) = 2 * (j.length + 14) + BT a + BT b := rfl
/-- the text of an atom -/
theorem at_join (a : AT) (h : atOk a) : (PySem.Str.join " " a.ws).length ≤ 40 := by
  have h1 := shL_len (t := .at a.ws) (atOk_ws h)
  exact h1
theorem sp1 : (" " : Str).length = 1 := by decide +kernel
theorem in_l (z : Str) (l : List Str) : inV (V.str z) (l.map V.str) = decide (z ∈ l) := inV_list z l
theorem ok_shown {d : Nat} {f : Addr} {fd fdb : FuncData} (F : Fun K "_law_shown" "_law_shown" s_shown f fd) (T : NmS mg K fb fs)
    (G_bound : ∀ e, d = e + 1 → FnOk P w K mg base CX0 (2 * e + 2) fb fdb ["_law_tree", "_law_word"] (spBound e)) (b_bound : Binds K fdb ["_law_tree", "_law_word"] []) : FnOk P w K mg base CX0 (2 * d + 1) f fd ["_law_tree"] (spShown d) := by
  refine F.ok sc_shown (fun vs H Q E h => ?_) (fun cdv A outer s H vs Q E hr h => ?_)
  · obtain ⟨v, t, rfl, _⟩ := h
    rfl
  · obtain ⟨v, t, rfl, hv, hw, hh, hB, q⟩ := h
    obtain ⟨va, xs, rfl, eh⟩ := hv.head
    have x0 : atI (V.str (hdD t) :: xs) 0 = some (.str (hdD t)) := atI_nat (j := 0) rfl
    cases t with
    | «at» a =>
      refine ⟨_, pss_cons (ps_set (i := 1) sc_shown.nd rfl (.inl rfl) (pe_ix ix_tup (pv 0) pe_int (fun _ _ => rfl)))
        (pss_cons (ps_if (pt_cmpR op_in_seq (pv 1) (pe_tup (pa_cons pe_str (pa_cons pe_str pa_nil))) (by rfl)) (pss_one ps_never) pss_nil)
        (pss_cons (ps_if (pt_cmpR op_in_seq (pv 1) (pe_tup (pa_cons pe_str (pa_cons pe_str (pa_cons pe_str pa_nil)))) (by rfl)) (pss_one ps_never) pss_nil)
        (pss_cons (ps_if (pt_cmpR op_in_seq (pv 1) (pe_tup (pa_cons pe_str (pa_cons pe_str pa_nil))) (by rfl)) (pss_one (ps_ret (pe_op op_add_str (pe_op op_add_str (pe_op op_add_str (pe_op op_add_str (pe_ix ix_tup (pv 0) pe_int (fun _ _ => rfl)) pe_str) (pv 1)) pe_str) (pe_ix ix_tup (pv 0) pe_int (fun _ _ => rfl))))) pss_nil)
        (pss_cons (ps_if (pt_cmpR op_eq (pv 1) pe_str (nomark _)) (pss_one (ps_ret (pe_op op_add_str (pe_op op_add_str (pe_op op_add_str (pe_op op_add_str (pe_op op_add_str pe_str (pe_ix ix_tup (pv 0) pe_int (fun _ _ => rfl))) pe_str) (pe_callTy call_str_int (by rfl) T.n_str (by decide +kernel) (pa_cons (pe_ix ix_tup (pv 0) pe_int (fun _ _ => rfl)) pa_nil))) pe_str) (pe_callTy call_str_int (by rfl) T.n_str (by decide +kernel) (pa_cons (pe_ix ix_tup (pv 0) pe_int (fun _ _ => rfl)) pa_nil))))) pss_nil)
        (pss_one (ps_ret (pe_join pe_str (pv 0)))))))), ?_⟩
      have hd0 := hdD_at (show atOk a from hw)
      have q : ∀ H' : Hp, Same H H' → Q (.str (PySem.Str.join " " a.ws)) H' := q
      have jl := at_join a hw
      refine ⟨_, rfl, va, _, _, _, rfl, rfl, SqT.of eh, x0, ?_⟩
      refine ⟨_, rfl, (by show 2 ≤ sizeLine; rw [sizeLine_eq]; decide), fun p1 n1 => ⟨p1, _, rfl, .inr (SqT.of upd_same), rfl, by decide, _, rfl, iteN ?_ ?_⟩⟩
      · show inV (.str (hdA a)) ((["and", "or"] : List Str).map V.str) = false
        rw [in_l]
        exact decide_eq_false hd0.1
      have S1 := new_same (o := .tup [.str "and", .str "or"]) n1
      generalize upd H p1 (.tup [.str "and", .str "or"]) = H1 at *
      refine ⟨_, rfl, (by show 3 ≤ sizeLine; rw [sizeLine_eq]; decide), fun p2 n2 => ⟨p2, _, rfl, .inr (SqT.of upd_same), rfl, by decide, _, rfl, iteN ?_ ?_⟩⟩
      · show inV (.str (hdA a)) ((["not", "parent", "above"] : List Str).map V.str) = false
        rw [in_l]
        refine decide_eq_false ?_
        cases a with
        | one h c => exact (by decide +kernel : ∀ x ∈ ones, x ∉ (["not", "parent", "above"] : List Str)) h hw.1
        | two j x y => exact (by decide +kernel : ∀ x ∈ twos, x ∉ (["not", "parent", "above"] : List Str)) j hw.1
        | cnt c m k => exact (by decide +kernel : ("count" : Str) ∉ (["not", "parent", "above"] : List Str))
      have S2 := S1.trans (new_same (o := .tup [.str "not", .str "parent", .str "above"]) n2)
      generalize upd H1 p2 (.tup [.str "not", .str "parent", .str "above"]) = H2 at *
      refine ⟨_, rfl, (by show 2 ≤ sizeLine; rw [sizeLine_eq]; decide), fun p3 n3 => ⟨p3, _, rfl, .inr (SqT.of upd_same), rfl, by decide, _, rfl, ?_⟩⟩
      have S3 := S2.trans (new_same (o := .tup [.str "then", .str "next"]) n3)
      have e3 : inV (.str (hdA a)) [.str "then", .str "next"] = decide (hdA a ∈ twos) := in_l (hdA a) ["then", "next"]
      generalize upd H2 p3 (.tup [.str "then", .str "next"]) = H3 at *
      cases a with
      | one h c =>
        obtain ⟨a0, e0, ea⟩ := hv
        cases e0
        have h1 : h ∉ twos ∧ h ≠ "count" := (by decide +kernel : ∀ x ∈ ones, x ∉ twos ∧ x ≠ "count") h hw.1
        refine iteN (by show inV (.str h) [.str "then", .str "next"] = false; exact e3.trans (decide_eq_false h1.1)) ?_
        refine ⟨_, rfl, rfl, _, rfl, iteN (by show decide (V.str h = V.str "count") = false; rw [dec_str]; exact decide_eq_false h1.2) ?_⟩
        refine ⟨⟨_, rfl⟩, _, rfl, _, va, [h, c], rfl, rfl, .inr (SqT.of (S3 _ _ ea)), ?_, ?_⟩
        · have h2 := (by decide +kernel : ∀ x ∈ ones, x.length ≤ 5) h hw.1
          have h3 := hw.2.1
          show h.length + (c.length + 0) + 2 * (" " : Str).length ≤ 16777216
          rw [sp1]
          omega
        · rw [tjoin]
          exact q H3 S3
      | two j x y =>
        obtain ⟨a0, e0, ea⟩ := hv
        cases e0
        refine iteY (by show inV (.str j) [.str "then", .str "next"] = true; exact e3.trans (decide_eq_true hw.1)) ?_
        have h2 := (by decide +kernel : ∀ x ∈ twos, x.length ≤ 4) j hw.1
        have h3 := hw.2.1.1
        have h4 := hw.2.2.1
        have sq := SqT.of (K := K) (S3 _ _ ea)
        refine ⟨_, rfl, va, _, _, _, rfl, rfl, sq, atI_nat (j := 1) rfl, _, _, rfl, rfl, (by rw [sp1, sizeLine_eq]; omega), _, rfl, _, _, rfl, rfl, (by rw [len_app, sp1, sizeLine_eq]; show _ + j.length ≤ _; omega), _, _, rfl, rfl, (by rw [len_app, len_app, sp1, sizeLine_eq]; show _ + j.length + _ ≤ _; omega), _, rfl, va, _, _, _, rfl, rfl, sq, atI_nat (j := 2) rfl, _, _, rfl, rfl, (by rw [len_app, len_app, len_app, sp1, sizeLine_eq]; show _ + j.length + _ + _ ≤ _; omega), ?_⟩
        have e : x ++ " " ++ j ++ " " ++ y = PySem.Str.join " " [x, j, y] := by
          show _ = x ++ " " ++ (j ++ " " ++ y)
          simp only [Str.append_assoc]
        show Q (.str (x ++ " " ++ j ++ " " ++ y)) H3
        rw [e]
        exact q H3 S3
      | cnt c m k =>
        obtain ⟨a0, e0, ea⟩ := hv
        cases e0
        refine iteN (by show inV (.str "count") [.str "then", .str "next"] = false; exact e3.trans (decide_eq_false (show ("count" : Str) ∉ twos by decide +kernel))) ?_
        refine ⟨_, rfl, rfl, _, rfl, iteY (by show decide (V.str "count" = V.str "count") = true; exact decide_eq_true rfl) ?_⟩
        have h3 := hw.1.1
        have sq := SqT.of (K := K) (S3 _ _ ea)
        have c6 : ("count " : Str).length = 6 := by decide +kernel
        have c5 : (" mod " : Str).length = 5 := by decide +kernel
        have c4 : (" is " : Str).length = 4 := by decide +kernel
        have hm : m = 2 ∨ m = 3 := hw.2.1
        have hk : k = 0 ∨ k = 1 ∨ k = 2 := by have := hw.2.2; omega
        have tm : Str.ofString (toString ((m : Nat) : Int)) = dig m := by rcases hm with rfl | rfl <;> decide +kernel
        have tk : Str.ofString (toString ((k : Nat) : Int)) = dig k := by rcases hk with rfl | rfl | rfl <;> decide +kernel
        have lm : (dig m).length = 1 := by rcases hm with rfl | rfl <;> decide +kernel
        have lk : (dig k).length = 1 := by rcases hk with rfl | rfl | rfl <;> decide +kernel
        refine ⟨_, rfl, va, _, _, _, rfl, rfl, sq, atI_nat (j := 1) rfl, _, _, rfl, rfl, (by rw [c6, sizeLine_eq]; omega), _, _, rfl, rfl, (by rw [len_app, c6, c5, sizeLine_eq]; omega), ?_⟩
        refine ⟨_, rfl, va, _, _, _, rfl, rfl, sq, atI_nat (j := 2) rfl, _, rfl, ?_, ?_⟩
        · exact num_log (by omega)
        rw [tm]
        refine ⟨_, _, rfl, rfl, (by rw [len_app, len_app, c6, c5, lm, sizeLine_eq]; omega), _, _, rfl, rfl, (by rw [len_app, len_app, len_app, c6, c5, c4, lm, sizeLine_eq]; omega), ?_⟩
        refine ⟨_, rfl, va, _, _, _, rfl, rfl, sq, atI_nat (j := 3) rfl, _, rfl, ?_, ?_⟩
        · exact num_log (by omega)
        rw [tk]
        refine ⟨_, _, rfl, rfl, (by rw [len_app, len_app, len_app, len_app, c6, c5, c4, lm, lk, sizeLine_eq]; omega), ?_⟩
        have e : ("count " : Str) ++ c ++ " mod " ++ dig m ++ " is " ++ dig k = PySem.Str.join " " ["count", c, "mod", dig m, "is", dig k] := by
          show _ = "count" ++ " " ++ (c ++ " " ++ ("mod" ++ " " ++ (dig m ++ " " ++ ("is" ++ " " ++ dig k))))
          rw [show ("count " : Str) = "count" ++ " " from by decide +kernel, show (" mod " : Str) = " " ++ "mod" ++ " " from by decide +kernel, show (" is " : Str) = " " ++ "is" ++ " " from by decide +kernel]
          simp only [Str.append_assoc]
        show Q (.str (("count " : Str) ++ c ++ " mod " ++ dig m ++ " is " ++ dig k)) H3
        rw [e]
        exact q H3 S3
    | un t =>
      obtain ⟨a0, u, e0, ea, hu⟩ := hv
      cases e0
      cases d with
      | zero => exact absurd hh (by show ¬ htD t + 1 ≤ 0; omega)
      | succ d =>
      have G := G_bound d rfl
      refine ⟨_, pss_cons (ps_set (i := 1) sc_shown.nd rfl (.inl rfl) (pe_ix ix_tup (pv 0) pe_int (fun _ _ => rfl)))
        (pss_cons (ps_if (pt_cmpR op_in_seq (pv 1) (pe_tup (pa_cons pe_str (pa_cons pe_str pa_nil))) (by rfl)) (pss_one ps_never) pss_nil)
        (pss_cons (ps_if (pt_cmpR op_in_seq (pv 1) (pe_tup (pa_cons pe_str (pa_cons pe_str (pa_cons pe_str pa_nil)))) (by rfl)) (pss_one (ps_ret (pe_op op_add_str (pe_op op_add_str (pv 1) pe_str)
          (pe_call G hr rfl T.g_bound T.k_bound b_bound .nil pass0 (pa_cons (pe_ix ix_tup (pv 0) pe_int (fun _ _ => rfl)) (pa_cons (pv 1) pa_nil)))))) pss_nil)
        (pss_cons ps_never (pss_cons ps_never (pss_one ps_never))))), ?_⟩
      refine ⟨_, rfl, va, _, _, _, rfl, rfl, SqT.of eh, x0, ?_⟩
      refine ⟨_, rfl, (by show 2 ≤ sizeLine; rw [sizeLine_eq]; decide), fun p1 n1 => ⟨p1, _, rfl, .inr (SqT.of upd_same), rfl, by decide, _, rfl, iteN (by show inV (.str "not") ((["and", "or"] : List Str).map V.str) = false; rw [in_l]; decide +kernel) ?_⟩⟩
      have S1 := new_same (o := .tup [.str "and", .str "or"]) n1
      generalize upd H p1 (.tup [.str "and", .str "or"]) = H1 at *
      refine ⟨_, rfl, (by show 3 ≤ sizeLine; rw [sizeLine_eq]; decide), fun p2 n2 => ⟨p2, _, rfl, .inr (SqT.of upd_same), rfl, by decide, _, rfl, iteY (by show inV (.str "not") ((["not", "parent", "above"] : List Str).map V.str) = true; rw [in_l]; decide +kernel) ?_⟩⟩
      have S2 := S1.trans (new_same (o := .tup [.str "not", .str "parent", .str "above"]) n2)
      generalize upd H1 p2 (.tup [.str "not", .str "parent", .str "above"]) = H2 at *
      have hB' : BT (lt t) ≤ 100000 := by
        have h1 : ("not" : Str).length + 9 + BT (lt t) ≤ 100000 := hB
        omega
      have sl := shL_len (wfD_lt (t := t) hw)
      have bl : (bd (shL (lt t)) (bdB (lt t) "not")).length ≤ BT (lt t) + 4 := by
        unfold bd
        split
        · rw [clo_len]
          omega
        · omega
      have n3 : ("not" : Str).length = 3 := by decide +kernel
      refine ⟨_, rfl, _, _, rfl, rfl, (by show ("not" : Str).length + _ ≤ _; rw [sp1, n3, sizeLine_eq]; decide), ?_⟩
      refine ⟨_, rfl, va, _, _, _, rfl, rfl, SqT.of (S2 _ _ ea), atI_nat (j := 1) rfl, _, rfl, u, t, "not", rfl, hu.mono (fun b xs e => S2 _ _ e), hw, (by have h1 : htD t + 1 ≤ d + 1 := hh; omega), hB', fun H3 S3 => ?_⟩
      refine ⟨_, _, rfl, rfl, (by show (("not" : Str) ++ " ").length + _ ≤ _; rw [len_app, sp1, n3, sizeLine_eq]; omega), ?_⟩
      exact q H3 (S2.trans S3)
    | bi j x y =>
      obtain ⟨a0, u, z, e0, ea, hu, hz⟩ := hv
      cases e0
      cases d with
      | zero => exact absurd hh (by show ¬ max (htD x) (htD y) + 1 ≤ 0; omega)
      | succ d =>
      have G := G_bound d rfl
      refine ⟨_, pss_cons (ps_set (i := 1) sc_shown.nd rfl (.inl rfl) (pe_ix ix_tup (pv 0) pe_int (fun _ _ => rfl)))
        (pss_cons (ps_if (pt_cmpR op_in_seq (pv 1) (pe_tup (pa_cons pe_str (pa_cons pe_str pa_nil))) (by rfl)) (pss_one (ps_ret (pe_op op_add_str (pe_op op_add_str (pe_op op_add_str (pe_op op_add_str
          (pe_call G hr rfl T.g_bound T.k_bound b_bound .nil pass0 (pa_cons (pe_ix ix_tup (pv 0) pe_int (fun _ _ => rfl)) (pa_cons (pv 1) pa_nil))) pe_str) (pv 1)) pe_str)
          (pe_call G hr rfl T.g_bound T.k_bound b_bound .nil pass0 (pa_cons (pe_ix ix_tup (pv 0) pe_int (fun _ _ => rfl)) (pa_cons (pv 1) pa_nil)))))) pss_nil)
        (pss_cons ps_never (pss_cons ps_never (pss_cons ps_never (pss_one ps_never))))), ?_⟩
      refine ⟨_, rfl, va, _, _, _, rfl, rfl, SqT.of eh, x0, ?_⟩
      have hj : j ∈ Qp.jts := hw.1
      refine ⟨_, rfl, (by show 2 ≤ sizeLine; rw [sizeLine_eq]; decide), fun p1 n1 => ⟨p1, _, rfl, .inr (SqT.of upd_same), rfl, by decide, _, rfl, iteY (by show inV (.str j) ((["and", "or"] : List Str).map V.str) = true; rw [in_l]; exact decide_eq_true hj) ?_⟩⟩
      have S1 := new_same (o := .tup [.str "and", .str "or"]) n1
      generalize upd H p1 (.tup [.str "and", .str "or"]) = H1 at *
      have hB' : 2 * (j.length + 14) + BT (lt x) + BT (lt y) ≤ 100000 := hB
      have hh' : max (htD x) (htD y) + 1 ≤ d + 1 := hh
      have slx := shL_len (wfD_lt (t := x) hw.2.1)
      have sly := shL_len (wfD_lt (t := y) hw.2.2)
      have bl : ∀ t : DT, (shL (lt t)).length ≤ BT (lt t) → (bd (shL (lt t)) (bdB (lt t) j)).length ≤ BT (lt t) + 4 := fun t h => by
        unfold bd
        split
        · rw [clo_len]
          omega
        · omega
      have bx := bl x slx
      have by' := bl y sly
      have n3 : j.length ≤ 3 := (by decide +kernel : ∀ z ∈ Qp.jts, z.length ≤ 3) j hj
      refine ⟨_, rfl, va, _, _, _, rfl, rfl, SqT.of (S1 _ _ ea), atI_nat (j := 1) rfl, _, rfl, u, x, j, rfl, hu.mono (fun b xs e => S1 _ _ e), hw.2.1, by omega, by omega, fun H3 S3 => ?_⟩
      have S13 := S1.trans S3
      refine ⟨_, _, rfl, rfl, (by rw [sp1, sizeLine_eq]; omega), _, rfl, _, _, rfl, rfl, (by rw [len_app, sp1, sizeLine_eq]; show _ + j.length ≤ _; omega), _, _, rfl, rfl, (by rw [len_app, len_app, sp1, sizeLine_eq]; show _ + j.length + _ ≤ _; omega), ?_⟩
      refine ⟨_, rfl, va, _, _, _, rfl, rfl, SqT.of (S13 _ _ ea), atI_nat (j := 2) rfl, _, rfl, z, y, j, rfl, hz.mono (fun b xs e => S13 _ _ e), hw.2.2, by omega, by omega, fun H4 S4 => ?_⟩
      refine ⟨_, _, rfl, rfl, (by rw [len_app, len_app, len_app, sp1, sizeLine_eq]; show _ + j.length + _ + _ ≤ _; omega), ?_⟩
      exact q H4 (S13.trans S4)
end
end N7

set_option linter.all false
set_option maxRecDepth 100000
set_option maxHeartbeats 8000000
set_option pp.maxSteps 150
namespace N7
open PySem PySem.Spec PyProof.Rows L2 Gx Qp Qh
abbrev s_about : Stmt := topS 49
abbrev n_about : List Str := ["_law_box_here", "_law_caps_here", "_law_word", "_law_one", "_law_other", "_law_many_here"]
theorem sc_about : FnScope n_about ["_law_box_here", "_law_caps_here"] (defScope s_about) := ⟨rfl, rfl, rfl, by decide +kernel, rfl, by decide +kernel, by decide +kernel⟩
abbrev s_inside : Stmt := topS 50
abbrev n_inside : List Str := ["_law_box_here", "_law_caps_here", "_law_size", "_law_atom", "_law_left", "_law_one", "_law_other", "_law_tree"]
theorem sc_inside : FnScope n_inside ["_law_box_here", "_law_caps_here", "_law_size"] (defScope s_inside) := ⟨rfl, rfl, rfl, by decide +kernel, rfl, by decide +kernel, by decide +kernel⟩
theorem kp_tup {p : Addr} {H H' : Hp} {m : Nat} (b : BoxAt H p m) (k : Kp p H H') : ∀ x xs, H x = some (.tup xs) → H' x = some (.tup xs) := fun x xs e => by
  obtain ⟨c, sd, n, e2, _⟩ := b
  refine k x _ (fun h => ?_) e
  rw [h, e2] at e
  cases e
def kinA (caps : List Str) : AT → Prop
  | .one _ c => c ∈ caps
  | .two _ a b => a ∈ caps ∧ b ∈ caps
  | .cnt c _ _ => c ∈ caps
def kinD (caps : List Str) : DT → Prop
  | .at a => kinA caps a
  | .un t => kinD caps t
  | .bi _ a b => kinD caps a ∧ kinD caps b
def nD : DT → Nat
  | .at _ => 1
  | .un t => nD t
  | .bi _ a b => nD a + nD b
structure NmB (mg : Str → Option Value) (K : PySem.W.Frag) (ft fx fp fab fns : Addr) : Prop where
  g__law_take : mg "_law_take" = some (.ref ft)
  k__law_take : PySem.W.keepIn K (.ref ft) = true
  g__law_mixed : mg "_law_mixed" = some (.ref fx)
  k__law_mixed : PySem.W.keepIn K (.ref fx) = true
  g__law_pick : mg "_law_pick" = some (.ref fp)
  k__law_pick : PySem.W.keepIn K (.ref fp) = true
  g__law_about : mg "_law_about" = some (.ref fab)
  k__law_about : PySem.W.keepIn K (.ref fab) = true
  g__law_inside : mg "_law_inside" = some (.ref fns)
  k__law_inside : PySem.W.keepIn K (.ref fns) = true
  n_range : mg "range" = none
  n_len : mg "len" = none
def spAbout : Sp := fun vs H Q _ => ∃ (p l : Addr) (caps : List Str) (m : Nat), vs = [.ref p, .ref l] ∧ BoxAt H p m ∧ m ≤ 9900 ∧ H l = some (.lst (caps.map V.str)) ∧ l ≠ p ∧ 1 ≤ caps.length ∧ caps.length ≤ 6 ∧ (∀ c ∈ caps, CapOk c) ∧
  ∀ (v : V) (a : AT) (H' : Hp), AtAt H' v a → atOk a → kinA caps a → BoxAt H' p (m + 6) → Kp p H H' → Q v H'
def wds : List Str := ["some", "every", "first", "last", "below", "then", "next", "count", "some", "count"]
section
variable {P : Program} {w : World} {K : PySem.W.Frag} {mg : Str → Option Value} {base : Heap} {ft fx fp fab fns : Addr}
theorem ok_about {f : Addr} {fd fdt fdp : FuncData} (F : Fun K "_law_about" "_law_about" s_about f fd) (T : NmB mg K ft fx fp fab fns)
    (G__law_take : FnOk P w K mg base CX0 1 ft fdt ["_law_box_here", "_law_many_here"] spTake) (b__law_take : Binds K fdt ["_law_box_here", "_law_many_here"] [])
    (G__law_pick : FnOk P w K mg base CX0 2 fp fdp ["_law_box_here", "_law_items"] spPick) (b__law_pick : Binds K fdp ["_law_box_here", "_law_items"] []) : FnOk P w K mg base CX0 3 f fd ["_law_box_here", "_law_caps_here"] spAbout := by
  refine F.ok sc_about (fun vs H Q E h => ?_) (fun cdv A outer s H vs Q E hr h => ?_)
  · obtain ⟨p, l, caps, m, rfl, _⟩ := h
    rfl
  · obtain ⟨p, l, caps, m, rfl, hb, hm, hl, lp, c1, c6, hc, q⟩ := h
    have r1 := hr.mono (show 1 ≤ 2 by decide)
    refine ⟨_, (pss_cons (ps_set (i := 2) sc_about.nd rfl (.inl rfl) (pe_call G__law_pick hr rfl T.g__law_pick T.k__law_pick b__law_pick .nil pass0 (pa_cons (pv 0) (pa_cons (pe_lst (pa_cons pe_str (pa_cons pe_str (pa_cons pe_str (pa_cons pe_str (pa_cons pe_str (pa_cons pe_str (pa_cons pe_str (pa_cons pe_str (pa_cons pe_str (pa_cons pe_str pa_nil))))))))))) pa_nil))))
      (pss_cons (ps_par (i := 3) (j := 4) (by rfl) sc_about.nd rfl rfl (by decide) rfl rfl (pa_cons (pe_call G__law_pick hr rfl T.g__law_pick T.k__law_pick b__law_pick .nil pass0 (pa_cons (pv 0) (pa_cons (pv 1) pa_nil))) (pa_cons (pe_call G__law_pick hr rfl T.g__law_pick T.k__law_pick b__law_pick .nil pass0 (pa_cons (pv 0) (pa_cons (pv 1) pa_nil))) pa_nil)) (by rfl))
      (pss_cons (ps_if (pt_cmpR op_in_seq (pv 2) (pe_tup (pa_cons pe_str (pa_cons pe_str pa_nil))) (by rfl)) (pss_one (ps_ret (pe_tup (pa_cons (pv 2) (pa_cons (pv 3) (pa_cons (pv 4) pa_nil)))))) pss_nil)
      (pss_cons (ps_set (i := 5) sc_about.nd rfl (.inl rfl) (pe_op op_add pe_int (pe_call G__law_take r1 rfl T.g__law_take T.k__law_take b__law_take .nil pass0 (pa_cons (pv 0) (pa_cons pe_int pa_nil)))))
      (pss_one (ps_ret (pe_ifExp (pt_cmpR op_eq (pv 2) pe_str (nomark _)) (pe_tup (pa_cons (pv 2) (pa_cons (pv 3) (pa_cons (pv 5) (pa_cons (pe_call G__law_take r1 rfl T.g__law_take T.k__law_take b__law_take .nil pass0 (pa_cons (pv 0) (pa_cons (pv 5) pa_nil))) pa_nil))))) (pe_tup (pa_cons (pv 2) (pa_cons (pv 3) pa_nil)))))))))), ?_⟩
    have cl : (caps.map V.str).length = caps.length := List.length_map ..
    refine ⟨_, rfl, (by show 10 ≤ sizeLine; rw [sizeLine_eq]; decide), fun k nk => ?_⟩
    have S1 := new_same (o := .lst [.str "some", .str "every", .str "first", .str "last", .str "below", .str "then", .str "next", .str "count", .str "some", .str "count"]) nk
    have ek : upd H k (.lst [.str "some", .str "every", .str "first", .str "last", .str "below", .str "then", .str "next", .str "count", .str "some", .str "count"]) k = some (.lst (wds.map V.str)) := upd_same
    have hb1 := hb.mono S1
    have kpn := hb.ne nk
    generalize upd H k (.lst [.str "some", .str "every", .str "first", .str "last", .str "below", .str "then", .str "next", .str "count", .str "some", .str "count"]) = H1 at *
    refine ⟨p, k, wds.map V.str, m, rfl, hb1, ek, Ne.symm kpn, by decide, by decide, by omega, fun x H2 hx hb2 k2 => ?_⟩
    obtain ⟨wd, hwd, rfl⟩ := List.mem_map.mp hx
    have hl2 := k2 _ _ lp (S1 _ _ hl)
    refine ⟨_, rfl, _, rfl, p, l, _, m + 1, rfl, hb2, hl2, lp, by omega, by omega, by omega, fun x H3 hx3 hb3 k3 => ?_⟩
    obtain ⟨x, hxc, rfl⟩ := List.mem_map.mp hx3
    have hl3 := k3 _ _ lp hl2
    refine ⟨_, rfl, _, rfl, p, l, _, m + 1 + 1, rfl, hb3, hl3, lp, by omega, by omega, by omega, fun y H4 hy4 hb4 k4 => ?_⟩
    obtain ⟨y, hyc, rfl⟩ := List.mem_map.mp hy4
    have K4 : Kp p H H4 := (Kp.of S1).trans (k2.trans (k3.trans k4))
    refine ⟨_, _, rfl, ?_⟩
    refine ⟨_, rfl, (by show 2 ≤ sizeLine; rw [sizeLine_eq]; decide), fun p1 n1 => ⟨p1, _, rfl, .inr (SqT.of upd_same), rfl, by decide, _, rfl, ?_⟩⟩
    have S5 := new_same (o := .tup [.str "then", .str "next"]) n1
    have e5 : inV (.str wd) [.str "then", .str "next"] = decide (wd ∈ twos) := in_l wd ["then", "next"]
    have hb5 := hb4.mono S5
    generalize upd H4 p1 (.tup [.str "then", .str "next"]) = H5 at *
    have K5 : Kp p H H5 := K4.trans (Kp.of S5)
    refine ite2 (fun c0 => ?_) (fun c0 => ?_)
    · have h0 : wd ∈ twos := of_decide_eq_true (e5.symm.trans c0)
      refine ⟨_, rfl, _, rfl, _, rfl, (by show 3 ≤ sizeLine; rw [sizeLine_eq]; decide), fun a na => ?_⟩
      have S6 := new_same (o := .tup [.str wd, .str x, .str y]) na
      exact q (.ref a) (.two wd x y) _ ⟨a, rfl, upd_same⟩ ⟨h0, hc x hxc, hc y hyc⟩ ⟨hxc, hyc⟩ ((hb5.mono S6).le (by omega)) (K5.trans (Kp.of S6))
    · have h0 : wd ∉ twos := fun z => c0 (e5.trans (decide_eq_true z))
      refine ⟨_, rfl, p, 2, m + 1 + 1 + 1, rfl, hb5, by omega, by decide, by decide, fun d H6 d0 d1 hb6 k6 => ⟨_, _, rfl, rfl, ?_⟩⟩
      obtain ⟨n, rfl⟩ : ∃ n : Nat, d = (n : Int) := ⟨d.toNat, by omega⟩
      have K6 : Kp p H H6 := K5.trans (Kp.eq k6)
      refine ⟨_, rfl, rfl, _, rfl, ?_⟩
      rw [dec_str]
      refine ite2 (fun c1 => ?_) (fun c1 => ?_)
      · have h1 := of_decide_eq_true c1
        refine ⟨_, rfl, _, rfl, _, rfl, _, rfl, _, rfl, p, 2 + (n : Int), m + 1 + 1 + 1 + 1, rfl, hb6, by omega, by omega, by omega, fun e H7 e0 e1 hb7 k7 => ?_⟩
        obtain ⟨k, rfl⟩ : ∃ k : Nat, e = (k : Int) := ⟨e.toNat, by omega⟩
        refine ⟨(by show 4 ≤ sizeLine; rw [sizeLine_eq]; decide), fun a na => ?_⟩
        have S8 := new_same (o := .tup [.str wd, .str x, .int (2 + (n : Int)), .int (k : Int)]) na
        refine q (.ref a) (.cnt x (2 + n) k) _ ⟨a, rfl, ?_⟩ ⟨hc x hxc, by omega, by omega⟩ hxc ((hb7.mono S8).le (by omega)) (K6.trans ((Kp.eq k7).trans (Kp.of S8)))
        rw [h1, upd_same, Int.natCast_add]
        rfl
      · refine ⟨_, rfl, _, rfl, (by show 2 ≤ sizeLine; rw [sizeLine_eq]; decide), fun a na => ?_⟩
        have S8 := new_same (o := .tup [.str wd, .str x]) na
        have h2 : wd ≠ "count" := fun z => c1 (decide_eq_true z)
        have h3 : wd ∈ ones := (by decide +kernel : ∀ z ∈ wds, z ∉ twos → z ≠ "count" → z ∈ ones) wd hwd h0 h2
        exact q (.ref a) (.one wd x) _ ⟨a, rfl, upd_same⟩ ⟨h3, hc x hxc⟩ hxc ((hb6.mono S8).le (by omega)) (K6.trans (Kp.of S8))
end
end N7
namespace N7
open PySem PySem.Spec PyProof.Rows L2 Gx Qp Qh
def spInside (n : Nat) : Sp := fun vs H Q _ => ∃ (p l : Addr) (caps : List Str) (m sz : Nat), vs = [.ref p, .ref l, .int (sz : Nat)] ∧ 1 ≤ sz ∧ sz ≤ n ∧ sz ≤ 8 ∧ BoxAt H p m ∧ m + 20 * sz ≤ 9900 ∧ H l = some (.lst (caps.map V.str)) ∧ l ≠ p ∧ 1 ≤ caps.length ∧ caps.length ≤ 6 ∧ (∀ c ∈ caps, CapOk c) ∧
  ∀ (v : V) (t : DT) (H' : Hp), DAt H' v t → wfD t → kinD caps t → nD t = sz → htD t + 1 ≤ 2 * sz → BT (lt t) + 46 ≤ 98 * sz → BoxAt H' p (m + (20 * sz - 10)) → Kp p H H' → Q v H'
theorem dec_int (a b : Int) : decide (V.int a = V.int b) = decide (a = b) := decide_eq_decide.mpr ⟨V.int.inj, congrArg V.int⟩
section
variable {P : Program} {w : World} {K : PySem.W.Frag} {mg : Str → Option Value} {base : Heap} {ft fx fp fab fns : Addr}
theorem ok_inside {n : Nat} {f : Addr} {fd fdt fda fdi : FuncData} (F : Fun K "_law_inside" "_law_inside" s_inside f fd) (T : NmB mg K ft fx fp fab fns)
    (G__law_take : FnOk P w K mg base CX0 1 ft fdt ["_law_box_here", "_law_many_here"] spTake) (b__law_take : Binds K fdt ["_law_box_here", "_law_many_here"] [])
    (G__law_about : FnOk P w K mg base CX0 3 fab fda ["_law_box_here", "_law_caps_here"] spAbout) (b__law_about : Binds K fda ["_law_box_here", "_law_caps_here"] [])
    (G__law_inside : ∀ e, n = e + 1 → FnOk P w K mg base CX0 (e + 4) fns fdi ["_law_box_here", "_law_caps_here", "_law_size"] (spInside e)) (b__law_inside : Binds K fdi ["_law_box_here", "_law_caps_here", "_law_size"] []) :
    FnOk P w K mg base CX0 (n + 4) f fd ["_law_box_here", "_law_caps_here", "_law_size"] (spInside n) := by
  refine F.ok sc_inside (fun vs H Q E h => ?_) (fun cdv A outer s H vs Q E hr h => ?_)
  · obtain ⟨p, l, caps, m, sz, rfl, _⟩ := h
    rfl
  · obtain ⟨p, l, caps, m, sz, rfl, z1, zn, z8, hb, hm, hl, lp, c1, c6, hc, q⟩ := h
    have r1 := hr.mono (show 1 ≤ n + 3 by omega)
    have r3 := hr.mono (show 3 ≤ n + 3 by omega)
    by_cases hz : sz = 1
    · subst hz
      refine ⟨_, (pss_cons (ps_if (pt_cmpR op_eq (pv 2) pe_int (nomark _)) (pss_cons (ps_set (i := 3) sc_inside.nd rfl (.inl rfl) (pe_call G__law_about r3 rfl T.g__law_about T.k__law_about b__law_about .nil pass0 (pa_cons (pv 0) (pa_cons (pv 1) pa_nil))))
        (pss_one (ps_ret (pe_ifExp (pt_cmpR op_eq (pe_call G__law_take r1 rfl T.g__law_take T.k__law_take b__law_take .nil pass0 (pa_cons (pv 0) (pa_cons pe_int pa_nil))) pe_int (nomark _)) (pe_tup (pa_cons pe_str (pa_cons (pv 3) pa_nil))) (pv 3))))) pss_nil)
        (pss_cons ps_never (pss_cons ps_never (pss_cons ps_never (pss_one ps_never))))), ?_⟩
      refine ⟨_, rfl, rfl, _, rfl, iteY (by rw [dec_int]; rfl) ?_⟩
      refine ⟨_, rfl, _, rfl, p, l, caps, m, rfl, hb, by omega, hl, lp, c1, c6, hc, fun v a H1 ha ok kn hb1 k1 => ?_⟩
      refine ⟨_, rfl, p, 4, m + 6, rfl, hb1, by omega, by decide, by decide, fun d H2 d0 d1 hb2 k2 => ⟨rfl, _, rfl, ?_⟩⟩
      have bt : BT (lt (.at a)) = 40 := rfl
      have h2 : DAt H2 v (.at a) := DAt.mono (t := .at a) (kp_tup hb1 (Kp.eq k2)) ha
      have K2 := k1.trans (Kp.eq k2)
      refine ite2 (fun _ => ?_) (fun _ => ?_)
      · refine ⟨_, rfl, (by show 2 ≤ sizeLine; rw [sizeLine_eq]; decide), fun b nb => ?_⟩
        have S3 := new_same (o := .tup [.str "not", v]) nb
        refine q (.ref b) (.un (.at a)) _ ⟨b, v, rfl, upd_same, h2.mono fun x xs e => S3 _ _ e⟩ ok kn rfl (by show 0 + 1 + 1 ≤ _; omega) ?_ ((hb2.mono S3).le (by omega)) (K2.trans (Kp.of S3))
        show ("not" : Str).length + 9 + BT (lt (.at a)) + 46 ≤ _
        rw [bt, show ("not" : Str).length = 3 from by decide +kernel]
        omega
      · exact ⟨_, rfl, q v (.at a) H2 h2 ok kn rfl (by show 0 + 1 ≤ _; omega) (by rw [bt]; omega) (hb2.le (by omega)) K2⟩
    · cases n with
      | zero => omega
      | succ n =>
      have G := G__law_inside n rfl
      refine ⟨_, (pss_cons (ps_if (pt_cmpR op_eq (pv 2) pe_int (nomark _)) (pss_cons ps_never (pss_one ps_never)) pss_nil)
        (pss_cons (ps_set (i := 4) sc_inside.nd rfl (.inl rfl) (pe_op op_add pe_int (pe_call G__law_take r1 rfl T.g__law_take T.k__law_take b__law_take .nil pass0 (pa_cons (pv 0) (pa_cons (pe_op op_sub (pv 2) pe_int) pa_nil)))))
        (pss_cons (ps_par (i := 5) (j := 6) (by rfl) sc_inside.nd rfl rfl (by decide) rfl rfl (pa_cons (pe_call G hr rfl T.g__law_inside T.k__law_inside b__law_inside .nil pass0 (pa_cons (pv 0) (pa_cons (pv 1) (pa_cons (pv 4) pa_nil)))) (pa_cons (pe_call G hr rfl T.g__law_inside T.k__law_inside b__law_inside .nil pass0 (pa_cons (pv 0) (pa_cons (pv 1) (pa_cons (pe_op op_sub (pv 2) (pv 4)) pa_nil)))) pa_nil)) (by rfl))
        (pss_cons (ps_set (i := 7) sc_inside.nd rfl (.inl rfl) (pe_tup (pa_cons (pe_ix ix_list (pe_lst (pa_cons pe_str (pa_cons pe_str pa_nil))) (pe_call G__law_take r1 rfl T.g__law_take T.k__law_take b__law_take .nil pass0 (pa_cons (pv 0) (pa_cons pe_int pa_nil))) (fun _ _ => rfl)) (pa_cons (pv 5) (pa_cons (pv 6) pa_nil)))))
        (pss_one (ps_ret (pe_ifExp (pt_cmpR op_eq (pe_call G__law_take r1 rfl T.g__law_take T.k__law_take b__law_take .nil pass0 (pa_cons (pv 0) (pa_cons pe_int pa_nil))) pe_int (nomark _)) (pe_tup (pa_cons pe_str (pa_cons (pv 7) pa_nil))) (pv 7)))))))), ?_⟩
      refine ⟨_, rfl, rfl, _, rfl, iteN (by rw [dec_int]; exact decide_eq_false (by omega)) ?_⟩
      refine ⟨_, rfl, _, rfl, _, _, rfl, rfl, p, (sz : Int) - 1, m, rfl, hb, by omega, by omega, by omega, fun d H1 d0 d1 hb1 k1 => ⟨_, _, rfl, rfl, ?_⟩⟩
      obtain ⟨e, rfl⟩ : ∃ e : Nat, d = (e : Int) := ⟨d.toNat, by omega⟩
      have hl1 := (k1 l lp).trans hl
      dsimp only
      rw [show (1 : Int) + (e : Int) = ((1 + e : Nat) : Int) by omega]
      refine ⟨_, rfl, _, rfl, _, rfl, p, l, caps, m + 1, 1 + e, rfl, by omega, by omega, by omega, hb1, by omega, hl1, lp, c1, c6, hc, fun v x H2 hx wx kx nx tx bx hb2 k2 => ?_⟩
      have hl2 := k2 _ _ lp hl1
      refine ⟨_, rfl, _, rfl, _, rfl, _, rfl, _, _, rfl, rfl, p, l, caps, m + 1 + (20 * (1 + e) - 10), sz - (1 + e), ?_, by omega, by omega, by omega, hb2, by omega, hl2, lp, c1, c6, hc, fun u y H3 hy wy ky ny ty by' hb3 k3 => ?_⟩
      · show [V.ref p, V.ref l, V.int (((sz : Nat) : Int) - ((1 + e : Nat) : Int))] = _
        rw [show ((sz : Nat) : Int) - ((1 + e : Nat) : Int) = ((sz - (1 + e) : Nat) : Int) by omega]
      refine ⟨_, _, rfl, ?_⟩
      have K3 : Kp p H H3 := (Kp.eq k1).trans (k2.trans k3)
      have hx3 := hx.mono (kp_tup hb2 k3)
      refine ⟨(by show 2 ≤ sizeLine; rw [sizeLine_eq]; decide), fun lj nlj => ?_⟩
      have S4 := new_same (o := .lst [.str "and", .str "or"]) nlj
      have elj : upd H3 lj (.lst [.str "and", .str "or"]) lj = some (.lst [.str "and", .str "or"]) := upd_same
      have hb4 := hb3.mono S4
      have pj := hb3.ne nlj
      have hx4 := hx3.mono fun b xs e => S4 b _ e
      have hy4 := hy.mono fun b xs e => S4 b _ e
      have K4 := K3.trans (Kp.of (p := p) S4)
      generalize upd H3 lj (.lst [.str "and", .str "or"]) = H4 at *
      refine ⟨_, rfl, p, 2, m + 1 + (20 * (1 + e) - 10) + (20 * (sz - (1 + e)) - 10), rfl, hb4, by omega, by decide, by decide, fun d2 H5 e0 e1 hb5 k5 => ?_⟩
      obtain ⟨j, hj, ej⟩ : ∃ j : Str, j ∈ Qp.jts ∧ atI [V.str "and", V.str "or"] d2 = some (.str j) := by
        have hc : d2 = ((0 : Nat) : Int) ∨ d2 = ((1 : Nat) : Int) := by omega
        rcases hc with rfl | rfl
        · exact ⟨"and", by decide +kernel, atI_nat (j := 0) rfl⟩
        · exact ⟨"or", by decide +kernel, atI_nat (j := 1) rfl⟩
      have K5 := K4.trans (Kp.eq k5)
      have hx5 := hx4.mono (kp_tup hb4 (Kp.eq k5))
      have hy5 := hy4.mono (kp_tup hb4 (Kp.eq k5))
      refine ⟨lj, _, _, _, rfl, rfl, SqL.of ((k5 lj (Ne.symm pj)).trans elj), ej, _, rfl, _, rfl, (by show 3 ≤ sizeLine; rw [sizeLine_eq]; decide), fun b nb => ?_⟩
      have S6 := new_same (o := .tup [.str j, v, u]) nb
      have ht : DAt (upd H5 b (.tup [.str j, v, u])) (.ref b) (.bi j x y) := ⟨b, v, u, rfl, upd_same, hx5.mono fun b xs e => S6 b _ e, hy5.mono fun b xs e => S6 b _ e⟩
      have hb6 := hb5.mono S6
      have K6 := K5.trans (Kp.of (p := p) S6)
      generalize upd H5 b (.tup [.str j, v, u]) = H6 at *
      refine ⟨_, rfl, p, 5, _, rfl, hb6, by omega, by decide, by decide, fun d3 H7 f0 f1 hb7 k7 => ⟨rfl, _, rfl, ?_⟩⟩
      have ht7 := ht.mono (kp_tup hb6 (Kp.eq k7))
      have K7 := K6.trans (Kp.eq k7)
      have n3 : j.length ≤ 3 := (by decide +kernel : ∀ z ∈ Qp.jts, z.length ≤ 3) j hj
      have nt : nD (.bi j x y) = sz := by
        show nD x + nD y = sz
        omega
      have tt : htD (.bi j x y) + 1 + 1 ≤ 2 * sz := by
        show max (htD x) (htD y) + 1 + 1 + 1 ≤ 2 * sz
        omega
      have bt : BT (lt (.bi j x y)) + 12 + 46 ≤ 98 * sz := by
        show 2 * (j.length + 14) + BT (lt x) + BT (lt y) + 12 + 46 ≤ 98 * sz
        omega
      refine ite2 (fun _ => ?_) (fun _ => ?_)
      · refine ⟨_, rfl, (by show 2 ≤ sizeLine; rw [sizeLine_eq]; decide), fun c nc => ?_⟩
        have S8 := new_same (o := .tup [.str "not", .ref b]) nc
        refine q (.ref c) (.un (.bi j x y)) _ ⟨c, .ref b, rfl, upd_same, ht7.mono fun x xs e => S8 _ _ e⟩ ⟨hj, wx, wy⟩ ⟨kx, ky⟩ nt (by show htD (.bi j x y) + 1 + 1 ≤ _; omega) ?_ ((hb7.mono S8).le (by omega)) (K7.trans (Kp.of S8))
        show ("not" : Str).length + 9 + BT (lt (.bi j x y)) + 46 ≤ _
        rw [show ("not" : Str).length = 3 from by decide +kernel]
        omega
      · exact ⟨_, rfl, q (.ref b) (.bi j x y) H7 ht7 ⟨hj, wx, wy⟩ ⟨kx, ky⟩ nt (by omega) (by omega) (hb7.le (by omega)) K7⟩
end
end N7

set_option linter.all false
set_option maxRecDepth 100000
set_option maxHeartbeats 8000000
set_option pp.maxSteps 150
namespace N7
open PySem PySem.Spec PyProof.Rows L2 Gx Qp Qh
/-! ### texts with parentheses -/
abbrev s_written : Stmt := topS 53
abbrev n_written : List Str := ["_law_box_here", "_law_tree", "_law_odds", "_law_word", "_law_one", "_law_other", "_law_text", "_law_deep"]
theorem sc_written : FnScope n_written ["_law_box_here", "_law_tree", "_law_odds"] (defScope s_written) := ⟨rfl, rfl, rfl, by decide +kernel, rfl, by decide +kernel, by decide +kernel⟩
abbrev s_part : Stmt := topS 55
abbrev n_part : List Str := ["_law_box_here", "_law_tree", "_law_word", "_law_odds", "_law_text", "_law_deep", "_law_many_here"]
theorem sc_part : FnScope n_part ["_law_box_here", "_law_tree", "_law_word", "_law_odds"] (defScope s_part) := ⟨rfl, rfl, rfl, by decide +kernel, rfl, by decide +kernel, by decide +kernel⟩
def nn : DT → Nat
  | .at _ => 0
  | .un t => nn t + 1
  | .bi _ a b => nn a + nn b + 2
theorem nn_BT : ∀ t : DT, 12 * nn t ≤ BT (lt t)
  | .at _ => Nat.zero_le _
  | .un t => by
    have := nn_BT t
    show 12 * (nn t + 1) ≤ ("not" : Str).length + 9 + BT (lt t)
    rw [show ("not" : Str).length = 3 from by decide +kernel]
    omega
  | .bi j a b => by
    have := nn_BT a
    have := nn_BT b
    show 12 * (nn a + nn b + 2) ≤ 2 * (j.length + 14) + BT (lt a) + BT (lt b)
    omega
def WtAt (H : Hp) (v : V) (z : Str) (d : Nat) : Prop := ∃ a, v = .ref a ∧ H a = some (.tup [.str z, .int (d : Nat)])
theorem WtAt.mono {H H' : Hp} {v : V} {z : Str} {d : Nat} (h : WtAt H v z d) (s : ∀ a xs, H a = some (.tup xs) → H' a = some (.tup xs)) : WtAt H' v z d := by
  obtain ⟨a, e, e1⟩ := h
  exact ⟨a, e, s _ _ e1⟩
structure NmW (mg : Str → Option Value) (K : PySem.W.Frag) (ft fw fpt fs : Addr) : Prop where
  g__law_take : mg "_law_take" = some (.ref ft)
  k__law_take : PySem.W.keepIn K (.ref ft) = true
  g__law_written : mg "_law_written" = some (.ref fw)
  k__law_written : PySem.W.keepIn K (.ref fw) = true
  g__law_part : mg "_law_part" = some (.ref fpt)
  k__law_part : PySem.W.keepIn K (.ref fpt) = true
  g__law_shown : mg "_law_shown" = some (.ref fs)
  k__law_shown : PySem.W.keepIn K (.ref fs) = true
  n_max : mg "max" = none
  n_int : mg "int" = none
/-- what a tree is written as -/
structure WrD (t : DT) (o : Nat) (z : Str) (d : Nat) : Prop where
  wr : Wr (lt t) z d
  len : z.length ≤ BT (lt t)
  no : o = 0 → d = dL (lt t)
/-- .. beside or behind j -/
def WrP (t : DT) (j : Str) (o : Nat) (z' : Str) (d' : Nat) : Prop := ∃ z d, Wr (lt t) z d ∧ z.length ≤ BT (lt t) + 4 ∧ (o = 0 → d = dL (lt t)) ∧ z' = bd z (bdB (lt t) j) ∧ d' = d + (if bdB (lt t) j then 1 else 0)
def spWritten (n : Nat) : Sp := fun vs H Q _ => ∃ (p : Addr) (v : V) (t : DT) (o m : Nat), vs = [.ref p, v, .int (o : Nat)] ∧ BoxAt H p m ∧ DAt H v t ∧ wfD t ∧ htD t ≤ n ∧ o ≤ 100 ∧ m + nn t ≤ 9900 ∧ BT (lt t) ≤ 3000 ∧
  ∀ (u : V) (z : Str) (d : Nat) (H' : Hp), WtAt H' u z d → WrD t o z d → BoxAt H' p (m + nn t) → Kp p H H' → Q u H'
def spPart (n : Nat) : Sp := fun vs H Q _ => ∃ (p : Addr) (v : V) (t : DT) (j : Str) (o m : Nat), vs = [.ref p, v, .str j, .int (o : Nat)] ∧ BoxAt H p m ∧ DAt H v t ∧ wfD t ∧ htD t ≤ n ∧ o ≤ 100 ∧ m + nn t + 1 ≤ 9900 ∧ BT (lt t) ≤ 3000 ∧
  ∀ (u : V) (z : Str) (d : Nat) (H' : Hp), WtAt H' u z d → WrP t j o z d → BoxAt H' p (m + nn t + 1) → Kp p H H' → Q u H'
theorem bd_len (z : Str) (b : Bool) : (bd z b).length ≤ z.length + 4 := by
  unfold bd
  split
  · rw [clo_len]
    exact Nat.le_refl _
  · omega
theorem wrP_un {t : DT} {o : Nat} {z d} (w : wfD t) (h : WrP t "not" o z d) : WrD (.un t) o ("not " ++ z) (d + 1) := by
  obtain ⟨z0, d0, w0, l0, o0, rfl, rfl⟩ := h
  have hb := bd_un (h := "not") (by decide +kernel) (lt t)
  have e : ("not " : Str) = "not" ++ " " := by decide +kernel
  refine ⟨?_, ?_, fun ho => ?_⟩
  · rw [hb, e]
    by_cases c : hdT (lt t) ∈ Qp.jts
    · rw [decide_eq_true c]
      exact .unc w0 c
    · rw [decide_eq_false c]
      exact .un w0 c
  · have := bd_len z0 (bdB (lt t) "not")
    rw [len_app, show ("not " : Str).length = 4 from by decide +kernel]
    show _ ≤ ("not" : Str).length + 9 + BT (lt t)
    rw [show ("not" : Str).length = 3 from by decide +kernel]
    omega
  · rw [o0 ho, hb]
    show _ = dL (lt t) + 1 + (if hdT (lt t) ∈ Qp.jts then 1 else 0)
    by_cases c : hdT (lt t) ∈ Qp.jts
    · rw [decide_eq_true c, if_pos c, if_pos rfl]
    · rw [decide_eq_false c, if_neg c, if_neg Bool.false_ne_true]
theorem wrP_cz {t : DT} {j : Str} {o : Nat} {z' : Str} {d' : Nat} (hj : j ∈ Qp.jts) (h : WrP t j o z' d') : ∃ z d, Wr (lt t) z d ∧ (z', d') = (if j = "and" ∧ hdT (lt t) = "or" then (clo z, d + 1) else (z, d)) ∧ z'.length ≤ BT (lt t) + 8 ∧ (o = 0 → d' = dL (lt t) + cO j (lt t)) := by
  obtain ⟨z0, d0, w0, l0, o0, rfl, rfl⟩ := h
  have hb := cO_bd hj (lt t)
  have := bd_len z0 (bdB (lt t) j)
  refine ⟨z0, d0, w0, ?_, by omega, fun ho => ?_⟩
  · rw [hb]
    by_cases c : j = "and" ∧ hdT (lt t) = "or"
    · rw [decide_eq_true c, if_pos c]
      rfl
    · rw [decide_eq_false c, if_neg c]
      rfl
  · rw [o0 ho, hb]
    unfold cO
    by_cases c : j = "and" ∧ hdT (lt t) = "or"
    · rw [decide_eq_true c, if_pos c, if_pos rfl]
    · rw [decide_eq_false c, if_neg c, if_neg Bool.false_ne_true]
theorem wrP_bi {j : Str} {x y : DT} {o : Nat} {z1 z2 : Str} {d1 d2 : Nat} (hj : j ∈ Qp.jts) (h1 : WrP x j o z1 d1) (h2 : WrP y j o z2 d2) : WrD (.bi j x y) o (z1 ++ " " ++ j ++ " " ++ z2) (max d1 d2) := by
  obtain ⟨a, da, wa, ea, la, oa⟩ := wrP_cz hj h1
  obtain ⟨b, db, wb, eb, lb, ob⟩ := wrP_cz hj h2
  refine ⟨.bi wa wb ea eb, ?_, fun ho => ?_⟩
  · rw [len_app, len_app, len_app, len_app, sp1]
    show _ ≤ 2 * (j.length + 14) + BT (lt x) + BT (lt y)
    omega
  · rw [oa ho, ob ho]
    rfl
section
variable {P : Program} {w : World} {K : PySem.W.Frag} {mg : Str → Option Value} {base : Heap} {ft fw fpt fs : Addr}
theorem ok_written {n : Nat} {f : Addr} {fd fds fdp : FuncData} (F : Fun K "_law_written" "_law_written" s_written f fd) (T : NmW mg K ft fw fpt fs)
    (G_shown : FnOk P w K mg base CX0 1 fs fds ["_law_tree"] (spShown 0)) (b_shown : Binds K fds ["_law_tree"] [])
    (G_part : ∀ e, n = e + 1 → FnOk P w K mg base CX0 (2 * e + 3) fpt fdp ["_law_box_here", "_law_tree", "_law_word", "_law_odds"] (spPart e)) (b_part : Binds K fdp ["_law_box_here", "_law_tree", "_law_word", "_law_odds"] []) :
    FnOk P w K mg base CX0 (2 * n + 2) f fd ["_law_box_here", "_law_tree", "_law_odds"] (spWritten n) := by
  refine F.ok sc_written (fun vs H Q E h => ?_) (fun cdv A outer s H vs Q E hr h => ?_)
  · obtain ⟨p, v, t, o, m, rfl, _⟩ := h
    rfl
  · obtain ⟨p, v, t, o, m, rfl, hb, hv, hw, hh, ho, hm, hB, q⟩ := h
    have r1 := hr.mono (show 1 ≤ 2 * n + 1 by omega)
    obtain ⟨va, xs, rfl, eh⟩ := hv.head
    have x0 : atI (V.str (hdD t) :: xs) 0 = some (.str (hdD t)) := atI_nat (j := 0) rfl
    cases t with
    | «at» a =>
      refine ⟨_, (pss_cons (ps_set (i := 3) sc_written.nd rfl (.inl rfl) (pe_ix ix_tup (pv 1) pe_int (fun _ _ => rfl)))
        (pss_cons (ps_if (pt_cmpR op_in_seq (pv 3) (pe_tup (pa_cons pe_str (pa_cons pe_str pa_nil))) (by rfl)) (pss_cons ps_never (pss_one ps_never)) pss_nil)
        (pss_cons (ps_if (pt_cmpR op_eq (pv 3) pe_str (nomark _)) (pss_cons ps_never (pss_one ps_never)) pss_nil)
        (pss_one (ps_ret (pe_tup (pa_cons (pe_call G_shown r1 rfl T.g__law_shown T.k__law_shown b_shown .nil pass0 (pa_cons (pv 1) pa_nil)) (pa_cons pe_int pa_nil)))))))), ?_⟩
      have hd0 := hdD_at (show atOk a from hw)
      refine ⟨_, rfl, va, _, _, _, rfl, rfl, SqT.of eh, x0, ?_⟩
      refine ⟨_, rfl, (by show 2 ≤ sizeLine; rw [sizeLine_eq]; decide), fun p1 n1 => ⟨p1, _, rfl, .inr (SqT.of upd_same), rfl, by decide, _, rfl, iteN ?_ ?_⟩⟩
      · show inV (.str (hdA a)) ((["and", "or"] : List Str).map V.str) = false
        rw [in_l]
        exact decide_eq_false hd0.1
      have S1 := new_same (o := .tup [.str "and", .str "or"]) n1
      generalize upd H p1 (.tup [.str "and", .str "or"]) = H1 at *
      refine ⟨_, rfl, rfl, _, rfl, iteN (by show decide (V.str (hdA a) = V.str "not") = false; rw [dec_str]; exact decide_eq_false hd0.2) ?_⟩
      refine ⟨_, rfl, .ref va, .at a, rfl, hv.mono (fun b xs e => S1 b _ e), hw, Nat.zero_le _, by omega, fun H2 S2 => ⟨(by show 2 ≤ sizeLine; rw [sizeLine_eq]; decide), fun b nb => ?_⟩⟩
      have S3 := S1.trans (S2.trans (new_same (o := .tup [.str (shL (lt (.at a))), .int 0]) nb))
      exact q (.ref b) (shL (lt (.at a))) 0 _ ⟨b, rfl, upd_same⟩ ⟨wr_sh (wfD_lt (t := .at a) hw), shL_len (wfD_lt (t := .at a) hw), fun _ => rfl⟩ (hb.mono S3) (Kp.of S3)
    | un t =>
      obtain ⟨a0, u0, e0, ea, hu⟩ := hv
      cases e0
      cases n with
      | zero => exact absurd hh (by show ¬ htD t + 1 ≤ 0; omega)
      | succ n =>
      have G := G_part n rfl
      refine ⟨_, (pss_cons (ps_set (i := 3) sc_written.nd rfl (.inl rfl) (pe_ix ix_tup (pv 1) pe_int (fun _ _ => rfl)))
        (pss_cons (ps_if (pt_cmpR op_in_seq (pv 3) (pe_tup (pa_cons pe_str (pa_cons pe_str pa_nil))) (by rfl)) (pss_cons ps_never (pss_one ps_never)) pss_nil)
        (pss_cons (ps_if (pt_cmpR op_eq (pv 3) pe_str (nomark _)) (pss_cons (ps_asg (pe_call G hr rfl T.g__law_part T.k__law_part b_part .nil pass0 (pa_cons (pv 0) (pa_cons (pe_ix ix_tup (pv 1) pe_int (fun _ _ => rfl)) (pa_cons (pv 3) (pa_cons (pv 2) pa_nil))))) (pg_tup rfl (pgs_cons (pg_name (i := 6) sc_written.nd rfl (.inl rfl)) (pgs_cons (pg_name (i := 7) sc_written.nd rfl (.inl rfl)) pgs_nil))))
          (pss_one (ps_ret (pe_tup (pa_cons (pe_op op_add_str pe_str (pv 6)) (pa_cons (pe_op op_add (pv 7) pe_int) pa_nil)))))) pss_nil)
        (pss_one ps_never)))), ?_⟩
      refine ⟨_, rfl, va, _, _, _, rfl, rfl, SqT.of eh, x0, ?_⟩
      refine ⟨_, rfl, (by show 2 ≤ sizeLine; rw [sizeLine_eq]; decide), fun p1 n1 => ⟨p1, _, rfl, .inr (SqT.of upd_same), rfl, by decide, _, rfl, iteN (by show inV (.str "not") ((["and", "or"] : List Str).map V.str) = false; rw [in_l]; decide +kernel) ?_⟩⟩
      have S1 := new_same (o := .tup [.str "and", .str "or"]) n1
      generalize upd H p1 (.tup [.str "and", .str "or"]) = H1 at *
      refine ⟨_, rfl, rfl, _, rfl, iteY (by show decide (V.str "not" = V.str "not") = true; exact decide_eq_true rfl) ?_⟩
      have hm' : m + (nn t + 1) ≤ 9900 := hm
      have hB' : ("not" : Str).length + 9 + BT (lt t) ≤ 3000 := hB
      refine ⟨_, rfl, _, rfl, va, _, _, _, rfl, rfl, SqT.of (S1 _ _ ea), atI_nat (j := 1) rfl, _, rfl, _, rfl, p, u0, t, "not", o, m, rfl, hb.mono S1, hu.mono (fun b xs e => S1 b _ e), hw, (by have h1 : htD t + 1 ≤ n + 1 := hh; omega), ho, by omega, by omega, fun u z d H2 hz hP hb2 k2 => ?_⟩
      obtain ⟨b, rfl, eb⟩ := hz
      refine ⟨b, _, rfl, SqT.of eb, rfl, _, _, rfl, _, _, rfl, rfl, ?_⟩
      have hD := wrP_un (t := t) hw hP
      have hl := hD.len
      rw [len_app] at hl
      have hB2 : BT (lt (.un t)) ≤ 3000 := hB
      refine ⟨_, rfl, _, _, rfl, rfl, (by rw [sizeLine_eq]; omega), _, rfl, _, _, rfl, rfl, (by show 2 ≤ sizeLine; rw [sizeLine_eq]; decide), fun c nc => ?_⟩
      have S3 := new_same (o := .tup [.str (("not " : Str) ++ z), (fun i j => V.int (i + j)) (d : Int) 1]) nc
      refine q (.ref c) (("not " : Str) ++ z) (d + 1) _ ⟨c, rfl, ?_⟩ hD ((hb2.mono S3).le (by show _ ≤ m + (nn t + 1); omega)) ((Kp.of S1).trans (k2.trans (Kp.of S3)))
      rw [upd_same]
      rfl
    | bi j x y =>
      obtain ⟨a0, u0, w0, e0, ea, hx, hy⟩ := hv
      cases e0
      cases n with
      | zero => exact absurd hh (by show ¬ max (htD x) (htD y) + 1 ≤ 0; omega)
      | succ n =>
      have G := G_part n rfl
      refine ⟨_, (pss_cons (ps_set (i := 3) sc_written.nd rfl (.inl rfl) (pe_ix ix_tup (pv 1) pe_int (fun _ _ => rfl)))
        (pss_cons (ps_if (pt_cmpR op_in_seq (pv 3) (pe_tup (pa_cons pe_str (pa_cons pe_str pa_nil))) (by rfl)) (pss_cons (ps_par (i := 4) (j := 5) (by rfl) sc_written.nd rfl rfl (by decide) rfl rfl (pa_cons (pe_call G hr rfl T.g__law_part T.k__law_part b_part .nil pass0 (pa_cons (pv 0) (pa_cons (pe_ix ix_tup (pv 1) pe_int (fun _ _ => rfl)) (pa_cons (pv 3) (pa_cons (pv 2) pa_nil))))) (pa_cons (pe_call G hr rfl T.g__law_part T.k__law_part b_part .nil pass0 (pa_cons (pv 0) (pa_cons (pe_ix ix_tup (pv 1) pe_int (fun _ _ => rfl)) (pa_cons (pv 3) (pa_cons (pv 2) pa_nil))))) pa_nil)) (by rfl))
          (pss_one (ps_ret (pe_tup (pa_cons (pe_op op_add_str (pe_op op_add_str (pe_op op_add_str (pe_op op_add_str (pe_ix ix_tup (pv 4) pe_int (fun _ _ => rfl)) pe_str) (pv 3)) pe_str) (pe_ix ix_tup (pv 5) pe_int (fun _ _ => rfl))) (pa_cons (pe_callB (call_max2 rfl) (by rfl) T.n_max (by decide +kernel) (pa_cons (pe_ix ix_tup (pv 4) pe_int (fun _ _ => rfl)) (pa_cons (pe_ix ix_tup (pv 5) pe_int (fun _ _ => rfl)) pa_nil))) pa_nil)))))) pss_nil)
        (pss_cons ps_never (pss_one ps_never)))), ?_⟩
      have hj : j ∈ Qp.jts := hw.1
      refine ⟨_, rfl, va, _, _, _, rfl, rfl, SqT.of eh, x0, ?_⟩
      refine ⟨_, rfl, (by show 2 ≤ sizeLine; rw [sizeLine_eq]; decide), fun p1 n1 => ⟨p1, _, rfl, .inr (SqT.of upd_same), rfl, by decide, _, rfl, iteY (by show inV (.str j) ((["and", "or"] : List Str).map V.str) = true; rw [in_l]; exact decide_eq_true hj) ?_⟩⟩
      have S1 := new_same (o := .tup [.str "and", .str "or"]) n1
      generalize upd H p1 (.tup [.str "and", .str "or"]) = H1 at *
      have hm' : m + (nn x + nn y + 2) ≤ 9900 := hm
      have hB' : 2 * (j.length + 14) + BT (lt x) + BT (lt y) ≤ 3000 := hB
      have hh' : max (htD x) (htD y) + 1 ≤ n + 1 := hh
      refine ⟨_, rfl, _, rfl, va, _, _, _, rfl, rfl, SqT.of (S1 _ _ ea), atI_nat (j := 1) rfl, _, rfl, _, rfl, p, u0, x, j, o, m, rfl, hb.mono S1, hx.mono (fun b xs e => S1 b _ e), hw.2.1, by omega, ho, by omega, by omega, fun u z1 d1 H2 hz1 hP1 hb2 k2 => ?_⟩
      have kt2 := kp_tup (hb.mono S1) k2
      refine ⟨_, rfl, _, rfl, va, _, _, _, rfl, rfl, SqT.of (kt2 _ _ (S1 _ _ ea)), atI_nat (j := 2) rfl, _, rfl, _, rfl, p, w0, y, j, o, m + nn x + 1, rfl, hb2, (hy.mono (fun b xs e => S1 b _ e)).mono kt2, hw.2.2, by omega, ho, by omega, by omega, fun u2 z2 d2 H3 hz2 hP2 hb3 k3 => ?_⟩
      have hz1' := hz1.mono (kp_tup hb2 k3)
      obtain ⟨b1, rfl, eb1⟩ := hz1'
      obtain ⟨b2, rfl, eb2⟩ := hz2
      have hD := wrP_bi hj hP1 hP2
      have hl := hD.len
      have hB2 : BT (lt (.bi j x y)) ≤ 3000 := hB
      rw [len_app, len_app, len_app, len_app, sp1] at hl
      refine ⟨_, _, rfl, ?_⟩
      refine ⟨_, rfl, b1, _, _, _, rfl, rfl, SqT.of eb1, atI_nat (j := 0) rfl, _, _, rfl, rfl, (by rw [sp1, sizeLine_eq]; omega), _, rfl, _, _, rfl, rfl, (by rw [len_app, sp1, sizeLine_eq]; show _ + j.length ≤ _; omega), _, _, rfl, rfl, (by rw [len_app, len_app, sp1, sizeLine_eq]; show _ + j.length + _ ≤ _; omega), ?_⟩
      refine ⟨_, rfl, b2, _, _, _, rfl, rfl, SqT.of eb2, atI_nat (j := 0) rfl, _, _, rfl, rfl, (by rw [len_app, len_app, len_app, sp1, sizeLine_eq]; show _ + j.length + _ + _ ≤ _; omega), ?_⟩
      refine ⟨_, rfl, b1, _, _, _, rfl, rfl, SqT.of eb1, atI_nat (j := 1) rfl, _, rfl, b2, _, _, _, rfl, rfl, SqT.of eb2, atI_nat (j := 1) rfl, _, _, rfl, ?_⟩
      have emx : (if ((d2 : Nat) : Int) > ((d1 : Nat) : Int) then ((d2 : Nat) : Int) else ((d1 : Nat) : Int)) = ((max d1 d2 : Nat) : Int) := by
        split <;> omega
      rw [emx]
      refine ⟨(by show 2 ≤ sizeLine; rw [sizeLine_eq]; decide), fun c nc => ?_⟩
      have S4 := new_same (o := .tup [.str (z1 ++ " " ++ j ++ " " ++ z2), .int ((max d1 d2 : Nat) : Int)]) nc
      exact q (.ref c) _ (max d1 d2) _ ⟨c, rfl, upd_same⟩ hD ((hb3.mono S4).le (by show _ ≤ m + (nn x + nn y + 2); omega)) ((Kp.of S1).trans (k2.trans (k3.trans (Kp.of S4))))
end
end N7

set_option linter.all false
set_option maxRecDepth 100000
set_option maxHeartbeats 8000000
set_option pp.maxSteps 150
namespace N7
open PySem PySem.Spec PyProof.Rows L2 Gx Qp Qh
def tNp (v : V) (j : Str) (t : DT) : TE := fun σ H Q => σ[1]? = some (some v) ∧ σ[2]? = some (some (.str j)) ∧ DAt H v t ∧ ∀ H', Same H H' → Q (.bl (bdB (lt t) j)) H'
def tOd (p : Addr) (o m : Nat) : TE := fun σ H Q => σ[0]? = some (some (.ref p)) ∧ σ[3]? = some (some (.int (o : Nat))) ∧ BoxAt H p m ∧ m ≤ 100000 ∧ o ≤ 100 ∧ ∀ (c : Bool) (H' : Hp), (o = 0 → c = false) → BoxAt H' p (m + 1) → Kp p H H' → Q (.bl c) H'
def b2 (b : Bool) : Nat := if b then 1 else 0
theorem b2_int (b : Bool) : (if b = true then (1 : Int) else 0) = ((b2 b : Nat) : Int) := by cases b <;> rfl
theorem rep_clo (z : Str) (b c : Bool) : Wb.repZ "( " (b2 b + b2 c) ++ z ++ Wb.repZ " )" (b2 b + b2 c) = bd (bd z c) b := by
  have h0 : ∀ y, Wb.repZ y 0 = "" := fun y => rfl
  have h2 : ∀ y, Wb.repZ y 2 = y ++ y := fun y => by
    show y ++ Wb.repZ y 1 = _
    rw [Wb.repZ_one]
  have ne : ∀ y : Str, (Str.empty : Str) ++ y = y := empty_app
  have en : ∀ y : Str, y ++ ("" : Str) = y := fun y => by
    show (⟨y.cps ++ #[]⟩ : Str) = y
    simp
  cases b <;> cases c
  · show Wb.repZ "( " 0 ++ z ++ Wb.repZ " )" 0 = z
    rw [h0, h0, en]
    exact ne z
  · show Wb.repZ "( " 1 ++ z ++ Wb.repZ " )" 1 = clo z
    rw [Wb.repZ_one, Wb.repZ_one]
    rfl
  · show Wb.repZ "( " 1 ++ z ++ Wb.repZ " )" 1 = clo z
    rw [Wb.repZ_one, Wb.repZ_one]
    rfl
  · show Wb.repZ "( " 2 ++ z ++ Wb.repZ " )" 2 = clo (clo z)
    rw [h2, h2]
    unfold clo
    simp only [Str.append_assoc]
section
variable {P : Program} {w : World} {K : PySem.W.Frag} {mg : Str → Option Value} {base : Heap} {ft fw fpt fs : Addr}
theorem ok_part {n : Nat} {f : Addr} {fd fdt fdw : FuncData} (F : Fun K "_law_part" "_law_part" s_part f fd) (T : NmW mg K ft fw fpt fs)
    (G__law_take : FnOk P w K mg base CX0 1 ft fdt ["_law_box_here", "_law_many_here"] spTake) (b__law_take : Binds K fdt ["_law_box_here", "_law_many_here"] [])
    (G_written : FnOk P w K mg base CX0 (2 * n + 2) fw fdw ["_law_box_here", "_law_tree", "_law_odds"] (spWritten n)) (b_written : Binds K fdw ["_law_box_here", "_law_tree", "_law_odds"] []) :
    FnOk P w K mg base CX0 (2 * n + 3) f fd ["_law_box_here", "_law_tree", "_law_word", "_law_odds"] (spPart n) := by
  refine F.ok sc_part (fun vs H Q E h => ?_) (fun cdv A outer s H vs Q E hr h => ?_)
  · obtain ⟨p, v, t, j, o, m, rfl, _⟩ := h
    rfl
  · obtain ⟨p, v, t, j, o, m, rfl, hb, hv, hw, hh, ho, hm, hB, q⟩ := h
    have r1 := hr.mono (show 1 ≤ 2 * n + 2 by omega)
    refine ⟨_, pss_cons (ps_asg (pe_call G_written hr rfl T.g__law_written T.k__law_written b_written .nil pass0 (pa_cons (pv 0) (pa_cons (pv 1) (pa_cons (pv 3) pa_nil)))) (pg_tup rfl (pgs_cons (pg_name (i := 4) sc_part.nd rfl (.inl rfl)) (pgs_cons (pg_name (i := 5) sc_part.nd rfl (.inl rfl)) pgs_nil))))
      (pss_cons (ps_set (i := 6) sc_part.nd rfl (.inl rfl) (pe_callTy call_int1 (by rfl) T.n_int (by decide +kernel) (pa_cons (pe_wk (t' := tNp v j t) (pe_or (pe_and (pe_cmpR op_eq (pe_ix ix_tup (pv 1) pe_int (fun _ _ => rfl)) pe_str (nomark _)) (pe_one (pe_cmpR op_ne (pv 2) pe_str (nomark _))))
        (pe_one (pe_and (pe_cmpR op_eq (pe_ix ix_tup (pv 1) pe_int (fun _ _ => rfl)) pe_str (nomark _)) (pe_one (pe_cmpR op_notIn_seq (pv 2) (pe_tup (pa_cons pe_str (pa_cons pe_str pa_nil))) (by rfl)))))) ?nd) pa_nil)))
      (pss_cons (ps_set (i := 6) sc_part.nd rfl (.inl rfl) (pe_op op_add (pv 6) (pe_callTy call_int1 (by rfl) T.n_int (by decide +kernel) (pa_cons (pe_wk (t' := tOd p o (m + nn t)) (pe_and (pe_cmpR op_gt (pv 3) pe_int (nomark _)) (pe_one (pe_cmpR op_eq (pe_call G__law_take r1 rfl T.g__law_take T.k__law_take b__law_take .nil pass0 (pa_cons (pv 0) (pa_cons (pe_callB (call_max2 rfl) (by rfl) T.n_max (by decide +kernel) (pa_cons pe_int (pa_cons (pv 3) pa_nil))) pa_nil))) pe_int (nomark _)))) ?od) pa_nil))))
      (pss_one (ps_ret (pe_tup (pa_cons (pe_op op_add_str (pe_op op_add_str (pe_op Wb.op_repZ pe_str (pv 6)) (pv 4)) (pe_op Wb.op_repZ pe_str (pv 6))) (pa_cons (pe_op op_add (pv 5) (pv 6)) pa_nil))))))), ?_⟩
    case nd =>
      rintro σ H0 Q0 ⟨h0, h1, hv0, q0⟩
      obtain ⟨va, xs, rfl, eh⟩ := hv0.head
      have hor := hdD_eq hw (j := "or") (by decide +kernel)
      have han := hdD_eq hw (j := "and") (by decide +kernel)
      have ebd : bdB (lt t) j = (decide (hdD t = "or") && !decide (j = "or") || decide (hdD t = "and") && !decide (j ∈ Qp.jts)) := by
        unfold bdB
        rw [decide_eq_decide.mpr hor, decide_eq_decide.mpr han]
      have x0 : atI (V.str (hdD t) :: xs) 0 = some (.str (hdD t)) := atI_nat (j := 0) rfl
      have fin : ∀ {b : Bool} {H' : Hp}, (decide (hdD t = "or") && !decide (j = "or") || decide (hdD t = "and") && !decide (j ∈ Qp.jts)) = b → Same H0 H' → Q0 (.bl b) H' := fun {b H'} e s => by
        rw [← e, ← ebd]
        exact q0 H' s
      refine ⟨_, h0, va, _, _, _, rfl, rfl, SqT.of eh, x0, rfl, ?_⟩
      rw [dec_str]
      refine ⟨_, rfl, ite2 (fun c0 => ?_) (fun c0 => ?_)⟩
      · refine ⟨_, h1, rfl, ?_⟩
        refine ⟨_, rfl, ite2 (fun c1 => ?_) (fun c1 => ?_)⟩
        · have e : j ≠ "or" := fun e => by
            rw [e] at c1
            simp at c1
          exact fin (by rw [c0, decide_eq_false e]; rfl) (Same.refl _)
        · have e : j = "or" := Classical.byContradiction fun e => c1 (by simp [e])
          have e2 : hdD t ≠ "and" := fun z => by
            rw [z] at c0
            exact absurd (of_decide_eq_true c0) (by decide +kernel)
          refine ⟨_, h0, va, _, _, _, rfl, rfl, SqT.of eh, x0, rfl, ?_⟩
          rw [dec_str]
          refine ⟨_, rfl, iteN (decide_eq_false e2) (fin ?_ (Same.refl _))⟩
          rw [decide_eq_true e, decide_eq_false e2, Bool.not_true, Bool.and_false]
          rfl
      · have e : decide (hdD t = "or") = false := Bool.eq_false_iff.mpr c0
        refine ⟨_, rfl, iteF ⟨_, h0, va, _, _, _, rfl, rfl, SqT.of eh, x0, rfl, ?_⟩⟩
        rw [dec_str]
        refine ⟨_, rfl, ite2 (fun c2 => ?_) (fun c2 => ?_)⟩
        · refine ⟨_, h1, (by show 2 ≤ sizeLine; rw [sizeLine_eq]; decide), fun p np => ⟨p, _, rfl, .inr (SqT.of upd_same), rfl, by decide, ?_⟩⟩
          show Q0 (.bl (!inV (.str j) [.str "and", .str "or"])) _
          rw [in_jts]
          exact fin (by rw [e, c2]; simp) (new_same np)
        · exact fin (by rw [e, Bool.eq_false_iff.mpr c2]; rfl) (Same.refl _)
    case od =>
      rintro σ H0 Q0 ⟨h0, h3, hb0, hm0, ho0, q0⟩
      refine ⟨_, h3, _, _, rfl, rfl, _, rfl, ite2 (fun c0 => ?_) (fun c0 => ?_)⟩
      · have op : 0 < o := by
          have := of_decide_eq_true c0
          omega
        refine ⟨_, h0, _, h3, _, _, rfl, ?_⟩
        have em : (if ((o : Nat) : Int) > 1 then ((o : Nat) : Int) else 1) = ((o : Nat) : Int) := by
          split <;> omega
        rw [em]
        refine ⟨p, (o : Nat), _, rfl, hb0, by omega, by omega, by omega, fun d H1 d0 d1 hb1 k1 => ⟨rfl, ?_⟩⟩
        exact q0 _ H1 (fun z => absurd z (by omega)) hb1 (Kp.eq k1)
      · exact q0 false H0 (fun _ => rfl) (hb0.le (by omega)) (fun b o n e => e)
    refine ⟨_, rfl, _, rfl, _, rfl, p, v, t, o, m, rfl, hb, hv, hw, hh, ho, by omega, hB, fun u z d H1 hz hD hb1 k1 => ?_⟩
    obtain ⟨b, rfl, eb⟩ := hz
    refine ⟨b, _, rfl, SqT.of eb, rfl, _, _, rfl, _, _, rfl, rfl, ?_⟩
    refine ⟨rfl, rfl, hv.mono (kp_tup hb k1), fun H2 S2 => .inr ⟨_, rfl, ?_⟩⟩
    rw [b2_int]
    refine ⟨_, rfl, rfl, rfl, hb1.mono S2, by omega, ho, fun c H3 hc hb3 k3 => .inr ⟨_, rfl, ?_⟩⟩
    rw [b2_int]
    refine ⟨_, _, rfl, rfl, ?_⟩
    dsimp only
    rw [show ((b2 (bdB (lt t) j) : Nat) : Int) + ((b2 c : Nat) : Int) = ((b2 (bdB (lt t) j) + b2 c : Nat) : Int) from (Int.natCast_add _ _).symm]
    have hk2 : b2 (bdB (lt t) j) + b2 c ≤ 2 := by
      have h1 : ∀ b, b2 b ≤ 1 := fun b => by cases b <;> decide
      have := h1 (bdB (lt t) j)
      have := h1 c
      omega
    have e1 : ("( " : Str).length = 2 := by decide +kernel
    have e2 : (" )" : Str).length = 2 := by decide +kernel
    have hz := hD.len
    have et := rep_clo z (bdB (lt t) j) c
    generalize hk : b2 (bdB (lt t) j) + b2 c = k at *
    have l1 := Wb.repZ_len "( " k
    have l2 := Wb.repZ_len " )" k
    rw [e1] at l1
    rw [e2] at l2
    refine ⟨_, rfl, "( ", k, rfl, rfl, by rw [e1]; decide, by rw [e1]; decide, by omega, _, rfl, _, _, rfl, rfl, (by rw [sizeLine_eq]; omega), ?_⟩
    refine ⟨_, rfl, " )", k, rfl, rfl, by rw [e2]; decide, by rw [e2]; decide, by omega, _, _, rfl, rfl, (by rw [len_app, sizeLine_eq]; omega), _, rfl, _, rfl, _, _, rfl, rfl, (by show 2 ≤ sizeLine; rw [sizeLine_eq]; decide), fun a na => ?_⟩
    have S4 := new_same (o := .tup [.str (Wb.repZ "( " k ++ z ++ Wb.repZ " )" k), (fun i j => V.int (i + j)) (d : Int) (k : Int)]) na
    refine q (.ref a) (bd (bd z c) (bdB (lt t) j)) (d + k) _ ⟨a, rfl, ?_⟩ ⟨bd z c, d + b2 c, ?_, ?_, fun h0 => ?_, rfl, ?_⟩ ((hb3.mono S4).le (by omega)) (k1.trans ((Kp.of S2).trans (k3.trans (Kp.of S4))))
    · rw [upd_same, ← et]
      rfl
    · cases c with
      | false => exact hD.wr
      | true => exact .cl hD.wr
    · have := bd_len z c
      omega
    · rw [hc h0, hD.no h0]
      rfl
    · rw [← hk]
      show d + (b2 (bdB (lt t) j) + b2 c) = d + b2 c + b2 (bdB (lt t) j)
      omega
end
end N7

set_option linter.all false
set_option maxRecDepth 100000
set_option maxHeartbeats 8000000
set_option pp.maxSteps 150
namespace N7
open PySem PySem.Spec PyProof.Rows L2 Gx Qp Qh
abbrev s_many : Stmt := topS 56
abbrev n_many : List Str := ["_law_tree", "_law_part_here"]
theorem sc_many : FnScope n_many ["_law_tree"] (defScope s_many) := ⟨rfl, rfl, rfl, by decide +kernel, rfl, by decide +kernel, by decide +kernel⟩
structure NmMn (mg : Str → Option Value) (K : PySem.W.Frag) (fm : Addr) : Prop where
  g__law_many : mg "_law_many" = some (.ref fm)
  k__law_many : PySem.W.keepIn K (.ref fm) = true
  n_sum : mg "sum" = none
def spMany (n : Nat) : Sp := fun vs H Q _ => ∃ (v : V) (t : DT), vs = [v] ∧ DAt H v t ∧ wfD t ∧ htD t ≤ n ∧ ∀ H' : Hp, Same H H' → Q (.int (nD t : Nat)) H'
theorem kids {H : Hp} {v : V} {t : DT} (h : DAt H v t) (w : wfD t) (n : ∀ a, t ≠ .at a) : ∃ (a : Addr) (us : List V) (ts : List DT), v = .ref a ∧ H a = some (.tup (.str (hdD t) :: us)) ∧ us.length = ts.length ∧ 1 ≤ ts.length ∧ ts.length ≤ 2 ∧ hdD t ∈ (["and", "or", "not"] : List Str) ∧
    (∀ (i : Nat) (u : V), us[i]? = some u → ∃ t', ts[i]? = some t' ∧ DAt H u t' ∧ wfD t' ∧ htD t' + 1 ≤ htD t) ∧ (ts.map nD).sum = nD t := by
  cases t with
  | «at» a => exact absurd rfl (n a)
  | un t =>
    obtain ⟨a, u, e, e1, hu⟩ := h
    refine ⟨a, [u], [t], e, e1, rfl, Nat.le_refl 1, (show 1 ≤ 2 by decide), (show ("not" : Str) ∈ (["and", "or", "not"] : List Str) by decide +kernel), fun i x hx => ?_, rfl⟩
    cases i with
    | zero =>
      cases hx
      exact ⟨t, rfl, hu, w, Nat.le_refl _⟩
    | succ i => cases hx
  | bi j x y =>
    obtain ⟨a, u, z, e, e1, hu, hz⟩ := h
    refine ⟨a, [u, z], [x, y], e, e1, rfl, (show 1 ≤ 2 by decide), Nat.le_refl 2, ?_, fun i q hq => ?_, ?_⟩
    · exact (by decide +kernel : ∀ k ∈ Qp.jts, k ∈ (["and", "or", "not"] : List Str)) j w.1
    · match i, hq with
      | 0, hq =>
        cases hq
        exact ⟨x, rfl, hu, w.2.1, by show htD x + 1 ≤ max (htD x) (htD y) + 1; omega⟩
      | 1, hq =>
        cases hq
        exact ⟨y, rfl, hz, w.2.2, by show htD y + 1 ≤ max (htD x) (htD y) + 1; omega⟩
      | i + 2, hq => cases hq
    · show nD x + (nD y + 0) = nD x + nD y
      omega
theorem pe_no {X : Cx} {e : Expr} {tb : TE} (h : ∀ σ H Q, ¬ tb σ H Q := by intro _ _ _ z; exact z) : PE X e tb := ⟨fun pins s σ H Q I w => (h σ H Q w).elim⟩
theorem sum_int (l : List Nat) : (l.map fun (k : Nat) => (k : Int)).sum = ((l.sum : Nat) : Int) := by
  induction l with
  | nil => rfl
  | cons a l ih =>
    rw [List.map_cons, List.sum_cons, List.sum_cons, ih, Int.natCast_add]
section
variable {P : Program} {w : World} {K : PySem.W.Frag} {mg : Str → Option Value} {base : Heap} {fm : Addr}
theorem ok_many {n : Nat} {f : Addr} {fd fdm : FuncData} (F : Fun K "_law_many" "_law_many" s_many f fd) (T : NmMn mg K fm)
    (G_many : ∀ e, n = e + 1 → FnOk P w K mg base CX0 (e + 1) fm fdm ["_law_tree"] (spMany e)) (b_many : Binds K fdm ["_law_tree"] []) : FnOk P w K mg base CX0 (n + 1) f fd ["_law_tree"] (spMany n) := by
  refine F.ok sc_many (fun vs H Q E h => ?_) (fun cdv A outer s H vs Q E hr h => ?_)
  · obtain ⟨v, t, rfl, _⟩ := h
    rfl
  · obtain ⟨v, t, rfl, hv, hw, hh, q⟩ := h
    by_cases ha : ∃ a, t = .at a
    · obtain ⟨a, rfl⟩ := ha
      obtain ⟨va, xs, rfl, eh⟩ := hv.head
      have x0 : atI (V.str (hdD (.at a)) :: xs) 0 = some (.str (hdD (.at a))) := atI_nat (j := 0) rfl
      have hd0 := hdD_at (show atOk a from hw)
      refine ⟨_, pss_one (ps_ret (pe_ifExp (pt_cmpR op_in_seq (pe_ix ix_tup (pv 0) pe_int (fun _ _ => rfl)) (pe_tup (pa_cons pe_str (pa_cons pe_str (pa_cons pe_str pa_nil)))) (by rfl)) (pe_no (tb := fun _ _ _ => False)) pe_int)), ?_⟩
      refine ⟨_, rfl, va, _, _, _, rfl, rfl, SqT.of eh, x0, (by show 3 ≤ sizeLine; rw [sizeLine_eq]; decide), fun p1 n1 => ⟨p1, _, rfl, .inr (SqT.of upd_same), rfl, by decide, _, rfl, iteN ?_ ?_⟩⟩
      · show inV (.str (hdA a)) ((["and", "or", "not"] : List Str).map V.str) = false
        rw [in_l]
        refine decide_eq_false fun z => ?_
        rcases List.mem_cons.mp z with z | z
        · exact hd0.1 (by rw [z]; decide +kernel)
        · rcases List.mem_cons.mp z with z | z
          · exact hd0.1 (by rw [z]; decide +kernel)
          · exact hd0.2 (List.mem_singleton.mp z)
      · exact q _ (new_same n1)
    · obtain ⟨va, us, ts, rfl, eh, l1, l2, l3, hin, hk, hs⟩ := kids hv hw fun a e => ha ⟨a, e⟩
      cases n with
      | zero =>
        exfalso
        cases t with
        | «at» a => exact ha ⟨a, rfl⟩
        | un t => exact absurd hh (by show ¬ htD t + 1 ≤ 0; omega)
        | bi j x y => exact absurd hh (by show ¬ max (htD x) (htD y) + 1 ≤ 0; omega)
      | succ n =>
      have G := G_many n rfl
      have x0 : atI (V.str (hdD t) :: us) 0 = some (.str (hdD t)) := atI_nat (j := 0) rfl
      refine ⟨_, (pss_one (ps_ret (pe_ifExp (pt_cmpR op_in_seq (pe_ix ix_tup (pv 0) pe_int (fun _ _ => rfl)) (pe_tup (pa_cons pe_str (pa_cons pe_str (pa_cons pe_str pa_nil)))) (by rfl)) (pe_callB (cr_sum rfl) (by rfl) T.n_sum (by decide +kernel) (pa_cons (pe_lc (own := [("_law_part_here", 1)]) (g := gName 1) (tt := tYes) (te := tCall (spMany n) [] E0 (tCons (tVar 1) tNil)) rfl sc_many.nd (pi_tup (pe_slice sl_tup (pv 0) (po_some pe_int) po_none)) (blkOk_by (own := [("_law_part_here", 1)]) (N := n_many) (sc := defScope s_many) (by decide +kernel)) (fun _ _ _ _ _ => (pg_name (i := 1) sc_many.nd rfl (.inl rfl))) (fun _ _ _ _ _ => pts_nil) (fun _ _ _ _ _ => (pe_call G hr rfl T.g__law_many T.k__law_many b_many .nil pass0 (pa_cons (pv 1) pa_nil)))) pa_nil)) pe_int))), ?_⟩
      refine ⟨_, rfl, va, _, _, _, rfl, rfl, SqT.of eh, x0, (by show 3 ≤ sizeLine; rw [sizeLine_eq]; decide), fun p1 n1 => ⟨p1, _, rfl, .inr (SqT.of upd_same), rfl, by decide, _, rfl, iteY ?_ ?_⟩⟩
      · show inV (.str (hdD t)) ((["and", "or", "not"] : List Str).map V.str) = true
        rw [in_l]
        exact decide_eq_true hin
      have S1 := new_same (o := .tup [.str "and", .str "or", .str "not"]) n1
      generalize upd H p1 (.tup [.str "and", .str "or", .str "not"]) = H1 at *
      have ecut : cutV (V.str (hdD t) :: us) (some 1) none = us := by
        unfold cutV
        rw [show (some (1 : Int)) = some ((1 : Nat) : Int) from rfl, HT.sIx_nat, HT.sIx_none, List.length_cons, Nat.min_eq_left (by omega)]
        show us.take _ = us
        exact List.take_of_length_le (by omega)
      refine ⟨_, rfl, _, rfl, va, _, rfl, SqT.of (S1 _ _ eh), ?_, fun p2 n2 => ?_⟩
      · rintro ⟨z, _⟩
        rw [show (some (1 : Int)) = some ((1 : Nat) : Int) from rfl, HT.sIx_nat, List.length_cons, Nat.min_eq_left (by omega)] at z
        cases z
      rw [ecut]
      have S2 := S1.trans (new_same (o := .tup us) n2)
      have e2 : upd H1 p2 (.tup us) p2 = some (.tup us) := upd_same
      generalize upd H1 p2 (.tup us) = H2 at *
      refine ⟨p2, rfl, ⟨_, SqT.of e2⟩, fun D nD' => ?_⟩
      have pD : p2 ≠ D := ne_of_none e2 nD'
      refine lc_it walk_tup (fun i Hi => (∀ b o, b ≠ D → H2 b = some o → Hi b = some o) ∧ Hi D = some (.lst ((((ts.take i).map nD).map fun (k : Nat) => (k : Int)).map V.int)))
        ⟨fun b o x e => by rw [upd_ne x]; exact e, upd_same⟩ (fun i Hi _ p => SqT.of (p.1 _ _ pD e2)) (fun i x Hi Hj hil p y => ?_) (fun Hi p => ?_)
      · obtain ⟨rfl, ex⟩ := y
        obtain ⟨t', et, dt, wt', ht'⟩ := hk i x ex
        have hi2 : i < ts.length := (List.getElem?_eq_some_iff.mp et).1
        refine ⟨rfl, keep1' ?_⟩
        refine ⟨_, rfl, x, t', rfl, dt.mono (fun b xs e => p.1 b _ (ne_of_none (S2 _ _ e) nD') (S2 _ _ e)), wt', by omega, fun H3 S3 => ⟨_, S3 _ _ p.2, ?_, fun b o x e => (upd_ne x).trans (S3 _ _ (p.1 b o x e)), ?_⟩⟩
        · rw [List.length_map, List.length_map, List.length_map, List.length_take, sizeLine_eq]
          omega
        · rw [upd_same, take_snoc et, List.map_append, List.map_append, List.map_append]
          rfl
      · have eD := p.2
        rw [l1, List.take_length] at eD
        refine ⟨D, _, rfl, SqL.of eD, ?_⟩
        rw [sum_int, hs]
        exact q Hi fun b o e => p.1 b o (ne_of_none (S2 _ _ e) nD') (S2 _ _ e)
end
end N7

set_option linter.all false
set_option maxRecDepth 100000
set_option maxHeartbeats 8000000
set_option pp.maxSteps 150
namespace N7
open PySem PySem.Spec PyProof.Rows L2 Gx Qp Qh
/-! ### trees as data; the tree that says nothing -/
def datA : AT → PyData
  | .one h c => .tuple [.str h, .str c]
  | .two j x y => .tuple [.str j, .str x, .str y]
  | .cnt c m k => .tuple [.str "count", .str c, .int (m : Nat), .int (k : Nat)]
def datD : DT → PyData
  | .at a => datA a
  | .un t => .tuple [.str "not", datD t]
  | .bi j x y => .tuple [.str j, datD x, datD y]
theorem str_ok {z : Str} (h : Asc z) : (PyData.str z).canLay0 = true := by
  show z.cps.all _ = true
  rw [← Array.all_toList, List.all_eq_true]
  intro c hc
  have := h c hc
  exact decide_eq_true (by omega)
theorem asc_in {l : List Str} (d : ∀ z ∈ l, ∀ c ∈ z.cps.toList, c < 256) {z : Str} (h : z ∈ l) : Asc z := d z h
theorem datA_ok {a : AT} (h : atOk a) : (datA a).canLay0 = true ∧ (datA a).depth ≤ 1 := by
  cases a with
  | one w c =>
    have h1 := str_ok (asc_in (by decide +kernel : ∀ z ∈ ones, ∀ c ∈ z.cps.toList, c < 256) h.1)
    have h2 := str_ok h.2.2.1
    refine ⟨?_, ?_⟩
    · show PyData.canLayAll0 [.str w, .str c] = true
      simp only [PyData.canLayAll0, h1, h2, Bool.and_self]
    · simp only [datA, PyData.depth, PyData.depthAll]
      omega
  | two j x y =>
    have h1 := str_ok (asc_in (by decide +kernel : ∀ z ∈ twos, ∀ c ∈ z.cps.toList, c < 256) h.1)
    have h2 := str_ok h.2.1.2.1
    have h3 := str_ok h.2.2.2.1
    refine ⟨?_, ?_⟩
    · show PyData.canLayAll0 [.str j, .str x, .str y] = true
      simp only [PyData.canLayAll0, h1, h2, h3, Bool.and_self]
    · simp only [datA, PyData.depth, PyData.depthAll]
      omega
  | cnt c m k =>
    have h1 := str_ok (asc_in (by decide +kernel : ∀ z ∈ ([("count" : Str)]), ∀ c ∈ z.cps.toList, c < 256) (z := "count") (List.mem_singleton.mpr rfl))
    have h2 := str_ok h.1.2.1
    refine ⟨?_, ?_⟩
    · show (PyData.canLay0 (.str "count") && (PyData.canLay0 (.str c) && (PyData.canLay0 (.int (m : Nat)) && (PyData.canLay0 (.int (k : Nat)) && true)))) = true
      rw [h1, h2]
      rfl
    · simp only [datA, PyData.depth, PyData.depthAll]
      omega
theorem datD_ok : ∀ {t : DT}, wfD t → (datD t).canLay0 = true ∧ (datD t).depth ≤ htD t + 1
  | .at a, h => ⟨(datA_ok h).1, by have := (datA_ok h).2; show (datA a).depth ≤ 0 + 1; omega⟩
  | .un t, h => by
    obtain ⟨h1, h2⟩ := datD_ok (t := t) h
    have h3 := str_ok (asc_in (by decide +kernel : ∀ z ∈ ([("not" : Str)]), ∀ c ∈ z.cps.toList, c < 256) (z := "not") (List.mem_singleton.mpr rfl))
    refine ⟨?_, ?_⟩
    · show PyData.canLayAll0 [.str "not", datD t] = true
      simp only [PyData.canLayAll0, h1, h3, Bool.and_self]
    · show (PyData.tuple [.str "not", datD t]).depth ≤ htD t + 1 + 1
      simp only [PyData.depth, PyData.depthAll]
      omega
  | .bi j x y, h => by
    obtain ⟨h1, h2⟩ := datD_ok (t := x) h.2.1
    obtain ⟨k1, k2⟩ := datD_ok (t := y) h.2.2
    have h3 := str_ok (asc_in (by decide +kernel : ∀ z ∈ Qp.jts, ∀ c ∈ z.cps.toList, c < 256) h.1)
    refine ⟨?_, ?_⟩
    · show PyData.canLayAll0 [.str j, datD x, datD y] = true
      simp only [PyData.canLayAll0, h1, h3, k1, Bool.and_self]
    · show (PyData.tuple [.str j, datD x, datD y]).depth ≤ max (htD x) (htD y) + 1 + 1
      simp only [PyData.depth, PyData.depthAll]
      omega
theorem dat_at {K : PySem.W.Frag} {H : Hp} : ∀ {t : DT} {v : V}, DAt H v t → Dp K H v (datD t)
  | .at (.one h c), v, ⟨a, e, e1⟩ => by
    rw [e]
    exact .tup (SqT.of e1) (.cons (.str _) (.cons (.str _) .nil))
  | .at (.two j x y), v, ⟨a, e, e1⟩ => by
    rw [e]
    exact .tup (SqT.of e1) (.cons (.str _) (.cons (.str _) (.cons (.str _) .nil)))
  | .at (.cnt c m k), v, ⟨a, e, e1⟩ => by
    rw [e]
    exact .tup (SqT.of e1) (.cons (.str _) (.cons (.str _) (.cons (.int _) (.cons (.int _) .nil))))
  | .un t, v, ⟨a, u, e, e1, h⟩ => by
    rw [e]
    exact .tup (SqT.of e1) (.cons (.str _) (.cons (dat_at h) .nil))
  | .bi j x y, v, ⟨a, u, w, e, e1, h, k⟩ => by
    rw [e]
    exact .tup (SqT.of e1) (.cons (.str _) (.cons (dat_at h) (.cons (dat_at k) .nil)))
abbrev yesD : PyData := .tuple [.str "yes"]
theorem not_yes : ∀ (t : DT), PyData.eqv (datD t) yesD = false
  | .at (.one h c) => by
    show PyData.eqvAll [.str h, .str c] [.str "yes"] = false
    simp [PyData.eqvAll]
  | .at (.two j x y) => by
    show PyData.eqvAll [.str j, .str x, .str y] [.str "yes"] = false
    simp [PyData.eqvAll]
  | .at (.cnt c m k) => by
    show PyData.eqvAll [.str "count", .str c, .int (m : Nat), .int (k : Nat)] [.str "yes"] = false
    simp [PyData.eqvAll]
  | .un t => by
    show PyData.eqvAll [.str "not", datD t] [.str "yes"] = false
    simp [PyData.eqvAll]
  | .bi j x y => by
    show PyData.eqvAll [.str j, datD x, datD y] [.str "yes"] = false
    simp [PyData.eqvAll]
/-- a condition, or the tree that says nothing -/
def CoAt (H : Hp) (v : V) : Option DT → Prop
  | none => ∃ a, v = .ref a ∧ H a = some (.tup [.str "yes"])
  | some t => DAt H v t
theorem CoAt.mono {H H' : Hp} (s : ∀ a xs, H a = some (.tup xs) → H' a = some (.tup xs)) {c : Option DT} {v : V} (h : CoAt H v c) : CoAt H' v c := by
  cases c with
  | none => obtain ⟨a, e, e1⟩ := h; exact ⟨a, e, s _ _ e1⟩
  | some t => exact DAt.mono s h
def tYs (i : Nat) (v : V) (c : Option DT) : TE := fun σ H Q => σ[i]? = some (some v) ∧ CoAt H v c ∧ (∀ t, c = some t → wfD t ∧ htD t ≤ 40) ∧ ∀ H', Same H H' → Q (.bl c.isNone) H'
theorem eq_yes {K : PySem.W.Frag} {H : Hp} {v : V} {c : Option DT} (h : CoAt H v c) (ok : ∀ t, c = some t → wfD t ∧ htD t ≤ 40) : ∃ d, Dp K H v d ∧ SeqAt.shaped d = true ∧ PyData.eqv d yesD = c.isNone := by
  cases c with
  | none =>
    obtain ⟨a, e, e1⟩ := h
    rw [e]
    exact ⟨yesD, .tup (SqT.of e1) (.cons (.str _) .nil), by decide +kernel, by decide +kernel⟩
  | some t =>
    obtain ⟨w, ht⟩ := ok t rfl
    obtain ⟨h1, h2⟩ := datD_ok w
    refine ⟨datD t, dat_at h, ?_, not_yes t⟩
    unfold SeqAt.shaped
    rw [h1, Bool.true_and]
    exact decide_eq_true (by omega)
section
variable {X : Cx}
theorem pe_yes {i : Nat} {v : V} {c : Option DT} {e e2 : Expr} {pos : Pos} {te : TE} (hu : X.A.units + 64 < cLine) (he : PE X e (tVar i)) (h2 : PE X e2 (tTup (tCons (tC (.str "yes")) tNil))) (hm : behindInMarks .Eq e2 = false := by rfl) : PE X (.Compare e [.Eq] [e2] pos) (tYs i v c) :=
  pe_wk (pe_cmpR (op_eqD hu) he h2 hm) fun σ H Q ⟨h0, hc, ok, q⟩ => by
    refine ⟨_, h0, (by show 1 ≤ sizeLine; rw [sizeLine_eq]; decide), fun p np => ?_⟩
    have S := new_same (o := .tup [.str "yes"]) np
    obtain ⟨d, hd, hs, e⟩ := eq_yes (K := X.K) (hc.mono fun a xs e => S a _ e) ok
    refine ⟨d, yesD, hd, .tup (SqT.of upd_same) (.cons (.str _) .nil), hs, by decide +kernel, ?_⟩
    rw [e]
    exact q _ S
theorem pe_notYes {i : Nat} {v : V} {c : Option DT} {e e2 : Expr} {pos : Pos} (hu : X.A.units + 64 < cLine) (he : PE X e (tVar i)) (h2 : PE X e2 (tTup (tCons (tC (.str "yes")) tNil))) (hm : behindInMarks .NotEq e2 = false := by rfl) :
    PE X (.Compare e [.NotEq] [e2] pos) (fun σ H Q => tYs i v c σ H fun b H' => ∃ k, b = .bl k ∧ Q (.bl (!k)) H') :=
  pe_wk (pe_cmpR (op_neD hu) he h2 hm) fun σ H Q ⟨h0, hc, ok, q⟩ => by
    refine ⟨_, h0, (by show 1 ≤ sizeLine; rw [sizeLine_eq]; decide), fun p np => ?_⟩
    have S := new_same (o := .tup [.str "yes"]) np
    obtain ⟨d, hd, hs, e⟩ := eq_yes (K := X.K) (hc.mono fun a xs e => S a _ e) ok
    refine ⟨d, yesD, hd, .tup (SqT.of upd_same) (.cons (.str _) .nil), hs, by decide +kernel, ?_⟩
    obtain ⟨k, e1, q1⟩ := q _ S
    cases e1
    rw [e]
    exact q1
end
/-! ### rows of the law -/
structure LR where
  kind : Str
  names : List Str
  cond : Option DT
def LAt (H : Hp) (v : V) (r : LR) : Prop := ∃ (a b : Addr) (u : V), v = .ref a ∧ H a = some (.tup [.str r.kind, .ref b, u]) ∧ H b = some (.tup (r.names.map V.str)) ∧ CoAt H u r.cond
theorem LAt.mono {H H' : Hp} (s : ∀ a xs, H a = some (.tup xs) → H' a = some (.tup xs)) {r : LR} {v : V} (h : LAt H v r) : LAt H' v r := by
  obtain ⟨a, b, u, e, e1, e2, hc⟩ := h
  exact ⟨a, b, u, e, s _ _ e1, s _ _ e2, hc.mono s⟩
def LsAt (H : Hp) (us : List V) (rs : List LR) : Prop := us.length = rs.length ∧ ∀ (i : Nat) (r : LR), rs[i]? = some r → ∃ u, us[i]? = some u ∧ LAt H u r
theorem LsAt.mono {H H' : Hp} (s : ∀ a xs, H a = some (.tup xs) → H' a = some (.tup xs)) {us : List V} {rs : List LR} (h : LsAt H us rs) : LsAt H' us rs :=
  ⟨h.1, fun i r e => let ⟨u, e1, e2⟩ := h.2 i r e; ⟨u, e1, e2.mono s⟩⟩
theorem LsAt.get {H : Hp} {us : List V} {rs : List LR} (h : LsAt H us rs) {i : Nat} {x : V} (e : us[i]? = some x) : ∃ r, rs[i]? = some r ∧ LAt H x r := by
  have hi : i < rs.length := by
    rw [← h.1]
    exact (List.getElem?_eq_some_iff.mp e).1
  obtain ⟨u, e1, e2⟩ := h.2 i rs[i] (List.getElem?_eq_getElem hi)
  rw [e] at e1
  cases e1
  exact ⟨rs[i], List.getElem?_eq_getElem hi, e2⟩
theorem LsAt.snoc {H : Hp} {us : List V} {rs : List LR} {u : V} {r : LR} (h : LsAt H us rs) (k : LAt H u r) : LsAt H (us ++ [u]) (rs ++ [r]) := by
  refine ⟨by rw [List.length_append, List.length_append, h.1]; rfl, fun i q e => ?_⟩
  by_cases hi : i < rs.length
  · rw [List.getElem?_append_left hi] at e
    obtain ⟨x, e1, e2⟩ := h.2 i q e
    exact ⟨x, by rw [List.getElem?_append_left (by rw [h.1]; exact hi)]; exact e1, e2⟩
  · have hl := (List.getElem?_eq_some_iff.mp e).1
    rw [List.length_append, List.length_singleton] at hl
    have ei : i = rs.length := by omega
    rw [ei, List.getElem?_append_right (Nat.le_refl _), Nat.sub_self] at e
    cases e
    exact ⟨u, by rw [ei, ← h.1, List.getElem?_append_right (Nat.le_refl _), Nat.sub_self]; rfl, k⟩
end N7

set_option linter.all false
set_option maxRecDepth 100000
set_option maxHeartbeats 8000000
set_option pp.maxSteps 150
namespace N7
open PySem PySem.Spec PyProof.Rows L2 Gx Qp Qh
abbrev s_lines : Stmt := topS 51
abbrev n_lines : List Str := ["_law_box_here", "_law_caps_here", "_law_names_here", "_law_found", "_law_kind", "_law_some", "_law_tree", "_law_at", "_law_one"]
theorem sc_lines : FnScope n_lines ["_law_box_here", "_law_caps_here", "_law_names_here"] (defScope s_lines) := ⟨rfl, rfl, rfl, by decide +kernel, rfl, by decide +kernel, by decide +kernel⟩
structure LOk (caps names : List Str) (n k : Nat) (r : LR) : Prop where
  kd : r.kind ∈ caps
  n1 : 1 ≤ r.names.length
  nl : r.names.length ≤ k
  nn : ∀ z ∈ r.names, z ∈ names ∨ z = "other" ∨ z = "any"
  nd : r.names.Nodup
  cn : ∀ t, r.cond = some t → wfD t ∧ kinD caps t ∧ nD t ≤ n ∧ htD t ≤ 2 * n + 4 ∧ BT (lt t) ≤ 98 * n + 200
def spLines : Sp := fun vs H Q _ => ∃ (p lc ln : Addr) (caps names : List Str) (m : Nat), vs = [.ref p, .ref lc, .ref ln] ∧ BoxAt H p m ∧ m ≤ 9000 ∧ H lc = some (.lst (caps.map V.str)) ∧ lc ≠ p ∧ 1 ≤ caps.length ∧ caps.length ≤ 4 ∧ (∀ c ∈ caps, CapOk c) ∧
  H ln = some (.lst (names.map V.str)) ∧ ln ≠ p ∧ 3 ≤ names.length ∧ names.length ≤ 9 ∧ (∀ z ∈ names, Asc z) ∧
  ∀ (r : Addr) (us : List V) (rs : List LR) (H' : Hp), H r = none → H' r = some (.lst us) → LsAt H' us rs → rs.map LR.kind = caps → (∀ q ∈ rs, LOk caps names 3 2 q) → BoxAt H' p (m + 80 * caps.length) → Kp p H H' → Q (.ref r) H'
section
variable {P : Program} {w : World} {K : PySem.W.Frag} {mg : Str → Option Value} {base : Heap} {ft fx fp fab fns : Addr}
theorem ok_lines {f : Addr} {fd fdt fdx fdi : FuncData} (F : Fun K "_law_lines" "_law_lines" s_lines f fd) (T : NmB mg K ft fx fp fab fns) (n_tuple : mg "tuple" = none) (n_enumerate : mg "enumerate" = none)
    (G__law_take : FnOk P w K mg base CX0 1 ft fdt ["_law_box_here", "_law_many_here"] spTake) (b__law_take : Binds K fdt ["_law_box_here", "_law_many_here"] [])
    (G__law_mixed : FnOk P w K mg base CX0 2 fx fdx ["_law_box_here", "_law_items"] spMix) (b__law_mixed : Binds K fdx ["_law_box_here", "_law_items"] [])
    (G__law_inside : FnOk P w K mg base CX0 7 fns fdi ["_law_box_here", "_law_caps_here", "_law_size"] (spInside 3)) (b__law_inside : Binds K fdi ["_law_box_here", "_law_caps_here", "_law_size"] []) : FnOk P w K mg base CX0 8 f fd ["_law_box_here", "_law_caps_here", "_law_names_here"] spLines := by
  refine F.ok sc_lines (fun vs H Q E h => ?_) (fun cdv A outer s H vs Q E hr h => ?_)
  · obtain ⟨p, lc, ln, caps, names, m, rfl, _⟩ := h
    rfl
  · obtain ⟨p, lc, ln, caps, names, m, rfl, hb, hm, hlc, cp, c1, c4, hc, hln, np, n3, n9, hna, q⟩ := h
    have r1 := hr.mono (show 1 ≤ 7 by decide)
    have r2 := hr.mono (show 2 ≤ 7 by decide)
    have r7 := hr.mono (show 7 ≤ 7 by decide)
    refine ⟨_, (pss_cons (ps_set (i := 3) sc_lines.nd rfl (.inl rfl) (pe_lst pa_nil))
      (pss_cons (ps_for PassesOwn.never rfl (pi_list (pv 1)) (pg_name (i := 4) sc_lines.nd rfl (.inl rfl))
        (pss_cons (ps_set (i := 5) sc_lines.nd rfl (.inr rfl) (pe_slice sl_list (pe_call G__law_mixed r2 rfl T.g__law_mixed T.k__law_mixed b__law_mixed .nil pass0 (pa_cons (pv 0) (pa_cons (pe_op op_cat (pe_slice sl_list (pv 2) po_none (po_some pe_int)) (pe_lst (pa_cons pe_str (pa_cons pe_str (pa_cons pe_str pa_nil))))) pa_nil))) po_none (po_some (pe_op op_add pe_int (pe_call G__law_take r1 rfl T.g__law_take T.k__law_take b__law_take .nil pass0 (pa_cons (pv 0) (pa_cons pe_int pa_nil)))))))
        (pss_cons (ps_set (i := 5) sc_lines.nd rfl (.inr rfl) (pe_lc (own := [("_law_at", 7), ("_law_one", 8)]) (g := gTup K 2 (gCons (gName 7) (gCons (gName 8) gNil))) (tt := tTest (tOp (rIn K true) (tVar 8) (tSl (rSlL K) (tVar 5) (fun σ H Q => Q none H) (tPart (tVar 7))))) (te := tVar 8) rfl sc_lines.nd (pi_enum (by rfl) n_enumerate (pa_cons (pv 5) pa_nil)) (blkOk_by (own := [("_law_at", 7), ("_law_one", 8)]) (N := n_lines) (sc := defScope s_lines) (by decide +kernel)) (fun _ _ _ _ _ => (pg_tup rfl (pgs_cons (pg_name (i := 7) sc_lines.nd rfl (.inl rfl)) (pgs_cons (pg_name (i := 8) sc_lines.nd rfl (.inl rfl)) pgs_nil)))) (fun _ _ _ _ _ => (pts_one (pt_cmpR op_notIn_seq (pv 8) (pe_slice sl_list (pv 5) po_none (po_some (pv 7))) (by rfl)))) (fun _ _ _ _ _ => (pv 8))))
        (pss_cons (ps_set (i := 6) sc_lines.nd rfl (.inl rfl) (pe_tup (pa_cons pe_str pa_nil)))
        (C8.pss_cut (ps_if (pt_cmpR op_gt (pe_call G__law_take r1 rfl T.g__law_take T.k__law_take b__law_take .nil pass0 (pa_cons (pv 0) (pa_cons pe_int pa_nil))) pe_int (nomark _)) (pss_one (ps_set (i := 6) sc_lines.nd rfl (.inl rfl) (pe_call G__law_inside r7 rfl T.g__law_inside T.k__law_inside b__law_inside .nil pass0 (pa_cons (pv 0) (pa_cons (pv 1) (pa_cons (pe_op op_add pe_int (pe_call G__law_take r1 rfl T.g__law_take T.k__law_take b__law_take .nil pass0 (pa_cons (pv 0) (pa_cons pe_int pa_nil)))) pa_nil)))))) pss_nil)
        (pss_one (ps_expr (pe_bm PySem.F.plainAttrs_list PySem.F.slot_list_append PySem.F.type_list_append mt_append (pv 3) (pa_cons (pe_tup (pa_cons (pv 4) (pa_cons (pe_callTy call_tuple_of (by rfl) n_tuple (by decide +kernel) (pa_cons (pv 5) pa_nil)) (pa_cons (pv 6) pa_nil)))) pa_nil)))))))))
      (pss_one (ps_ret (pv 3))))), ?_⟩
    refine ⟨Nat.zero_le _, fun L nL => ?_⟩
    have S1 := new_same (o := .lst []) nL
    have eL : upd H L (.lst []) L = some (.lst []) := upd_same
    have hb1 := hb.mono S1
    have pL := hb.ne nL
    generalize upd H L (.lst []) = H1 at *
    have hlc1 := S1 _ _ hlc
    have hln1 := S1 _ _ hln
    have cL : lc ≠ L := ne_of_none hlc nL
    have nLn : ln ≠ L := ne_of_none hln nL
    refine ⟨_, rfl, lc, rfl, ⟨_, SqL.of hlc1⟩, ?_⟩
    refine for_it walk_list (fun i σ Hi => (∀ b o, b ≠ p → b ≠ L → H1 b = some o → Hi b = some o) ∧ ∃ (us : List V) (rs : List LR) (b4 b5 b6 : Option V), Hi L = some (.lst us) ∧ LsAt Hi us rs ∧ rs.map LR.kind = caps.take i ∧ (∀ q ∈ rs, LOk caps names 3 2 q) ∧ BoxAt Hi p (m + 80 * i) ∧
        σ = [some (.ref p), some (.ref lc), some (.ref ln), some (.ref L), b4, b5, b6, none, none])
      ⟨fun b o _ _ e => e, [], [], none, none, none, eL, ⟨rfl, fun i r e => absurd e (by simp)⟩, rfl, (fun q hq => absurd hq (by simp)), hb1, rfl⟩ (fun i σ Hi _ p' => SqL.of (p'.1 _ _ cp cL hlc1)) (fun j x σ H2 H3 hj p' y => ?_) (fun σ H2 p' => ?_)
    · obtain ⟨k2, us, rs, b4, b5, b6, eL2, hR, hk, hok, hb2, rfl⟩ := p'
      obtain ⟨rfl, ex⟩ := y
      obtain ⟨kd, ek, rfl⟩ := map_get ex
      have jl : j < caps.length := (List.getElem?_eq_some_iff.mp ek).1
      have hln2 := k2 _ _ np nLn hln1
      have hlc2 := k2 _ _ cp cL hlc1
      -- the mixed names
      refine ⟨_, rfl, _, rfl, _, rfl, ln, _, rfl, SqL.of hln2, fun l1 nl1 => ?_⟩
      rw [show (some (3 : Int)) = some ((3 : Nat) : Int) from rfl, cut_take _ _ (by rw [List.length_map]; exact n3), ← List.map_take]
      have T1 := new_same (o := .lst ((names.take 3).map V.str)) nl1
      have e1 : upd H3 l1 (.lst ((names.take 3).map V.str)) l1 = some (.lst ((names.take 3).map V.str)) := upd_same
      generalize upd H3 l1 (.lst ((names.take 3).map V.str)) = H4 at *
      refine ⟨(by show 3 ≤ sizeLine; rw [sizeLine_eq]; decide), fun l2 nl2 => ?_⟩
      have T2 := new_same (o := .lst [.str "other", .str "any", .str "any"]) nl2
      have e2 : upd H4 l2 (.lst [.str "other", .str "any", .str "any"]) l2 = some (.lst [.str "other", .str "any", .str "any"]) := upd_same
      generalize upd H4 l2 (.lst [.str "other", .str "any", .str "any"]) = H5 at *
      have ln3 : (names.take 3).length = 3 := by rw [List.length_take]; omega
      refine ⟨l1, l2, _, _, rfl, rfl, T2 _ _ e1, e2, (by rw [List.length_map, ln3, sizeLine_eq]; decide), fun l3 nl3 => ?_⟩
      have ezs : (names.take 3).map V.str ++ [.str "other", .str "any", .str "any"] = (names.take 3 ++ (["other", "any", "any"] : List Str)).map V.str := by
        rw [List.map_append]
        rfl
      rw [ezs]
      generalize hzs : names.take 3 ++ (["other", "any", "any"] : List Str) = zs at *
      have lzs : zs.length = 6 := by rw [← hzs, List.length_append, ln3]; rfl
      have T3 := new_same (o := .lst (zs.map V.str)) nl3
      have e3 : upd H5 l3 (.lst (zs.map V.str)) l3 = some (.lst (zs.map V.str)) := upd_same
      have T13 := T1.trans (T2.trans T3)
      have hb3 := hb2.mono T13
      generalize upd H5 l3 (.lst (zs.map V.str)) = H6 at *
      have zin : ∀ z ∈ zs, z ∈ names ∨ z = "other" ∨ z = "any" := fun z hz => by
        rw [← hzs] at hz
        rcases List.mem_append.mp hz with h | h
        · exact .inl (List.mem_of_mem_take h)
        · rcases List.mem_cons.mp h with h | h
          · exact .inr (.inl h)
          · rcases List.mem_cons.mp h with h | h
            · exact .inr (.inr h)
            · exact .inr (.inr (List.mem_singleton.mp h))
      have zas : ∀ z ∈ zs, Asc z := fun z hz => by
        rcases zin z hz with h | rfl | rfl
        · exact hna z h
        · decide +kernel
        · decide +kernel
      refine ⟨p, l3, zs, m + 80 * j, rfl, hb3, e3, zas, by omega, by omega, fun lr ys H7 nlr elr yl pm hb7 k7 => ?_⟩
      refine ⟨_, rfl, p, 2, _, rfl, hb7, by omega, by decide, by decide, fun d H8 d0 d1 hb8 k8 => ⟨_, _, rfl, rfl, _, rfl, lr, _, rfl, SqL.of ((k8 lr (Ne.symm (hb3.ne nlr))).trans elr), fun ls nls => ?_⟩⟩
      obtain ⟨dn, rfl⟩ : ∃ n : Nat, d = (n : Int) := ⟨d.toNat, by omega⟩
      dsimp only
      rw [show (1 : Int) + (dn : Int) = ((1 + dn : Nat) : Int) by omega, cut_take _ _ (by rw [List.length_map]; omega), ← List.map_take]
      have T4 := new_same (o := .lst ((ys.take (1 + dn)).map V.str)) nls
      have e4 : upd H8 ls (.lst ((ys.take (1 + dn)).map V.str)) ls = some (.lst ((ys.take (1 + dn)).map V.str)) := upd_same
      have hb9 := hb8.mono T4
      have K9 : Kp p H3 (upd H8 ls (.lst ((ys.take (1 + dn)).map V.str))) := (Kp.of T13).trans (k7.trans ((Kp.eq k8).trans (Kp.of T4)))
      generalize hw : ys.take (1 + dn) = sw at *
      generalize upd H8 ls (.lst (sw.map V.str)) = H9 at *
      have lsw : sw.length = 1 + dn := by rw [← hw, List.length_take]; omega
      have swin : ∀ z ∈ sw, z ∈ names ∨ z = "other" ∨ z = "any" := fun z hz => zin z (pm.mem_iff.mp (List.mem_of_mem_take (by rw [hw]; exact hz)))
      -- each once
      refine ⟨_, rfl, ls, _, rfl, SqL.of e4, fun D nD => ?_⟩
      have lD : ls ≠ D := ne_of_none e4 nD
      refine lc_it walk_enum (fun i Hi => (∀ b o, b ≠ D → H9 b = some o → Hi b = some o) ∧ ∃ qs : List Str, Hi D = some (.lst (qs.map V.str)) ∧ qs.Nodup ∧ (∀ z, z ∈ qs ↔ z ∈ sw.take i) ∧ qs.length ≤ i)
        ⟨fun b o x e => by rw [upd_ne x]; exact e, [], upd_same, List.nodup_nil, fun z => by simp, Nat.le_refl _⟩ (fun i Hi _ p' => SqL.of (p'.1 ls _ lD e4)) (fun i x Hi Hj hil p' y => ?_) (fun H10 p' => ?_)
      · obtain ⟨k5, qs, eq5, nd5, mem5, len5⟩ := p'
        obtain ⟨T0, x', y', rfl, nT, rfl, ex, ey⟩ := y
        cases ex
        obtain ⟨z, ez, rfl⟩ := map_get ey
        have s6 := new_same (o := .tup [.int (i : Nat), .str z]) nT
        have eT : upd Hi T0 (.tup [.int (i : Nat), .str z]) T0 = some (.tup [.int (i : Nat), .str z]) := upd_same
        generalize upd Hi T0 (.tup [.int (i : Nat), .str z]) = Hk at *
        have il : i < sw.length := (List.getElem?_eq_some_iff.mp ez).1
        refine ⟨T0, _, rfl, SqT.of eT, rfl, _, _, rfl, _, _, rfl, rfl, rfl, ?_⟩
        refine ⟨_, rfl, _, rfl, _, rfl, _, rfl, ls, _, rfl, SqL.of (s6 _ _ (k5 ls _ lD e4)), fun lp nlp => ?_⟩
        rw [cut_take _ _ (by rw [List.length_map]; omega), ← List.map_take]
        have S7 := s6.trans (new_same (o := .lst ((sw.take i).map V.str)) nlp)
        refine ⟨lp, _, rfl, .inl (SqL.of upd_same), rfl, flat_strs _, _, rfl, ?_⟩
        have ein : inV (.str z) ((sw.take i).map V.str) = decide (z ∈ sw.take i) := inV_list _ _
        have kD : ∀ b o, b ≠ D → H9 b = some o → upd Hk lp (.lst ((sw.take i).map V.str)) b = some o := fun b o x e => S7 _ _ (k5 b o x e)
        have eD7 := S7 _ _ eq5
        generalize upd Hk lp (.lst ((sw.take i).map V.str)) = Hm at *
        refine ite2 (fun h0 => ?_) (fun h0 => ?_)
        · have hz : z ∉ sw.take i := fun hz => by
            have h1 : (!inV (.str z) ((sw.take i).map V.str)) = true := h0
            rw [ein, decide_eq_true hz] at h1
            cases h1
          refine ⟨_, rfl, _, eD7, (by rw [List.length_map, sizeLine_eq]; omega), fun b o x e => (upd_ne x).trans (kD b o x e), qs ++ [z], by rw [upd_same, List.map_append]; rfl, ?_, fun y => ?_, by rw [List.length_append, List.length_singleton]; omega⟩
          · rw [List.nodup_append]
            refine ⟨nd5, by simp, fun a ha b hb2 e => ?_⟩
            rw [List.mem_singleton.mp hb2] at e
            exact hz ((mem5 z).mp (e ▸ ha))
          · rw [List.mem_append, List.mem_singleton, take_mem ez, mem5]
        · have hz : z ∈ sw.take i := Classical.byContradiction fun hz => h0 (by
            show (!inV (.str z) ((sw.take i).map V.str)) = true
            rw [ein, decide_eq_false hz]
            rfl)
          refine ⟨kD, qs, eD7, nd5, fun y => ?_, by omega⟩
          rw [take_mem ez, mem5]
          exact ⟨.inl, fun h => h.elim id fun e => e ▸ hz⟩
      · obtain ⟨k5, qs, eD, ndq, memq, lenq⟩ := p'
        rw [List.length_map] at memq lenq
        rw [List.take_length] at memq
        have K10 : Kp p H3 H10 := K9.trans (Kp.of fun b o e => k5 b o (ne_of_none e nD) e)
        have hb10 : BoxAt H10 p (m + 80 * j + zs.length + 1) := hb9.mono fun b o e => k5 b o (ne_of_none e nD) e
        have q1 : 1 ≤ qs.length := by
          rcases List.eq_nil_or_concat qs with h | ⟨_, _, h⟩
          · exfalso
            have h0 : sw[0]? = some (sw[0]'(by omega)) := List.getElem?_eq_getElem _
            have := (memq (sw[0]'(by omega))).mpr (List.mem_of_getElem? h0)
            rw [h] at this
            exact absurd this (by simp)
          · rw [h, List.length_concat]
            omega
        refine ⟨(by show 1 ≤ sizeLine; rw [sizeLine_eq]; decide), fun ty nty => ?_⟩
        have S11 := new_same (o := .tup [.str "yes"]) nty
        have ety : upd H10 ty (.tup [.str "yes"]) ty = some (.tup [.str "yes"]) := upd_same
        have hb11 := hb10.mono S11
        have K11 : Kp p H3 (upd H10 ty (.tup [.str "yes"])) := K10.trans (Kp.of S11)
        have eD11 := S11 _ _ eD
        have pD := hb9.ne nD
        generalize upd H10 ty (.tup [.str "yes"]) = H11 at *
        refine ⟨fun σ Hx => Kp p H3 Hx ∧ BoxAt Hx p (m + 80 * j + 70) ∧ Hx D = some (.lst (qs.map V.str)) ∧ ∃ (v : V) (c : Option DT), CoAt Hx v c ∧ (∀ t, c = some t → wfD t ∧ kinD caps t ∧ N7.nD t ≤ 3 ∧ htD t ≤ 2 * 3 + 4 ∧ BT (lt t) ≤ 98 * 3 + 200) ∧
          σ = [some (.ref p), some (.ref lc), some (.ref ln), some (.ref L), some (.str kd), some (.ref D), some v, none, none], ?_, ?_⟩
        · refine ⟨_, rfl, p, 3, _, rfl, hb11, by omega, by decide, by decide, fun d2 H12 e0 e1' hb12 k12 => ⟨_, _, rfl, rfl, _, rfl, ite2 (fun _ => ?_) (fun _ => ?_)⟩⟩
          · refine ⟨_, rfl, _, rfl, _, rfl, p, 3, _, rfl, hb12, by omega, by decide, by decide, fun d3 H13 f0 f1 hb13 k13 => ⟨_, _, rfl, rfl, ?_⟩⟩
            obtain ⟨n3', rfl⟩ : ∃ n : Nat, d3 = (n : Int) := ⟨d3.toNat, by omega⟩
            dsimp only
            have K13 : Kp p H3 H13 := K11.trans ((Kp.eq k12).trans (Kp.eq k13))
            refine ⟨p, lc, caps, _, 1 + n3', by rw [show (1 : Int) + (n3' : Int) = ((1 + n3' : Nat) : Int) by omega]; rfl, by omega, by omega, by omega, hb13, by omega, K13 _ _ cp hlc2, cp, c1, by omega, hc, fun v t H14 ht wt' kt nt tt bt hb14 k14 => ?_⟩
            refine ⟨K13.trans k14, hb14.le (by omega), k14 _ _ (Ne.symm pD) (((k13 D (Ne.symm pD)).trans (k12 D (Ne.symm pD))).trans eD11), v, some t, ht, fun t' e => ?_, rfl⟩
            cases e
            exact ⟨wt', kt, by omega, by omega, by omega⟩
          · refine ⟨K11.trans (Kp.eq k12), hb12.le (by omega), (k12 D (Ne.symm pD)).trans eD11, .ref ty, none, ⟨ty, rfl, kp_tup hb11 (Kp.eq k12) _ _ ety⟩, fun t e => (nomatch e), rfl⟩
        · rintro σ Hx ⟨kx, hbx, eDx, v, c, hcv, hct, rfl⟩
          have eLx := kx _ _ (Ne.symm pL) eL2
          refine ⟨_, rfl, .inl ⟨rfl, _, SqL.of eLx⟩, _, rfl, _, rfl, D, _, rfl, .inl ⟨SqL.of eDx, fun tq ntq => ?_⟩⟩
          have U1 := new_same (o := .tup (qs.map V.str)) ntq
          have etq : upd Hx tq (.tup (qs.map V.str)) tq = some (.tup (qs.map V.str)) := upd_same
          generalize upd Hx tq (.tup (qs.map V.str)) = Hy at *
          refine ⟨_, rfl, (by show 3 ≤ sizeLine; rw [sizeLine_eq]; decide), fun tr ntr => ?_⟩
          have U2 := U1.trans (new_same (o := .tup [.str kd, .ref tq, v]) ntr)
          have etr : upd Hy tr (.tup [.str kd, .ref tq, v]) tr = some (.tup [.str kd, .ref tq, v]) := upd_same
          have etq2 := (new_same (o := .tup [.str kd, .ref tq, v]) ntr) _ _ etq
          generalize upd Hy tr (.tup [.str kd, .ref tq, v]) = Hz at *
          have eLz := U2 _ _ eLx
          have ul : us.length = j := by
            rw [hR.1, ← List.length_map (f := LR.kind), hk, List.length_take]
            omega
          refine ⟨L, _, _, rfl, rfl, eLz, (by rw [ul, sizeLine_eq]; omega), ?_⟩
          have kz : ∀ b o, b ≠ L → Hz b = some o → upd Hz L (.lst (us ++ [.ref tr])) b = some o := fun b o n e => (upd_ne n).trans e
          have nTL : ∀ {b : Addr} {xs : List V}, Hz b = some (.tup xs) → b ≠ L := fun e => ne_of e eLz fun z => nomatch z
          have tz : ∀ a xs, Hz a = some (.tup xs) → upd Hz L (.lst (us ++ [.ref tr])) a = some (.tup xs) := fun a xs e => kz a _ (nTL e) e
          have t3z : ∀ a xs, H3 a = some (.tup xs) → upd Hz L (.lst (us ++ [.ref tr])) a = some (.tup xs) := fun a xs e => tz a xs (U2 _ _ (kp_tup hb2 kx a xs e))
          refine ⟨fun b o bp bL e => kz b o bL (U2 _ _ (kx b o bp (k2 b o bp bL e))), us ++ [.ref tr], rs ++ [⟨kd, qs, c⟩], _, _, _, upd_same, (hR.mono t3z).snoc ⟨tr, tq, v, rfl, tz _ _ etr, tz _ _ etq2, hcv.mono fun a xs e => tz a xs (U2 _ _ e)⟩, ?_, ?_, ?_, rfl⟩
          · rw [List.map_append, hk, take_snoc ek]
            rfl
          · intro q' hq'
            rcases List.mem_append.mp hq' with h | h
            · exact hok q' h
            · rw [List.mem_singleton.mp h]
              exact ⟨List.mem_of_getElem? ek, q1, by show qs.length ≤ 2; omega, fun z hz => swin z ((memq z).mp hz), ndq, hct⟩
          · obtain ⟨cc, sd, nn', eb, r⟩ := (hbx.mono U2).le (show m + 80 * j + 70 ≤ m + 80 * (j + 1) by omega)
            exact ⟨cc, sd, nn', kz p _ pL eb, r⟩
    · obtain ⟨k2, us, rs, b4, b5, b6, eL2, hR, hk, hok, hb2, rfl⟩ := p'
      rw [List.length_map] at hb2 hk
      rw [List.take_length] at hk
      exact ⟨_, rfl, q L us rs H2 nL eL2 hR hk hok hb2 fun b o n e => k2 b o n (ne_of_none e nL) (S1 _ _ e)⟩
end
end N7

set_option linter.all false
set_option maxRecDepth 100000
set_option maxHeartbeats 8000000
set_option pp.maxSteps 150
namespace N7
open PySem PySem.Spec PyProof.Rows L2 Gx Qp Qh
theorem pt_wk {X : Cx} {e : Expr} {t t' : TT} (h : PT X e t) (k : ∀ σ H Q, t' σ H Q → t σ H Q) : PT X e t' := ⟨fun pins s σ H Q I w => h.run pins s σ H Q I (k σ H Q w)⟩
def tYt (i : Nat) (neg : Bool) : TT := fun σ H Q => ∃ (v : V) (c : Option DT), σ[i]? = some (some v) ∧ CoAt H v c ∧ (∀ t, c = some t → wfD t ∧ htD t ≤ 40) ∧ ∀ H', Same H H' → Q (xor neg c.isNone) H'
section
variable {X : Cx}
theorem pt_yes {i : Nat} {e e2 : Expr} {pos : Pos} (hu : X.A.units + 64 < cLine) (he : PE X e (tVar i)) (h2 : PE X e2 (tTup (tCons (tC (.str "yes")) tNil))) (hm : behindInMarks .Eq e2 = false := by rfl) : PT X (.Compare e [.Eq] [e2] pos) (tYt i false) :=
  pt_wk (pt_cmpR (op_eqD hu) he h2 hm) fun σ H Q ⟨v, c, h0, hc, ok, q⟩ => by
    refine ⟨_, h0, (by show 1 ≤ sizeLine; rw [sizeLine_eq]; decide), fun p np => ?_⟩
    have S := new_same (o := .tup [.str "yes"]) np
    obtain ⟨d, hd, hs, e⟩ := eq_yes (K := X.K) (hc.mono fun a xs e => S a _ e) ok
    refine ⟨d, yesD, hd, .tup (SqT.of upd_same) (.cons (.str _) .nil), hs, by decide +kernel, _, rfl, ?_⟩
    rw [e]
    have := q _ S
    rw [Bool.false_xor] at this
    exact this
theorem pt_notYes {i : Nat} {e e2 : Expr} {pos : Pos} (hu : X.A.units + 64 < cLine) (he : PE X e (tVar i)) (h2 : PE X e2 (tTup (tCons (tC (.str "yes")) tNil))) (hm : behindInMarks .NotEq e2 = false := by rfl) : PT X (.Compare e [.NotEq] [e2] pos) (tYt i true) :=
  pt_wk (pt_cmpR (op_neD hu) he h2 hm) fun σ H Q ⟨v, c, h0, hc, ok, q⟩ => by
    refine ⟨_, h0, (by show 1 ≤ sizeLine; rw [sizeLine_eq]; decide), fun p np => ?_⟩
    have S := new_same (o := .tup [.str "yes"]) np
    obtain ⟨d, hd, hs, e⟩ := eq_yes (K := X.K) (hc.mono fun a xs e => S a _ e) ok
    refine ⟨d, yesD, hd, .tup (SqT.of upd_same) (.cons (.str _) .nil), hs, by decide +kernel, _, rfl, ?_⟩
    rw [e]
    have := q _ S
    rw [Bool.true_xor] at this
    exact this
end
abbrev s_drawn : Stmt := topS 57
abbrev n_drawn : List Str := ["_law_box_here", "_law_caps_here", "_law_names_here", "_law_found", "_law_kind", "_law_some", "_law_tree", "_law_more", "_law_name"]
theorem sc_drawn : FnScope n_drawn ["_law_box_here", "_law_caps_here", "_law_names_here"] (defScope s_drawn) := ⟨rfl, rfl, rfl, by decide +kernel, rfl, by decide +kernel, by decide +kernel⟩
structure LOkD (caps names : List Str) (r : LR) : Prop where
  ok : LOk caps names 8 4 r
  dp : ∀ t, r.cond = some t → dL (lt t) ≤ 6
def spDrawn : Sp := fun vs H Q _ => ∃ (p lc ln : Addr) (caps names : List Str) (m : Nat), vs = [.ref p, .ref lc, .ref ln] ∧ BoxAt H p m ∧ m ≤ 8000 ∧ H lc = some (.lst (caps.map V.str)) ∧ lc ≠ p ∧ 1 ≤ caps.length ∧ caps.length ≤ 4 ∧ (∀ c ∈ caps, CapOk c) ∧
  H ln = some (.lst (names.map V.str)) ∧ ln ≠ p ∧ 3 ≤ names.length ∧ names.length ≤ 9 ∧ (∀ z ∈ names, Asc z) ∧ names.Nodup ∧
  ∀ (r : Addr) (us : List V) (rs : List LR) (H' : Hp), H r = none → H' r = some (.lst us) → LsAt H' us rs → rs.map LR.kind = caps → (∀ q ∈ rs, LOkD caps names q) → BoxAt H' p (m + 350 * caps.length) → Kp p H H' → Q (.ref r) H'
structure NmDr (mg : Str → Option Value) (K : PySem.W.Frag) (fli fw fm : Addr) : Prop where
  g_lines : mg "_law_lines" = some (.ref fli)
  k_lines : PySem.W.keepIn K (.ref fli) = true
  g_written : mg "_law_written" = some (.ref fw)
  k_written : PySem.W.keepIn K (.ref fw) = true
  g_many : mg "_law_many" = some (.ref fm)
  k_many : PySem.W.keepIn K (.ref fm) = true
  n_tuple : mg "tuple" = none
def tCt : TE := fun σ H Q => ∃ (b l : Addr) (A B : List Str), σ[5]? = some (some (.ref b)) ∧ σ[7]? = some (some (.ref l)) ∧ H b = some (.tup (A.map V.str)) ∧ H l = some (.lst (B.map V.str)) ∧ A ≠ [] ∧ A.length + B.length ≤ 100 ∧
  ∀ (c : Addr) (H' : Hp), Same H H' → H' c = some (.tup ((A ++ B).map V.str)) → Q (.ref c) H'
theorem mem_filterB {l : List Str} {f : Str → Bool} {z : Str} (h : z ∈ l.filter f) : z ∈ l ∧ f z = true := List.mem_filter.mp h
section
variable {P : Program} {w : World} {K : PySem.W.Frag} {mg : Str → Option Value} {base : Heap} {ft fx fp fab fns fli fw fm : Addr}
theorem ok_drawn {f : Addr} {fd fdt fdx fdi fdl fdw fdm : FuncData} (F : Fun K "_law_drawn" "_law_drawn" s_drawn f fd) (T : NmB mg K ft fx fp fab fns) (TD : NmDr mg K fli fw fm)
    (G__law_take : FnOk P w K mg base CX0 1 ft fdt ["_law_box_here", "_law_many_here"] spTake) (b__law_take : Binds K fdt ["_law_box_here", "_law_many_here"] [])
    (G__law_mixed : FnOk P w K mg base CX0 2 fx fdx ["_law_box_here", "_law_items"] spMix) (b__law_mixed : Binds K fdx ["_law_box_here", "_law_items"] [])
    (G__law_inside : FnOk P w K mg base CX0 12 fns fdi ["_law_box_here", "_law_caps_here", "_law_size"] (spInside 8)) (b__law_inside : Binds K fdi ["_law_box_here", "_law_caps_here", "_law_size"] [])
    (G_lines : FnOk P w K mg base CX0 8 fli fdl ["_law_box_here", "_law_caps_here", "_law_names_here"] spLines) (b_lines : Binds K fdl ["_law_box_here", "_law_caps_here", "_law_names_here"] [])
    (G_written : FnOk P w K mg base CX0 62 fw fdw ["_law_box_here", "_law_tree", "_law_odds"] (spWritten 30)) (b_written : Binds K fdw ["_law_box_here", "_law_tree", "_law_odds"] [])
    (G_many : FnOk P w K mg base CX0 31 fm fdm ["_law_tree"] (spMany 30)) (b_many : Binds K fdm ["_law_tree"] []) : FnOk P w K mg base CX0 63 f fd ["_law_box_here", "_law_caps_here", "_law_names_here"] spDrawn := by
  refine F.ok sc_drawn (fun vs H Q E h => ?_) (fun cdv A outer s H vs Q E hr h => ?_)
  · obtain ⟨p, lc, ln, caps, names, m, rfl, _⟩ := h
    rfl
  · obtain ⟨p, lc, ln, caps, names, m, rfl, hb, hm, hlc, cp, c1, c4, hc, hln, np, n3, n9, hna, hnd, q⟩ := h
    have r1 := hr.mono (show 1 ≤ 62 by decide)
    have r2 := hr.mono (show 2 ≤ 62 by decide)
    have r8 := hr.mono (show 8 ≤ 62 by decide)
    have r12 := hr.mono (show 12 ≤ 62 by decide)
    have r31 := hr.mono (show 31 ≤ 62 by decide)
    have r62 := hr.mono (show 62 ≤ 62 by decide)
    have hu64 := hr.units
    refine ⟨_, (pss_cons (ps_set (i := 3) sc_drawn.nd rfl (.inl rfl) (pe_lst pa_nil))
      (pss_cons (ps_for PassesOwn.never rfl (pi_list (pe_call G_lines r8 rfl TD.g_lines TD.k_lines b_lines .nil pass0 (pa_cons (pv 0) (pa_cons (pv 1) (pa_cons (pv 2) pa_nil))))) (pg_tup rfl (pgs_cons (pg_name (i := 4) sc_drawn.nd rfl (.inl rfl)) (pgs_cons (pg_name (i := 5) sc_drawn.nd rfl (.inr rfl)) (pgs_cons (pg_name (i := 6) sc_drawn.nd rfl (.inl rfl)) pgs_nil))))
        (C8.pss_cut (ps_if (PW.pt (pw_and (pt_notYes hu64 (pv 6) (pe_tup (pa_cons pe_str pa_nil))) (pw_and1 (pt_cmpR op_eq (pe_call G__law_take r1 rfl T.g__law_take T.k__law_take b__law_take .nil pass0 (pa_cons (pv 0) (pa_cons pe_int pa_nil))) pe_int (nomark _)))))
          (pss_one (ps_set (i := 6) sc_drawn.nd rfl (.inl rfl) (pe_call G__law_inside r12 rfl T.g__law_inside T.k__law_inside b__law_inside .nil pass0 (pa_cons (pv 0) (pa_cons (pv 1) (pa_cons (pe_op op_add pe_int (pe_call G__law_take r1 rfl T.g__law_take T.k__law_take b__law_take .nil pass0 (pa_cons (pv 0) (pa_cons pe_int pa_nil)))) pa_nil)))))) pss_nil)
        (C8.pss_cut (ps_if (PW.pt (pw_and (pt_notYes hu64 (pv 6) (pe_tup (pa_cons pe_str pa_nil))) (pw_and1 (pt_cmpR op_eq (pe_call G__law_take r1 rfl T.g__law_take T.k__law_take b__law_take .nil pass0 (pa_cons (pv 0) (pa_cons pe_int pa_nil))) pe_int (nomark _)))))
          (pss_one (ps_set (i := 6) sc_drawn.nd rfl (.inl rfl) (pe_ix ix_list (pe_lst (pa_cons (pe_tup (pa_cons pe_str (pa_cons (pe_tup (pa_cons pe_str (pa_cons (pv 6) pa_nil))) pa_nil))) (pa_cons (pe_tup (pa_cons pe_str (pa_cons (pe_tup (pa_cons pe_str (pa_cons (pe_tup (pa_cons pe_str (pa_cons (pe_tup (pa_cons pe_str (pa_cons (pv 4) pa_nil))) pa_nil))) pa_nil))) (pa_cons (pv 6) pa_nil)))) pa_nil)))
            (pe_call G__law_take r1 rfl T.g__law_take T.k__law_take b__law_take .nil pass0 (pa_cons (pv 0) (pa_cons pe_int pa_nil))) (fun _ _ => rfl)))) pss_nil)
        (C8.pss_cut (ps_if (PW.pt (pw_and (pt_notYes hu64 (pv 6) (pe_tup (pa_cons pe_str pa_nil))) (pw_and1 (PW.pt (pw_or (pt_cmpR op_gt (pe_ix ix_tup (pe_call G_written r62 rfl TD.g_written TD.k_written b_written .nil pass0 (pa_cons (pv 0) (pa_cons (pv 6) (pa_cons pe_int pa_nil)))) pe_int (fun _ _ => rfl)) pe_int (nomark _))
            (pw_or1 (pt_cmpR op_gt (pe_call G_many r31 rfl TD.g_many TD.k_many b_many .nil pass0 (pa_cons (pv 6) pa_nil)) pe_int (nomark _))))))))
          (pss_one (ps_set (i := 6) sc_drawn.nd rfl (.inl rfl) (pe_tup (pa_cons pe_str (pa_cons (pv 4) pa_nil))))) pss_nil)
        (pss_cons (ps_set (i := 7) sc_drawn.nd rfl (.inl rfl) (pe_slice sl_list (pe_call G__law_mixed r2 rfl T.g__law_mixed T.k__law_mixed b__law_mixed .nil pass0 (pa_cons (pv 0) (pa_cons (pe_lc (own := [("_law_name", 8)]) (g := gName 8) (tt := tTest (tOp (rIn K true) (tVar 8) (tVar 5))) (te := tVar 8) rfl sc_drawn.nd (pi_list (pv 2)) (blkOk_by (own := [("_law_name", 8)]) (N := n_drawn) (sc := defScope s_drawn) (by decide +kernel)) (fun _ _ _ _ _ => (pg_name (i := 8) sc_drawn.nd rfl (.inl rfl))) (fun _ _ _ _ _ => (pts_one (pt_cmpR op_notIn_seq (pv 8) (pv 5) (by rfl)))) (fun _ _ _ _ _ => (pv 8))) pa_nil)))
            po_none (po_some (pe_call G__law_take r1 rfl T.g__law_take T.k__law_take b__law_take .nil pass0 (pa_cons (pv 0) (pa_cons pe_int pa_nil))))))
        (pss_one (ps_expr (pe_bm PySem.F.plainAttrs_list PySem.F.slot_list_append PySem.F.type_list_append mt_append (pv 3) (pa_cons (pe_tup (pa_cons (pv 4) (pa_cons (pe_wk (t' := tCt) (pe_op op_catA (pv 5) (pe_callTy call_tuple_of (by rfl) TD.n_tuple (by decide +kernel) (pa_cons (pv 7) pa_nil))) ?ct) (pa_cons (pv 6) pa_nil)))) pa_nil)))))))))
      (pss_one (ps_ret (pv 3))))), ?_⟩
    case ct =>
      rintro σ H0 Q0 ⟨b, l, A1, B1, h5, h7, eb, el, ne, ln2, q0⟩
      refine ⟨_, h5, _, h7, l, _, rfl, .inl ⟨SqL.of el, fun tq ntq => ?_⟩⟩
      have S := new_same (o := .tup (B1.map V.str)) ntq
      have etq : upd H0 tq (.tup (B1.map V.str)) tq = some (.tup (B1.map V.str)) := upd_same
      generalize upd H0 tq (.tup (B1.map V.str)) = H9 at *
      refine ⟨b, tq, _, _, rfl, rfl, SqT.of (S _ _ eb), SqT.of etq, (by rw [List.length_map, List.length_map, sizeLine_eq]; omega), fun e => absurd (List.map_eq_nil_iff.mp e) ne, fun _ e => ?_, fun _ _ c nc => ?_⟩
      · have e0 := List.map_eq_nil_iff.mp e
        refine q0 b H9 S ?_
        rw [e0, List.append_nil]
        exact S _ _ eb
      · refine q0 c _ (S.trans (new_same nc)) ?_
        rw [upd_same, List.map_append]
    refine ⟨Nat.zero_le _, fun L nL => ?_⟩
    have S1 := new_same (o := .lst []) nL
    have eL : upd H L (.lst []) L = some (.lst []) := upd_same
    have hb1 := hb.mono S1
    have pL := hb.ne nL
    generalize upd H L (.lst []) = H1 at *
    have hlc1 := S1 _ _ hlc
    have hln1 := S1 _ _ hln
    have cL : lc ≠ L := ne_of_none hlc nL
    have nLn : ln ≠ L := ne_of_none hln nL
    refine ⟨_, rfl, _, rfl, _, rfl, p, lc, ln, caps, names, m, rfl, hb1, by omega, hlc1, cp, c1, c4, hc, hln1, np, n3, n9, hna, fun R us0 rs0 H2 nR eR hR hk0 hok0 hb2 k2 => ⟨R, rfl, ⟨_, SqL.of eR⟩, ?_⟩⟩
    have pR := hb1.ne nR
    have RL : R ≠ L := fun z => by
      rw [z, eL] at nR
      cases nR
    have eL2 := k2 _ _ (Ne.symm pL) eL
    have len0 : rs0.length = caps.length := by rw [← hk0, List.length_map]
    refine for_it walk_list (fun i σ Hi => (∀ b o, b ≠ p → b ≠ L → H2 b = some o → Hi b = some o) ∧ ∃ (us : List V) (rs : List LR) (b4 b5 b6 b7 : Option V), Hi L = some (.lst us) ∧ LsAt Hi us rs ∧ rs.map LR.kind = caps.take i ∧ (∀ q ∈ rs, LOkD caps names q) ∧ BoxAt Hi p (m + 80 * caps.length + 260 * i) ∧
        σ = [some (.ref p), some (.ref lc), some (.ref ln), some (.ref L), b4, b5, b6, b7, none])
      ⟨fun b o _ _ e => e, [], [], none, none, none, none, eL2, ⟨rfl, fun i r e => absurd e (by simp)⟩, rfl, (fun q hq => absurd hq (by simp)), hb2, rfl⟩ (fun i σ Hi _ p' => SqL.of (p'.1 _ _ (Ne.symm pR) RL eR)) (fun j x σ H3 H3' hj p' y => ?_) (fun σ H3 p' => ?_)
    · obtain ⟨k3, us, rs, b4, b5, b6, b7, eL3, hR3, hk, hok, hb3, rfl⟩ := p'
      obtain ⟨rfl, ex⟩ := y
      obtain ⟨r, er, lr⟩ := hR.get ex
      have okr := hok0 r (List.mem_of_getElem? er)
      have jl : j < rs0.length := (List.getElem?_eq_some_iff.mp er).1
      have ek : caps[j]? = some r.kind := by rw [← hk0, List.getElem?_map, er]; rfl
      have t23 : ∀ a xs, H2 a = some (.tup xs) → H3' a = some (.tup xs) := fun a xs e => by
        obtain ⟨_, _, _, e9, _⟩ := hb2
        exact k3 a _ (ne_of e e9 fun z => nomatch z) (ne_of e eL2 fun z => nomatch z) e
      obtain ⟨a, b, u, rfl, ea, eb, hcu⟩ := lr.mono t23
      have hlc3 := k3 _ _ cp cL (k2 _ _ cp hlc1)
      have hln3 := k3 _ _ np nLn (k2 _ _ np hln1)
      generalize hmj : m + 80 * caps.length + 260 * j = mj at *
      have mjb : mj ≤ 9110 := by omega
      refine ⟨a, _, rfl, SqT.of ea, rfl, _, _, rfl, _, _, rfl, _, _, rfl, rfl, ?_⟩
      have ht40 : ∀ {c : Option DT} {N A B : Nat}, N ≤ 40 → (∀ t, c = some t → wfD t ∧ kinD caps t ∧ N7.nD t ≤ A ∧ htD t ≤ N ∧ BT (lt t) ≤ B) → ∀ t, c = some t → wfD t ∧ htD t ≤ 40 := fun hN h t e => ⟨(h t e).1, by have := (h t e).2.2.2.1; omega⟩
      refine ⟨fun σ Hx => Kp p H3' Hx ∧ BoxAt Hx p (mj + 153) ∧ ∃ (v : V) (c : Option DT), CoAt Hx v c ∧ (∀ t, c = some t → wfD t ∧ kinD caps t ∧ N7.nD t ≤ 8 ∧ htD t ≤ 16 ∧ BT (lt t) ≤ 800) ∧
        σ = [some (.ref p), some (.ref lc), some (.ref ln), some (.ref L), some (.str r.kind), some (.ref b), some v, b7, none], ?_, ?_⟩
      · have base1 : ∀ {Hq : Hp}, Kp p H3' Hq → ∀ t, r.cond = some t → DAt Hq u t := fun k t e => by
          rw [e] at hcu
          exact DAt.mono (kp_tup hb3 k) hcu
        have okc : ∀ t, r.cond = some t → wfD t ∧ kinD caps t ∧ N7.nD t ≤ 8 ∧ htD t ≤ 16 ∧ BT (lt t) ≤ 800 := fun t e => by
          obtain ⟨x1, x2, x3, x4, x5⟩ := okr.cn t e
          exact ⟨x1, x2, by omega, by omega, by omega⟩
        refine ⟨u, r.cond, rfl, hcu, fun t e => ⟨(okc t e).1, by have := (okc t e).2.2.2.1; omega⟩, fun H4 S4 => ?_⟩
        have hb4 := hb3.mono S4
        have mid0 : ∀ {Hq : Hp} {k : Nat}, k ≤ 153 → Kp p H3' Hq → BoxAt Hq p (mj + k) → Kp p H3' Hq ∧ BoxAt Hq p (mj + 153) ∧ ∃ (v : V) (c : Option DT), CoAt Hq v c ∧ (∀ t, c = some t → wfD t ∧ kinD caps t ∧ N7.nD t ≤ 8 ∧ htD t ≤ 16 ∧ BT (lt t) ≤ 800) ∧
            [some (.ref p), some (.ref lc), some (.ref ln), some (.ref L), some (.str r.kind), some (.ref b), some u, b7, none] = [some (.ref p), some (.ref lc), some (.ref ln), some (.ref L), some (.str r.kind), some (.ref b), some v, b7, none] := fun hk' kq bq => ⟨kq, bq.le (by omega), u, r.cond, hcu.mono (kp_tup hb3 kq), okc, rfl⟩
        cases hcd : r.cond with
        | none => exact iteN rfl (iteF (mid0 (k := 0) (by omega) (Kp.of S4) hb4))
        | some t0 =>
          refine iteY rfl ?_
          refine ⟨_, rfl, p, 2, mj, rfl, hb4, by omega, by decide, by decide, fun d H5 d0 d1 hb5 k5 => ⟨rfl, _, rfl, ite2 (fun _ => ?_) (fun _ => ?_)⟩⟩
          · refine ⟨_, rfl, _, rfl, _, rfl, p, 8, _, rfl, hb5, by omega, by decide, by decide, fun d3 H6 f0 f1 hb6 k6 => ⟨_, _, rfl, rfl, ?_⟩⟩
            obtain ⟨n3', rfl⟩ : ∃ n : Nat, d3 = (n : Int) := ⟨d3.toNat, by omega⟩
            dsimp only
            have K6 : Kp p H3' H6 := (Kp.of S4).trans ((Kp.eq k5).trans (Kp.eq k6))
            refine ⟨p, lc, caps, _, 1 + n3', by rw [show (1 : Int) + (n3' : Int) = ((1 + n3' : Nat) : Int) by omega]; rfl, by omega, by omega, by omega, hb6, by omega, K6 _ _ cp hlc3, cp, c1, by omega, hc, fun v t H7 ht wt' kt nt tt bt hb7 k7 => ?_⟩
            refine ⟨K6.trans k7, hb7.le (by omega), v, some t, ht, fun t' e => ?_, rfl⟩
            cases e
            exact ⟨wt', kt, by omega, by omega, by omega⟩
          · exact mid0 (k := 1) (by omega) ((Kp.of S4).trans (Kp.eq k5)) hb5
      rintro σ Hx ⟨kx, hbx, v0, c, hcv, hct, rfl⟩
      refine ⟨fun σ Hy => Kp p H3' Hy ∧ BoxAt Hy p (mj + 155) ∧ ∃ (v : V) (c : Option DT), CoAt Hy v c ∧ (∀ t, c = some t → wfD t ∧ kinD caps t ∧ N7.nD t ≤ 9 ∧ htD t ≤ 18 ∧ BT (lt t) ≤ 900) ∧
        σ = [some (.ref p), some (.ref lc), some (.ref ln), some (.ref L), some (.str r.kind), some (.ref b), some v, b7, none], ?_, ?_⟩
      · have mid1 : ∀ {Hq : Hp} {k : Nat}, k ≤ 155 → Kp p Hx Hq → BoxAt Hq p (mj + k) → Kp p H3' Hq ∧ BoxAt Hq p (mj + 155) ∧ ∃ (v : V) (c : Option DT), CoAt Hq v c ∧ (∀ t, c = some t → wfD t ∧ kinD caps t ∧ N7.nD t ≤ 9 ∧ htD t ≤ 18 ∧ BT (lt t) ≤ 900) ∧
            [some (.ref p), some (.ref lc), some (.ref ln), some (.ref L), some (.str r.kind), some (.ref b), some v0, b7, none] = [some (.ref p), some (.ref lc), some (.ref ln), some (.ref L), some (.str r.kind), some (.ref b), some v, b7, none] := fun hk' kq bq => ⟨kx.trans kq, bq.le (by omega), v0, c, hcv.mono (kp_tup hbx kq), fun t e => by
              obtain ⟨x1, x2, x3, x4, x5⟩ := hct t e
              exact ⟨x1, x2, by omega, by omega, by omega⟩, rfl⟩
        refine ⟨v0, c, rfl, hcv, fun t e => ⟨(hct t e).1, by have := (hct t e).2.2.2.1; omega⟩, fun H4 S4 => ?_⟩
        have hb4 := hbx.mono S4
        cases c with
        | none => exact iteN rfl (iteF (mid1 (k := 153) (by omega) (Kp.of S4) hb4))
        | some t0 =>
          obtain ⟨w1, w2, w3, w4, w5⟩ := hct t0 rfl
          refine iteY rfl ?_
          refine ⟨_, rfl, p, 4, mj + 153, rfl, hb4, by omega, by decide, by decide, fun d H5 d0 d1 hb5 k5 => ⟨rfl, _, rfl, ite2 (fun _ => ?_) (fun _ => ?_)⟩⟩
          · have two : ([V.non, V.non] : List V).length ≤ sizeLine := by rw [sizeLine_eq]; decide
            have ht5 : DAt H5 v0 t0 := DAt.mono (kp_tup hbx ((Kp.of S4).trans (Kp.eq k5))) hcv
            refine ⟨_, rfl, two, fun a1 n1 => ?_⟩
            have S1' := new_same (o := .tup [.str "not", v0]) n1
            have x1 : upd H5 a1 (.tup [.str "not", v0]) a1 = some (.tup [.str "not", v0]) := upd_same
            generalize upd H5 a1 (.tup [.str "not", v0]) = G1 at *
            refine ⟨two, fun a2 n2 => ?_⟩
            have S2' := new_same (o := .tup [.str "not", .ref a1]) n2
            have x2 : upd G1 a2 (.tup [.str "not", .ref a1]) a2 = some (.tup [.str "not", .ref a1]) := upd_same
            generalize upd G1 a2 (.tup [.str "not", .ref a1]) = G2 at *
            refine ⟨_, rfl, two, fun a3 n3' => ?_⟩
            have S3' := new_same (o := .tup [.str "last", .str r.kind]) n3'
            have x3 : upd G2 a3 (.tup [.str "last", .str r.kind]) a3 = some (.tup [.str "last", .str r.kind]) := upd_same
            generalize upd G2 a3 (.tup [.str "last", .str r.kind]) = G3 at *
            refine ⟨two, fun a4 n4 => ?_⟩
            have S4' := new_same (o := .tup [.str "not", .ref a3]) n4
            have x4 : upd G3 a4 (.tup [.str "not", .ref a3]) a4 = some (.tup [.str "not", .ref a3]) := upd_same
            generalize upd G3 a4 (.tup [.str "not", .ref a3]) = G4 at *
            refine ⟨two, fun a5 n5 => ?_⟩
            have S5' := new_same (o := .tup [.str "not", .ref a4]) n5
            have x5 : upd G4 a5 (.tup [.str "not", .ref a4]) a5 = some (.tup [.str "not", .ref a4]) := upd_same
            generalize upd G4 a5 (.tup [.str "not", .ref a4]) = G5 at *
            refine ⟨_, rfl, (by show 3 ≤ sizeLine; rw [sizeLine_eq]; decide), fun a6 n6 => ?_⟩
            have S6' := new_same (o := .tup [.str "or", .ref a5, v0]) n6
            have x6 : upd G5 a6 (.tup [.str "or", .ref a5, v0]) a6 = some (.tup [.str "or", .ref a5, v0]) := upd_same
            generalize upd G5 a6 (.tup [.str "or", .ref a5, v0]) = G6 at *
            refine ⟨two, fun l7 n7 => ?_⟩
            have S7' := new_same (o := .lst [.ref a2, .ref a6]) n7
            have x7 : upd G6 l7 (.lst [.ref a2, .ref a6]) l7 = some (.lst [.ref a2, .ref a6]) := upd_same
            have U67 := S6'.trans S7'
            have U57 := S5'.trans U67
            have U47 := S4'.trans U57
            have U37 := S3'.trans U47
            have U27 := S2'.trans U37
            have U17 := S1'.trans U27
            have hb7 := hb5.mono U17
            have p7 : p ≠ l7 := (hb5.mono (S1'.trans (S2'.trans (S3'.trans (S4'.trans (S5'.trans S6')))))).ne n7
            generalize upd G6 l7 (.lst [.ref a2, .ref a6]) = G7 at *
            refine ⟨_, rfl, p, 2, _, rfl, hb7, by omega, by decide, by decide, fun d3 H8 f0 f1 hb8 k8 => ?_⟩
            have kt8 := kp_tup hb7 (Kp.eq k8)
            have K8 : Kp p Hx H8 := (Kp.of S4).trans ((Kp.eq k5).trans ((Kp.of U17).trans (Kp.eq k8)))
            have t8 : DAt H8 v0 t0 := (ht5.mono fun a xs e => U17 a _ e).mono kt8
            have hcase : d3 = ((0 : Nat) : Int) ∨ d3 = ((1 : Nat) : Int) := by omega
            have n3s : ("not" : Str).length = 3 := by decide +kernel
            have ckd : CapOk r.kind := hc _ okr.kd
            rcases hcase with rfl | rfl
            · refine ⟨l7, _, _, _, rfl, rfl, SqL.of ((k8 l7 (Ne.symm p7)).trans x7), atI_nat (j := 0) rfl, ?_⟩
              refine ⟨kx.trans K8, hb8.le (by omega), .ref a2, some (.un (.un t0)), ⟨a2, _, rfl, kt8 _ _ (U37 _ _ x2), a1, _, rfl, kt8 _ _ (U27 _ _ x1), t8⟩, fun t e => ?_, rfl⟩
              cases e
              refine ⟨w1, w2, by show N7.nD t0 ≤ 9; omega, by show htD t0 + 1 + 1 ≤ 18; omega, ?_⟩
              show ("not" : Str).length + 9 + (("not" : Str).length + 9 + BT (lt t0)) ≤ 900
              omega
            · refine ⟨l7, _, _, _, rfl, rfl, SqL.of ((k8 l7 (Ne.symm p7)).trans x7), atI_nat (j := 1) rfl, ?_⟩
              refine ⟨kx.trans K8, hb8.le (by omega), .ref a6, some (.bi "or" (.un (.un (.at (.one "last" r.kind)))) t0), ⟨a6, _, _, rfl, kt8 _ _ (S7' _ _ x6), ⟨a5, _, rfl, kt8 _ _ (U67 _ _ x5), a4, _, rfl, kt8 _ _ (U57 _ _ x4), a3, rfl, kt8 _ _ (U47 _ _ x3)⟩, t8⟩, fun t e => ?_, rfl⟩
              cases e
              refine ⟨⟨(by decide +kernel : ("or" : Str) ∈ Qp.jts), ⟨(by decide +kernel : ("last" : Str) ∈ ones), ckd⟩, w1⟩, ⟨okr.kd, w2⟩, by show 1 + N7.nD t0 ≤ 9; omega, by show max (0 + 1 + 1) (htD t0) + 1 ≤ 18; omega, ?_⟩
              show 2 * (("or" : Str).length + 14) + (("not" : Str).length + 9 + (("not" : Str).length + 9 + 40)) + BT (lt t0) ≤ 900
              rw [show ("or" : Str).length = 2 from by decide +kernel]
              omega
          · exact mid1 (k := 154) (by omega) ((Kp.of S4).trans (Kp.eq k5)) hb5
      rintro σ Hy ⟨ky, hby, v2, c2, hcv2, hct2, rfl⟩
      refine ⟨fun σ Hz => Kp p H3' Hz ∧ BoxAt Hz p (mj + 240) ∧ ∃ (v : V) (c : Option DT), CoAt Hz v c ∧ (∀ t, c = some t → (wfD t ∧ kinD caps t ∧ N7.nD t ≤ 8 ∧ htD t ≤ 2 * 8 + 4 ∧ BT (lt t) ≤ 98 * 8 + 200) ∧ dL (lt t) ≤ 6) ∧
        σ = [some (.ref p), some (.ref lc), some (.ref ln), some (.ref L), some (.str r.kind), some (.ref b), some v, b7, none], ?_, ?_⟩
      · refine ⟨v2, c2, rfl, hcv2, fun t e => ⟨(hct2 t e).1, by have := (hct2 t e).2.2.2.1; omega⟩, fun H4 S4 => ?_⟩
        have hb4 := hby.mono S4
        cases c2 with
        | none => exact iteN rfl (iteF ⟨ky.trans (Kp.of S4), hb4.le (by omega), v2, none, hcv2.mono fun a xs e => S4 a _ e, fun t e => (nomatch e), rfl⟩)
        | some t0 =>
          obtain ⟨w1, w2, w3, w4, w5⟩ := hct2 t0 rfl
          have nnb := nn_BT t0
          have h4 : DAt H4 v2 t0 := DAt.mono (fun a xs e => S4 a _ e) hcv2
          have some' : ∀ {Hq : Hp} {k : Nat}, k ≤ 240 → Kp p Hy Hq → BoxAt Hq p (mj + k) → ∀ (a9 : Addr) (Hw : Hp), Hw = upd Hq a9 (.tup [.str "some", .str r.kind]) → Hq a9 = none → Kp p H3' Hw ∧ BoxAt Hw p (mj + 240) ∧ ∃ (v : V) (c : Option DT), CoAt Hw v c ∧ (∀ t, c = some t → (wfD t ∧ kinD caps t ∧ N7.nD t ≤ 8 ∧ htD t ≤ 2 * 8 + 4 ∧ BT (lt t) ≤ 98 * 8 + 200) ∧ dL (lt t) ≤ 6) ∧
              [some (.ref p), some (.ref lc), some (.ref ln), some (.ref L), some (.str r.kind), some (.ref b), some (.ref a9), b7, none] = [some (.ref p), some (.ref lc), some (.ref ln), some (.ref L), some (.str r.kind), some (.ref b), some v, b7, none] := fun hk' kq bq a9 Hw eW n9' => by
            rw [eW]
            have S9 := new_same (o := .tup [.str "some", .str r.kind]) n9'
            refine ⟨ky.trans (kq.trans (Kp.of S9)), (bq.mono S9).le (by omega), .ref a9, some (.at (.one "some" r.kind)), ⟨a9, rfl, upd_same⟩, fun t e => ?_, rfl⟩
            cases e
            exact ⟨⟨⟨(by decide +kernel : ("some" : Str) ∈ ones), hc _ okr.kd⟩, okr.kd, by show 1 ≤ 8; omega, Nat.zero_le _, by show 40 ≤ _; omega⟩, Nat.zero_le _⟩
          have two : ([V.non, V.non] : List V).length ≤ sizeLine := by rw [sizeLine_eq]; decide
          refine iteY rfl ?_
          refine ⟨_, rfl, _, rfl, p, v2, t0, 0, mj + 155, rfl, hb4, h4, w1, by omega, by omega, by omega, by omega, fun u9 z9 d9 H5 hz9 hD9 hb5 k5 => ?_⟩
          obtain ⟨b9, rfl, eb9⟩ := hz9
          have K5 : Kp p Hy H5 := (Kp.of S4).trans k5
          refine ⟨b9, _, _, _, rfl, rfl, SqT.of eb9, atI_nat (j := 1) rfl, _, _, rfl, rfl, _, rfl, ite2 (fun h0 => ?_) (fun h0 => ?_)⟩
          · refine iteT ⟨_, rfl, two, fun a9 n9' => some' (k := 155 + nn t0) (by omega) K5 (by rw [← Nat.add_assoc]; exact hb5) a9 _ rfl n9'⟩
          · have hdl : dL (lt t0) ≤ 6 := by
              have e9 := hD9.no rfl
              have : ¬ ((d9 : Nat) : Int) > 6 := fun z => h0 (decide_eq_true z)
              omega
            refine ⟨_, rfl, v2, t0, rfl, h4.mono (kp_tup hb4 k5), w1, by omega, fun H6 S6 => ⟨_, _, rfl, rfl, _, rfl, ite2 (fun h1 => ?_) (fun h1 => ?_)⟩⟩
            · refine ⟨_, rfl, two, fun a9 n9' => some' (k := 155 + nn t0) (by omega) (K5.trans (Kp.of S6)) (by rw [← Nat.add_assoc]; exact hb5.mono S6) a9 _ rfl n9'⟩
            · have hn8 : N7.nD t0 ≤ 8 := by
                have : ¬ ((N7.nD t0 : Nat) : Int) > 8 := fun z => h1 (decide_eq_true z)
                omega
              refine ⟨ky.trans (K5.trans (Kp.of S6)), (hb5.mono S6).le (by omega), v2, some t0, (h4.mono (kp_tup hb4 k5)).mono fun a xs e => S6 a _ e, fun t e => ?_, rfl⟩
              cases e
              exact ⟨⟨w1, w2, hn8, by omega, by omega⟩, hdl⟩
      rintro σ Hz ⟨kz, hbz, v3, c3, hcv3, hct3, rfl⟩
      have hlnz := kz _ _ np hln3
      have ebz := kp_tup hb3 kz _ _ eb
      refine ⟨_, rfl, _, rfl, ln, rfl, ⟨_, SqL.of hlnz⟩, fun D nD => ?_⟩
      have lnD : ln ≠ D := ne_of_none hlnz nD
      have bD : b ≠ D := ne_of_none ebz nD
      refine lc_it walk_list (fun i Hi => (∀ b o, b ≠ D → Hz b = some o → Hi b = some o) ∧ Hi D = some (.lst (((names.take i).filter fun z => !decide (z ∈ r.names)).map V.str)))
        ⟨fun b o x e => by rw [upd_ne x]; exact e, upd_same⟩ (fun i Hi _ p' => SqL.of (p'.1 _ _ lnD hlnz)) (fun i x Hi Hj hil p' y => ?_) (fun H5 p' => ?_)
      · obtain ⟨rfl, ex⟩ := y
        obtain ⟨z, ez, rfl⟩ := map_get ex
        refine ⟨rfl, ?_⟩
        refine ⟨_, rfl, _, rfl, b, _, rfl, .inr (SqT.of (p'.1 _ _ bD ebz)), rfl, flat_strs _, _, rfl, ?_⟩
        have ein : inV (.str z) (r.names.map V.str) = decide (z ∈ r.names) := inV_list _ _
        refine ite2 (fun h0 => ?_) (fun h0 => ?_)
        · have h1 : (!inV (.str z) (r.names.map V.str)) = true := h0
          rw [ein] at h1
          have h2 := List.length_filter_le (fun z => !decide (z ∈ r.names)) (names.take i)
          have h3 : (names.take i).length ≤ names.length := List.length_take_le' ..
          refine ⟨_, rfl, _, p'.2, (by rw [List.length_map, sizeLine_eq]; omega), fun b o x e => (upd_ne x).trans (p'.1 b o x e), ?_⟩
          rw [upd_same, take_snoc ez, List.filter_append, List.filter_cons_of_pos (p := fun z => !decide (z ∈ r.names)) h1, List.map_append]
          rfl
        · have h1 : ¬ (!inV (.str z) (r.names.map V.str)) = true := h0
          rw [ein] at h1
          refine ⟨p'.1, ?_⟩
          rw [take_snoc ez, List.filter_append, List.filter_cons_of_neg (p := fun z => !decide (z ∈ r.names)) h1, List.filter_nil, List.append_nil]
          exact p'.2
      have eD := p'.2
      rw [List.length_map, List.take_length] at eD
      have S5 : Same Hz H5 := fun b o e => p'.1 b o (ne_of_none e nD) e
      clear p'
      generalize hzs : names.filter (fun z => !decide (z ∈ r.names)) = zs at *
      have lz : zs.length ≤ 9 := by
        rw [← hzs]
        exact Nat.le_trans (List.length_filter_le _ _) n9
      have zin : ∀ z ∈ zs, z ∈ names ∧ z ∉ r.names := fun z hz => by
        rw [← hzs] at hz
        have h := List.mem_filter.mp hz
        exact ⟨h.1, by simpa using h.2⟩
      have znd : zs.Nodup := by
        rw [← hzs]
        exact hnd.filter _
      have hb5 := hbz.mono S5
      refine ⟨p, D, zs, mj + 240, rfl, hb5, eD, fun z hz => hna z (zin z hz).1, by omega, by omega, fun l6 ys H6 n6 e6 yl pm hb6 k6 => ?_⟩
      refine ⟨_, rfl, p, 3, _, rfl, hb6, by omega, by decide, by decide, fun d3 H7 f0 f1 hb7 k7 => ?_⟩
      obtain ⟨dn, rfl⟩ : ∃ n : Nat, d3 = (n : Int) := ⟨d3.toNat, by omega⟩
      have e67 := (k7 l6 (Ne.symm (hb5.ne n6))).trans e6
      refine ⟨_, rfl, l6, _, rfl, SqL.of e67, fun l8 n8 => ?_⟩
      have ecut : cutV (ys.map V.str) none (some (dn : Int)) = (ys.take dn).map V.str := by
        unfold cutV
        rw [HT.sIx_none, HT.sIx_nat, List.drop_zero, Nat.sub_zero, List.map_take, List.length_map]
        by_cases c : dn ≤ ys.length
        · rw [Nat.min_eq_left c]
        · rw [Nat.min_eq_right (by omega), List.take_of_length_le (by rw [List.length_map]; omega), List.take_of_length_le (by rw [List.length_map]; omega)]
      rw [ecut]
      have S8 := new_same (o := .lst ((ys.take dn).map V.str)) n8
      have e8 : upd H7 l8 (.lst ((ys.take dn).map V.str)) l8 = some (.lst ((ys.take dn).map V.str)) := upd_same
      have hb8 := hb7.mono S8
      have K8 : Kp p H3' (upd H7 l8 (.lst ((ys.take dn).map V.str))) := kz.trans ((Kp.of S5).trans (k6.trans ((Kp.eq k7).trans (Kp.of S8))))
      have Kz8 : Kp p Hz (upd H7 l8 (.lst ((ys.take dn).map V.str))) := (Kp.of S5).trans (k6.trans ((Kp.eq k7).trans (Kp.of S8)))
      generalize hmo : ys.take dn = more at *
      generalize upd H7 l8 (.lst (more.map V.str)) = H8 at *
      have mo2 : more.length ≤ 2 := by
        rw [← hmo, List.length_take]
        omega
      have moin : ∀ z ∈ more, z ∈ names ∧ z ∉ r.names := fun z hz => zin z (pm.mem_iff.mp (by rw [← hmo] at hz; exact List.mem_of_mem_take hz))
      have mond : more.Nodup := by
        rw [← hmo]
        exact (List.take_sublist _ _).nodup (pm.nodup_iff.mpr znd)
      have eL8 := K8 _ _ (Ne.symm pL) eL3
      have rn1 := okr.n1
      have rn2 := okr.nl
      refine ⟨_, rfl, .inl ⟨rfl, _, SqL.of eL8⟩, _, rfl, b, l8, r.names, more, rfl, rfl, kp_tup hb3 K8 _ _ eb, e8, (fun e => by rw [e] at rn1; exact absurd rn1 (by decide)), by omega, fun c9 H9 S9 e9 => ?_⟩
      refine ⟨_, rfl, (by show 3 ≤ sizeLine; rw [sizeLine_eq]; decide), fun tr ntr => ?_⟩
      have U2 := S9.trans (new_same (o := .tup [.str r.kind, .ref c9, v3]) ntr)
      have etr : upd H9 tr (.tup [.str r.kind, .ref c9, v3]) tr = some (.tup [.str r.kind, .ref c9, v3]) := upd_same
      have e9' := (new_same (o := .tup [.str r.kind, .ref c9, v3]) ntr) _ _ e9
      generalize upd H9 tr (.tup [.str r.kind, .ref c9, v3]) = Hw at *
      have eLw := U2 _ _ eL8
      have ul : us.length = j := by
        rw [hR3.1, ← List.length_map (f := LR.kind), hk, List.length_take]
        omega
      refine ⟨L, _, _, rfl, rfl, eLw, (by rw [ul, sizeLine_eq]; omega), ?_⟩
      have kw : ∀ b o, b ≠ L → Hw b = some o → upd Hw L (.lst (us ++ [.ref tr])) b = some o := fun b o n e => (upd_ne n).trans e
      have nTL : ∀ {b : Addr} {xs : List V}, Hw b = some (.tup xs) → b ≠ L := fun e => ne_of e eLw fun z => nomatch z
      have tw : ∀ a xs, Hw a = some (.tup xs) → upd Hw L (.lst (us ++ [.ref tr])) a = some (.tup xs) := fun a xs e => kw a _ (nTL e) e
      refine ⟨fun b o bp bL e => kw b o bL (U2 _ _ (K8 b o bp (k3 b o bp bL e))), us ++ [.ref tr], rs ++ [⟨r.kind, r.names ++ more, c3⟩], _, _, _, _, upd_same, (hR3.mono fun a xs e => tw a xs (U2 _ _ (kp_tup hb3 K8 a xs e))).snoc ⟨tr, c9, v3, rfl, tw _ _ etr, tw _ _ e9', (hcv3.mono (kp_tup hbz Kz8)).mono fun a xs e => tw a xs (U2 _ _ e)⟩, ?_, ?_, ?_, rfl⟩
      · rw [List.map_append, hk, take_snoc ek]
        rfl
      · intro q' hq'
        rcases List.mem_append.mp hq' with h | h
        · exact hok q' h
        · rw [List.mem_singleton.mp h]
          refine ⟨⟨okr.kd, by show 1 ≤ (r.names ++ more).length; rw [List.length_append]; omega, by show (r.names ++ more).length ≤ 4; rw [List.length_append]; omega, fun z hz => ?_, ?_, fun t e => (hct3 t e).1⟩, fun t e => (hct3 t e).2⟩
          · rcases List.mem_append.mp hz with h | h
            · exact okr.nn z h
            · exact .inl (moin z h).1
          · show (r.names ++ more).Nodup
            rw [List.nodup_append]
            exact ⟨okr.nd, mond, fun a ha b hb e => (moin b hb).2 (e ▸ ha)⟩
      · obtain ⟨cc, sd, nn', eb9, rr⟩ := (hb8.mono U2).le (show mj + 240 + zs.length + 1 ≤ m + 80 * caps.length + 260 * (j + 1) by omega)
        exact ⟨cc, sd, nn', kw p _ pL eb9, rr⟩
    · obtain ⟨k3, us, rs, b4, b5, b6, b7, eL3, hR3, hk, hok, hb3, rfl⟩ := p'
      rw [hR.1, len0] at hb3 hk
      rw [List.take_length] at hk
      exact ⟨_, rfl, q L us rs H3 nL eL3 hR3 hk hok (hb3.le (by omega)) fun b o n e => k3 b o n (ne_of_none e nL) (k2 _ _ n (S1 _ _ e))⟩
end
end N7

set_option linter.all false
set_option maxRecDepth 100000
set_option maxHeartbeats 8000000
set_option pp.maxSteps 150
namespace N7
open PySem PySem.Spec PyProof.Rows L2 Gx Qp Qh
abbrev s_lines_text : Stmt := topS 52
abbrev n_lines_text : List Str := ["_law_lines_here", "_law_rows", "_law_kind", "_law_names_here", "_law_tree", "_law_rest"]
theorem sc_lines_text : FnScope n_lines_text ["_law_lines_here"] (defScope s_lines_text) := ⟨rfl, rfl, rfl, by decide +kernel, rfl, by decide +kernel, by decide +kernel⟩
def headL (q : LR) : Str := "kind " ++ q.kind ++ " of " ++ PySem.Str.join " " q.names
def restL (q : LR) : Str := match q.cond with
  | none => ""
  | some t => " where " ++ shL (lt t)
def lineL (q : LR) : Str := headL q ++ restL q
/-- sizes of a row -/
structure LSz (q : LR) : Prop where
  kl : q.kind.length ≤ 4
  nl : q.names.length ≤ 4
  nz : ∀ z ∈ q.names, z.length ≤ 8
  cn : ∀ t, q.cond = some t → wfD t ∧ htD t ≤ 30 ∧ BT (lt t) ≤ 1000
theorem LSz.names_fit {r : LR} (ok : LSz r) : (r.names.map (·.length)).sum + r.names.length * (" " : Str).length ≤ 36 := by
  have h1 := sum_le (b := 8) fun z hz => ok.nz z hz
  have h2 := ok.nl
  rw [sp1]
  omega
theorem LSz.head_len {r : LR} (ok : LSz r) : (headL r).length ≤ 60 := by
  have h1 := Nat.le_trans (Qp.join_ub " " r.names) ok.names_fit
  have h2 := ok.kl
  unfold headL
  rw [len_app, len_app, len_app, show ("kind " : Str).length = 5 from by decide +kernel, show (" of " : Str).length = 4 from by decide +kernel]
  omega
theorem LSz.rest_len {r : LR} (ok : LSz r) : (restL r).length ≤ 1010 := by
  unfold restL
  cases hc : r.cond with
  | none => exact Nat.zero_le _
  | some t =>
    obtain ⟨h1, _, h3⟩ := ok.cn t hc
    have h4 := shL_len (wfD_lt h1)
    dsimp only
    rw [len_app, show (" where " : Str).length = 7 from by decide +kernel]
    omega
def spLinesT : Sp := fun vs H Q _ => ∃ (l : Addr) (us : List V) (rs : List LR), vs = [.ref l] ∧ H l = some (.lst us) ∧ LsAt H us rs ∧ rs.length ≤ 4 ∧ (∀ q ∈ rs, LSz q) ∧ ∀ H' : Hp, Same H H' → Q (.str (Txt.join "\n" (rs.map lineL))) H'
section
variable {P : Program} {w : World} {K : PySem.W.Frag} {mg : Str → Option Value} {base : Heap} {fb fs : Addr}
theorem ok_lines_text {f : Addr} {fd fds : FuncData} (F : Fun K "_law_lines_text" "_law_lines_text" s_lines_text f fd) (T : NmS mg K fb fs)
    (G_shown : FnOk P w K mg base CX0 61 fs fds ["_law_tree"] (spShown 30)) (b_shown : Binds K fds ["_law_tree"] []) : FnOk P w K mg base CX0 62 f fd ["_law_lines_here"] spLinesT := by
  refine F.ok sc_lines_text (fun vs H Q E h => ?_) (fun cdv A outer s H vs Q E hr h => ?_)
  · obtain ⟨l, us, rs, rfl, _⟩ := h
    rfl
  · obtain ⟨l, us, rs, rfl, hl, hR, rl, hs, q⟩ := h
    have hu64 := hr.units
    refine ⟨_, (pss_cons (ps_set (i := 1) sc_lines_text.nd rfl (.inl rfl) (pe_lst pa_nil))
      (pss_cons (ps_for PassesOwn.never rfl (pi_list (pv 0)) (pg_tup rfl (pgs_cons (pg_name (i := 2) sc_lines_text.nd rfl (.inl rfl)) (pgs_cons (pg_name (i := 3) sc_lines_text.nd rfl (.inl rfl)) (pgs_cons (pg_name (i := 4) sc_lines_text.nd rfl (.inl rfl)) pgs_nil))))
        (C8.pss_cut (ps_set (i := 5) sc_lines_text.nd rfl (.inl rfl) (pe_ifExp (pt_yes hu64 (pv 4) (pe_tup (pa_cons pe_str pa_nil))) pe_str (pe_op op_add_str pe_str (pe_call G_shown hr rfl T.g_shown T.k_shown b_shown .nil pass0 (pa_cons (pv 4) pa_nil)))))
        (pss_one (ps_expr (pe_bm PySem.F.plainAttrs_list PySem.F.slot_list_append PySem.F.type_list_append mt_append (pv 1) (pa_cons (pe_op op_add_str (pe_op op_add_str (pe_op op_add_str (pe_op op_add_str pe_str (pv 2)) pe_str) (pe_join pe_str (pv 3))) (pv 5)) pa_nil))))))
      (pss_one (ps_ret (pe_join pe_str (pv 1)))))), ?_⟩
    refine ⟨Nat.zero_le _, fun L nL => ?_⟩
    have S1 := new_same (o := .lst []) nL
    have eL : upd H L (.lst []) L = some (.lst []) := upd_same
    generalize upd H L (.lst []) = H1 at *
    have lL : l ≠ L := ne_of_none hl nL
    have hl1 := S1 _ _ hl
    refine ⟨_, rfl, l, rfl, ⟨_, SqL.of hl1⟩, ?_⟩
    refine for_it walk_list (fun i σ Hi => (∀ b o, b ≠ L → H1 b = some o → Hi b = some o) ∧ Hi L = some (.lst (((rs.take i).map lineL).map V.str)) ∧ ∃ b2 b3 b4 b5 : Option V, σ = [some (.ref l), some (.ref L), b2, b3, b4, b5])
      ⟨fun b o _ e => e, eL, none, none, none, none, rfl⟩ (fun i σ Hi _ p' => SqL.of (p'.1 _ _ lL hl1)) (fun j x σ H2 H3 hj p' y => ?_) (fun σ H2 p' => ?_)
    · obtain ⟨k2, eL2, b2, b3, b4, b5, rfl⟩ := p'
      obtain ⟨rfl, ex⟩ := y
      obtain ⟨r, er, lr⟩ := hR.get ex
      have sz := hs r (List.mem_of_getElem? er)
      have t2 : ∀ a xs, H a = some (.tup xs) → H3 a = some (.tup xs) := fun a xs e => k2 a _ (ne_of (S1 _ _ e) eL fun z => nomatch z) (S1 _ _ e)
      obtain ⟨a, b, u, rfl, ea, eb, hcu⟩ := lr.mono t2
      refine ⟨a, _, rfl, SqT.of ea, rfl, _, _, rfl, _, _, rfl, _, _, rfl, rfl, ?_⟩
      refine ⟨fun σ Hx => Same H3 Hx ∧ σ = [some (.ref l), some (.ref L), some (.str r.kind), some (.ref b), some u, some (.str (restL r))], ?_, ?_⟩
      · refine ⟨u, r.cond, rfl, hcu, fun t e => ⟨(sz.cn t e).1, by have := (sz.cn t e).2.1; omega⟩, fun H4 S4 => ?_⟩
        have er' : restL r = (match r.cond with
          | none => ""
          | some t => " where " ++ shL (lt t)) := rfl
        cases hc : r.cond with
        | none =>
          rw [hc] at er'
          refine iteY rfl ⟨S4, ?_⟩
          rw [er']
          rfl
        | some t =>
          rw [hc] at er' hcu
          obtain ⟨w1, w2, w3⟩ := sz.cn t hc
          have sl := shL_len (wfD_lt w1)
          refine iteN rfl ?_
          refine ⟨_, rfl, u, t, rfl, DAt.mono (fun a xs e => S4 a _ e) hcu, w1, by omega, by omega, fun H5 S5 => ⟨_, _, rfl, rfl, (by rw [show (" where " : Str).length = 7 from by decide +kernel, sizeLine_eq]; omega), S4.trans S5, ?_⟩⟩
          rw [er']
          rfl
      · rintro σ Hx ⟨sx, rfl⟩
        have c5 : ("kind " : Str).length = 5 := by decide +kernel
        have c4 : (" of " : Str).length = 4 := by decide +kernel
        have kl := sz.kl
        have nf := sz.names_fit
        have rn := sz.rest_len
        have hlen := sz.head_len
        have jl := Nat.le_trans (Qp.join_ub " " r.names) nf
        have eLx := sx _ _ eL2
        refine ⟨_, rfl, .inl ⟨rfl, _, SqL.of eLx⟩, _, rfl, _, _, rfl, rfl, (by rw [c5, sizeLine_eq]; omega), _, _, rfl, rfl, (by rw [len_app, c5, c4, sizeLine_eq]; omega), ?_⟩
        refine ⟨⟨_, rfl⟩, _, rfl, _, b, r.names, rfl, rfl, .inr (SqT.of (sx _ _ eb)), Nat.le_trans nf (by decide), ?_⟩
        rw [tjoin]
        refine ⟨_, _, rfl, rfl, (by rw [len_app, len_app, c5, c4, sizeLine_eq]; omega), ?_⟩
        refine ⟨_, rfl, _, _, rfl, rfl, (by show (headL r).length + _ ≤ _; rw [sizeLine_eq]; omega), ?_⟩
        have ul : (((rs.take j).map lineL).map V.str).length ≤ 4 := by
          rw [List.length_map, List.length_map, List.length_take]
          omega
        refine ⟨L, _, _, rfl, rfl, eLx, (by rw [sizeLine_eq]; omega), fun b o n e => (upd_ne n).trans (sx _ _ (k2 b o n e)), ?_, _, _, _, _, rfl⟩
        rw [upd_same, take_snoc er, List.map_append, List.map_append]
        rfl
    · obtain ⟨k2, eL2, b2, b3, b4, b5, rfl⟩ := p'
      rw [hR.1, List.take_length] at eL2
      have sl := sum_le (b := 1070) (l := rs.map lineL) fun z hz => by
        obtain ⟨r, hr2, rfl⟩ := List.mem_map.mp hz
        have h1 := (hs r hr2).head_len
        have h2 := (hs r hr2).rest_len
        unfold lineL
        rw [len_app]
        omega
      rw [List.length_map] at sl
      refine ⟨⟨_, rfl⟩, _, rfl, _, L, rs.map lineL, rfl, rfl, .inl (SqL.of eL2), ?_, ?_⟩
      · rw [List.length_map, show ("\n" : Str).length = 1 from by decide +kernel]
        omega
      · exact q H2 fun b o e => k2 b o (ne_of_none e nL) (S1 _ _ e)
end
end N7

set_option linter.all false
set_option maxRecDepth 100000
set_option maxHeartbeats 8000000
set_option pp.maxSteps 150
namespace N7
open PySem PySem.Spec PyProof.Rows L2 Gx Qp Qh
abbrev s_nodenames : Stmt := topS 54
abbrev n_nodenames : List Str := ["_law_lines_here", "_law_found", "_law_kind", "_law_names_here", "_law_tree", "_law_name"]
theorem sc_nodenames : FnScope n_nodenames ["_law_lines_here"] (defScope s_nodenames) := ⟨rfl, rfl, rfl, by decide +kernel, rfl, by decide +kernel, by decide +kernel⟩
def ex2 : List Str := ["any", "other"]
/-- the names of nodes in rows -/
def nnP (rs : List LR) (x : Str) : Prop := ∃ q ∈ rs, x ∈ q.names ∧ x ∉ ex2
def spNN : Sp := fun vs H Q _ => ∃ (l : Addr) (us : List V) (rs : List LR), vs = [.ref l] ∧ H l = some (.lst us) ∧ LsAt H us rs ∧ rs.length ≤ 4 ∧ (∀ q ∈ rs, q.names.length ≤ 4) ∧
  ∀ (r : Addr) (ys : List Str) (H' : Hp), Same H H' → H' r = some (.lst (ys.map V.str)) → UN ys (nnP rs) → sortedS ys = true → Q (.ref r) H'
section
variable {P : Program} {w : World} {K : PySem.W.Frag} {mg : Str → Option Value} {base : Heap}
theorem ok_nodenames {f : Addr} {fd : FuncData} (F : Fun K "_law_nodenames" "_law_nodenames" s_nodenames f fd) (n_set : mg "set" = none) (n_sorted : mg "sorted" = none) : FnOk P w K mg base CX0 1 f fd ["_law_lines_here"] spNN := by
  refine F.ok sc_nodenames (fun vs H Q E h => ?_) (fun cdv A outer s H vs Q E hr h => ?_)
  · obtain ⟨l, us, rs, rfl, _⟩ := h
    rfl
  · obtain ⟨l, us, rs, rfl, hl, hR, rl, hs, q⟩ := h
    refine ⟨_, (pss_cons (ps_set (i := 1) sc_nodenames.nd rfl (.inl rfl) (pe_lst pa_nil))
      (pss_cons (ps_for PassesOwn.never rfl (pi_list (pv 0)) (pg_tup rfl (pgs_cons (pg_name (i := 2) sc_nodenames.nd rfl (.inl rfl)) (pgs_cons (pg_name (i := 3) sc_nodenames.nd rfl (.inl rfl)) (pgs_cons (pg_name (i := 4) sc_nodenames.nd rfl (.inl rfl)) pgs_nil))))
        (pss_one (ps_expr (pe_bm PySem.F.plainAttrs_list PySem.F.slot_list_extend PySem.F.type_list_extend mt_extend (pv 1) (pa_cons (pe_lc (own := [("_law_name", 5)]) (g := gName 5) (tt := tTest (tOp (rIn K true) (tVar 5) (tTup (tCons (tC (.str "any")) (tCons (tC (.str "other")) tNil))))) (te := tVar 5) rfl sc_nodenames.nd (pi_tup (pv 3)) (blkOk_by (own := [("_law_name", 5)]) (N := n_nodenames) (sc := defScope s_nodenames) (by decide +kernel)) (fun _ _ _ _ _ => (pg_name (i := 5) sc_nodenames.nd rfl (.inl rfl))) (fun _ _ _ _ _ => (pts_one (pt_cmpR op_notIn_seq (pv 5) (pe_tup (pa_cons pe_str (pa_cons pe_str pa_nil))) (by rfl)))) (fun _ _ _ _ _ => (pv 5))) pa_nil)))))
      (pss_one (ps_ret (pe_callB (Wc.cr_sort rfl) (by rfl) n_sorted (by decide +kernel) (pa_cons (pe_callTy (Wl.cr_setT rfl) (by rfl) n_set (by decide +kernel) (pa_cons (pv 1) pa_nil)) pa_nil)))))), ?_⟩
    refine ⟨Nat.zero_le _, fun L nL => ?_⟩
    have S1 := new_same (o := .lst []) nL
    have eL : upd H L (.lst []) L = some (.lst []) := upd_same
    generalize upd H L (.lst []) = H1 at *
    have lL : l ≠ L := ne_of_none hl nL
    have hl1 := S1 _ _ hl
    refine ⟨_, rfl, l, rfl, ⟨_, SqL.of hl1⟩, ?_⟩
    refine for_it walk_list (fun i σ Hi => (∀ b o, b ≠ L → H1 b = some o → Hi b = some o) ∧ ∃ (zs : List Str) (b2 b3 b4 : Option V), Hi L = some (.lst (zs.map V.str)) ∧ zs.length ≤ 4 * i ∧ (∀ x, x ∈ zs ↔ nnP (rs.take i) x) ∧ σ = [some (.ref l), some (.ref L), b2, b3, b4, none])
      ⟨fun b o _ e => e, [], none, none, none, eL, Nat.zero_le _, fun x => ⟨fun h => absurd h (by simp), fun ⟨r, hr, _⟩ => absurd hr (by simp)⟩, rfl⟩ (fun i σ Hi _ p' => SqL.of (p'.1 _ _ lL hl1)) (fun j x σ H2 H3 hj p' y => ?_) (fun σ H2 p' => ?_)
    · obtain ⟨k2, zs, b2, b3, b4, eL2, zl, hz, rfl⟩ := p'
      obtain ⟨rfl, ex⟩ := y
      obtain ⟨r, er, lr⟩ := hR.get ex
      have nl := hs r (List.mem_of_getElem? er)
      have jl : j < rs.length := (List.getElem?_eq_some_iff.mp er).1
      have t2 : ∀ a xs, H a = some (.tup xs) → H3 a = some (.tup xs) := fun a xs e => k2 a _ (ne_of (S1 _ _ e) eL fun z => nomatch z) (S1 _ _ e)
      obtain ⟨a, b, u, rfl, ea, eb, hcu⟩ := lr.mono t2
      refine ⟨a, _, rfl, SqT.of ea, rfl, _, _, rfl, _, _, rfl, _, _, rfl, rfl, ?_⟩
      refine ⟨_, rfl, .inl ⟨rfl, _, SqL.of eL2⟩, ?_⟩
      refine ⟨_, rfl, b, rfl, ⟨_, SqT.of eb⟩, fun D nD => ?_⟩
      have bD : b ≠ D := ne_of_none eb nD
      have LD : L ≠ D := ne_of_none eL2 nD
      refine lc_it walk_tup (fun i Hi => (∀ b o, b ≠ D → H3 b = some o → Hi b = some o) ∧ Hi D = some (.lst (((r.names.take i).filter fun z => !decide (z ∈ ex2)).map V.str)))
        ⟨fun b o x e => by rw [upd_ne x]; exact e, upd_same⟩ (fun i Hi _ p' => SqT.of (p'.1 _ _ bD eb)) (fun i x Hi Hk hil p' y => ?_) (fun H6 p' => ?_)
      · obtain ⟨rfl, ex⟩ := y
        obtain ⟨z, ez2, rfl⟩ := map_get ex
        refine ⟨rfl, ?_⟩
        refine ⟨_, rfl, (by show 2 ≤ sizeLine; rw [sizeLine_eq]; decide), fun p1 n1 => ⟨p1, _, rfl, .inr (SqT.of upd_same), rfl, by decide, _, rfl, ?_⟩⟩
        have S9 := new_same (o := .tup [.str "any", .str "other"]) n1
        have ein : inV (.str z) [.str "any", .str "other"] = decide (z ∈ ex2) := in_l z ["any", "other"]
        have eD9 := S9 _ _ p'.2
        have kD9 : ∀ b o, b ≠ D → H3 b = some o → upd Hk p1 (.tup [.str "any", .str "other"]) b = some o := fun b o x e => S9 _ _ (p'.1 b o x e)
        generalize upd Hk p1 (.tup [.str "any", .str "other"]) = H9 at *
        have h2 := List.length_filter_le (fun z => !decide (z ∈ ex2)) (r.names.take i)
        have h3 : (r.names.take i).length ≤ r.names.length := List.length_take_le' ..
        refine ite2 (fun h0 => ?_) (fun h0 => ?_)
        · have h1 : (!inV (.str z) [.str "any", .str "other"]) = true := h0
          rw [ein] at h1
          refine ⟨_, rfl, _, eD9, (by rw [List.length_map, sizeLine_eq]; omega), fun b o x e => (upd_ne x).trans (kD9 b o x e), ?_⟩
          rw [upd_same, take_snoc ez2, List.filter_append, List.filter_cons_of_pos (p := fun z => !decide (z ∈ ex2)) h1, List.map_append]
          rfl
        · have h1 : ¬ (!inV (.str z) [.str "any", .str "other"]) = true := h0
          rw [ein] at h1
          refine ⟨kD9, ?_⟩
          rw [take_snoc ez2, List.filter_append, List.filter_cons_of_neg (p := fun z => !decide (z ∈ ex2)) h1, List.filter_nil, List.append_nil]
          exact eD9
      · have eD := p'.2
        have k6 := p'.1
        rw [List.length_map, List.take_length] at eD
        clear p'
        have h2 := List.length_filter_le (fun z => !decide (z ∈ ex2)) r.names
        generalize hys : r.names.filter (fun z => !decide (z ∈ ex2)) = ys at *
        refine ⟨L, D, _, _, rfl, rfl, k6 _ _ LD eL2, eD, (by rw [List.length_map, List.length_map, sizeLine_eq]; omega), ?_⟩
        refine ⟨fun b o n e => (upd_ne n).trans (k6 b o (ne_of_none (k2 b o n e) nD) (k2 b o n e)), zs ++ ys, _, _, _, by rw [upd_same, List.map_append], by rw [List.length_append]; omega, fun x => ?_, rfl⟩
        rw [List.mem_append, hz x, ← hys, List.mem_filter]
        refine Iff.trans ?_ (snoc_mem er fun q => x ∈ q.names ∧ x ∉ ex2).symm
        simp [nnP]
    · obtain ⟨k2, zs, b2, b3, b4, eL2, zl, hz, rfl⟩ := p'
      rw [hR.1] at zl hz
      rw [List.take_length] at hz
      have un := un_unS zs
      have ul : (unS zs).length ≤ zs.length := by
        unfold unS
        have h1 : ∀ (q m : List Str), (q.foldl Wt.addL m).length ≤ m.length + q.length := fun q => by
          induction q with
          | nil => intro m; exact Nat.le_refl _
          | cons x q ih =>
            intro m
            have h1 := ih (Wt.addL m x)
            have h2 := addL_len m x
            rw [List.foldl_cons, List.length_cons]
            omega
        have := h1 zs []
        rw [List.length_nil] at this
        omega
      refine ⟨_, rfl, L, zs, rfl, SqL.of eL2, by omega, fun S nS => ?_⟩
      refine ⟨S, unS zs, rfl, upd_same, by omega, fun ys p' pm so np => ?_⟩
      refine q p' ys _ (fun b o e => ?_) upd_same ((un.perm pm).congr hz) so
      have e2 := k2 b o (ne_of_none e nL) (S1 _ _ e)
      have e3 : upd H2 S (Wc.SetT w S (List.foldl Wt.addL [] zs)) b = some o := (upd_ne (ne_of_none e2 nS)).trans e2
      exact (upd_ne (ne_of_none e3 np)).trans e3
end
end N7

set_option linter.all false
set_option maxRecDepth 100000
set_option maxHeartbeats 8000000
namespace N7
open PySem PySem.Spec PyProof.Rows L2 Gx Qp Qh
/-! rows of texts in their order; rows of texts as data -/
theorem rising_pw : ∀ (l : List Str) (p : Str), risingS p l = true → (p :: l).Pairwise fun a b => a.cps.toList ≤ b.cps.toList
  | [], p, _ => List.pairwise_singleton _ _
  | x :: r, p, h => by
    have h' : (!ltCps x.cps.toList p.cps.toList && risingS x r) = true := h
    rw [Bool.and_eq_true, ltCps_eq] at h'
    have h1 : p.cps.toList ≤ x.cps.toList := by
      have := h'.1
      simpa using this
    have ih := rising_pw r x h'.2
    refine List.pairwise_cons.mpr ⟨fun y hy => ?_, ih⟩
    rcases List.mem_cons.mp hy with rfl | hy
    · exact h1
    · exact List.le_trans h1 ((List.pairwise_cons.mp ih).1 y hy)
theorem sorted_pw : ∀ {l : List Str}, sortedS l = true → l.Pairwise fun a b => a.cps.toList ≤ b.cps.toList
  | [], _ => List.Pairwise.nil
  | x :: r, h => rising_pw r x h
theorem str_ext {a b : Str} (h : a.cps.toList = b.cps.toList) : a = b := by
  cases a
  cases b
  congr
  exact Array.ext' h
theorem sorted_one {a b : List Str} {S : Str → Prop} (sa : sortedS a = true) (sb : sortedS b = true) (ua : UN a S) (ub : UN b S) : a = b := by
  have pm : a.Perm b := (List.perm_ext_iff_of_nodup ua.1 ub.1).mpr fun x => (ua.2 x).trans (ub.2 x).symm
  exact pm.eq_of_pairwise (fun x y _ _ h1 h2 => str_ext (List.le_antisymm h1 h2)) (sorted_pw sa) (sorted_pw sb)
theorem dps_strs {K : PySem.W.Frag} {H : Hp} : ∀ l : List Str, DpAll K H (l.map V.str) (l.map PyData.str)
  | [] => .nil
  | x :: l => .cons (.str x) (dps_strs l)
abbrev strsD (l : List Str) : PyData := .tuple (l.map PyData.str)
theorem strs_lay : ∀ {l : List Str}, (∀ z ∈ l, Asc z) → PyData.canLayAll0 (l.map PyData.str) = true
  | [], _ => rfl
  | x :: l, h => by
    rw [List.map_cons, PyData.canLayAll0, str_ok (h x (List.mem_cons_self ..)), strs_lay (l := l) fun z hz => h z (List.mem_cons_of_mem _ hz)]
    rfl
theorem strs_depth : ∀ l : List Str, PyData.depthAll (l.map PyData.str) = 0
  | [] => rfl
  | x :: l => by
    rw [List.map_cons, PyData.depthAll, strs_depth l]
    rfl
theorem strs_shaped {l : List Str} (h : ∀ z ∈ l, Asc z) : SeqAt.shaped (strsD l) = true := by
  unfold SeqAt.shaped strsD
  rw [Bool.and_eq_true]
  refine ⟨strs_lay h, decide_eq_true ?_⟩
  simp only [PyData.depth, strs_depth]
  omega
theorem strs_eqv : ∀ l : List Str, PyData.eqvAll (l.map PyData.str) (l.map PyData.str) = true
  | [] => rfl
  | x :: l => by
    rw [List.map_cons, PyData.eqvAll, strs_eqv l]
    simp [PyData.eqv]
end N7

set_option linter.all false
set_option maxRecDepth 100000
set_option maxHeartbeats 8000000
set_option pp.maxSteps 150
namespace N7
open PySem PySem.Spec PyProof.Rows L2 Gx Qp Qh
abbrev s_told : Stmt := topS 59
abbrev n_told : List Str := ["_law_kinds", "_law_lines_here", "_law_words", "_law_names_here", "_law_odd", "_law_kind", "_law_tree", "_law_word"]
theorem sc_told : FnScope n_told ["_law_kinds", "_law_lines_here"] (defScope s_told) := ⟨rfl, rfl, rfl, by decide +kernel, rfl, by decide +kernel, by decide +kernel⟩
/-- the rows of kinds are those of the law -/
structure Agree (qs : List Row) (rs : List LR) : Prop where
  kinds : qs.map Row.kind = rs.map LR.kind
  text : kText qs = Txt.join "\n" (rs.map lineL)
  names : ∀ x, nameOf qs x ↔ nnP rs x
def spTold (C Cw : Addr) : Sp := fun vs H Q _ => ∃ (a l : Addr) (us : List V) (rs : List LR) (qs : List Row), vs = [.ref a, .ref l] ∧ KAt C Cw H a qs ∧ H l = some (.lst us) ∧ LsAt H us rs ∧ rs.length ≤ 4 ∧ (∀ q ∈ rs, LSz q) ∧ (∀ q ∈ rs, Asc q.kind ∧ ∀ z ∈ q.names, Asc z) ∧ Agree qs rs ∧
  ∀ H' : Hp, Same H H' → Q (.bl true) H'
structure NmTo (mg : Str → Option Value) (K : PySem.W.Frag) (C fnn flt gst gln gco : Addr) : Prop where
  g_nn : mg "_law_nodenames" = some (.ref fnn)
  k_nn : PySem.W.keepIn K (.ref fnn) = true
  g_lt : mg "_law_lines_text" = some (.ref flt)
  k_lt : PySem.W.keepIn K (.ref flt) = true
  n_tuple : mg "tuple" = none
  n_len : mg "len" = none
  n_str : mg "str" = none
  str : PySem.W.findIn K (.ref C) "__str__" = some (some (.ref gst))
  strF : PySem.W.isFn K (.ref gst) = true
  ln : PySem.W.findIn K (.ref C) "__len__" = some (some (.ref gln))
  lnF : PySem.W.isFn K (.ref gln) = true
  con : PySem.W.findIn K (.ref C) "__contains__" = some (some (.ref gco))
  conF : PySem.W.isFn K (.ref gco) = true
theorem text_len {rs : List LR} (n4 : rs.length ≤ 4) (h : ∀ q ∈ rs, LSz q) : (Txt.join "\n" (rs.map lineL)).length ≤ 5000 := by
  have sl := sum_le (b := 1070) (l := rs.map lineL) fun z hz => by
    obtain ⟨r, hr2, rfl⟩ := List.mem_map.mp hz
    have h1 := (h r hr2).head_len
    have h2 := (h r hr2).rest_len
    unfold lineL
    rw [len_app]
    omega
  rw [List.length_map] at sl
  have e : Txt.join "\n" (rs.map lineL) = PySem.Str.join "\n" (rs.map lineL) := TL.join_eq _ _
  rw [e]
  refine Nat.le_trans (Qp.join_ub "\n" _) ?_
  rw [List.length_map, show ("\n" : Str).length = 1 from by decide +kernel]
  omega
section
variable {P : Program} {w : World} {K : PySem.W.Frag} {mg : Str → Option Value} {base : Heap} {C Cw fnn flt gst gln gco : Addr}
theorem ok_told {f : Addr} {fd fdn fdl fds fde fdc : FuncData} (F : Fun K "_law_told_right" "_law_told_right" s_told f fd) (T : NmTo mg K C fnn flt gst gln gco) (TK : NmKd mg K C)
    (G_nn : FnOk P w K mg base CX0 1 fnn fdn ["_law_lines_here"] spNN) (b_nn : Binds K fdn ["_law_lines_here"] [])
    (G_lt : FnOk P w K mg base CX0 62 flt fdl ["_law_lines_here"] spLinesT) (b_lt : Binds K fdl ["_law_lines_here"] [])
    (G_str : FnOk P w K mg base CX0 1 gst fds ["self"] (spKStr C Cw)) (b_str : Binds K fds ["self"] [])
    (G_len : FnOk P w K mg base CX0 1 gln fde ["self"] (spKLen C Cw)) (b_len : Binds K fde ["self"] [])
    (G_con : FnOk P w K mg base CX0 1 gco fdc ["self", "word"] (spKCon C Cw)) (b_con : Binds K fdc ["self", "word"] []) : FnOk P w K mg base CX0 63 f fd ["_law_kinds", "_law_lines_here"] (spTold C Cw) := by
  refine F.ok sc_told (fun vs H Q E h => ?_) (fun cdv A outer s H vs Q E hr h => ?_)
  · obtain ⟨a, l, us, rs, qs, rfl, _⟩ := h
    rfl
  · obtain ⟨a, l, us, rs, qs, rfl, hk, hl, hR, rl, hs, ha, ag, q⟩ := h
    have hu64 := hr.units
    have r1 := hr.mono (show 1 ≤ 62 by decide)
    have r2 := hr.mono (show 2 ≤ 62 by decide)
    have r3 := hr.mono (show 3 ≤ 62 by decide)
    refine ⟨_, (pss_cons (ps_set (i := 2) sc_told.nd rfl (.inr rfl) (pe_callTy call_tuple_of (by rfl) T.n_tuple (by decide +kernel) (pa_cons (pe_lc (own := [("_law_kind", 5), ("_law_names_here", 3), ("_law_tree", 6)]) (g := gTup K 3 (gCons (gName 5) (gCons (gName 3) (gCons (gName 6) gNil)))) (tt := tYes) (te := tVar 5) rfl sc_told.nd (pi_list (pv 1)) (blkOk_by (own := [("_law_kind", 5), ("_law_names_here", 3), ("_law_tree", 6)]) (N := n_told) (sc := defScope s_told) (by decide +kernel)) (fun _ _ _ _ _ => (pg_tup rfl (pgs_cons (pg_name (i := 5) sc_told.nd rfl (.inl rfl)) (pgs_cons (pg_name (i := 3) sc_told.nd rfl (.inl rfl)) (pgs_cons (pg_name (i := 6) sc_told.nd rfl (.inl rfl)) pgs_nil))))) (fun _ _ _ _ _ => pts_nil) (fun _ _ _ _ _ => (pv 5))) pa_nil)))
      (pss_cons (ps_set (i := 3) sc_told.nd rfl (.inl rfl) (pe_callTy call_tuple_of (by rfl) T.n_tuple (by decide +kernel) (pa_cons (pe_call G_nn r1 rfl T.g_nn T.k_nn b_nn .nil pass0 (pa_cons (pv 1) pa_nil)) pa_nil)))
      (pss_cons (ps_if (PW.pt (pw_or (pt_cmpR op_ne (pe_callTy (Wc.call_strO T.str T.strF G_str r3 b_str pass0) (by rfl) T.n_str (by decide +kernel) (pa_cons (pv 0) pa_nil)) (pe_call G_lt hr rfl T.g_lt T.k_lt b_lt .nil pass0 (pa_cons (pv 1) pa_nil)) (nomark _))
        (pw_or (pt_cmpR (op_neD hu64) (pe_fld (pv 0) rfl) (pv 2) (nomark _))
        (pw_or (pt_cmpR (op_neD hu64) (pe_fld (pv 0) rfl) (pv 3) (nomark _))
        (pw_or1 (pt_cmpR op_ne (pe_callB (Wi.call_lenO T.ln T.lnF G_len r2 b_len pass0) (by rfl) T.n_len (by decide +kernel) (pa_cons (pv 0) pa_nil)) (pe_callB call_len_seq (by rfl) T.n_len (by decide +kernel) (pa_cons (pv 2) pa_nil)) (nomark _))))))) (pss_one ps_never) pss_nil)
      (pss_cons (ps_set (i := 4) sc_told.nd rfl (.inl rfl) (pe_lst (pa_cons pe_str (pa_cons pe_str (pa_cons pe_str (pa_cons pe_str pa_nil))))))
      (pss_cons (ps_if (pt_cmpR (op_neD hu64) (pe_lc (own := [("_law_word", 7)]) (g := gName 7) (tt := tTest (tOp (Wc.rOutO C (spKCon C Cw) E0) (tVar 7) (tVar 0))) (te := tVar 7) rfl sc_told.nd (pi_tup (pv 2)) (blkOk_by (own := [("_law_word", 7)]) (N := n_told) (sc := defScope s_told) (by decide +kernel)) (fun _ _ _ _ _ => (pg_name (i := 7) sc_told.nd rfl (.inl rfl))) (fun _ _ _ _ _ => pts_one (pt_cmpR (Wc.op_outO T.con T.conF G_con r1 b_con pass0) (pv 7) (pv 0) (by rfl))) (fun _ _ _ _ _ => (pv 7))) (pe_lst pa_nil) (nomark _)) (pss_one ps_never) pss_nil)
      (pss_one (ps_ret (pe_cmpR (op_eqD hu64) (pe_lc (own := [("_law_word", 7)]) (g := gName 7) (tt := tAnd (tTest (tOp (Wc.rInO C (spKCon C Cw) E0) (tVar 7) (tVar 0))) (tTest (tOp (rIn K true) (tVar 7) (tVar 2)))) (te := tVar 7) rfl sc_told.nd (pi_list (pv 4)) (blkOk_by (own := [("_law_word", 7)]) (N := n_told) (sc := defScope s_told) (by decide +kernel)) (fun _ _ _ _ _ => (pg_name (i := 7) sc_told.nd rfl (.inl rfl))) (fun _ _ _ _ _ => pts_one (PW.pt (pw_and (pt_cmpR (Wc.op_inO T.con T.conF G_con r1 b_con pass0) (pv 7) (pv 0) (by rfl)) (pw_and1 (pt_cmpR op_notIn_seq (pv 7) (pv 2) (by rfl)))))) (fun _ _ _ _ _ => (pv 7))) (pe_lst pa_nil) (nomark _))))))))), ?_⟩
    -- the words
    refine ⟨_, rfl, l, rfl, ⟨_, SqL.of hl⟩, fun D nD => ?_⟩
    have lD : l ≠ D := ne_of_none hl nD
    refine lc_it walk_list (fun i Hi => (∀ b o, b ≠ D → H b = some o → Hi b = some o) ∧ Hi D = some (.lst (((rs.take i).map LR.kind).map V.str)))
      ⟨fun b o x e => by rw [upd_ne x]; exact e, upd_same⟩ (fun i Hi _ p => SqL.of (p.1 l _ lD hl)) (fun i x Hi Hj hil p y => ?_) (fun H1 p => ?_)
    · obtain ⟨rfl, ex⟩ := y
      obtain ⟨r, er, lr⟩ := hR.get ex
      have t2 : ∀ a xs, H a = some (.tup xs) → Hj a = some (.tup xs) := fun a xs e => p.1 a _ (ne_of_none e nD) e
      obtain ⟨b, c, u, rfl, eb, ec, hcu⟩ := lr.mono t2
      refine ⟨b, _, rfl, SqT.of eb, rfl, _, _, rfl, _, _, rfl, _, _, rfl, rfl, ?_⟩
      refine ⟨rfl, keep1' ?_⟩
      refine ⟨_, rfl, _, p.2, ?_, fun b o x e => (upd_ne x).trans (p.1 b o x e), ?_⟩
      · have h3 : (rs.take i).length ≤ rs.length := List.length_take_le' ..
        rw [List.length_map, List.length_map, sizeLine_eq]
        omega
      · rw [upd_same, take_snoc er, List.map_append, List.map_append]
        rfl
    have S1 : Same H H1 := fun b o e => p.1 b o (ne_of_none e nD) e
    have eD := p.2
    rw [hR.1, List.take_length] at eD
    clear p
    refine ⟨D, _, rfl, .inl ⟨SqL.of eD, fun k1 nk1 => ?_⟩⟩
    have S2 := S1.trans (new_same (o := .tup ((rs.map LR.kind).map V.str)) nk1)
    have ew : upd H1 k1 (.tup ((rs.map LR.kind).map V.str)) k1 = some (.tup ((rs.map LR.kind).map V.str)) := upd_same
    generalize upd H1 k1 (.tup ((rs.map LR.kind).map V.str)) = H2 at *
    -- the names
    have t2 : ∀ {H' : Hp}, Same H H' → ∀ a xs, H a = some (.tup xs) → H' a = some (.tup xs) := fun s a xs e => s a _ e
    refine ⟨_, rfl, l, us, rs, rfl, S2 _ _ hl, hR.mono (t2 S2), rl, fun q h => (hs q h).nl, fun lr ys H3 S3 elr un so => ?_⟩
    refine ⟨lr, _, rfl, .inl ⟨SqL.of elr, fun k2 nk2 => ?_⟩⟩
    have S4 := S3.trans (new_same (o := .tup (ys.map V.str)) nk2)
    have en : upd H3 k2 (.tup (ys.map V.str)) k2 = some (.tup (ys.map V.str)) := upd_same
    generalize upd H3 k2 (.tup (ys.map V.str)) = H4 at *
    have ew4 := S4 _ _ ew
    have S24 := S2.trans S4
    have hk4 := hk.same S24
    obtain ⟨dx, k1', k2', k3', k4', nm, as, vs, e0, e1, e2, u1, s1, _⟩ := id hk4
    have nmy : nm = ys := sorted_one s1 so (u1.congr ag.names) un
    have kA : ∀ z ∈ rs.map LR.kind, Asc z := fun z hz => by
      obtain ⟨q, hq, rfl⟩ := List.mem_map.mp hz
      exact (ha q hq).1
    have nA : ∀ z ∈ ys, Asc z := fun z hz => by
      obtain ⟨q, hq, h1, _⟩ := (un.2 z).mp hz
      exact (ha q hq).2 z h1
    rw [ag.kinds] at e1
    rw [nmy] at e2
    have tl := text_len rl hs
    rw [← ag.text] at tl
    -- the text
    refine ⟨_, rfl, a, dx, _, rfl, e0, a, qs, rfl, hk4, by omega, _, rfl, _, rfl, l, us, rs, rfl, S24 _ _ hl, hR.mono (t2 S24), rl, hs, fun H5 S5 => ⟨rfl, _, rfl, iteN (by rw [dec_str, ag.text, decide_eq_true rfl]; rfl) ?_⟩⟩
    have S25 := S24.trans S5
    have hk5 := hk4.same S5
    -- words, names, length
    refine ⟨_, rfl, a, C, dx, _, _, rfl, S5 _ _ e0, TK.cl, TK.a_words, rfl, _, rfl, strsD (rs.map LR.kind), strsD (rs.map LR.kind), .tup (SqT.of (S5 _ _ e1)) (dps_strs _), .tup (SqT.of (S5 _ _ ew4)) (dps_strs _), strs_shaped kA, strs_shaped kA, _, rfl, iteN (by rw [show PyData.eqv (strsD (rs.map LR.kind)) (strsD (rs.map LR.kind)) = true from strs_eqv _]; rfl) ?_⟩
    refine ⟨_, rfl, a, C, dx, _, _, rfl, S5 _ _ e0, TK.cl, TK.a_names, rfl, _, rfl, strsD ys, strsD ys, .tup (SqT.of (S5 _ _ e2)) (dps_strs _), .tup (SqT.of (S5 _ _ en)) (dps_strs _), strs_shaped nA, strs_shaped nA, _, rfl, iteN (by rw [show PyData.eqv (strsD ys) (strsD ys) = true from strs_eqv _]; rfl) ?_⟩
    have lq : qs.length = rs.length := by
      have := congrArg List.length ag.kinds
      rwa [List.length_map, List.length_map] at this
    refine ⟨_, rfl, a, dx, _, rfl, S5 _ _ e0, a, qs, rfl, hk5, qs.length, by omega, rfl, _, rfl, k1, _, rfl, .inr (SqT.of (S5 _ _ ew4)), rfl, _, rfl, iteN (by rw [List.length_map, List.length_map, lq, decide_eq_true rfl]; rfl) ?_⟩
    -- what is in them
    refine ⟨(by show 4 ≤ sizeLine; rw [sizeLine_eq]; decide), fun od nod => ?_⟩
    have S6 := S5.trans (new_same (o := .lst [.str "ZZ", .str "QQQ", .str "ABCD", .str "Z"]) nod)
    have eod : upd H5 od (.lst [.str "ZZ", .str "QQQ", .str "ABCD", .str "Z"]) od = some (.lst [.str "ZZ", .str "QQQ", .str "ABCD", .str "Z"]) := upd_same
    generalize upd H5 od (.lst [.str "ZZ", .str "QQQ", .str "ABCD", .str "Z"]) = H6 at *
    have ew6 := S6 _ _ ew4
    have e06 := S6 _ _ e0
    have hk6 := hk4.same S6
    refine ⟨_, rfl, k1, rfl, ⟨_, SqT.of ew6⟩, fun D2 nD2 => ?_⟩
    have kD2 : k1 ≠ D2 := ne_of_none ew6 nD2
    refine lc_it walk_tup (fun i Hi => (∀ b o, b ≠ D2 → H6 b = some o → Hi b = some o) ∧ Hi D2 = some (.lst []))
      ⟨fun b o x e => by rw [upd_ne x]; exact e, upd_same⟩ (fun i Hi _ p => SqT.of (p.1 _ _ kD2 ew6)) (fun i x Hi Hj hil p y => ?_) (fun H7 p => ?_)
    · obtain ⟨rfl, ex⟩ := y
      obtain ⟨z, ez, rfl⟩ := map_get ex
      have Sj : Same H6 Hj := fun b o e => p.1 b o (ne_of_none e nD2) e
      refine ⟨rfl, ?_⟩
      refine ⟨_, rfl, _, rfl, a, dx, _, rfl, Sj _ _ e06, a, z, qs, rfl, hk6.same Sj, _, rfl, _, rfl, iteN (by rw [ag.kinds, decide_eq_true (List.mem_of_getElem? ez)]; rfl) p⟩
    have S7 : Same H6 H7 := fun b o e => p.1 b o (ne_of_none e nD2) e
    have eD2 := p.2
    clear p
    refine ⟨Nat.zero_le _, fun D3 nD3 => ?_⟩
    have S8 := S7.trans (new_same (o := .lst []) nD3)
    refine ⟨.list [], .list [], .lst (SqL.of ((new_same (o := .lst []) nD3) _ _ eD2)) .nil, .lst (SqL.of upd_same) .nil, rfl, rfl, _, rfl, iteN rfl ?_⟩
    generalize upd H7 D3 (.lst []) = H8 at *
    have ew8 := S8 _ _ ew6
    have e08 := S8 _ _ e06
    have eod8 := S8 _ _ eod
    have hk8 := hk6.same S8
    refine ⟨_, rfl, od, rfl, ⟨_, SqL.of eod8⟩, fun D4 nD4 => ?_⟩
    have oD4 : od ≠ D4 := ne_of_none eod8 nD4
    refine lc_it walk_list (fun i Hi => (∀ b o, b ≠ D4 → H8 b = some o → Hi b = some o) ∧ Hi D4 = some (.lst []))
      ⟨fun b o x e => by rw [upd_ne x]; exact e, upd_same⟩ (fun i Hi _ p => SqL.of (p.1 _ _ oD4 eod8)) (fun i x Hi Hj hil p y => ?_) (fun H9 p => ?_)
    · obtain ⟨rfl, ex⟩ := y
      obtain ⟨z, ez, rfl⟩ := map_get (ws := ["ZZ", "QQQ", "ABCD", "Z"]) ex
      have Sj : Same H8 Hj := fun b o e => p.1 b o (ne_of_none e nD4) e
      refine ⟨rfl, ?_⟩
      refine ⟨_, rfl, _, rfl, a, dx, _, rfl, Sj _ _ e08, a, z, qs, rfl, hk8.same Sj, _, rfl, _, rfl, ?_⟩
      refine ite2 (fun h0 => ?_) (fun h0 => ?_)
      · have hz : z ∈ rs.map LR.kind := by
          rw [← ag.kinds]
          exact of_decide_eq_true h0
        refine ⟨_, rfl, _, rfl, k1, _, rfl, .inr (SqT.of (Sj _ _ ew8)), rfl, flat_strs _, _, rfl, iteN ?_ p⟩
        show (!inV (.str z) ((rs.map LR.kind).map V.str)) = false
        rw [inV_list, decide_eq_true hz]
        rfl
      · exact iteF p
    have S9 : Same H8 H9 := fun b o e => p.1 b o (ne_of_none e nD4) e
    have eD4 := p.2
    clear p
    refine ⟨Nat.zero_le _, fun D5 nD5 => ?_⟩
    have S10 := S9.trans (new_same (o := .lst []) nD5)
    refine ⟨.list [], .list [], .lst (SqL.of ((new_same (o := .lst []) nD5) _ _ eD4)) .nil, .lst (SqL.of upd_same) .nil, rfl, rfl, ?_⟩
    exact q _ (((S24.trans S6).trans S8).trans S10)
end
end N7

set_option linter.all false
set_option maxRecDepth 100000
set_option maxHeartbeats 8000000
set_option pp.maxSteps 150
namespace N7
open PySem PySem.Spec PyProof.Rows L2 Gx Qp Qh
/-- a text, or none of it -/
def rRep1 : R2 := fun x y H Q => ∃ (z : Str) (b : Bool), x = .str z ∧ y = .int ((b2 b : Nat) : Int) ∧ 1 ≤ z.length ∧ z.length ≤ 100000 ∧ Q (.str (if b then z else Str.empty)) H
theorem op_rep1 {X : Cx} : OpR X (binaryOp .Mult) rRep1 := by
  intro pins s σ H x y v u Q I rx ry h
  obtain ⟨z, b, rfl, rfl, hz1, hz, q⟩ := h
  obtain ⟨t, rfl⟩ := rx
  obtain ⟨t', rfl⟩ := ry
  have hn : b2 b ≤ 1 := by cases b <;> decide
  refine PySem.P.mul_str ?_ ?_ ?_ ?_
  · rw [decide_eq_false (by omega), decide_eq_false (by omega)]
    rfl
  · intro h0 _ hh
    cases b with
    | false => exact absurd (show ((b2 false : Nat) : Int) < 1 by show (0 : Int) < 1; omega) h0
    | true =>
      have h3 : ((2 : Int) ^ 63 - 1) / 1 < (z.length : Int) := hh
      rw [Int.ediv_one] at h3
      omega
  · intro _ _
    rw [Int.toNat_natCast]
    unfold PySem.Builtin.Str.tooLong
    have : z.length * b2 b ≤ 100000 * 1 := Nat.mul_le_mul hz hn
    exact decide_eq_false (by rw [sizeLine_eq]; omega)
  · cases b with
    | false =>
      split
      · exact ⟨by show 0 ≤ sizeLine; exact Nat.zero_le _, .str Str.empty, H, I.tok _, ⟨_, rfl⟩, q⟩
      · rename_i h0
        exact absurd (show ((b2 false : Nat) : Int) < 1 by show (0 : Int) < 1; omega) h0
    | true =>
      split
      · rename_i h0
        exact absurd h0 (by simp [b2])
      · split
        · exact ⟨.str z, H, I, ⟨_, rfl⟩, q⟩
        · rename_i hc
          exact absurd hc (by simp [b2])
abbrev s_all_written : Stmt := topS 58
abbrev n_all_written : List Str := ["_law_box_here", "_law_lines_here", "_law_rows", "_law_kind", "_law_names_here", "_law_tree", "_law_text", "_law_deep"]
theorem sc_all_written : FnScope n_all_written ["_law_box_here", "_law_lines_here"] (defScope s_all_written) := ⟨rfl, rfl, rfl, by decide +kernel, rfl, by decide +kernel, by decide +kernel⟩
/-- a row's text, with parentheses -/
def RowTxt (q : LR) (x : Str) : Prop := (q.cond = none ∧ x = headL q) ∨ ∃ t z d, q.cond = some t ∧ Wr (lt t) z d ∧ d ≤ 6 ∧ z.length ≤ 1000 ∧ x = headL q ++ (" where " ++ z)
def spAllW : Sp := fun vs H Q _ => ∃ (p l : Addr) (us : List V) (rs : List LR) (m : Nat), vs = [.ref p, .ref l] ∧ BoxAt H p m ∧ m ≤ 9500 ∧ H l = some (.lst us) ∧ l ≠ p ∧ LsAt H us rs ∧ rs.length ≤ 4 ∧ (∀ q ∈ rs, LSz q ∧ ∀ t, q.cond = some t → dL (lt t) ≤ 6) ∧
  ∀ (xs : List Str) (H' : Hp), xs.length = rs.length → (∀ (i : Nat) (q : LR), rs[i]? = some q → ∃ x, xs[i]? = some x ∧ RowTxt q x) → BoxAt H' p (m + 83 * rs.length) → Kp p H H' → Q (.str (Txt.join "\n" xs)) H'
theorem wr_pos {t : LT} {z : Str} {d : Nat} (h : Wr t z d) (w : wfT t) : 1 ≤ z.length := by
  obtain ⟨ws, c, _, hn, rfl, hd⟩ := wr_words h w
  cases ws with
  | nil => exact absurd rfl hn
  | cons x r => exact Nat.le_trans (hd x (List.mem_cons_self ..)).2 (join_ge (List.mem_cons_self ..))
theorem rowT_len {q : LR} {x : Str} (s : LSz q) (h : RowTxt q x) : x.length ≤ 1070 := by
  have h1 := s.head_len
  rcases h with ⟨_, rfl⟩ | ⟨t, z, d, _, _, _, hz, rfl⟩
  · omega
  · rw [len_app, len_app, show (" where " : Str).length = 7 from by decide +kernel]
    omega
section
variable {P : Program} {w : World} {K : PySem.W.Frag} {mg : Str → Option Value} {base : Heap} {ft fw fpt fs : Addr}
theorem ok_all_written {f : Addr} {fd fds fdw : FuncData} (F : Fun K "_law_all_written" "_law_all_written" s_all_written f fd) (T : NmW mg K ft fw fpt fs)
    (G_shown : FnOk P w K mg base CX0 61 fs fds ["_law_tree"] (spShown 30)) (b_shown : Binds K fds ["_law_tree"] [])
    (G_written : FnOk P w K mg base CX0 62 fw fdw ["_law_box_here", "_law_tree", "_law_odds"] (spWritten 30)) (b_written : Binds K fdw ["_law_box_here", "_law_tree", "_law_odds"] []) : FnOk P w K mg base CX0 63 f fd ["_law_box_here", "_law_lines_here"] spAllW := by
  refine F.ok sc_all_written (fun vs H Q E h => ?_) (fun cdv A outer s H vs Q E hr h => ?_)
  · obtain ⟨p, l, us, rs, m, rfl, _⟩ := h
    rfl
  · obtain ⟨p, l, us, rs, m, rfl, hb, hm, hl, lp, hR, rl, hs, q⟩ := h
    have hu64 := hr.units
    have r61 := hr.mono (show 61 ≤ 62 by decide)
    refine ⟨_, (pss_cons (ps_set (i := 2) sc_all_written.nd rfl (.inl rfl) (pe_lst pa_nil))
      (pss_cons (ps_for PassesOwn.never rfl (pi_list (pv 1)) (pg_tup rfl (pgs_cons (pg_name (i := 3) sc_all_written.nd rfl (.inl rfl)) (pgs_cons (pg_name (i := 4) sc_all_written.nd rfl (.inl rfl)) (pgs_cons (pg_name (i := 5) sc_all_written.nd rfl (.inl rfl)) pgs_nil))))
        (C8.pss_cut (ps_asg (pe_ifExp (pt_notYes hu64 (pv 5) (pe_tup (pa_cons pe_str pa_nil))) (pe_call G_written hr rfl T.g__law_written T.k__law_written b_written .nil pass0 (pa_cons (pv 0) (pa_cons (pv 5) (pa_cons pe_int pa_nil)))) (pe_tup (pa_cons pe_str (pa_cons pe_int pa_nil)))) (pg_tup rfl (pgs_cons (pg_name (i := 6) sc_all_written.nd rfl (.inl rfl)) (pgs_cons (pg_name (i := 7) sc_all_written.nd rfl (.inl rfl)) pgs_nil))))
        (C8.pss_cut (ps_set (i := 6) sc_all_written.nd rfl (.inl rfl) (pe_ifExp (pt_cmpR op_lt (pv 7) pe_int (nomark _)) (pv 6) (pe_call G_shown r61 rfl T.g__law_shown T.k__law_shown b_shown .nil pass0 (pa_cons (pv 5) pa_nil))))
        (pss_one (ps_expr (pe_bm PySem.F.plainAttrs_list PySem.F.slot_list_append PySem.F.type_list_append mt_append (pv 2) (pa_cons (pe_op op_add_str (pe_op op_add_str (pe_op op_add_str (pe_op op_add_str pe_str (pv 3)) pe_str) (pe_join pe_str (pv 4))) (pe_op op_rep1 (pe_op op_add_str pe_str (pv 6)) (pe_callTy call_int1 (by rfl) T.n_int (by decide +kernel) (pa_cons (pe_cmpR op_ne (pv 6) pe_str (nomark _)) pa_nil)))) pa_nil)))))))
      (pss_one (ps_ret (pe_join pe_str (pv 2)))))), ?_⟩
    refine ⟨Nat.zero_le _, fun L nL => ?_⟩
    have S1 := new_same (o := .lst []) nL
    have eL : upd H L (.lst []) L = some (.lst []) := upd_same
    have hb1 := hb.mono S1
    have pL := hb.ne nL
    generalize upd H L (.lst []) = H1 at *
    have lL : l ≠ L := ne_of_none hl nL
    have hl1 := S1 _ _ hl
    refine ⟨_, rfl, l, rfl, ⟨_, SqL.of hl1⟩, ?_⟩
    refine for_it walk_list (fun i σ Hi => (∀ b o, b ≠ p → b ≠ L → H1 b = some o → Hi b = some o) ∧ ∃ (xs : List Str) (b3 b4 b5 b6 b7 : Option V), Hi L = some (.lst (xs.map V.str)) ∧ xs.length = i ∧ (∀ (k : Nat) (q : LR), (rs.take i)[k]? = some q → ∃ x, xs[k]? = some x ∧ RowTxt q x) ∧ BoxAt Hi p (m + 83 * i) ∧ σ = [some (.ref p), some (.ref l), some (.ref L), b3, b4, b5, b6, b7])
      ⟨fun b o _ _ e => e, [], none, none, none, none, none, eL, rfl, fun k q e => absurd e (by simp), hb1, rfl⟩ (fun i σ Hi _ p' => SqL.of (p'.1 _ _ lp lL hl1)) (fun j x σ H2 H3 hj p' y => ?_) (fun σ H2 p' => ?_)
    · obtain ⟨k2, xs, b3, b4, b5, b6, b7, eL2, xl, hx, hb2, rfl⟩ := p'
      obtain ⟨rfl, ex⟩ := y
      obtain ⟨r, er, lr⟩ := hR.get ex
      obtain ⟨sz, dp⟩ := hs r (List.mem_of_getElem? er)
      have jl : j < rs.length := (List.getElem?_eq_some_iff.mp er).1
      have t2 : ∀ a xs, H a = some (.tup xs) → H3 a = some (.tup xs) := fun a xs e => by
        obtain ⟨_, _, _, e9, _⟩ := hb
        exact k2 a _ (ne_of e e9 fun z => nomatch z) (ne_of (S1 _ _ e) eL fun z => nomatch z) (S1 _ _ e)
      obtain ⟨a, b, u, rfl, ea, eb, hcu⟩ := lr.mono t2
      generalize hmj : m + 83 * j = mj at *
      refine ⟨a, _, rfl, SqT.of ea, rfl, _, _, rfl, _, _, rfl, _, _, rfl, rfl, ?_⟩
      refine ⟨fun σ Hx => Kp p H3 Hx ∧ BoxAt Hx p (mj + 83) ∧ ∃ (z : Str) (d : Nat), (r.cond = none → z = "" ∧ d = 0) ∧ (∀ t, r.cond = some t → Wr (lt t) z d ∧ z.length ≤ BT (lt t)) ∧ σ = [some (.ref p), some (.ref l), some (.ref L), some (.str r.kind), some (.ref b), some u, some (.str z), some (.int (d : Nat))], ?_, ?_⟩
      · refine ⟨u, r.cond, rfl, hcu, fun t e => ⟨(sz.cn t e).1, by have := (sz.cn t e).2.1; omega⟩, fun H4 S4 => ?_⟩
        have hb4 := hb2.mono S4
        cases hc : r.cond with
        | none =>
          refine iteN rfl ?_
          refine ⟨(by show 2 ≤ sizeLine; rw [sizeLine_eq]; decide), fun a9 n9 => ?_⟩
          have S5 := new_same (o := .tup [.str "", .int 0]) n9
          exact ⟨a9, _, rfl, SqT.of upd_same, rfl, _, _, rfl, _, _, rfl, rfl, Kp.of (S4.trans S5), (hb4.mono S5).le (by omega), "", 0, fun _ => ⟨rfl, rfl⟩, fun t e => (nomatch e), rfl⟩
        | some t =>
          rw [hc] at hcu
          obtain ⟨w1, w2, w3⟩ := sz.cn t hc
          have nb := nn_BT t
          refine iteY rfl ?_
          refine ⟨_, rfl, _, rfl, p, u, t, 4, mj, rfl, hb4, DAt.mono (fun a xs e => S4 a _ e) hcu, w1, w2, by omega, by omega, by omega, fun v z d H5 hz hD hb5 k5 => ?_⟩
          obtain ⟨a9, rfl, ea9⟩ := hz
          refine ⟨a9, _, rfl, SqT.of ea9, rfl, _, _, rfl, _, _, rfl, rfl, (Kp.of S4).trans k5, hb5.le (by omega), z, d, fun e => (nomatch e), fun t' e => ?_, rfl⟩
          cases e
          exact ⟨hD.wr, hD.len⟩
      rintro σ Hx ⟨kx, hbx, z, d, h0, h1, rfl⟩
      refine ⟨fun σ Hy => Kp p H3 Hy ∧ BoxAt Hy p (mj + 83) ∧ ∃ z : Str, (r.cond = none → z = "") ∧ (∀ t, r.cond = some t → ∃ d, Wr (lt t) z d ∧ d ≤ 6 ∧ z.length ≤ 1000) ∧ σ = [some (.ref p), some (.ref l), some (.ref L), some (.str r.kind), some (.ref b), some u, some (.str z), some (.int (d : Nat))], ?_, ?_⟩
      · refine ⟨_, rfl, _, _, rfl, rfl, _, rfl, ite2 (fun c0 => ?_) (fun c0 => ?_)⟩
        · have d7 : d < 7 := by
            have := of_decide_eq_true c0
            omega
          refine ⟨_, rfl, kx, hbx, z, fun e => (h0 e).1, fun t e => ⟨d, (h1 t e).1, by omega, ?_⟩, rfl⟩
          have := (h1 t e).2
          have := (sz.cn t e).2.2
          omega
        · have d7 : ¬ d < 7 := fun z => c0 (decide_eq_true (by omega))
          cases hc : r.cond with
          | none =>
            have := (h0 hc).2
            omega
          | some t =>
            rw [hc] at hcu
            obtain ⟨w1, w2, w3⟩ := sz.cn t hc
            have sl := shL_len (wfD_lt w1)
            refine ⟨_, rfl, u, t, rfl, DAt.mono (kp_tup hb2 kx) hcu, w1, w2, by omega, fun H6 S6 => ?_⟩
            refine ⟨kx.trans (Kp.of S6), hbx.mono S6, shL (lt t), fun e => (nomatch e), fun t' e => ?_, rfl⟩
            cases e
            exact ⟨dL (lt t), wr_sh (wfD_lt w1), dp t hc, by omega⟩
      rintro σ Hy ⟨ky, hby, z2, g0, g1, rfl⟩
      have c5 : ("kind " : Str).length = 5 := by decide +kernel
      have c4 : (" of " : Str).length = 4 := by decide +kernel
      have c7 : (" where " : Str).length = 7 := by decide +kernel
      have kl := sz.kl
      have nf := sz.names_fit
      have hlen := sz.head_len
      have jl2 := Nat.le_trans (Qp.join_ub " " r.names) nf
      have eLy := ky _ _ (Ne.symm pL) eL2
      have z2l : z2.length ≤ 1000 := by
        cases hc : r.cond with
        | none => rw [g0 hc]; decide
        | some t => exact (g1 t hc).choose_spec.2.2
      refine ⟨_, rfl, .inl ⟨rfl, _, SqL.of eLy⟩, _, rfl, _, _, rfl, rfl, (by rw [c5, sizeLine_eq]; omega), _, _, rfl, rfl, (by rw [len_app, c5, c4, sizeLine_eq]; omega), ?_⟩
      refine ⟨⟨_, rfl⟩, _, rfl, _, b, r.names, rfl, rfl, .inr (SqT.of (kp_tup hb2 ky _ _ eb)), Nat.le_trans nf (by decide), ?_⟩
      rw [tjoin]
      refine ⟨_, _, rfl, rfl, (by rw [len_app, len_app, c5, c4, sizeLine_eq]; omega), ?_⟩
      refine ⟨_, rfl, _, _, rfl, rfl, (by rw [c7, sizeLine_eq]; omega), _, rfl, rfl, .inr ⟨_, rfl, ?_⟩⟩
      rw [b2_int]
      refine ⟨_, _, rfl, rfl, (by rw [len_app, c7]; omega), (by rw [len_app, c7]; omega), ?_⟩
      have e0 : ∀ y : Str, y ++ Str.empty = y := fun y => by
        show (⟨y.cps ++ #[]⟩ : Str) = y
        simp
      have el : (Str.empty : Str).length = 0 := rfl
      refine ⟨_, _, rfl, rfl, ?_, L, _, _, rfl, rfl, eLy, (by rw [List.length_map, xl, sizeLine_eq]; omega), fun b o bp bL e => (upd_ne bL).trans (ky b o bp (k2 b o bp bL e)), xs ++ [_], _, _, _, _, _, by rw [upd_same, List.map_append]; rfl, by rw [List.length_append, xl]; rfl, fun k q' e => ?_, ?_, rfl⟩
      · rw [sizeLine_eq]
        show (headL r).length + _ ≤ _
        split
        · rw [len_app, c7]
          omega
        · rw [el]
          omega
      · by_cases hk : k < xs.length
        · rw [take_snoc er, List.getElem?_append_left (by rw [List.length_take]; omega)] at e
          obtain ⟨x, ex2, hr2⟩ := hx k q' e
          exact ⟨x, by rw [List.getElem?_append_left hk]; exact ex2, hr2⟩
        · rw [take_snoc er] at e
          have hl2 := (List.getElem?_eq_some_iff.mp e).1
          rw [List.length_append, List.length_singleton, List.length_take] at hl2
          have ek : k = xs.length := by omega
          subst ek
          rw [xl, List.getElem?_append_right (by rw [List.length_take]; omega), List.length_take, Nat.min_eq_left (by omega), Nat.sub_self] at e
          cases e
          refine ⟨_, by rw [List.getElem?_append_right (Nat.le_refl _), Nat.sub_self]; rfl, ?_⟩
          cases hc : r.cond with
          | none =>
            have ez := g0 hc
            subst ez
            refine .inl ⟨hc, ?_⟩
            rw [if_neg (by rw [decide_eq_true rfl]; decide), e0]
            rfl
          | some t =>
            obtain ⟨d', w1, w2, w3⟩ := g1 t hc
            have zp := wr_pos w1 (wfD_lt (sz.cn t hc).1)
            have zn : z2 ≠ "" := fun e => by
              rw [e] at zp
              exact absurd zp (by decide)
            refine .inr ⟨t, z2, d', hc, w1, w2, w3, ?_⟩
            rw [if_pos (by rw [dec_str, decide_eq_false zn]; rfl)]
            rfl
      · obtain ⟨cc, sd, nn', eb9, rr⟩ := hby.le (show mj + 83 ≤ m + 83 * (j + 1) by omega)
        exact ⟨cc, sd, nn', (upd_ne pL).trans eb9, rr⟩
    · obtain ⟨k2, xs, b3, b4, b5, b6, b7, eL2, xl, hx, hb2, rfl⟩ := p'
      rw [hR.1] at xl hx hb2
      rw [List.take_length] at hx
      have sl := sum_le (b := 1070) (l := xs) fun z hz => by
        obtain ⟨i, hi, e⟩ := List.mem_iff_getElem.mp hz
        have e1 : rs[i]? = some (rs[i]'(by omega)) := List.getElem?_eq_getElem _
        obtain ⟨x, ex, hr2⟩ := hx i _ e1
        rw [List.getElem?_eq_getElem hi] at ex
        cases ex
        rw [← e]
        exact rowT_len (hs _ (List.getElem_mem _)).1 hr2
      refine ⟨⟨_, rfl⟩, _, rfl, _, L, xs, rfl, rfl, .inl (SqL.of eL2), ?_, ?_⟩
      · rw [show ("\n" : Str).length = 1 from by decide +kernel]
        omega
      · exact q xs H2 xl hx hb2 fun b o n e => k2 b o n (ne_of_none e nL) (S1 _ _ e)
end
end N7

set_option linter.all false
set_option maxRecDepth 100000
set_option maxHeartbeats 8000000
set_option pp.maxSteps 150
namespace N7
open PySem PySem.Spec PyProof.Rows L2 Gx Qp Qh
/-! ### what _law_names draws -/
abbrev s_names : Stmt := topS 45
abbrev n_names : List Str := ["_law_box_here", "_law_many_here", "_law_letters", "_law_first", "_law_stem", "_law_tail", "_law_found", "_law_k", "_law_name"]
theorem sc_names : FnScope n_names ["_law_box_here", "_law_many_here"] (defScope s_names) := ⟨rfl, rfl, rfl, by decide +kernel, rfl, by decide +kernel, by decide +kernel⟩
def NmOk (z : Str) : Prop := nameB z = true ∧ z.length ≤ 8 ∧ Asc z
def pre (k : Nat) : Str := cutS "qxzjvkwy" none (some ((1 + k : Nat) : Int))
def exs : List Str := ["any", "other", "where"]
theorem pre_ok : ∀ k, k < 8 → nameB (pre k) = true ∧ (pre k).length ≤ 8 ∧ (∀ c ∈ (pre k).cps.toList, c < 256) ∧ (pre k).length = k + 1 := by decide +kernel
def nsT : List (Str × Str) := [("", ""), ("", ""), ("where", ""), ("an", ""), ("", "ther"), ("kindofs", "")]
def nmS (st : Str × Str) (c : Nat) : Str := st.1 ++ ⟨#[97 + c]⟩ ++ st.2
theorem nm_ok : ∀ st ∈ nsT, ∀ c, c < 26 → (nmS st c ∈ exs ∨ nameB (nmS st c) = true) ∧ (nmS st c).length ≤ 8 ∧ (∀ x ∈ (nmS st c).cps.toList, x < 256) := by decide +kernel
theorem nm_ex : ∀ st ∈ nsT, (∀ c, c < 26 → nmS st c ∈ exs → nmS st c = "any") ∨ (∀ c, c < 26 → nmS st c ∈ exs → nmS st c = "other") := by decide +kernel
theorem nm_inj {st : Str × Str} {x y : Nat} (e : nmS st x = nmS st y) : x = y := by
  have h : ∀ c : Nat, (nmS st c).cps.toList = st.1.cps.toList ++ [97 + c] ++ st.2.cps.toList := fun c => by
    show ((st.1.cps ++ #[97 + c]) ++ st.2.cps).toList = _
    rw [Array.toList_append, Array.toList_append]
  have e1 : (nmS st x).cps.toList = (nmS st y).cps.toList := by rw [e]
  rw [h, h] at e1
  have e2 := List.append_cancel_left (List.append_cancel_right e1)
  have := (List.cons.inj e2).1
  omega
/-- few are dropped -/
theorem drop_one {e : Str} {f : Str → Bool} : ∀ {l : List Str}, l.Nodup → (∀ z ∈ l, f z = false → z = e) → l.length ≤ (l.filter f).length + 1
  | [], _, _ => Nat.zero_le _
  | x :: l, nd, h => by
    obtain ⟨n1, n2⟩ := List.nodup_cons.mp nd
    cases hx : f x with
    | true =>
      have ih := drop_one (l := l) n2 fun z hz => h z (List.mem_cons_of_mem _ hz)
      rw [List.filter_cons_of_pos hx, List.length_cons, List.length_cons]
      omega
    | false =>
      have xe := h x (List.mem_cons_self ..) hx
      have all : l.filter f = l := List.filter_eq_self.mpr fun z hz => by
        cases hz2 : f z with
        | true => rfl
        | false => exact absurd (xe.trans (h z (List.mem_cons_of_mem _ hz) hz2).symm) fun e => n1 (e ▸ hz)
      rw [List.filter_cons_of_neg (by rw [hx]; exact Bool.false_ne_true), all, List.length_cons]
      exact Nat.le_refl _
def spNms : Sp := fun vs H Q _ => ∃ (p : Addr) (m many : Nat), vs = [.ref p, .int (many : Nat)] ∧ BoxAt H p m ∧ m ≤ 9000 ∧ 4 ≤ many ∧ many ≤ 8 ∧
  ∀ (r : Addr) (zs : List Str) (H' : Hp), H r = none → H' r = some (.lst (zs.map V.str)) → 3 ≤ zs.length → zs.length ≤ 9 → (∀ z ∈ zs, NmOk z) → zs.Nodup → BoxAt H' p (m + 20) → Kp p H H' → Q (.ref r) H'
theorem letters_at : ∀ i, i < 26 → ("abcdefghijklmnopqrstuvwxyz" : Str).cps.toList[i]? = some (97 + i) := by decide +kernel
section
variable {P : Program} {w : World} {K : PySem.W.Frag} {mg : Str → Option Value} {base : Heap}
theorem ok_names {f ft fx : Addr} {fd fdt fdx : FuncData} (F : Fun K "_law_names" "_law_names" s_names f fd) (T : N7.NmM mg K ft fx) (G__law_take : FnOk P w K mg base CX0 2 ft fdt ["_law_box_here", "_law_many_here"] spTake) (b__law_take : Binds K fdt ["_law_box_here", "_law_many_here"] [])
    (G__law_mixed : FnOk P w K mg base CX0 2 fx fdx ["_law_box_here", "_law_items"] spMix) (b__law_mixed : Binds K fdx ["_law_box_here", "_law_items"] []) : FnOk P w K mg base CX0 3 f fd ["_law_box_here", "_law_many_here"] spNms := by
  refine F.ok sc_names (fun vs H Q E h => ?_) (fun cdv A outer s H vs Q E hr h => ?_)
  · obtain ⟨p, m, many, rfl, _⟩ := h
    rfl
  · obtain ⟨p, m, many, rfl, hb, hm, h4, h8, q⟩ := h
    refine ⟨_, (pss_cons (ps_asg (pe_tup (pa_cons pe_str (pa_cons (pe_call G__law_take hr rfl T.g__law_take T.k__law_take b__law_take .nil pass0 (pa_cons (pv 0) (pa_cons pe_int pa_nil))) pa_nil))) (pg_tup rfl (pgs_cons (pg_name (i := 2) sc_names.nd rfl (.inr rfl)) (pgs_cons (pg_name (i := 3) sc_names.nd rfl (.inr rfl)) pgs_nil))))
      (pss_cons (ps_if (pt_cmpR op_eq (pe_call G__law_take hr rfl T.g__law_take T.k__law_take b__law_take .nil pass0 (pa_cons (pv 0) (pa_cons pe_int pa_nil))) pe_int (nomark _)) (pss_one (ps_ret (pe_call G__law_mixed hr rfl T.g__law_mixed T.k__law_mixed b__law_mixed .nil pass0 (pa_cons (pv 0) (pa_cons (pe_lc (own := [("_law_k", 7)]) (g := gName 7) (tt := tYes) (te := tSl rSlS (tC (.str "qxzjvkwy")) (fun σ H Q => Q none H) (tPart (tOp (rI0 fun i j => .int (i + j)) (tVar 7) (tC (.int 1))))) rfl sc_names.nd (pi_range1 (by rfl) T.n_range (pa_cons (pv 1) pa_nil)) (blkOk_by (own := [("_law_k", 7)]) (N := n_names) (sc := defScope s_names) (by decide +kernel)) (fun _ _ _ _ _ => (pg_name (i := 7) sc_names.nd rfl (.inl rfl))) (fun _ _ _ _ _ => pts_nil) (fun _ _ _ _ _ => (pe_slice sl_str pe_str po_none (po_some (pe_op op_add (pv 7) pe_int))))) pa_nil))))) pss_nil)
      (pss_cons (ps_asg (pe_ix ix_list (pe_lst (pa_cons (pe_tup (pa_cons pe_str (pa_cons pe_str pa_nil))) (pa_cons (pe_tup (pa_cons pe_str (pa_cons pe_str pa_nil))) (pa_cons (pe_tup (pa_cons pe_str (pa_cons pe_str pa_nil))) (pa_cons (pe_tup (pa_cons pe_str (pa_cons pe_str pa_nil))) (pa_cons (pe_tup (pa_cons pe_str (pa_cons pe_str pa_nil))) (pa_cons (pe_tup (pa_cons pe_str (pa_cons pe_str pa_nil))) pa_nil))))))) (pe_call G__law_take hr rfl T.g__law_take T.k__law_take b__law_take .nil pass0 (pa_cons (pv 0) (pa_cons pe_int pa_nil))) (fun _ _ => rfl)) (pg_tup rfl (pgs_cons (pg_name (i := 4) sc_names.nd rfl (.inr rfl)) (pgs_cons (pg_name (i := 5) sc_names.nd rfl (.inr rfl)) pgs_nil))))
      (pss_cons (ps_setLc (i := 6) (own := [("_law_k", 7)]) (g := gName 7) (tt := tYes) rfl sc_names.nd rfl rfl (sw_true rfl rfl rfl (by decide +kernel)) (pi_range1 (by rfl) T.n_range (pa_cons (pe_op op_add (pv 1) pe_int) pa_nil)) (blkOk_by (own := [("_law_k", 7)]) (N := n_names) (sc := defScope s_names) (by decide +kernel)) (fun _ _ _ _ _ => (pg_name (i := 7) sc_names.nd rfl (.inl rfl))) (fun _ _ _ _ _ => pts_nil) (fun _ _ _ _ _ => (pe_op op_add_str (pe_op op_add_str (pv 4) (pe_ix ix_str (pv 2) (pe_op op_mod (pe_op op_add (pv 3) (pe_op op_mul pe_int (pv 7))) pe_int) (fun _ _ => rfl))) (pv 5))))
      (pss_one (ps_ret (pe_call G__law_mixed hr rfl T.g__law_mixed T.k__law_mixed b__law_mixed .nil pass0 (pa_cons (pv 0) (pa_cons (pe_slice sl_list (pe_lc (own := [("_law_name", 8)]) (g := gName 8) (tt := tTest (tOp (rIn K true) (tVar 8) (tTup (tCons (tC (.str "any")) (tCons (tC (.str "other")) (tCons (tC (.str "where")) tNil)))))) (te := tVar 8) rfl sc_names.nd (pi_list (pv 6)) (blkOk_by (own := [("_law_name", 8)]) (N := n_names) (sc := defScope s_names) (by decide +kernel)) (fun _ _ _ _ _ => (pg_name (i := 8) sc_names.nd rfl (.inl rfl))) (fun _ _ _ _ _ => (pts_one (pt_cmpR op_notIn_seq (pv 8) (pe_tup (pa_cons pe_str (pa_cons pe_str (pa_cons pe_str pa_nil)))) (by rfl)))) (fun _ _ _ _ _ => (pv 8))) po_none (po_some (pv 1))) pa_nil))))))))), ?_⟩
    have fin : ∀ (l : Addr) (zs : List Str) (H' : Hp) (m' : Nat), BoxAt H' p m' → m' ≤ m + 6 → Kp p H H' → H' l = some (.lst (zs.map V.str)) → 3 ≤ zs.length → zs.length ≤ 9 → (∀ z ∈ zs, NmOk z) → zs.Nodup →
        spMix [.ref p, .ref l] H' Q E0 := fun l zs H' m' hb' hm' k' el z3 z9 hc hnd =>
      ⟨p, l, zs, m', rfl, hb', el, fun z hz => (hc z hz).2.2, by omega, by omega, fun r ys H'' nr er ly my b'' k'' => q r ys H'' (by
        cases e : H r with
        | none => rfl
        | some o =>
          by_cases hp : r = p
          · exact absurd hp.symm (hb'.ne nr)
          · rw [k' r o hp e] at nr
            cases nr) er (by omega) (by omega) (fun y hy => hc y (my.mem_iff.mp hy)) (my.nodup_iff.mpr hnd) (b''.le (by omega)) (k'.trans k'')⟩
    refine ⟨_, rfl, p, 26, m, rfl, hb, by omega, by decide, by decide, fun d1 H1 d10 d11 hb1 k1 => ⟨(by show 2 ≤ sizeLine; rw [sizeLine_eq]; decide), fun t nt => ?_⟩⟩
    have S1 := new_same (o := .tup [.str "abcdefghijklmnopqrstuvwxyz", .int d1]) nt
    have et : upd H1 t (.tup [.str "abcdefghijklmnopqrstuvwxyz", .int d1]) t = some (.tup [.str "abcdefghijklmnopqrstuvwxyz", .int d1]) := upd_same
    refine ⟨t, _, rfl, SqT.of et, rfl, _, _, rfl, _, _, rfl, rfl, ?_⟩
    have hb1' := hb1.mono S1
    have K1 : Kp p H (upd H1 t (.tup [.str "abcdefghijklmnopqrstuvwxyz", .int d1])) := (Kp.eq k1).trans (Kp.of S1)
    generalize upd H1 t (.tup [.str "abcdefghijklmnopqrstuvwxyz", .int d1]) = H2 at *
    refine ⟨_, rfl, p, 4, _, rfl, hb1', by omega, by decide, by decide, fun d2 H3 d20 d21 hb3 k3 => ⟨rfl, _, rfl, ?_⟩⟩
    have K3 := K1.trans (Kp.eq k3)
    refine ite2 (fun _ => ?_) (fun _ => ?_)
    · refine ⟨_, rfl, _, rfl, (many : Nat), rfl, by omega, by omega, fun D nD => ?_⟩
      rw [Int.toNat_natCast]
      refine lc_range (lo := 0) (n := many) (fun i Hi => Same H3 Hi ∧ Hi D = some (.lst (((List.range i).map pre).map V.str)))
        ⟨new_same nD, upd_same⟩ (fun i Hi hi p' => ?_) (fun Hi p' => ?_)
      · obtain ⟨s5, ez⟩ := p'
        refine ⟨rfl, keep1' ?_⟩
        have e8 : ("qxzjvkwy" : Str).length ≤ sizeLine := by rw [sizeLine_eq]; decide +kernel
        refine ⟨_, rfl, _, _, rfl, rfl, _, rfl, _, rfl, e8, _, ez, ?_, fun b o e => (upd_ne (ne_of_none e nD)).trans (s5 _ _ e), ?_⟩
        · rw [List.length_map, List.length_map, List.length_range, sizeLine_eq]
          omega
        · rw [upd_same, List.range_succ, List.map_append, List.map_append]
          have ei : ((0 : Int) + (i : Nat)) + 1 = ((1 + i : Nat) : Int) := by omega
          show _ = some (HO.lst (_ ++ [V.str (cutS "qxzjvkwy" none (some ((1 + i : Nat) : Int)))]))
          rw [← ei]
      · obtain ⟨s5, ez⟩ := p'
        refine fin D ((List.range many).map pre) Hi _ (hb3.mono s5) (by omega) (K3.trans (Kp.of s5)) ez (by rw [List.length_map, List.length_range]; omega) (by rw [List.length_map, List.length_range]; omega) (fun z hz => ?_) ?_
        · obtain ⟨k, hk, rfl⟩ := List.mem_map.mp hz
          obtain ⟨x1, x2, x3, _⟩ := pre_ok k (by have := List.mem_range.mp hk; omega)
          exact ⟨x1, x2, x3⟩
        · refine List.pairwise_iff_getElem.mpr fun i j hi hj hij e => ?_
          rw [List.length_map, List.length_range] at hi hj
          rw [List.getElem_map, List.getElem_map, List.getElem_range, List.getElem_range] at e
          have e1 := (pre_ok i (by omega)).2.2.2
          have e2 := (pre_ok j (by omega)).2.2.2
          rw [e, e2] at e1
          omega
    · have two : ([V.non, V.non] : List V).length ≤ sizeLine := by rw [sizeLine_eq]; decide
      refine ⟨two, fun a1 n1 => ?_⟩
      have T1 := new_same (o := .tup [.str "", .str ""]) n1
      have y1 : upd H3 a1 (.tup [.str "", .str ""]) a1 = some (.tup [.str "", .str ""]) := upd_same
      generalize upd H3 a1 (.tup [.str "", .str ""]) = G1 at *
      refine ⟨two, fun a2 n2 => ?_⟩
      have T2 := new_same (o := .tup [.str "", .str ""]) n2
      have y2 : upd G1 a2 (.tup [.str "", .str ""]) a2 = some (.tup [.str "", .str ""]) := upd_same
      generalize upd G1 a2 (.tup [.str "", .str ""]) = G2 at *
      refine ⟨two, fun a3 n3 => ?_⟩
      have T3 := new_same (o := .tup [.str "where", .str ""]) n3
      have y3 : upd G2 a3 (.tup [.str "where", .str ""]) a3 = some (.tup [.str "where", .str ""]) := upd_same
      generalize upd G2 a3 (.tup [.str "where", .str ""]) = G3 at *
      refine ⟨two, fun a4 n4 => ?_⟩
      have T4 := new_same (o := .tup [.str "an", .str ""]) n4
      have y4 : upd G3 a4 (.tup [.str "an", .str ""]) a4 = some (.tup [.str "an", .str ""]) := upd_same
      generalize upd G3 a4 (.tup [.str "an", .str ""]) = G4 at *
      refine ⟨two, fun a5 n5 => ?_⟩
      have T5 := new_same (o := .tup [.str "", .str "ther"]) n5
      have y5 : upd G4 a5 (.tup [.str "", .str "ther"]) a5 = some (.tup [.str "", .str "ther"]) := upd_same
      generalize upd G4 a5 (.tup [.str "", .str "ther"]) = G5 at *
      refine ⟨two, fun a6 n6 => ?_⟩
      have T6 := new_same (o := .tup [.str "kindofs", .str ""]) n6
      have y6 : upd G5 a6 (.tup [.str "kindofs", .str ""]) a6 = some (.tup [.str "kindofs", .str ""]) := upd_same
      generalize upd G5 a6 (.tup [.str "kindofs", .str ""]) = G6 at *
      refine ⟨(by show 6 ≤ sizeLine; rw [sizeLine_eq]; decide), fun l7 n7 => ?_⟩
      have T7 := new_same (o := .lst [.ref a1, .ref a2, .ref a3, .ref a4, .ref a5, .ref a6]) n7
      have y7 : upd G6 l7 (.lst [.ref a1, .ref a2, .ref a3, .ref a4, .ref a5, .ref a6]) l7 = some (.lst [.ref a1, .ref a2, .ref a3, .ref a4, .ref a5, .ref a6]) := upd_same
      have hb6 := hb3.mono (T1.trans (T2.trans (T3.trans (T4.trans (T5.trans T6)))))
      have pl7 := hb6.ne n7
      have hb7 := hb6.mono T7
      have U67 := T6.trans T7
      have U57 := T5.trans U67
      have U47 := T4.trans U57
      have U37 := T3.trans U47
      have U27 := T2.trans U37
      have U17 := T1.trans U27
      generalize upd G6 l7 (.lst [.ref a1, .ref a2, .ref a3, .ref a4, .ref a5, .ref a6]) = G7 at *
      refine ⟨_, rfl, p, 6, _, rfl, hb7, by omega, by decide, by decide, fun d5 H5 d50 d51 hb5 k5 => ?_⟩
      have K5 : Kp p H H5 := K3.trans ((Kp.of U17).trans (Kp.eq k5))
      have kt := kp_tup hb7 (Kp.eq k5)
      obtain ⟨ai, st, hst, eat, elj⟩ : ∃ (ai : Addr) (st : Str × Str), st ∈ nsT ∧ H5 ai = some (.tup [.str st.1, .str st.2]) ∧ atI [V.ref a1, V.ref a2, V.ref a3, V.ref a4, V.ref a5, V.ref a6] d5 = some (.ref ai) := by
        have hc : d5 = ((0 : Nat) : Int) ∨ d5 = ((1 : Nat) : Int) ∨ d5 = ((2 : Nat) : Int) ∨ d5 = ((3 : Nat) : Int) ∨ d5 = ((4 : Nat) : Int) ∨ d5 = ((5 : Nat) : Int) := by omega
        rcases hc with rfl | rfl | rfl | rfl | rfl | rfl
        · exact ⟨a1, ("", ""), by decide +kernel, kt _ _ (U27 _ _ y1), atI_nat (j := 0) rfl⟩
        · exact ⟨a2, ("", ""), by decide +kernel, kt _ _ (U37 _ _ y2), atI_nat (j := 1) rfl⟩
        · exact ⟨a3, ("where", ""), by decide +kernel, kt _ _ (U47 _ _ y3), atI_nat (j := 2) rfl⟩
        · exact ⟨a4, ("an", ""), by decide +kernel, kt _ _ (U57 _ _ y4), atI_nat (j := 3) rfl⟩
        · exact ⟨a5, ("", "ther"), by decide +kernel, kt _ _ (U67 _ _ y5), atI_nat (j := 4) rfl⟩
        · exact ⟨a6, ("kindofs", ""), by decide +kernel, kt _ _ (T7 _ _ y6), atI_nat (j := 5) rfl⟩
      refine ⟨l7, _, _, _, rfl, rfl, SqL.of ((k5 l7 (Ne.symm pl7)).trans y7), elj, ?_⟩
      refine ⟨ai, _, rfl, SqT.of eat, rfl, _, _, rfl, _, _, rfl, rfl, ?_⟩
      obtain ⟨a, rfl⟩ : ∃ a : Nat, d1 = (a : Int) := ⟨d1.toNat, by omega⟩
      refine ⟨_, rfl, _, _, rfl, rfl, (many + 1 : Nat), (by show [V.int ((many : Int) + 1)] = _; rfl), by omega, by omega, fun D nD => ?_⟩
      rw [Int.toNat_natCast]
      have sl := (by decide +kernel : ∀ x ∈ nsT, x.1.length ≤ 7 ∧ x.2.length ≤ 4) st hst
      refine lc_range (lo := 0) (n := many + 1) (fun i Hi => Same H5 Hi ∧ Hi D = some (.lst (((List.range i).map fun k => nmS st ((a + 7 * k) % 26)).map V.str)))
        ⟨new_same nD, upd_same⟩ (fun i Hi hi p' => ?_) (fun Hi p' => ?_)
      · obtain ⟨s5, ez⟩ := p'
        refine ⟨rfl, keep1' ?_⟩
        refine ⟨_, rfl, _, rfl, _, rfl, _, rfl, _, _, rfl, rfl, .inl ⟨by decide, by decide⟩, _, _, rfl, rfl, _, _, rfl, rfl, (by show (0 : Int) < 26; decide), ?_⟩
        have ei : ((a : Nat) + 7 * (0 + (i : Nat)) : Int) % 26 = (((a + 7 * i) % 26 : Nat) : Int) := by omega
        refine ⟨_, _, 97 + (a + 7 * i) % 26, rfl, rfl, (by rw [sizeLine_eq]; decide +kernel), (by rw [ei]; exact atI_nat (letters_at _ (Nat.mod_lt _ (by decide)))), _, _, rfl, rfl, (by show _ + 1 ≤ _; rw [sizeLine_eq]; omega), ?_⟩
        refine ⟨_, rfl, _, _, rfl, rfl, (by rw [len_app]; show _ + 1 + _ ≤ _; rw [sizeLine_eq]; omega), _, ez, (by rw [List.length_map, List.length_map, List.length_range, sizeLine_eq]; omega), fun b o e => (upd_ne (ne_of_none e nD)).trans (s5 _ _ e), ?_⟩
        rw [upd_same, List.range_succ, List.map_append, List.map_append]
        rfl
      · obtain ⟨s5, ez⟩ := p'
        generalize hzs : (List.range (many + 1)).map (fun k => nmS st ((a + 7 * k) % 26)) = zs at *
        have lzs : zs.length = many + 1 := by rw [← hzs, List.length_map, List.length_range]
        have zin : ∀ z ∈ zs, ∃ c, c < 26 ∧ z = nmS st c := fun z hz => by
          rw [← hzs] at hz
          obtain ⟨k, _, rfl⟩ := List.mem_map.mp hz
          exact ⟨_, Nat.mod_lt _ (by decide), rfl⟩
        have znd : zs.Nodup := by
          rw [← hzs]
          refine List.pairwise_iff_getElem.mpr fun i j hi hj hij e => ?_
          rw [List.length_map, List.length_range] at hi hj
          rw [List.getElem_map, List.getElem_map, List.getElem_range, List.getElem_range] at e
          have := nm_inj e
          omega
        have hbi := hb5.mono s5
        refine ⟨_, rfl, _, rfl, D, rfl, ⟨_, SqL.of ez⟩, fun D2 nD2 => ?_⟩
        have DD : D ≠ D2 := ne_of_none ez nD2
        refine lc_it walk_list (fun i Hj => (∀ b o, b ≠ D2 → Hi b = some o → Hj b = some o) ∧ Hj D2 = some (.lst (((zs.take i).filter fun z => !decide (z ∈ exs)).map V.str)))
          ⟨fun b o x e => by rw [upd_ne x]; exact e, upd_same⟩ (fun i Hj _ p' => SqL.of (p'.1 _ _ DD ez)) (fun i x Hj Hk hil p' y => ?_) (fun H6 p' => ?_)
        · obtain ⟨rfl, ex⟩ := y
          obtain ⟨z, ez2, rfl⟩ := map_get ex
          refine ⟨rfl, ?_⟩
          refine ⟨_, rfl, (by show 3 ≤ sizeLine; rw [sizeLine_eq]; decide), fun p1 n1 => ⟨p1, _, rfl, .inr (SqT.of upd_same), rfl, by decide, _, rfl, ?_⟩⟩
          have S9 := new_same (o := .tup [.str "any", .str "other", .str "where"]) n1
          have ein : inV (.str z) [.str "any", .str "other", .str "where"] = decide (z ∈ exs) := in_l z ["any", "other", "where"]
          have eD9 := S9 _ _ p'.2
          have kD9 : ∀ b o, b ≠ D2 → Hi b = some o → upd Hk p1 (.tup [.str "any", .str "other", .str "where"]) b = some o := fun b o x e => S9 _ _ (p'.1 b o x e)
          generalize upd Hk p1 (.tup [.str "any", .str "other", .str "where"]) = H9 at *
          refine ite2 (fun h0 => ?_) (fun h0 => ?_)
          · have h1 : (!inV (.str z) [.str "any", .str "other", .str "where"]) = true := h0
            rw [ein] at h1
            have h2 := List.length_filter_le (fun z => !decide (z ∈ exs)) (zs.take i)
            have h3 : (zs.take i).length ≤ zs.length := List.length_take_le' ..
            refine ⟨_, rfl, _, eD9, (by rw [List.length_map, sizeLine_eq]; omega), fun b o x e => (upd_ne x).trans (kD9 b o x e), ?_⟩
            rw [upd_same, take_snoc ez2, List.filter_append, List.filter_cons_of_pos (p := fun z => !decide (z ∈ exs)) h1, List.map_append]
            rfl
          · have h1 : ¬ (!inV (.str z) [.str "any", .str "other", .str "where"]) = true := h0
            rw [ein] at h1
            refine ⟨kD9, ?_⟩
            rw [take_snoc ez2, List.filter_append, List.filter_cons_of_neg (p := fun z => !decide (z ∈ exs)) h1, List.filter_nil, List.append_nil]
            exact eD9
        · have eD := p'.2
          rw [List.length_map, List.take_length] at eD
          have S6 : Same Hi H6 := fun b o e => p'.1 b o (ne_of_none e nD2) e
          clear p'
          have hdrop : zs.length ≤ (zs.filter fun z => !decide (z ∈ exs)).length + 1 := by
            rcases nm_ex st hst with h | h
            · refine drop_one (e := "any") znd fun z hz hf => ?_
              obtain ⟨c, hc, rfl⟩ := zin z hz
              exact h c hc (by simpa using hf)
            · refine drop_one (e := "other") znd fun z hz hf => ?_
              obtain ⟨c, hc, rfl⟩ := zin z hz
              exact h c hc (by simpa using hf)
          have hle := List.length_filter_le (fun z => !decide (z ∈ exs)) zs
          generalize hys : zs.filter (fun z => !decide (z ∈ exs)) = ys at *
          have yok : ∀ z ∈ ys, NmOk z := fun z hz => by
            rw [← hys] at hz
            obtain ⟨h1, h2⟩ := List.mem_filter.mp hz
            obtain ⟨c, hc, rfl⟩ := zin z h1
            obtain ⟨g1, g2, g3⟩ := nm_ok st hst c hc
            exact ⟨g1.resolve_left (by simpa using h2), g2, g3⟩
          have ynd : ys.Nodup := by
            rw [← hys]
            exact znd.filter _
          refine ⟨_, rfl, _, rfl, D2, _, rfl, SqL.of eD, fun l9 n9 => ?_⟩
          have ecut : cutV (ys.map V.str) none (some (many : Int)) = (ys.take many).map V.str := by
            rw [cut_take _ _ (by rw [List.length_map]; omega), List.map_take]
          rw [ecut]
          have S9 := S6.trans (new_same (o := .lst ((ys.take many).map V.str)) n9)
          refine fin l9 (ys.take many) _ _ (hbi.mono S9) (by omega) (K5.trans (Kp.of (s5.trans S9))) upd_same (by rw [List.length_take]; omega) (by rw [List.length_take]; omega) (fun z hz => yok z (List.mem_of_mem_take hz)) ((List.take_sublist _ _).nodup ynd)
end
end N7

set_option linter.all false
set_option maxRecDepth 100000
set_option maxHeartbeats 8000000
set_option pp.maxSteps 200
namespace N7
open PySem PySem.Spec PyProof.Rows L2 Gx Qp Qh
/-! what the law writes is what the program reads -/
def Sg (x : Str) : Prop := ∀ c ∈ x.cps.toList, 40 ≤ c ∧ c < 123
instance (x : Str) : Decidable (Sg x) := inferInstanceAs (Decidable (∀ c ∈ x.cps.toList, 40 ≤ c ∧ c < 123))
theorem Sg.asc {x : Str} (h : Sg x) : Asc x := fun c hc => by have := h c hc; omega
theorem Sg.wd {x : Str} (h : Sg x) (k : 1 ≤ x.length) : Wd x := ⟨fun z => by have := h _ z; omega, k⟩
theorem Sg.nl {x : Str} (h : Sg x) : 10 ∉ x.cps.toList := fun z => by have := h _ z; omega
theorem sg_kind {k : Str} (h : kindB k = true) : Sg k := by
  unfold kindB consB at h
  simp only [Bool.and_eq_true, decide_eq_true_eq, List.all_eq_true] at h
  exact fun c hc => by have := h.2.2 c hc; omega
theorem sg_name {k : Str} (h : nameB k = true) : Sg k ∧ 1 ≤ k.length := by
  unfold nameB at h
  simp only [Bool.and_eq_true, decide_eq_true_eq, List.all_eq_true] at h
  exact ⟨fun c hc => by have := h.2.2.1 c hc; omega, h.1⟩
theorem sg_at {ws : List Str} (h : AtWs ws) : ∀ x ∈ ws, Sg x := fun x hx => by
  by_cases hk : kindB x = true
  · exact sg_kind hk
  · have hf := form_word h.1 (List.mem_map_of_mem hx : rep x ∈ ws.map rep)
    unfold rep at hf
    rw [if_neg hk] at hf
    rcases hf with e | e
    · rw [e]
      decide +kernel
    · exact (by decide +kernel : ∀ w ∈ lits, Sg w) x e
theorem sg_cl {ws : List Str} (h : ∀ x ∈ ws, Sg x) : ∀ x ∈ clW ws, Sg x := fun x hx => by
  unfold clW at hx
  rcases List.mem_cons.mp hx with rfl | hx
  · decide +kernel
  · rcases List.mem_append.mp hx with hx | hx
    · exact h x hx
    · rw [List.mem_singleton.mp hx]
      decide +kernel
theorem sg_cz {j : Str} {t : LT} {ws : List Str} {d : Nat} {c : Bool} (h : ∀ x ∈ ws, Sg x) : ∀ x ∈ (czW j t ws d c).1, Sg x := by
  unfold czW
  split
  · exact sg_cl h
  · exact h
theorem sg_wr : ∀ {t : LT} {ws : List Str} {d : Nat} {c : Bool}, WrW t ws d c → wfT t → ∀ x ∈ ws, Sg x
  | _, _, _, _, .at, w => sg_at w
  | _, _, _, _, .un (h := h) hw _, w => fun x hx => by
    rcases List.mem_cons.mp hx with e | hx
    · rw [e, List.mem_singleton.mp w.1]
      decide +kernel
    · exact sg_wr hw w.2 x hx
  | _, _, _, _, .unc (h := h) hw _, w => fun x hx => by
    rcases List.mem_cons.mp hx with e | hx
    · rw [e, List.mem_singleton.mp w.1]
      decide +kernel
    · exact sg_cl (sg_wr hw w.2) x hx
  | _, _, _, _, .bi (j := j) ha hb, w => fun x hx => by
    rcases List.mem_append.mp hx with hx | hx
    · exact sg_cz (sg_wr ha w.2.1) x hx
    · rcases List.mem_cons.mp hx with e | hx
      · rw [e]
        exact (by decide +kernel : ∀ j ∈ Qp.jts, Sg j) j w.1
      · exact sg_cz (sg_wr hb w.2.2) x hx
  | _, _, _, _, .cl hw, w => sg_cl (sg_wr hw w)
/-! the kinds that are used -/
def kinT (caps : List Str) : LT → Prop
  | .at ws => ∀ x ∈ ws, kindB x = true → x ∈ caps
  | .un _ t => kinT caps t
  | .bi _ a b => kinT caps a ∧ kinT caps b
theorem no_lit {x : Str} {P : Prop} (h : x ∈ lits) (k : kindB x = true) : P := by
  rw [lit_no h] at k
  cases k
theorem kin_lt {caps : List Str} : ∀ {t : DT}, wfD t → kinD caps t → kinT caps (lt t)
  | .at (.one h c), w, k => fun x hx hk => by
    rcases List.mem_cons.mp hx with e | hx
    · exact no_lit ((by decide +kernel : ∀ x ∈ ones, x ∈ lits) h w.1) (e ▸ hk)
    · rw [List.mem_singleton.mp hx]
      exact k
  | .at (.two j a b), w, k => fun x hx hk => by
    rcases List.mem_cons.mp hx with e | hx
    · exact e ▸ k.1
    · rcases List.mem_cons.mp hx with e | hx
      · exact no_lit ((by decide +kernel : ∀ x ∈ twos, x ∈ lits) j w.1) (e ▸ hk)
      · rw [List.mem_singleton.mp hx]
        exact k.2
  | .at (.cnt c m n), w, k => fun x hx hk => by
    have hm : dig m ∈ lits := by
      rcases w.2.1 with rfl | rfl <;> decide +kernel
    have hn : dig n ∈ lits := by
      have h1 := w.2.2
      have h2 := w.2.1
      have h3 : n = 0 ∨ n = 1 ∨ n = 2 := by omega
      rcases h3 with rfl | rfl | rfl <;> decide +kernel
    have hx' : x ∈ ([("count" : Str), c, "mod", dig m, "is", dig n] : List Str) := hx
    simp only [List.mem_cons, List.not_mem_nil, or_false] at hx'
    rcases hx' with e | e | e | e | e | e
    · exact no_lit (show ("count" : Str) ∈ lits by decide +kernel) (e ▸ hk)
    · exact e ▸ k
    · exact no_lit (show ("mod" : Str) ∈ lits by decide +kernel) (e ▸ hk)
    · exact no_lit hm (e ▸ hk)
    · exact no_lit (show ("is" : Str) ∈ lits by decide +kernel) (e ▸ hk)
    · exact no_lit hn (e ▸ hk)
  | .un t, w, k => kin_lt (t := t) w k
  | .bi j a b, w, k => ⟨kin_lt w.2.1 k.1, kin_lt w.2.2 k.2⟩
def UsedIn (caps ws : List Str) : Prop := ∀ x ∈ ws, kindB x = true → x ∈ caps
theorem used_cl {caps ws : List Str} (h : UsedIn caps ws) : UsedIn caps (clW ws) := fun x hx hk => by
  unfold clW at hx
  rcases List.mem_cons.mp hx with e | hx
  · rw [e] at hk
    exact absurd hk (by decide +kernel)
  · rcases List.mem_append.mp hx with hx | hx
    · exact h x hx hk
    · rw [List.mem_singleton.mp hx] at hk
      exact absurd hk (by decide +kernel)
theorem used_cz {caps : List Str} {j : Str} {t : LT} {ws : List Str} {d : Nat} {c : Bool} (h : UsedIn caps ws) : UsedIn caps (czW j t ws d c).1 := by
  unfold czW
  split
  · exact used_cl h
  · exact h
theorem used_wr {caps : List Str} : ∀ {t : LT} {ws : List Str} {d : Nat} {c : Bool}, WrW t ws d c → wfT t → kinT caps t → UsedIn caps ws
  | _, _, _, _, .at, _, k => k
  | _, _, _, _, .un (h := h) hw _, w, k => fun x hx hk => by
    rcases List.mem_cons.mp hx with e | hx
    · rw [e, List.mem_singleton.mp w.1] at hk
      exact absurd hk (by decide +kernel)
    · exact used_wr hw w.2 k x hx hk
  | _, _, _, _, .unc (h := h) hw _, w, k => fun x hx hk => by
    rcases List.mem_cons.mp hx with e | hx
    · rw [e, List.mem_singleton.mp w.1] at hk
      exact absurd hk (by decide +kernel)
    · exact used_cl (used_wr hw w.2 k) x hx hk
  | _, _, _, _, .bi (j := j) ha hb, w, k => fun x hx hk => by
    rcases List.mem_append.mp hx with hx | hx
    · exact used_cz (used_wr ha w.2.1 k.1) x hx hk
    · rcases List.mem_cons.mp hx with e | hx
      · rw [e] at hk
        exact absurd hk (Bool.eq_false_iff.mp ((by decide +kernel : ∀ j ∈ Qp.jts, kindB j = false) j w.1))
      · exact used_cz (used_wr hb w.2.2 k.2) x hx hk
  | _, _, _, _, .cl hw, w, k => used_cl (used_wr hw w k)
/-! how many atoms -/
theorem nA_lt : ∀ t : DT, nA (lt t) = nD t
  | .at _ => rfl
  | .un t => nA_lt t
  | .bi _ a b => by
    show nA (lt a) + nA (lt b) = nD a + nD b
    rw [nA_lt a, nA_lt b]
theorem atss_app : ∀ a b : List Pt, atss (a ++ b) = atss a ++ atss b
  | [], _ => rfl
  | p :: a, b => by
    show ats p ++ atss (a ++ b) = (ats p ++ atss a) ++ atss b
    rw [atss_app a b, List.append_assoc]
theorem atss_fl (j : Str) (p : Pt) : atss (fl j p) = ats p := by
  have one : atss [p] = ats p := List.append_nil _
  cases p with
  | atom ws => exact one
  | un h p => exact one
  | jo k ps =>
    show atss (if k = j then ps else [.jo k ps]) = _
    split
    · rfl
    · exact one
theorem ats_nrm : ∀ {t : LT}, wfT t → (ats (nrm t)).length = nA t
  | .at _, _ => rfl
  | .un h t, w => by
    show ((if h ∈ Qp.out then _ else []) ++ ats (nrm t)).length = nA t
    rw [if_neg ((by decide +kernel : ∀ h ∈ khs, h ∉ Qp.out) h w.1), List.nil_append]
    exact ats_nrm w.2
  | .bi j a b, w => by
    show (atss (fl j (nrm a) ++ fl j (nrm b))).length = nA a + nA b
    rw [atss_app, atss_fl, atss_fl, List.length_append, ats_nrm w.2.1, ats_nrm w.2.2]
/-! rows -/
theorem join_no : ∀ {ys : List Str}, (∀ y ∈ ys, 10 ∉ y.cps.toList) → 10 ∉ (PySem.Str.join " " ys).cps.toList
  | [], _ => by decide +kernel
  | [a], h => h a (List.mem_singleton.mpr rfl)
  | a :: b :: r, h => by
    show 10 ∉ TL.tl (a ++ " " ++ PySem.Str.join " " (b :: r))
    rw [TL.tl_append, TL.tl_append]
    intro z
    rcases List.mem_append.mp z with z | z
    · rcases List.mem_append.mp z with z | z
      · exact h a (List.mem_cons_self ..) z
      · exact absurd z (by decide +kernel)
    · exact join_no (ys := b :: r) (fun y hy => h y (List.mem_cons_of_mem _ hy)) z
theorem head_join {k : Str} {ns : List Str} (hn : ns ≠ []) : Str.join " " (("kind" : Str) :: k :: ("of" : Str) :: ns) = "kind " ++ k ++ " of " ++ Str.join " " ns := by
  rw [join_cons " " "kind" (List.cons_ne_nil _ _), join_cons " " k (List.cons_ne_nil _ _), join_cons " " "of" hn]
  rw [show ("kind " : Str) = "kind" ++ " " from by decide +kernel, show (" of " : Str) = " " ++ ("of" ++ " ") from by decide +kernel]
  simp only [Str.append_assoc]
theorem wtW_le : ∀ ws : List Str, wtW ws ≤ 14 * (PySem.Str.join " " ws).length + 12
  | [] => Nat.zero_le _
  | [a] => by
    show 2 * (a.length + 6) + 0 ≤ 14 * a.length + 12
    omega
  | a :: b :: r => by
    have h := wtW_le (b :: r)
    show 2 * (a.length + 6) + wtW (b :: r) ≤ 14 * (a ++ " " ++ PySem.Str.join " " (b :: r)).length + 12
    rw [len_app, len_app, sp1]
    omega
/-- rows as the law draws them -/
structure Gd (rs : List LR) : Prop where
  l1 : 1 ≤ rs.length
  l4 : rs.length ≤ 4
  sz : ∀ q ∈ rs, LSz q
  dp : ∀ q ∈ rs, ∀ t, q.cond = some t → dL (lt t) ≤ 6
  kd : ∀ q ∈ rs, CapOk q.kind
  nm : ∀ q ∈ rs, q.names ≠ [] ∧ q.names.Nodup ∧ ∀ z ∈ q.names, NmOk z ∨ z = "other" ∨ z = "any"
  a8 : ∀ q ∈ rs, ∀ t, q.cond = some t → nD t ≤ 8 ∧ kinD (rs.map LR.kind) t
  nd : (rs.map LR.kind).Nodup
theorem place_ok {z : Str} (h : NmOk z ∨ z = "other" ∨ z = "any") : z.length ≤ 8 ∧ Asc z ∧ placeB z = true ∧ Sg z ∧ 1 ≤ z.length := by
  rcases h with h | rfl | rfl
  · obtain ⟨h1, h2⟩ := sg_name h.1
    refine ⟨h.2.1, h.2.2, ?_, h1, h2⟩
    unfold placeB
    rw [h.1]
    rfl
  · exact ⟨by decide +kernel, by decide +kernel, by decide +kernel, by decide +kernel, by decide +kernel⟩
  · exact ⟨by decide +kernel, by decide +kernel, by decide +kernel, by decide +kernel, by decide +kernel⟩
theorem cap_pos {z : Str} (h : CapOk z) : kindB z = true ∧ Sg z ∧ 1 ≤ z.length := by
  have h1 : kindB z = true := h.2.2
  exact ⟨h1, sg_kind h1, (wd_kind h1).2⟩
structure RowOf (caps : List Str) (q : LR) (x : Str) (r : Row) : Prop where
  kind : r.kind = q.kind
  names : r.names = q.names
  line : lineS r = lineL q
  words : wordsL x = rowW r
  ok : RowR r
  xl : x.length ≤ 4000
  nl : 10 ∉ x.cps.toList
  xp : 1 ≤ x.length
  used : UsedIn caps r.words
theorem app_nil (x : Str) : x ++ ("" : Str) = x := by
  show (⟨x.cps ++ #[]⟩ : Str) = x
  simp
theorem row_of {rs : List LR} (g : Gd rs) {q : LR} (hq : q ∈ rs) {x : Str} (hx : RowTxt q x) : ∃ r, RowOf (rs.map LR.kind) q x r := by
  obtain ⟨n0, nd, nm⟩ := g.nm q hq
  have sz := g.sz q hq
  have kd := g.kd q hq
  obtain ⟨kk, ksg, kp⟩ := cap_pos kd
  have xl := rowT_len sz hx
  have hd4 : ∀ z ∈ ("kind" : Str) :: q.kind :: ("of" : Str) :: q.names, Sg z ∧ 1 ≤ z.length := fun z hz => by
    rcases List.mem_cons.mp hz with rfl | hz
    · exact ⟨by decide +kernel, by decide +kernel⟩
    · rcases List.mem_cons.mp hz with rfl | hz
      · exact ⟨ksg, kp⟩
      · rcases List.mem_cons.mp hz with rfl | hz
        · exact ⟨by decide +kernel, by decide +kernel⟩
        · exact (place_ok (nm z hz)).2.2.2
  rcases hx with ⟨hc, rfl⟩ | ⟨t, z, d, hc, hw, hd, hz, rfl⟩
  · have ej : Str.join " " (rowW ⟨q.kind, q.names, [], none⟩) = headL q := by
      show Str.join " " (("kind" : Str) :: q.kind :: ("of" : Str) :: (q.names ++ [])) = _
      rw [List.append_nil, head_join n0]
      rfl
    have hall : ∀ z ∈ rowW ⟨q.kind, q.names, [], none⟩, Sg z ∧ 1 ≤ z.length := fun z hz => hd4 z (by
      have hz' : z ∈ ("kind" : Str) :: q.kind :: ("of" : Str) :: (q.names ++ []) := hz
      rwa [List.append_nil] at hz')
    refine ⟨⟨q.kind, q.names, [], none⟩, rfl, rfl, ?_, ?_, ⟨⟨kd.1, kd.2.1, kk, sz.nl, fun z hz => ?_, Nat.zero_le _, fun z hz => absurd hz (by simp), trivial, (show cntW [] katw ≤ 8 by decide +kernel), (show depthW [] ≤ 6 by decide +kernel), fun t e => (nomatch e), fun _ => rfl⟩, n0, nd, fun t e => (nomatch e), Nat.zero_le _⟩, by omega, ?_, ?_, fun z hz => absurd hz (by simp)⟩
    · have e : lineL q = headL q ++ "" := by
        unfold lineL restL
        rw [hc]
      rw [e, app_nil]
      rfl
    · rw [← ej]
      exact split_ws (List.cons_ne_nil _ _) fun z hz => (hall z hz).1.wd (hall z hz).2
    · have h := place_ok (nm z hz)
      exact ⟨h.1, h.2.1, h.2.2.1⟩
    · rw [← ej]
      exact join_no fun z hz => (hall z hz).1.nl
    · rw [← ej]
      exact Nat.le_trans (by decide +kernel : 1 ≤ ("kind" : Str).length) (join_ge (List.mem_cons_self ..))
  · obtain ⟨wD, hT, hB⟩ := sz.cn t hc
    have wt := wfD_lt wD
    obtain ⟨n8, kin⟩ := g.a8 q hq t hc
    obtain ⟨ws, c, k, wn, rfl, wd⟩ := wr_words hw wt
    have sg := sg_wr k wt
    have ej : Str.join " " (rowW ⟨q.kind, q.names, ws, some (lt t)⟩) = headL q ++ (" where " ++ Str.join " " ws) := by
      show Str.join " " ((("kind" : Str) :: q.kind :: ("of" : Str) :: q.names) ++ (("where" : Str) :: ws)) = _
      rw [join_app _ (List.cons_ne_nil _ _) (List.cons_ne_nil _ _), head_join n0, join_cons _ _ wn, show (" where " : Str) = " " ++ ("where" ++ " ") from by decide +kernel]
      unfold headL
      simp only [Str.append_assoc]
    have hall : ∀ z ∈ rowW ⟨q.kind, q.names, ws, some (lt t)⟩, Sg z ∧ 1 ≤ z.length := fun z hz => by
      have hz' : z ∈ (("kind" : Str) :: q.kind :: ("of" : Str) :: q.names) ++ (("where" : Str) :: ws) := hz
      rcases List.mem_append.mp hz' with h | h
      · exact hd4 z h
      · rcases List.mem_cons.mp h with rfl | h
        · exact ⟨by decide +kernel, by decide +kernel⟩
        · exact ⟨sg z h, (wd z h).2⟩
    have wl : ws.length ≤ 1001 := by
      have h1 := wordsL_count (Str.join " " ws)
      rw [split_ws wn wd] at h1
      omega
    have wle : ∀ w ∈ ws, w.length ≤ 1000 := fun w h => Nat.le_trans (join_ge h) hz
    have hwt : wtW ws ≤ 100000 := by
      have := wtW_le ws
      omega
    refine ⟨⟨q.kind, q.names, ws, some (lt t)⟩, rfl, rfl, ?_, ?_, ⟨⟨kd.1, kd.2.1, kk, sz.nl, fun z hz => ?_, (by show ws.length ≤ 2000; omega), fun w h => ⟨by have := wle w h; omega, (sg w h).asc⟩, bal_ws k wt, ?_, ?_, fun u e => ?_, fun e => (nomatch e)⟩, n0, nd, fun u e => ?_, hwt⟩, by omega, ?_, ?_, used_wr k wt (kin_lt wD kin)⟩
    · have e : lineL q = headL q ++ (" where " ++ shL (lt t)) := by
        unfold lineL restL
        rw [hc]
      rw [e, ← txt_nrm wt]
      show "kind " ++ q.kind ++ " of " ++ Str.join " " q.names ++ " where " ++ txt (nrm (lt t)) = _
      unfold headL
      simp only [Str.append_assoc]
    · rw [← ej]
      exact split_ws (List.cons_ne_nil _ _) fun z hz => (hall z hz).1.wd (hall z hz).2
    · have h := place_ok (nm z hz)
      exact ⟨h.1, h.2.1, h.2.2.1⟩
    · show cntW ws katw ≤ 8
      rw [cnt_wr k wt, nA_lt]
      exact n8
    · show depthW ws ≤ 6
      rw [depth_wr k wt]
      exact hd
    · cases e
      refine ⟨wt, g.dp q hq t hc, ?_, ?_⟩
      · have := wt_nrm wt
        omega
      · rw [ats_nrm wt, nA_lt]
        exact n8
    · cases e
      exact ⟨d, c, k⟩
    · rw [← ej]
      exact join_no fun z hz => (hall z hz).1.nl
    · rw [← ej]
      exact Nat.le_trans (by decide +kernel : 1 ≤ ("kind" : Str).length) (join_ge (List.mem_cons_self ..))
end N7

set_option linter.all false
set_option maxRecDepth 100000
set_option maxHeartbeats 8000000
set_option pp.maxSteps 200
namespace N7
open PySem PySem.Spec PyProof.Rows L2 Gx Qp Qh
/-! whole texts -/
theorem pick_all {β : Type} {P : Nat → β → Prop} : ∀ {n : Nat}, (∀ i, i < n → ∃ b, P i b) → ∃ bs : List β, bs.length = n ∧ ∀ i b, bs[i]? = some b → P i b
  | 0, _ => ⟨[], rfl, fun i b e => absurd e (by simp)⟩
  | n + 1, h => by
    obtain ⟨bs, hl, hb⟩ := pick_all (n := n) fun i hi => h i (Nat.lt_succ_of_lt hi)
    obtain ⟨b, pb⟩ := h n (Nat.lt_succ_self n)
    refine ⟨bs ++ [b], by rw [List.length_append, hl]; rfl, fun i c e => ?_⟩
    by_cases hi : i < n
    · rw [List.getElem?_append_left (by omega)] at e
      exact hb i c e
    · have hl2 := (List.getElem?_eq_some_iff.mp e).1
      rw [List.length_append, List.length_singleton] at hl2
      have ei : i = n := by omega
      subst ei
      rw [List.getElem?_append_right (by omega), hl, Nat.sub_self] at e
      cases e
      exact pb
theorem map_same {α β γ : Type} {f : α → γ} {g : β → γ} {as : List α} {bs : List β} (hl : as.length = bs.length) (h : ∀ (i : Nat) (a : α) (b : β), as[i]? = some a → bs[i]? = some b → f a = g b) : as.map f = bs.map g := by
  refine List.ext_getElem (by rw [List.length_map, List.length_map, hl]) fun i h1 h2 => ?_
  rw [List.length_map] at h1 h2
  rw [List.getElem_map, List.getElem_map]
  exact h i _ _ (List.getElem?_eq_getElem h1) (List.getElem?_eq_getElem h2)
theorem split_rows {xs : List Str} (hn : xs ≠ []) (h : ∀ x ∈ xs, 10 ∉ x.cps.toList ∧ 1 ≤ x.length) : rowsL (Txt.join "\n" xs) = xs := by
  obtain ⟨x, r, rfl⟩ : ∃ x r, xs = x :: r := by
    cases xs with
    | nil => exact absurd rfl hn
    | cons x r => exact ⟨x, r, rfl⟩
  have hne : ¬ Txt.join "\n" (x :: r) = "" := fun z => by
    have e : Txt.join "\n" (x :: r) = PySem.Str.join "\n" (x :: r) := TL.join_eq _ _
    rw [e] at z
    have h1 := (h x (List.mem_cons_self ..)).2
    cases r with
    | nil =>
      have z' : x = "" := z
      rw [z'] at h1
      exact absurd h1 (by decide)
    | cons y r =>
      rw [join_cons "\n" x (List.cons_ne_nil _ _)] at z
      have h2 := congrArg Str.length z
      rw [len_app, len_app] at h2
      have h3 : ("" : Str).length = 0 := rfl
      omega
  unfold rowsL
  rw [if_neg hne]
  exact TL.split_join (s := 10) (S := []) (by decide +kernel) (by decide +kernel) (by simp) fun p hp hm => (h p hp).1 hm
theorem text_of {rs : List LR} (g : Gd rs) {xs : List Str} (hl : xs.length = rs.length) (hx : ∀ (i : Nat) (q : LR), rs[i]? = some q → ∃ x, xs[i]? = some x ∧ RowTxt q x) : ∃ qs, TextOf (Txt.join "\n" xs) qs ∧ Agree qs rs := by
  obtain ⟨qs, ql, hq⟩ := pick_all (n := rs.length) (P := fun i r => ∀ q x, rs[i]? = some q → xs[i]? = some x → RowOf (rs.map LR.kind) q x r) fun i hi => by
    have e : rs[i]? = some rs[i] := List.getElem?_eq_getElem hi
    obtain ⟨x, ex, ht⟩ := hx i _ e
    obtain ⟨r, hr⟩ := row_of g (List.mem_of_getElem? e) ht
    refine ⟨r, fun q y e1 e2 => ?_⟩
    rw [e] at e1
    rw [ex] at e2
    cases e1
    cases e2
    exact hr
  -- a row by its place
  have by_r : ∀ (i : Nat) (r : Row), qs[i]? = some r → ∃ q x, rs[i]? = some q ∧ xs[i]? = some x ∧ RowOf (rs.map LR.kind) q x r := fun i r e => by
    have hi : i < rs.length := by
      rw [← ql]
      exact (List.getElem?_eq_some_iff.mp e).1
    have e1 : rs[i]? = some rs[i] := List.getElem?_eq_getElem hi
    obtain ⟨x, ex, _⟩ := hx i _ e1
    exact ⟨_, x, e1, ex, hq i r e _ _ e1 ex⟩
  have by_q : ∀ (i : Nat) (q : LR), rs[i]? = some q → ∃ r x, qs[i]? = some r ∧ xs[i]? = some x ∧ RowOf (rs.map LR.kind) q x r := fun i q e => by
    have hi : i < qs.length := by
      rw [ql]
      exact (List.getElem?_eq_some_iff.mp e).1
    have e1 : qs[i]? = some qs[i] := List.getElem?_eq_getElem hi
    obtain ⟨x, ex, _⟩ := hx i _ e
    exact ⟨_, x, e1, ex, hq i _ e1 _ _ e ex⟩
  have by_x : ∀ (i : Nat) (x : Str), xs[i]? = some x → ∃ r q, qs[i]? = some r ∧ rs[i]? = some q ∧ RowOf (rs.map LR.kind) q x r := fun i x e => by
    have hi : i < rs.length := by
      rw [← hl]
      exact (List.getElem?_eq_some_iff.mp e).1
    have e1 : rs[i]? = some rs[i] := List.getElem?_eq_getElem hi
    obtain ⟨r, y, e2, e3, h⟩ := by_q i _ e1
    rw [e] at e3
    cases e3
    exact ⟨r, _, e2, e1, h⟩
  have mem_r : ∀ r ∈ qs, ∃ q ∈ rs, ∃ x, RowOf (rs.map LR.kind) q x r := fun r hr => by
    obtain ⟨i, hi, e⟩ := List.mem_iff_getElem.mp hr
    obtain ⟨q, x, e1, _, h⟩ := by_r i r (by rw [List.getElem?_eq_getElem hi, e])
    exact ⟨q, List.mem_of_getElem? e1, x, h⟩
  have mem_q : ∀ q ∈ rs, ∃ r ∈ qs, ∃ x, RowOf (rs.map LR.kind) q x r := fun q hq => by
    obtain ⟨i, hi, e⟩ := List.mem_iff_getElem.mp hq
    obtain ⟨r, x, e1, _, h⟩ := by_q i q (by rw [List.getElem?_eq_getElem hi, e])
    exact ⟨r, List.mem_of_getElem? e1, x, h⟩
  have mem_x : ∀ x ∈ xs, ∃ q ∈ rs, ∃ r, RowOf (rs.map LR.kind) q x r ∧ RowTxt q x := fun x hxm => by
    obtain ⟨i, hi, e⟩ := List.mem_iff_getElem.mp hxm
    have ex : xs[i]? = some x := by rw [List.getElem?_eq_getElem hi, e]
    obtain ⟨r, q, _, e2, h⟩ := by_x i x ex
    obtain ⟨y, ey, ht⟩ := hx i q e2
    rw [ex] at ey
    cases ey
    exact ⟨q, List.mem_of_getElem? e2, r, h, ht⟩
  have kk : qs.map Row.kind = rs.map LR.kind := map_same ql fun i r q e1 e2 => by
    obtain ⟨q', x, e3, _, h⟩ := by_r i r e1
    rw [e2] at e3
    cases e3
    exact h.kind
  have xn : xs ≠ [] := fun z => by
    rw [z] at hl
    have := g.l1
    rw [← hl] at this
    exact absurd this (by decide)
  have er : rowsL (Txt.join "\n" xs) = xs := split_rows xn fun x hm => by
    obtain ⟨q, _, r, h, _⟩ := mem_x x hm
    exact ⟨h.nl, h.xp⟩
  have sl := sum_le (b := 1070) (l := xs) fun x hm => by
    obtain ⟨q, hq2, r, h, ht⟩ := mem_x x hm
    exact rowT_len (g.sz q hq2) ht
  refine ⟨qs, ⟨?_, ?_, ?_, ⟨by have := g.l4; omega, fun r hr => ?_, by rw [kk]; exact g.nd, fun r hr => ?_⟩, fun r hr => ?_⟩, ⟨kk, ?_, fun x => ⟨?_, ?_⟩⟩⟩
  · rw [er, hl, ql]
  · have e : Txt.join "\n" xs = PySem.Str.join "\n" xs := TL.join_eq _ _
    rw [e]
    have h1 := Qp.join_ub "\n" xs
    have h4 := g.l4
    rw [show ("\n" : Str).length = 1 from by decide +kernel] at h1
    omega
  · rw [er]
    intro i x e
    obtain ⟨r, q, e1, _, h⟩ := by_x i x e
    exact ⟨h.xl, r, e1, h.words⟩
  · obtain ⟨q, _, x, h⟩ := mem_r r hr
    exact h.ok.ok
  · obtain ⟨q, _, x, h⟩ := mem_r r hr
    rw [kk]
    exact h.used
  · obtain ⟨q, _, x, h⟩ := mem_r r hr
    exact h.ok
  · unfold kText
    congr 1
    exact map_same ql fun i r q e1 e2 => by
      obtain ⟨q', x, e3, _, h⟩ := by_r i r e1
      rw [e2] at e3
      cases e3
      exact h.line
  · rintro ⟨r, hr, hm, hb⟩
    obtain ⟨q, hq2, y, h⟩ := mem_r r hr
    rw [h.names] at hm
    refine ⟨q, hq2, hm, fun z => ?_⟩
    have := (by decide +kernel : ∀ z ∈ ex2, nameB z = false) x z
    rw [this] at hb
    cases hb
  · rintro ⟨q, hq2, hm, hb⟩
    obtain ⟨r, hr, y, h⟩ := mem_q q hq2
    refine ⟨r, hr, by rw [h.names]; exact hm, ?_⟩
    rcases (g.nm q hq2).2.2 x hm with h1 | h1 | h1
    · exact h1.1
    · exact absurd (by rw [h1]; decide +kernel) hb
    · exact absurd (by rw [h1]; decide +kernel) hb
/-- the law's own text of the rows is one of these -/
theorem line_txt {rs : List LR} (g : Gd rs) : (rs.map lineL).length = rs.length ∧ ∀ (i : Nat) (q : LR), rs[i]? = some q → ∃ x, (rs.map lineL)[i]? = some x ∧ RowTxt q x := by
  refine ⟨List.length_map .., fun i q e => ⟨lineL q, by rw [List.getElem?_map, e]; rfl, ?_⟩⟩
  have hq := List.mem_of_getElem? e
  cases hc : q.cond with
  | none =>
    refine .inl ⟨hc, ?_⟩
    unfold lineL restL
    rw [hc]
    exact app_nil _
  | some t =>
    obtain ⟨w, _, hB⟩ := (g.sz q hq).cn t hc
    have wt := wfD_lt w
    have sl := shL_len wt
    refine .inr ⟨t, shL (lt t), dL (lt t), hc, wr_sh wt, g.dp q hq t hc, by omega, ?_⟩
    unfold lineL restL
    rw [hc]
theorem Gd.perm {rs ts : List LR} (g : Gd rs) (p : ts.Perm rs) : Gd ts := by
  have pk : (ts.map LR.kind).Perm (rs.map LR.kind) := p.map _
  have kin : ∀ {a b : List Str}, (∀ x ∈ a, x ∈ b) → ∀ t : DT, kinD a t → kinD b t := fun {a b} h t => by
    induction t with
    | «at» x =>
      cases x with
      | one => exact h _
      | two => exact fun k => ⟨h _ k.1, h _ k.2⟩
      | cnt => exact h _
    | un t ih => exact ih
    | bi j x y ih1 ih2 => exact fun k => ⟨ih1 k.1, ih2 k.2⟩
  refine ⟨by rw [p.length_eq]; exact g.l1, by rw [p.length_eq]; exact g.l4, fun q h => g.sz q (p.mem_iff.mp h), fun q h => g.dp q (p.mem_iff.mp h), fun q h => g.kd q (p.mem_iff.mp h), fun q h => g.nm q (p.mem_iff.mp h), fun q h t e => ?_, pk.nodup_iff.mpr g.nd⟩
  obtain ⟨h1, h2⟩ := g.a8 q (p.mem_iff.mp h) t e
  exact ⟨h1, kin (fun x hx => pk.mem_iff.mpr hx) t h2⟩
theorem gd_drawn {caps names : List Str} {rs : List LR} (c1 : 1 ≤ caps.length) (c4 : caps.length ≤ 4) (hc : ∀ c ∈ caps, CapOk c) (hn : ∀ z ∈ names, NmOk z) (nd : caps.Nodup) (ek : rs.map LR.kind = caps) (h : ∀ q ∈ rs, LOkD caps names q) : Gd rs := by
  have el : rs.length = caps.length := by rw [← ek, List.length_map]
  have nm : ∀ q ∈ rs, ∀ z ∈ q.names, NmOk z ∨ z = "other" ∨ z = "any" := fun q hq z hz => ((h q hq).ok.nn z hz).imp (hn z) id
  refine ⟨by omega, by omega, fun q hq => ?_, fun q hq => (h q hq).dp, fun q hq => hc _ (h q hq).ok.kd, fun q hq => ⟨fun z => ?_, (h q hq).ok.nd, nm q hq⟩, fun q hq t e => ?_, by rw [ek]; exact nd⟩
  · have o := (h q hq).ok
    refine ⟨(hc _ o.kd).1, o.nl, fun z hz => (place_ok (nm q hq z hz)).1, fun t e => ?_⟩
    obtain ⟨h1, _, h3, h4, h5⟩ := o.cn t e
    exact ⟨h1, by omega, by omega⟩
  · have := (h q hq).ok.n1
    rw [z] at this
    exact absurd this (by decide)
  · obtain ⟨h1, h2, h3, h4, h5⟩ := (h q hq).ok.cn t e
    rw [ek]
    exact ⟨h3, h2⟩
theorem Gd.asc {rs : List LR} (g : Gd rs) : ∀ q ∈ rs, Asc q.kind ∧ ∀ z ∈ q.names, Asc z := fun q hq => ⟨(g.kd q hq).2.1, fun z hz => (place_ok ((g.nm q hq).2.2 z hz)).2.1⟩
/-- no rows -/
theorem text_nil : TextOf "" [] := by
  have e : rowsL "" = [] := rfl
  refine ⟨by rw [e]; rfl, by decide, fun i x h => ?_, ⟨by decide, fun r h => absurd h (by simp), List.nodup_nil, fun r h => absurd h (by simp)⟩, fun r h => absurd h (by simp)⟩
  rw [e] at h
  exact absurd h (by simp)
end N7

set_option linter.all false
set_option maxRecDepth 100000
set_option maxHeartbeats 8000000
set_option pp.maxSteps 150
namespace N7
open PySem PySem.Spec PyProof.Rows L2 Gx Qp Qh
/-! what is no list stays -/
def NL (H H' : Hp) : Prop := ∀ b o, (∀ xs, o ≠ HO.lst xs) → H b = some o → H' b = some o
theorem NL.trans {A B C : Hp} (h : NL A B) (k : NL B C) : NL A C := fun b o n e => k b o n (h b o n e)
theorem NL.of {A B : Hp} (h : Same A B) : NL A B := fun b o _ e => h b o e
theorem NL.kp {p : Addr} {A B : Hp} {m : Nat} (b : BoxAt A p m) (k : Kp p A B) : NL A B := fun x o no e => by
  obtain ⟨c, sd, n, e2, _⟩ := b
  refine k x o (fun h => ?_) e
  rw [h, e2] at e
  cases e
  exact no _ rfl
theorem NL.set {A : Hp} {L : Addr} {xs ys : List V} (h : A L = some (.lst xs)) : NL A (upd A L (.lst ys)) := fun b o no e => (upd_ne fun z => by
  rw [z, h] at e
  cases e
  exact no _ rfl).trans e
theorem NL.tup {A B : Hp} (h : NL A B) : ∀ a xs, A a = some (.tup xs) → B a = some (.tup xs) := fun a xs e => h a _ (fun ys z => nomatch z) e
theorem RowAt.nl {C a : Addr} {H H' : Hp} {r : Row} (h : RowAt C H a r) (s : NL H H') : RowAt C H' a r := by
  obtain ⟨dx, a1, a2, v, e, e1, e2, ec⟩ := h
  refine ⟨dx, a1, a2, v, s _ _ (fun xs z => nomatch z) e, s.tup _ _ e1, s.tup _ _ e2, ?_⟩
  cases hc : r.cond with
  | none => rw [hc] at ec; exact ec
  | some t => rw [hc] at ec; exact PtAt.mono (fun b xs e => s.tup _ _ e) ec
theorem KAt.nl {C Cw a : Addr} {H H' : Hp} {rs : List Row} (h : KAt C Cw H a rs) (s : NL H H') : KAt C Cw H' a rs := by
  obtain ⟨dx, k1, k2, k3, k4, nm, as, us, e, e1, e2, u1, s1, e3, hR, e4, u2, s2⟩ := h
  exact ⟨dx, k1, k2, k3, k4, nm, as, us, s _ _ (fun xs z => nomatch z) e, s.tup _ _ e1, s.tup _ _ e2, u1, s1, s.tup _ _ e3, ⟨hR.1, fun i r q => let ⟨b, q1, q2⟩ := hR.2 i r q; ⟨b, q1, q2.nl s⟩⟩, s.tup _ _ e4, u2, s2⟩
theorem KAt.ins {C Cw a : Addr} {H : Hp} {rs : List Row} (h : KAt C Cw H a rs) : ∃ dx k1 k2 k3 k4, H a = some (.ins C dx (fldK k1 k2 k3 k4 (kText rs))) ∧ H k1 = some (.tup ((rs.map Row.kind).map V.str)) := by
  obtain ⟨dx, k1, k2, k3, k4, nm, as, us, e, e1, _⟩ := h
  exact ⟨dx, k1, k2, k3, k4, e, e1⟩
/-- kinds in a list -/
def KsAt (C Cw : Addr) (H : Hp) (us : List V) : Prop := ∀ u ∈ us, ∃ a qs, u = .ref a ∧ KAt C Cw H a qs ∧ (kText qs).length ≤ 5000
theorem KsAt.nl {C Cw : Addr} {H H' : Hp} {us : List V} (h : KsAt C Cw H us) (s : NL H H') : KsAt C Cw H' us := fun u hu => let ⟨a, qs, e, k, l⟩ := h u hu; ⟨a, qs, e, k.nl s, l⟩
theorem KsAt.snoc {C Cw : Addr} {H : Hp} {us : List V} {a : Addr} {qs : List Row} (h : KsAt C Cw H us) (k : KAt C Cw H a qs) (l : (kText qs).length ≤ 5000) : KsAt C Cw H (us ++ [.ref a]) := fun u hu => by
  rcases List.mem_append.mp hu with z | z
  · exact h u z
  · exact ⟨a, qs, List.mem_singleton.mp z, k, l⟩
theorem LsAt.turn {H : Hp} {us : List V} {rs : List LR} (h : LsAt H us rs) : LsAt H (us.drop 1 ++ us.take 1) (rs.drop 1 ++ rs.take 1) := by
  refine ⟨by rw [List.length_append, List.length_append, List.length_drop, List.length_drop, List.length_take, List.length_take, h.1], fun i r e => ?_⟩
  by_cases hi : i < rs.length - 1
  · rw [List.getElem?_append_left (by rw [List.length_drop]; exact hi), List.getElem?_drop] at e
    obtain ⟨u, e1, e2⟩ := h.2 _ r e
    exact ⟨u, by rw [List.getElem?_append_left (by rw [List.length_drop, h.1]; exact hi), List.getElem?_drop]; exact e1, e2⟩
  · rw [List.getElem?_append_right (by rw [List.length_drop]; omega), List.length_drop, List.getElem?_take] at e
    split at e
    · rename_i h1
      obtain ⟨u, e1, e2⟩ := h.2 _ r e
      refine ⟨u, ?_, e2⟩
      rw [List.getElem?_append_right (by rw [List.length_drop, h.1]; omega), List.length_drop, List.getElem?_take, h.1, if_pos h1]
      exact e1
    · cases e
theorem turn_perm (rs : List LR) : (rs.drop 1 ++ rs.take 1).Perm rs := by
  have h := List.perm_append_comm (l₁ := rs.drop 1) (l₂ := rs.take 1)
  rwa [List.take_append_drop] at h
theorem cut_drop (xs : List V) (h : 1 ≤ xs.length) : cutV xs (some 1) none = xs.drop 1 := by
  unfold cutV
  rw [show (some (1 : Int)) = some ((1 : Nat) : Int) from rfl, HT.sIx_nat, HT.sIx_none, Nat.min_eq_left h, List.take_of_length_le (by rw [List.length_drop]; exact Nat.le_refl _)]
theorem two_sh (b : Bool) : SeqAt.shaped (.list [.bool b, .bool (!b)]) = true := by cases b <;> decide +kernel
theorem two_eq (b : Bool) : PyData.eqv (.list [.bool b, .bool (!b)]) (.list [.bool b, .bool (!b)]) = true := by cases b <;> decide +kernel
end N7

set_option linter.all false
set_option maxRecDepth 100000
set_option maxHeartbeats 16000000
set_option pp.maxSteps 150
namespace N7
open PySem PySem.Spec PyProof.Rows L2 Gx Qp Qh
abbrev s_law : Stmt := topS 60
abbrev n_law : List Str := ["_law_script", "_law_k", "_law_box_here", "_law_found", "_law_turn", "_law_caps_here", "_law_names_here", "_law_lines_here", "_law_kinds", "_law_other", "_law_turned", "_law_one"]
theorem sc_law : FnScope n_law ["_law_script"] (defScope s_law) := ⟨rfl, rfl, rfl, by decide +kernel, rfl, by decide +kernel, by decide +kernel⟩
theorem turns_le (n : Nat) : ((if (if (n : Int) < 5 then (n : Int) else 5) > 2 then (if (n : Int) < 5 then (n : Int) else 5) else 2).toNat) ≤ 5 := by split <;> split <;> omega
structure NmLw (mg : Str → Option Value) (K : PySem.W.Frag) (f_box f_take f_caps f_names f_drawn f_allw f_told : Addr) : Prop where
  g_box : mg "_law_box" = some (.ref f_box)
  k_box : PySem.W.keepIn K (.ref f_box) = true
  g_take : mg "_law_take" = some (.ref f_take)
  k_take : PySem.W.keepIn K (.ref f_take) = true
  g_caps : mg "_law_caps" = some (.ref f_caps)
  k_caps : PySem.W.keepIn K (.ref f_caps) = true
  g_names : mg "_law_names" = some (.ref f_names)
  k_names : PySem.W.keepIn K (.ref f_names) = true
  g_drawn : mg "_law_drawn" = some (.ref f_drawn)
  k_drawn : PySem.W.keepIn K (.ref f_drawn) = true
  g_allw : mg "_law_all_written" = some (.ref f_allw)
  k_allw : PySem.W.keepIn K (.ref f_allw) = true
  g_told : mg "_law_told_right" = some (.ref f_told)
  k_told : PySem.W.keepIn K (.ref f_told) = true
  n_range : mg "range" = none
  n_max : mg "max" = none
  n_min : mg "min" = none
  n_len : mg "len" = none
  n_str : mg "str" = none
structure NmKq (K : PySem.W.Frag) (C : Addr) (mc : Value) (ps frd gst gln ge : Addr) : Prop where
  cr : ClX.CRead K C mc
  cs : Wc.CSta K C mc "read" ps frd
  str : PySem.W.findIn K (.ref C) "__str__" = some (some (.ref gst))
  strF : PySem.W.isFn K (.ref gst) = true
  ln : PySem.W.findIn K (.ref C) "__len__" = some (some (.ref gln))
  lnF : PySem.W.isFn K (.ref gln) = true
  eq : PySem.W.findIn K (.ref C) "__eq__" = some (some (.ref ge))
  eqF : PySem.W.isFn K (.ref ge) = true
  ne : PySem.W.findIn K (.ref C) "__ne__" = some (some (.builtin "object.__ne__"))
  k2 : PySem.W.kitOne K (.type "str") (.ref C) = some false
  k3 : PySem.W.kitOne K (.type "tuple") (.ref C) = some false
  f2 : PySem.W.notFirst K C (.type "str") = true
  f3 : PySem.W.notFirst K C (.type "tuple") = true
  f4 : PySem.W.notFirst K C (.ref C) = true
def spLaw (K : PySem.W.Frag) : Sp := fun vs H Q _ => ∃ (l : Addr) (ns : List Int), vs = [.ref l] ∧ SqL K H l (ns.map V.int) ∧ ns.length ≤ 100 ∧ ∀ H' : Hp, Q (.bl true) H'
section
variable {P : Program} {w : World} {K : PySem.W.Frag} {mg : Str → Option Value} {base : Heap}
theorem ok_law {f f_box f_take f_caps f_names f_drawn f_allw f_told C Cw ps frd gst gln ge : Addr} {mc : Value} {fd fd_box fd_take fd_caps fd_names fd_drawn fd_allw fd_told fdr fds fdl fde : FuncData} (F : Fun K "law" "law" s_law f fd) (T : NmLw mg K f_box f_take f_caps f_names f_drawn f_allw f_told) (TK : NmKd mg K C) (TQ : NmKq K C mc ps frd gst gln ge) (TE : NmKe K C)
    (G_box : FnOk P w K mg base CX0 1 f_box fd_box ["_law_script", "_law_k", "_law_own"] (spBox K)) (b_box : Binds K fd_box ["_law_script", "_law_k", "_law_own"] [])
    (G_take : FnOk P w K mg base CX0 1 f_take fd_take ["_law_box_here", "_law_many_here"] spTake) (b_take : Binds K fd_take ["_law_box_here", "_law_many_here"] [])
    (G_caps : FnOk P w K mg base CX0 3 f_caps fd_caps ["_law_box_here", "_law_many_here"] spCaps) (b_caps : Binds K fd_caps ["_law_box_here", "_law_many_here"] [])
    (G_names : FnOk P w K mg base CX0 3 f_names fd_names ["_law_box_here", "_law_many_here"] spNms) (b_names : Binds K fd_names ["_law_box_here", "_law_many_here"] [])
    (G_drawn : FnOk P w K mg base CX0 63 f_drawn fd_drawn ["_law_box_here", "_law_caps_here", "_law_names_here"] spDrawn) (b_drawn : Binds K fd_drawn ["_law_box_here", "_law_caps_here", "_law_names_here"] [])
    (G_allw : FnOk P w K mg base CX0 63 f_allw fd_allw ["_law_box_here", "_law_lines_here"] spAllW) (b_allw : Binds K fd_allw ["_law_box_here", "_law_lines_here"] [])
    (G_told : FnOk P w K mg base CX0 63 f_told fd_told ["_law_kinds", "_law_lines_here"] (spTold C Cw)) (b_told : Binds K fd_told ["_law_kinds", "_law_lines_here"] [])
    (G_read : FnOk P w K mg base CX0 36 frd fdr ["text"] (spKRead C Cw)) (b_read : Binds K fdr ["text"] [])
    (G_str : FnOk P w K mg base CX0 1 gst fds ["self"] (spKStr C Cw)) (b_str : Binds K fds ["self"] [])
    (G_len : FnOk P w K mg base CX0 1 gln fdl ["self"] (spKLen C Cw)) (b_len : Binds K fdl ["self"] [])
    (G_eq : FnOk P w K mg base CX0 1 ge fde ["self", "other"] (spKEq C Cw K)) (b_eq : Binds K fde ["self", "other"] []) :
    Rg.FnG P w K mg base CX0 64 f fd ["_law_script"] (spLaw K) := by
  refine Rg.okG F sc_law (fun vs H Q E h => ?_) (fun cdv Ar outer s H vs Q E hgu hr h => ?_)
  · obtain ⟨l, ns, rfl, _⟩ := h
    rfl
  · obtain ⟨l, ns, rfl, hl, hn, q⟩ := h
    have hu64 := hr.units
    have r1 := hr.mono (show 1 ≤ 63 by decide)
    have r2 := hr.mono (show 2 ≤ 63 by decide)
    have r3 := hr.mono (show 3 ≤ 63 by decide)
    have r36 := hr.mono (show 36 ≤ 63 by decide)
    refine ⟨_, (pss_cons (ps_for PassesOwn.leaving rfl (pi_range1 (by rfl) T.n_range (pa_cons (pe_callB (call_max2 rfl) (by rfl) T.n_max (by decide +kernel) (pa_cons pe_int (pa_cons (pe_callB (call_min2 rfl) (by rfl) T.n_min (by decide +kernel) (pa_cons pe_int (pa_cons (pe_callB call_len_seq (by rfl) T.n_len (by decide +kernel) (pa_cons (pv 0) pa_nil)) pa_nil))) pa_nil))) pa_nil)) (pg_name (i := 1) sc_law.nd rfl (.inl rfl))
  (pss_cons (ps_set (i := 2) sc_law.nd rfl (.inl rfl) (pe_call G_box r1 rfl T.g_box T.k_box b_box .nil pass0 (pa_cons (pv 0) (pa_cons (pv 1) (pa_cons pe_int pa_nil)))))
  (pss_cons (ps_set (i := 3) sc_law.nd rfl (.inl rfl) (pe_lst pa_nil))
  (pss_cons (ps_for PassesOwn.leaving rfl (pi_range1 (by rfl) T.n_range (pa_cons pe_int pa_nil)) (pg_name (i := 4) sc_law.nd rfl (.inl rfl))
  (pss_cons (ps_par (i := 5) (j := 6) (by rfl) sc_law.nd rfl rfl (by decide) rfl rfl (pa_cons (pe_call G_caps r3 rfl T.g_caps T.k_caps b_caps .nil pass0 (pa_cons (pv 2) (pa_cons (pe_op op_add pe_int (pe_call G_take r1 rfl T.g_take T.k_take b_take .nil pass0 (pa_cons (pv 2) (pa_cons pe_int pa_nil)))) pa_nil))) (pa_cons (pe_call G_names r3 rfl T.g_names T.k_names b_names .nil pass0 (pa_cons (pv 2) (pa_cons (pe_op op_add pe_int (pe_call G_take r1 rfl T.g_take T.k_take b_take .nil pass0 (pa_cons (pv 2) (pa_cons pe_int pa_nil)))) pa_nil))) pa_nil)) (by rfl))
  (pss_cons (ps_set (i := 7) sc_law.nd rfl (.inl rfl) (pe_call G_drawn hr rfl T.g_drawn T.k_drawn b_drawn .nil pass0 (pa_cons (pv 2) (pa_cons (pv 5) (pa_cons (pv 6) pa_nil)))))
  (pss_cons (ps_par (i := 8) (j := 9) (by rfl) sc_law.nd rfl rfl (by decide) rfl rfl (pa_cons (Wc.pe_stat (pe_glob (v := .ref _) rfl TK.g_Kinds rfl) TQ.cr TQ.cs G_read r36 b_read pass0 (pa_cons (pe_call G_allw hr rfl T.g_allw T.k_allw b_allw .nil pass0 (pa_cons (pv 2) (pa_cons (pv 7) pa_nil))) pa_nil)) (pa_cons (Wc.pe_stat (pe_glob (v := .ref _) rfl TK.g_Kinds rfl) TQ.cr TQ.cs G_read r36 b_read pass0 (pa_cons (pe_call G_allw hr rfl T.g_allw T.k_allw b_allw .nil pass0 (pa_cons (pv 2) (pa_cons (pv 7) pa_nil))) pa_nil)) pa_nil)) (by rfl))
  (pss_cons (ps_if (PW.pt (pw_or (pt_not (pt_val (pe_call G_told hr rfl T.g_told T.k_told b_told .nil pass0 (pa_cons (pv 8) (pa_cons (pv 7) pa_nil)))))
    (pw_or1 (pt_not (pt_val (pe_call G_told hr rfl T.g_told T.k_told b_told .nil pass0 (pa_cons (Wc.pe_stat (pe_glob (v := .ref _) rfl TK.g_Kinds rfl) TQ.cr TQ.cs G_read r36 b_read pass0 (pa_cons (pe_callTy (Wc.call_strO TQ.str TQ.strF G_str r3 b_str pass0) (by rfl) T.n_str (by decide +kernel) (pa_cons (pv 8) pa_nil)) pa_nil)) (pa_cons (pv 7) pa_nil)))))))) (pss_one (ps_ret pe_bl)) pss_nil)
  (pss_cons (ps_if (PW.pt (pw_or (pt_cmpR (Wc.op_neO TQ.ne TE.hm TQ.eq TQ.eqF G_eq r2 b_eq pass0) (Wc.pe_stat (pe_glob (v := .ref _) rfl TK.g_Kinds rfl) TQ.cr TQ.cs G_read r36 b_read pass0 (pa_cons (pe_callTy (Wc.call_strO TQ.str TQ.strF G_str r3 b_str pass0) (by rfl) T.n_str (by decide +kernel) (pa_cons (pv 8) pa_nil)) pa_nil)) (pv 8) (nomark _))
    (pw_or (pt_not (pt_cmpR (Wc.op_eqO TQ.eq TQ.eqF G_eq r1 b_eq pass0) (pv 8) (pv 9) (nomark _)))
    (pw_or (pt_cmpR (Wc.op_eqO TQ.eq TQ.eqF G_eq r1 b_eq pass0) (pv 8) (pe_callTy (Wc.call_strO TQ.str TQ.strF G_str r3 b_str pass0) (by rfl) T.n_str (by decide +kernel) (pa_cons (pv 8) pa_nil)) (nomark _))
    (pw_or1 (pt_cmpR (Wc.op_eqO TQ.eq TQ.eqF G_eq r1 b_eq pass0) (pv 8) (pe_fld (pv 8) rfl) (nomark _))))))) (pss_one (ps_ret pe_bl)) pss_nil)
  (pss_cons (ps_expr (pe_bm PySem.F.plainAttrs_list PySem.F.slot_list_append PySem.F.type_list_append mt_append (pv 3) (pa_cons (pv 8) pa_nil)))
  (C8.pss_cut (ps_set (i := 10) sc_law.nd rfl (.inl rfl) (pe_ifExp (pt_cmpR op_eq (pe_call G_take r1 rfl T.g_take T.k_take b_take .nil pass0 (pa_cons (pv 2) (pa_cons pe_int pa_nil))) pe_int (nomark _)) (pe_op op_cat (pe_slice sl_list (pv 7) (po_some pe_int) po_none) (pe_slice sl_list (pv 7) po_none (po_some pe_int))) (pv 7)))
  (pss_one (ps_expr (pe_bm PySem.F.plainAttrs_list PySem.F.slot_list_append PySem.F.type_list_append mt_append (pv 3) (pa_cons (Wc.pe_stat (pe_glob (v := .ref _) rfl TK.g_Kinds rfl) TQ.cr TQ.cs G_read r36 b_read pass0 (pa_cons (pe_call G_allw hr rfl T.g_allw T.k_allw b_allw .nil pass0 (pa_cons (pv 2) (pa_cons (pv 10) pa_nil))) pa_nil)) pa_nil))))))))))))
  (pss_one (ps_for PassesOwn.leaving rfl (pi_list (pv 3)) (pg_name (i := 11) sc_law.nd rfl (.inl rfl))
  (pss_one (ps_for PassesOwn.leaving rfl (pi_list (pv 3)) (pg_name (i := 9) sc_law.nd rfl (.inl rfl))
  (pss_one (ps_if (pt_cmpR (op_neD hu64) (pe_lst (pa_cons (pe_cmpR (Wc.op_eqO TQ.eq TQ.eqF G_eq r1 b_eq pass0) (pv 11) (pv 9) (nomark _)) (pa_cons (pe_cmpR (Wc.op_neO TQ.ne TE.hm TQ.eq TQ.eqF G_eq r2 b_eq pass0) (pv 11) (pv 9) (nomark _)) pa_nil)))
    (pe_lst (pa_cons (pe_cmpR op_eq (pe_callTy (Wc.call_strO TQ.str TQ.strF G_str r3 b_str pass0) (by rfl) T.n_str (by decide +kernel) (pa_cons (pv 11) pa_nil)) (pe_callTy (Wc.call_strO TQ.str TQ.strF G_str r3 b_str pass0) (by rfl) T.n_str (by decide +kernel) (pa_cons (pv 9) pa_nil)) (nomark _)) (pa_cons (pe_cmpR op_ne (pe_callTy (Wc.call_strO TQ.str TQ.strF G_str r3 b_str pass0) (by rfl) T.n_str (by decide +kernel) (pa_cons (pv 11) pa_nil)) (pe_callTy (Wc.call_strO TQ.str TQ.strF G_str r3 b_str pass0) (by rfl) T.n_str (by decide +kernel) (pa_cons (pv 9) pa_nil)) (nomark _)) pa_nil))) (nomark _)) (pss_one (ps_ret pe_bl)) pss_nil))))))))))
  (pss_one (ps_ret (pe_and (pe_cmpR op_eq (pe_callTy (Wc.call_strO TQ.str TQ.strF G_str r3 b_str pass0) (by rfl) T.n_str (by decide +kernel) (pa_cons (Wc.pe_stat (pe_glob (v := .ref _) rfl TK.g_Kinds rfl) TQ.cr TQ.cs G_read r36 b_read pass0 (pa_cons pe_str pa_nil)) pa_nil)) pe_str (nomark _))
    (pe_and (pe_cmpR op_eq (pe_callB (Wi.call_lenO TQ.ln TQ.lnF G_len r2 b_len pass0) (by rfl) T.n_len (by decide +kernel) (pa_cons (Wc.pe_stat (pe_glob (v := .ref _) rfl TK.g_Kinds rfl) TQ.cr TQ.cs G_read r36 b_read pass0 (pa_cons pe_str pa_nil)) pa_nil)) pe_int (nomark _))
    (pe_one (pe_cmpR (op_eqD hu64) (pe_fld (Wc.pe_stat (pe_glob (v := .ref _) rfl TK.g_Kinds rfl) TQ.cr TQ.cs G_read r36 b_read pass0 (pa_cons pe_str pa_nil)) rfl) (pe_tup pa_nil) (nomark _)))))))), ?_⟩
    -- what is read of rows that were drawn
    have rd : ∀ {rs : List LR} (g : Gd rs) {xs : List Str} (Hx : Hp) (Kx : V → Hp → Prop), xs.length = rs.length → (∀ (i : Nat) (q : LR), rs[i]? = some q → ∃ x, xs[i]? = some x ∧ RowTxt q x) → (∀ (a : Addr) (qs : List Row) (H' : Hp), Same Hx H' → Hx a = none → KAt C Cw H' a qs → Agree qs rs → (kText qs).length ≤ 5000 → Kx (.ref a) H') →
        spKRead C Cw [.str (Txt.join "\n" xs)] Hx Kx E0 := fun {rs} g {xs} Hx Kx xl hx kx => by
      obtain ⟨qs, tx, ag⟩ := text_of g xl hx
      refine ⟨_, qs, rfl, tx, fun a H' S na hk => kx a qs H' S na hk ag ?_⟩
      rw [ag.text]
      exact text_len g.l4 g.sz
    -- .. and of what they are shown as
    have rs_ : ∀ {rs : List LR} (g : Gd rs) {qs : List Row} (ag : Agree qs rs) (Hx : Hp) (Kx : V → Hp → Prop), (∀ (a : Addr) (qs : List Row) (H' : Hp), Same Hx H' → Hx a = none → KAt C Cw H' a qs → Agree qs rs → (kText qs).length ≤ 5000 → Kx (.ref a) H') →
        spKRead C Cw [.str (kText qs)] Hx Kx E0 := fun {rs} g {qs} ag Hx Kx kx => by
      rw [ag.text]
      obtain ⟨h1, h2⟩ := line_txt g
      exact rd g Hx Kx h1 h2 kx
    refine ⟨_, rfl, l, ns.map V.int, rfl, .inl hl, _, _, rfl, ?_⟩
    rw [List.length_map]
    refine ⟨_, _, rfl, _, rfl, by split <;> split <;> omega, by split <;> split <;> omega, ?_⟩
    have hturns := turns_le ns.length
    generalize (if (if (ns.length : Int) < 5 then (ns.length : Int) else 5) > 2 then (if (ns.length : Int) < 5 then (ns.length : Int) else 5) else 2).toNat = turns at *
    refine for_range (lo := 0) (n := turns) (fun _ σ H' => SqL K H' l (ns.map V.int) ∧ ∃ a1 a2 a3 a4 a5 a6 a7 a8 a9 a10 a11 : Option V, σ = [some (.ref l), a1, a2, a3, a4, a5, a6, a7, a8, a9, a10, a11])
      ⟨hl, _, _, _, _, _, _, _, _, _, _, _, rfl⟩ (fun k σ H hk p => ?_) (fun σ H' p => ?_)
    · obtain ⟨hl, a1, a2, a3, a4, a5, a6, a7, a8, a9, a10, a11, rfl⟩ := p
      refine ⟨_, rfl, _, rfl, l, ns, k, 7, by rw [Int.zero_add]; rfl, hl, by omega, by decide, fun p H1 np s1 bx => ?_⟩
      refine ⟨Nat.zero_le _, fun L nL => ?_⟩
      have pL := bx.ne nL
      have S2 := new_same (o := .lst []) nL
      have eL2 : upd H1 L (.lst []) L = some (.lst []) := upd_same
      have b2 := bx.mono S2
      generalize upd H1 L (.lst []) = H2 at *
      refine ⟨4, rfl, by decide, by decide, ?_⟩
      refine for_range (lo := 0) (n := 4) (fun i σ Hi => BoxAt Hi p (2440 * i) ∧ (∀ b o, b ≠ p → b ≠ L → H2 b = some o → Hi b = some o) ∧ (∃ us : List V, Hi L = some (.lst us) ∧ KsAt C Cw Hi us ∧ us.length = 2 * i) ∧ ∃ b4 b5 b6 b7 b8 b9 b10 b11 : Option V, σ = [some (.ref l), some (.int (0 + (k : Nat))), some (.ref p), some (.ref L), b4, b5, b6, b7, b8, b9, b10, b11])
        ⟨b2, fun _ _ _ _ e => e, ⟨[], eL2, fun u hu => absurd hu (by simp), rfl⟩, _, _, _, _, _, _, _, _, rfl⟩ (fun i σ Hi hi P => ?_) (fun σ Hi P => ?_)
      · obtain ⟨bi, ki, ⟨us, eLi, hus, lus⟩, b4, b5, b6, b7, b8, b9, b10, b11, rfl⟩ := P
        -- names of kinds, names
        refine ⟨_, rfl, _, rfl, p, 4, _, rfl, bi, by omega, by decide, by decide, fun d H3 d0 d1 b3 k3 => ?_⟩
        obtain ⟨dn, rfl⟩ : ∃ dn : Nat, d = (dn : Int) := ⟨d.toNat, by omega⟩
        refine ⟨_, _, rfl, rfl, p, _, dn + 1, by show [V.ref p, V.int (1 + (dn : Nat))] = _; rw [show ((1 : Int) + (dn : Nat)) = ((dn + 1 : Nat) : Int) from by omega], b3, by omega, by omega, fun lc caps H4 nc ec ly hy ndc b4' k4 => ?_⟩
        have cp : lc ≠ p := fun z => b3.ne nc z.symm
        have K4 : Kp p Hi H4 := (Kp.eq (p := p) k3).trans k4
        refine ⟨_, rfl, _, rfl, p, 5, _, rfl, b4', by omega, by decide, by decide, fun d H5 d0' d1' b5' k5 => ?_⟩
        obtain ⟨em, rfl⟩ : ∃ em : Nat, d = (em : Int) := ⟨d.toNat, by omega⟩
        refine ⟨_, _, rfl, rfl, p, _, em + 4, by show [V.ref p, V.int (4 + (em : Nat))] = _; rw [show ((4 : Int) + (em : Nat)) = ((em + 4 : Nat) : Int) from by omega], b5', by omega, by omega, by omega, fun ln names H6 nn en n3 n9 hnm ndn b6' k6 => ⟨_, _, rfl, ?_⟩⟩
        have np' : ln ≠ p := fun z => b5'.ne nn z.symm
        have ec6 := k6 _ _ cp ((k5 lc cp).trans ec)
        have K6 : Kp p Hi H6 := K4.trans ((Kp.eq (p := p) k5).trans k6)
        -- rows
        refine ⟨_, rfl, _, rfl, _, rfl, p, lc, ln, caps, names, _, rfl, b6', by omega, ec6, cp, by omega, by omega, fun c hc => (hy c hc).1, en, np', n3, n9, fun z hz => (hnm z hz).2.2, ndn, fun lr vs rs H7 nr er hR ek ok b7' k7 => ?_⟩
        have g : Gd rs := gd_drawn (by omega) (by omega) (fun c hc => (hy c hc).1) hnm ndc ek ok
        have rp : lr ≠ p := fun z => b6'.ne nr z.symm
        have K7 : Kp p Hi H7 := K6.trans k7
        have lrs : rs.length = dn + 1 := by rw [← List.length_map (f := LR.kind), ek, ly]
        have hsz : ∀ q ∈ rs, LSz q ∧ ∀ t, q.cond = some t → dL (lt t) ≤ 6 := fun q hq => ⟨g.sz q hq, g.dp q hq⟩
        have rL : lr ≠ L := Ne.symm (ne_of_none (K6 _ _ (Ne.symm pL) eLi) nr)
        -- two kinds
        refine ⟨rfl, _, rfl, _, rfl, p, lr, vs, rs, _, rfl, b7', by omega, er, rp, hR, by omega, hsz, fun xs H8 xl hx b8' k8 => ?_⟩
        unfold tNil
        refine rd g H8 _ xl hx fun a qs H9 S9 na ka ag al => ?_
        have K9 : Kp p H7 H9 := k8.trans (Kp.of S9)
        have hR9 := hR.mono (NL.kp b7' K9).tup
        have er9 := K9 _ _ rp er
        have b9' := b8'.mono S9
        refine ⟨rfl, _, rfl, _, rfl, p, lr, vs, rs, _, rfl, b9', by omega, er9, rp, hR9, by omega, hsz, fun ys H10 yl hy2 b10' k10 => ?_⟩
        refine rd g H10 _ yl hy2 fun b qb H11 S11 nb kb agb bl => ⟨_, _, rfl, ?_⟩
        have K11 : Kp p H9 H11 := k10.trans (Kp.of S11)
        have ka11 := ka.nl (NL.kp b9' K11)
        have hR11 := hR9.mono (NL.kp b9' K11).tup
        have er11 := K11 _ _ rp er9
        have b11' := b10'.mono S11
        have K11' : Kp p Hi H11 := K7.trans (K9.trans K11)
        obtain ⟨dxa, w1, w2, w3, w4, ea, ew⟩ := ka11.ins
        obtain ⟨dxb, v1, v2, v3, v4, eb, _⟩ := kb.ins
        -- told right
        refine ⟨_, rfl, _, rfl, a, lr, vs, rs, qs, rfl, ka11, er11, hR11, by omega, fun q hq => (hsz q hq).1, g.asc, ag, fun H12 S12 => ⟨_, rfl, iteN rfl ?_⟩⟩
        have ka12 := ka11.same S12
        refine ⟨rfl, _, rfl, a, dxa, _, rfl, S12 _ _ ea, a, qs, rfl, ka12, by omega, _, rfl, ?_⟩
        refine rs_ g ag H12 _ fun a2 q2 H13 S13 na2 k2 ag2 al2 => ?_
        have S1213 := S12.trans S13
        refine ⟨_, rfl, a2, lr, vs, rs, q2, rfl, k2, S1213 _ _ er11, hR11.mono (NL.of S1213).tup, by omega, fun q hq => (hsz q hq).1, g.asc, ag2, fun H14 S14 => ⟨_, rfl, iteN rfl ?_⟩⟩
        have S1214 := S1213.trans S14
        have ka14 := ka11.same S1214
        have kb14 := kb.same S1214
        have ea14 := S1214 _ _ ea
        have eb14 := S1214 _ _ eb
        -- compared
        refine ⟨rfl, _, rfl, a, dxa, _, rfl, ea14, a, qs, rfl, ka14, by omega, _, rfl, ?_⟩
        refine rs_ g ag H14 _ fun a3 q3 H15 S15 na3 k3' ag3 al3 => ?_
        obtain ⟨dx3, _, _, _, _, e3, _⟩ := k3'.ins
        have ka15 := ka14.same S15
        have kb15 := kb14.same S15
        have ea15 := S15 _ _ ea14
        have eb15 := S15 _ _ eb14
        have ew15 := (S1214.trans S15) _ _ ew
        refine ⟨_, rfl, a3, dx3, _, .ref C, rfl, e3, .base (.ins ea15 TK.cl TE.ha TE.hn TE.htk TE.hm), TQ.f4, a3, q3, _, rfl, k3', .inl ⟨a, qs, rfl, ka15, _, rfl, _, rfl, iteN (by rw [ag3.text, ag.text, decide_eq_true rfl]; rfl) ?_⟩⟩
        refine ⟨_, rfl, _, rfl, a, dxa, _, .ref C, rfl, ea15, .base (.ins eb15 TK.cl TE.ha TE.hn TE.htk TE.hm), TQ.f4, a, qs, _, rfl, ka15, .inl ⟨b, qb, rfl, kb15, _, rfl, _, rfl, iteN (by rw [agb.text, ag.text, decide_eq_true rfl]; rfl) ?_⟩⟩
        refine ⟨_, rfl, _, rfl, a, dxa, _, rfl, ea15, a, qs, rfl, ka15, by omega, _, rfl, a, dxa, _, .type "str", rfl, ea15, .base (.str _), TQ.f2, a, qs, _, rfl, ka15, .inr ⟨.type "str", .base (.str _), TQ.k2, false, rfl, _, rfl, iteF ?_⟩⟩
        refine ⟨_, rfl, _, rfl, a, C, dxa, _, _, rfl, ea15, TK.cl, TK.a_words, rfl, a, dxa, _, .type "tuple", rfl, ea15, .base (.tup ew15), TQ.f3, a, qs, _, rfl, ka15, .inr ⟨.type "tuple", .base (.tup ew15), TQ.k3, false, rfl, _, rfl, iteF ?_⟩⟩
        have K15 : Kp p Hi H15 := K11'.trans (Kp.of (S1214.trans S15))
        have b15' := b11'.mono (S1214.trans S15)
        have eL15 := K15 _ _ (Ne.symm pL) eLi
        have hus15 := (hus.nl (NL.kp bi K15)).snoc ka15 al
        have er15 := (S1214.trans S15) _ _ er11
        have hR15 := hR11.mono (NL.of (S1214.trans S15)).tup
        refine ⟨_, rfl, .inl ⟨rfl, _, SqL.of eL15⟩, _, rfl, L, _, _, rfl, rfl, eL15, by rw [sizeLine_eq]; omega, ?_⟩
        have N16 : NL H15 (upd H15 L (.lst (us ++ [.ref a]))) := NL.set eL15
        have hus16 := hus15.nl N16
        have hR16 := hR15.mono N16.tup
        have eL16 : upd H15 L (.lst (us ++ [.ref a])) L = some (.lst (us ++ [.ref a])) := upd_same
        have er16 : upd H15 L (.lst (us ++ [.ref a])) lr = some (.lst vs) := (upd_ne rL).trans er15
        have KS16 : ∀ b o, b ≠ p → b ≠ L → H2 b = some o → upd H15 L (.lst (us ++ [.ref a])) b = some o := fun b o n m e => (upd_ne m).trans (K15 b o n (ki b o n m e))
        have b16' : BoxAt (upd H15 L (.lst (us ++ [.ref a]))) p (2440 * i + 2099) := by
          obtain ⟨c', sd, n, e, x⟩ := b15'.le (m' := 2440 * i + 2099) (by rw [← ek, List.length_map]; omega)
          exact ⟨c', sd, n, by rw [upd_ne pL]; exact e, x⟩
        generalize upd H15 L (.lst (us ++ [.ref a])) = H16 at *
        refine ⟨fun σ Hx => Kp p H16 Hx ∧ BoxAt Hx p (2440 * i + 2100) ∧ ∃ (T : Addr) (ts : List V) (qs' : List LR), Hx T = some (.lst ts) ∧ T ≠ p ∧ LsAt Hx ts qs' ∧ qs'.Perm rs ∧ σ = [some (.ref l), some (.int (0 + (k : Nat))), some (.ref p), some (.ref L), some (.int (0 + (i : Nat))), some (.ref lc), some (.ref ln), some (.ref lr), some (.ref a), some (.ref b), some (.ref T), b11], ?_, ?_⟩
        · refine ⟨_, rfl, p, 2, _, rfl, b16', by omega, by decide, by decide, fun d H17 _ _ b17' k17 => ⟨rfl, _, rfl, ite2 (fun _ => ?_) (fun _ => ?_)⟩⟩
          · have er17 := (k17 lr rp).trans er16
            have K17 := Kp.eq (p := p) k17
            refine ⟨_, rfl, _, rfl, lr, _, rfl, SqL.of er17, fun l1 nl1 => ?_⟩
            rw [cut_drop vs (by rw [hR.1]; omega)]
            have T1 := new_same (o := .lst (vs.drop 1)) nl1
            have e1 : upd H17 l1 (.lst (vs.drop 1)) l1 = some (.lst (vs.drop 1)) := upd_same
            generalize upd H17 l1 (.lst (vs.drop 1)) = H18 at *
            refine ⟨_, rfl, _, rfl, lr, _, rfl, SqL.of (T1 _ _ er17), fun l2 nl2 => ?_⟩
            rw [show (some (1 : Int)) = some ((1 : Nat) : Int) from rfl, cut_take vs 1 (by rw [hR.1]; omega)]
            have T2 := new_same (o := .lst (vs.take 1)) nl2
            have e2 : upd H18 l2 (.lst (vs.take 1)) l2 = some (.lst (vs.take 1)) := upd_same
            generalize upd H18 l2 (.lst (vs.take 1)) = H19 at *
            refine ⟨l1, l2, _, _, rfl, rfl, T2 _ _ e1, e2, by rw [List.length_drop, List.length_take, hR.1, sizeLine_eq]; omega, fun l3 nl3 => ?_⟩
            have T3 := T1.trans (T2.trans (new_same (o := .lst (vs.drop 1 ++ vs.take 1)) nl3))
            have K20 := K17.trans (Kp.of T3)
            have b20 := b17'.mono T3
            refine ⟨K20, b20, l3, _, _, upd_same, fun z => ?_, (hR16.mono (NL.kp b16' K20).tup).turn, turn_perm rs, rfl⟩
            obtain ⟨_, _, _, eb, _⟩ := b17'.mono (T1.trans T2)
            rw [z, eb] at nl3
            cases nl3
          · exact ⟨_, rfl, Kp.eq k17, b17', lr, vs, rs, (k17 lr rp).trans er16, rp, hR16.mono (NL.kp b16' (Kp.eq k17)).tup, List.Perm.refl _, rfl⟩
        · rintro σ Hx ⟨kx, bx', T0, ts, qs', eT, Tp, hRx, pm, rfl⟩
          have g' := g.perm pm
          have lq := pm.length_eq
          have eLx := kx _ _ (Ne.symm pL) eL16
          refine ⟨_, rfl, .inl ⟨rfl, _, SqL.of eLx⟩, rfl, _, rfl, _, rfl, p, T0, ts, qs', _, rfl, bx', by omega, eT, Tp, hRx, by omega, fun q hq => ⟨g'.sz q hq, g'.dp q hq⟩, fun xs H18 xl hx b18 k18 => ?_⟩
          refine rd g' H18 _ xl hx fun c qc H19 S19 nc kc agc cl => ?_
          have K19 := k18.trans (Kp.of S19)
          have eL19 := K19 _ _ (Ne.symm pL) eLx
          have hus19 := (hus16.nl ((NL.kp b16' kx).trans (NL.kp bx' K19))).snoc kc cl
          refine ⟨L, _, _, rfl, rfl, eL19, by rw [List.length_append, List.length_singleton, sizeLine_eq]; omega, ?_⟩
          refine ⟨?_, fun b o n m e => (upd_ne m).trans (K19 b o n (kx b o n (KS16 b o n m e))), ⟨us ++ [.ref a] ++ [.ref c], upd_same, hus19.nl (NL.set eL19), by rw [List.length_append, List.length_append, List.length_singleton, List.length_singleton]; omega⟩, _, _, _, _, _, _, _, _, rfl⟩
          obtain ⟨c', sd, n, e, x⟩ := (b18.mono S19).le (m' := 2440 * (i + 1)) (by omega)
          exact ⟨c', sd, n, by rw [upd_ne pL]; exact e, x⟩
      · obtain ⟨bi, ki, ⟨us, eLi, hus, lus⟩, b4, b5, b6, b7, b8, b9, b10, b11, rfl⟩ := P
        have SHi : Same H Hi := fun b o e => by
          have bp : b ≠ p := ne_of_none e np
          have e1 := s1 _ _ e
          have bL : b ≠ L := ne_of_none e1 nL
          exact ki b o bp bL (S2 _ _ e1)
        refine ⟨_, rfl, L, rfl, ⟨_, SqL.of eLi⟩, ?_⟩
        refine for_list (K := K) (a := L) (xs := us) (fun i σ Hx => Same Hi Hx ∧ ∃ b4 b5 b6 b7 b8 b9 b10 b11 : Option V, σ = [some (.ref l), some (.int (0 + (k : Nat))), some (.ref p), some (.ref L), b4, b5, b6, b7, b8, b9, b10, b11])
          ⟨Same.refl _, _, _, _, _, _, _, _, _, rfl⟩ (fun i σ Hx _ P => SqL.of (P.1 _ _ eLi)) (fun i x σ Hx hx P => ?_) (fun σ Hx P => ?_)
        · obtain ⟨sx, b4, b5, b6, b7, b8, b9, b10, b11, rfl⟩ := P
          obtain ⟨a, qa, rfl, ka, al⟩ := hus x (List.mem_of_getElem? hx)
          refine ⟨_, rfl, L, rfl, ⟨_, SqL.of (sx _ _ eLi)⟩, ?_⟩
          refine for_list (K := K) (a := L) (xs := us) (fun j σ Hy => Same Hx Hy ∧ ∃ b4 b5 b6 b7 b8 b9 b10 : Option V, σ = [some (.ref l), some (.int (0 + (k : Nat))), some (.ref p), some (.ref L), b4, b5, b6, b7, b8, b9, b10, some (.ref a)])
            ⟨Same.refl _, _, _, _, _, _, _, _, rfl⟩ (fun j σ Hy _ P => SqL.of (P.1 _ _ (sx _ _ eLi))) (fun j y σ Hy hy P => ?_) (fun σ Hy P => ?_)
          · obtain ⟨sy, b4, b5, b6, b7, b8, b9, b10, rfl⟩ := P
            obtain ⟨b, qb, rfl, kb, bl⟩ := hus y (List.mem_of_getElem? hy)
            have sxy := sx.trans sy
            have ka' := ka.same sxy
            have kb' := kb.same sxy
            obtain ⟨dxa, _, _, _, _, ea, _⟩ := ka'.ins
            obtain ⟨dxb, _, _, _, _, eb, _⟩ := kb'.ins
            refine ⟨_, rfl, _, rfl, a, dxa, _, .ref C, rfl, ea, .base (.ins eb TK.cl TE.ha TE.hn TE.htk TE.hm), TQ.f4, a, qa, _, rfl, ka', .inl ⟨b, qb, rfl, kb', _, rfl, ?_⟩⟩
            refine ⟨_, rfl, _, rfl, a, dxa, _, .ref C, rfl, ea, .base (.ins eb TK.cl TE.ha TE.hn TE.htk TE.hm), TQ.f4, a, qa, _, rfl, ka', .inl ⟨b, qb, rfl, kb', _, rfl, (by show 2 ≤ sizeLine; rw [sizeLine_eq]; decide), fun q1 nq1 => ?_⟩⟩
            have U1 := new_same (o := .lst [.bl (decide (kText qa = kText qb)), .bl (!decide (kText qa = kText qb))]) nq1
            refine ⟨_, rfl, a, dxa, _, rfl, U1 _ _ ea, a, qa, rfl, ka'.same U1, by omega, _, rfl, _, rfl, b, dxb, _, rfl, U1 _ _ eb, b, qb, rfl, kb'.same U1, by omega, _, rfl, rfl, ?_⟩
            refine ⟨_, rfl, a, dxa, _, rfl, U1 _ _ ea, a, qa, rfl, ka'.same U1, by omega, _, rfl, _, rfl, b, dxb, _, rfl, U1 _ _ eb, b, qb, rfl, kb'.same U1, by omega, _, rfl, rfl, (by show 2 ≤ sizeLine; rw [sizeLine_eq]; decide), fun q2 nq2 => ?_⟩
            rw [dec_str]
            have U2 := new_same (o := .lst [.bl (decide (kText qa = kText qb)), .bl (!decide (kText qa = kText qb))]) nq2
            refine ⟨.list [.bool (decide (kText qa = kText qb)), .bool (!decide (kText qa = kText qb))], .list [.bool (decide (kText qa = kText qb)), .bool (!decide (kText qa = kText qb))], .lst (SqL.of (U2 _ _ upd_same)) (.cons (.bl _) (.cons (.bl _) .nil)), .lst (SqL.of upd_same) (.cons (.bl _) (.cons (.bl _) .nil)), two_sh _, two_sh _, _, rfl, ?_⟩
            rw [two_eq]
            refine iteF ?_
            exact ⟨sy.trans (U1.trans U2), _, _, _, _, _, _, _, rfl⟩
          · obtain ⟨sy, b4, b5, b6, b7, b8, b9, b10, rfl⟩ := P
            exact ⟨sx.trans sy, _, _, _, _, _, _, _, _, rfl⟩
        · obtain ⟨sx, b4, b5, b6, b7, b8, b9, b10, b11, rfl⟩ := P
          exact ⟨(SHi.trans sx).seq hl, _, _, _, _, _, _, _, _, _, _, _, rfl⟩
    · -- no rows
      refine ⟨rfl, _, [], rfl, text_nil, fun a H1 S1 na k1 => ?_⟩
      obtain ⟨dx1, _, _, _, _, e1, _⟩ := k1.ins
      refine ⟨a, dx1, _, rfl, e1, a, [], rfl, k1, by decide, _, rfl, rfl, _, rfl, iteY (by decide) ?_⟩
      refine ⟨rfl, _, [], rfl, text_nil, fun a2 H2 S2 na2 k2 => ?_⟩
      obtain ⟨dx2, _, _, _, _, e2, _⟩ := k2.ins
      refine ⟨a2, dx2, _, rfl, e2, a2, [], rfl, k2, 0, by decide, rfl, rfl, _, rfl, iteY (by decide) ?_⟩
      refine ⟨rfl, _, [], rfl, text_nil, fun a3 H3 S3 na3 k3 => ?_⟩
      obtain ⟨dx3, w1, w2, w3, w4, nm, as, us, e3, _, en, un, _⟩ := id k3
      have nn : nm = [] := List.eq_nil_iff_forall_not_mem.mpr fun x hx => by
        obtain ⟨r, hr, _⟩ := (un.2 x).mp hx
        exact absurd hr (by simp)
      rw [nn] at en
      refine ⟨a3, C, dx3, _, _, rfl, e3, TK.cl, TK.a_names, rfl, Nat.zero_le _, fun t nt => ?_⟩
      have U := new_same (o := .tup []) nt
      exact ⟨.tuple [], .tuple [], .tup (SqT.of (U _ _ en)) .nil, .tup (SqT.of upd_same) .nil, rfl, rfl, q _⟩
end
end N7

set_option linter.all false
set_option maxRecDepth 100000
set_option maxHeartbeats 8000000
namespace N7
open PySem PySem.Spec PyProof.Rows L2 Gx Qp Qh
/-! the defs that call themselves, at every height -/
section
variable {P : Program} {w : World} {K : PySem.W.Frag} {mg : Str → Option Value} {base : Heap}
theorem ok_shownA {fb fs : Addr} {fdb fds : FuncData} (Fb : Fun K "_law_bound" "_law_bound" s_bound fb fdb) (Fs : Fun K "_law_shown" "_law_shown" s_shown fs fds) (T : NmS mg K fb fs) (b_bound : Binds K fdb ["_law_tree", "_law_word"] []) (b_shown : Binds K fds ["_law_tree"] []) :
    ∀ d, FnOk P w K mg base CX0 (2 * d + 1) fs fds ["_law_tree"] (spShown d)
  | 0 => ok_shown Fs T (fun e h => absurd h (by omega)) b_bound
  | d + 1 => ok_shown Fs T (fun e h => by
      obtain rfl : d = e := by omega
      exact ok_bound Fb T (ok_shownA Fb Fs T b_bound b_shown d) b_shown) b_bound
theorem ok_insideA {ft fx fp fab fns : Addr} {fdt fda fdi : FuncData} (F : Fun K "_law_inside" "_law_inside" s_inside fns fdi) (T : NmB mg K ft fx fp fab fns)
    (G_take : FnOk P w K mg base CX0 1 ft fdt ["_law_box_here", "_law_many_here"] spTake) (b_take : Binds K fdt ["_law_box_here", "_law_many_here"] [])
    (G_about : FnOk P w K mg base CX0 3 fab fda ["_law_box_here", "_law_caps_here"] spAbout) (b_about : Binds K fda ["_law_box_here", "_law_caps_here"] []) (b_inside : Binds K fdi ["_law_box_here", "_law_caps_here", "_law_size"] []) :
    ∀ n, FnOk P w K mg base CX0 (n + 4) fns fdi ["_law_box_here", "_law_caps_here", "_law_size"] (spInside n)
  | 0 => ok_inside F T G_take b_take G_about b_about (fun e h => absurd h (by omega)) b_inside
  | n + 1 => ok_inside F T G_take b_take G_about b_about (fun e h => by
      obtain rfl : n = e := by omega
      exact ok_insideA F T G_take b_take G_about b_about b_inside n) b_inside
theorem ok_writtenA {ft fw fpt fs : Addr} {fdt fdw fdp fds : FuncData} (Fw : Fun K "_law_written" "_law_written" s_written fw fdw) (Fp : Fun K "_law_part" "_law_part" s_part fpt fdp) (T : NmW mg K ft fw fpt fs)
    (G_take : FnOk P w K mg base CX0 1 ft fdt ["_law_box_here", "_law_many_here"] spTake) (b_take : Binds K fdt ["_law_box_here", "_law_many_here"] [])
    (G_shown : FnOk P w K mg base CX0 1 fs fds ["_law_tree"] (spShown 0)) (b_shown : Binds K fds ["_law_tree"] []) (b_part : Binds K fdp ["_law_box_here", "_law_tree", "_law_word", "_law_odds"] []) (b_written : Binds K fdw ["_law_box_here", "_law_tree", "_law_odds"] []) :
    ∀ n, FnOk P w K mg base CX0 (2 * n + 2) fw fdw ["_law_box_here", "_law_tree", "_law_odds"] (spWritten n)
  | 0 => ok_written Fw T G_shown b_shown (fun e h => absurd h (by omega)) b_part
  | n + 1 => ok_written Fw T G_shown b_shown (fun e h => by
      obtain rfl : n = e := by omega
      exact ok_part Fp T G_take b_take (ok_writtenA Fw Fp T G_take b_take G_shown b_shown b_part b_written n) b_written) b_part
theorem ok_manyA {fm : Addr} {fdm : FuncData} (F : Fun K "_law_many" "_law_many" s_many fm fdm) (T : NmMn mg K fm) (b_many : Binds K fdm ["_law_tree"] []) : ∀ n, FnOk P w K mg base CX0 (n + 1) fm fdm ["_law_tree"] (spMany n)
  | 0 => ok_many F T (fun e h => absurd h (by omega)) b_many
  | n + 1 => ok_many F T (fun e h => by
      obtain rfl : n = e := by omega
      exact ok_manyA F T b_many n) b_many
end
end N7

set_option linter.all false
set_option maxRecDepth 100000
set_option maxHeartbeats 16000000
namespace N7
open PySem PySem.Spec PyProof.Rows L2 Gx Qp Qh
/-! ### what the top has written -/
abbrev Lw : PySem.W.OpenLaw := PySem.Challenge.rw_keptnomore_k07_kinds_shown
def tabB (K : PySem.W.Frag) (Q : Addr) : Bool := decide (PySem.W.kitOne K (.ref Q) (.ref Q) = some true) && decide (PySem.W.findIn K (.ref Q) "__ne__" = some (some (.builtin "object.__ne__"))) && decide (PySem.W.kitOne K (.type "str") (.ref Q) = some false) && decide (PySem.W.kitOne K (.type "tuple") (.ref Q) = some false) && decide (PySem.W.notFirst K Q (.type "str") = true) && decide (PySem.W.notFirst K Q (.type "tuple") = true) && decide (PySem.W.notFirst K Q (.ref Q) = true)
structure TabF (K : PySem.W.Frag) (Q : Addr) : Prop where
  kit : PySem.W.kitOne K (.ref Q) (.ref Q) = some true
  ne : PySem.W.findIn K (.ref Q) "__ne__" = some (some (.builtin "object.__ne__"))
  k2 : PySem.W.kitOne K (.type "str") (.ref Q) = some false
  k3 : PySem.W.kitOne K (.type "tuple") (.ref Q) = some false
  f2 : PySem.W.notFirst K Q (.type "str") = true
  f3 : PySem.W.notFirst K Q (.type "tuple") = true
  f4 : PySem.W.notFirst K Q (.ref Q) = true
theorem tabB_ok {K : PySem.W.Frag} {Q : Addr} (h : tabB K Q = true) : TabF K Q := by
  unfold tabB at h
  simp only [Bool.and_eq_true, decide_eq_true_eq] at h
  obtain ⟨⟨⟨⟨⟨⟨h0, h1⟩, h2⟩, h3⟩, h4⟩, h5⟩, h6⟩ := h
  exact ⟨h0, h1, h2, h3, h4, h5, h6⟩
theorem all_mk {w : World} {K : PySem.W.Frag} {h : Heap} {mg : Str → Option Value} {fa : Addr} (X : K.In h) (G : h.Ns mainGlobals mg) (hfa : mg "law" = some (.ref fa))
    {fF_rows_in fF_words_in fF_consists fF_is_name fF_is_kind_name fF_fits fF_count_of fF_joined fF_encl fF_tunder fF_tof fF_depth fF_ato fF_is_place fF_condition_of fF_kind_row_of fF_faults fF_box fF_take fF_mixed fF_pick fF_names fF_caps fF_bound fF_shown fF_about fF_inside fF_lines fF_lines_text fF_written fF_nodenames fF_part fF_many fF_drawn fF_all_written fF_told fF_law Cr fF_dinit fF_dtake fF_dended fF_datom fF_dbehind fF_dclose fF_dput fF_dgather Cw fF_rinit fF_line fF_unlike fF_used C fF_kinit rec_kread fF_kread fF_kstr fF_keq fF_klen fF_kcon fT_j fT_o fT_h fT_w fT_nn : Addr}
    {odF_rows_in anF_rows_in odF_words_in anF_words_in odF_consists anF_consists odF_is_name anF_is_name odF_is_kind_name anF_is_kind_name odF_fits anF_fits odF_count_of anF_count_of odF_joined anF_joined odF_encl anF_encl odF_tunder anF_tunder odF_tof anF_tof odF_depth anF_depth odF_ato anF_ato odF_is_place anF_is_place odF_condition_of anF_condition_of odF_kind_row_of anF_kind_row_of odF_faults anF_faults odF_box anF_box odF_take anF_take odF_mixed anF_mixed odF_pick anF_pick odF_names anF_names odF_caps anF_caps odF_bound anF_bound odF_shown anF_shown odF_about anF_about odF_inside anF_inside odF_lines anF_lines odF_lines_text anF_lines_text odF_written anF_written odF_nodenames anF_nodenames odF_part anF_part odF_many anF_many odF_drawn anF_drawn odF_all_written anF_all_written odF_told anF_told odF_law anF_law odF_dinit anF_dinit odF_dtake anF_dtake odF_dended anF_dended odF_datom anF_datom odF_dbehind anF_dbehind odF_dclose anF_dclose odF_dput anF_dput odF_dgather anF_dgather odF_rinit anF_rinit odF_line anF_line odF_unlike anF_unlike odF_used anF_used odF_kinit anF_kinit odF_kread anF_kread odF_kstr anF_kstr odF_keq anF_keq odF_klen anF_klen odF_kcon anF_kcon odT_j odT_o odT_h odT_w odT_nn : Option Addr}
    {ocF_rows_in kVF_rows_in dcF_rows_in pmF_rows_in cdF_rows_in ctF_rows_in ocF_words_in kVF_words_in dcF_words_in pmF_words_in cdF_words_in ctF_words_in ocF_consists kVF_consists dcF_consists pmF_consists cdF_consists ctF_consists ocF_is_name kVF_is_name dcF_is_name pmF_is_name cdF_is_name ctF_is_name ocF_is_kind_name kVF_is_kind_name dcF_is_kind_name pmF_is_kind_name cdF_is_kind_name ctF_is_kind_name ocF_fits kVF_fits dcF_fits pmF_fits cdF_fits ctF_fits ocF_count_of kVF_count_of dcF_count_of pmF_count_of cdF_count_of ctF_count_of ocF_joined kVF_joined dcF_joined pmF_joined cdF_joined ctF_joined ocF_encl kVF_encl dcF_encl pmF_encl cdF_encl ctF_encl ocF_tunder kVF_tunder dcF_tunder pmF_tunder cdF_tunder ctF_tunder ocF_tof kVF_tof dcF_tof pmF_tof cdF_tof ctF_tof ocF_depth kVF_depth dcF_depth pmF_depth cdF_depth ctF_depth ocF_ato kVF_ato dcF_ato pmF_ato cdF_ato ctF_ato ocF_is_place kVF_is_place dcF_is_place pmF_is_place cdF_is_place ctF_is_place ocF_condition_of kVF_condition_of dcF_condition_of pmF_condition_of cdF_condition_of ctF_condition_of ocF_kind_row_of kVF_kind_row_of dcF_kind_row_of pmF_kind_row_of cdF_kind_row_of ctF_kind_row_of ocF_faults kVF_faults dcF_faults pmF_faults cdF_faults ctF_faults ocF_box kVF_box dcF_box pmF_box cdF_box ctF_box ocF_take kVF_take dcF_take pmF_take cdF_take ctF_take ocF_mixed kVF_mixed dcF_mixed pmF_mixed cdF_mixed ctF_mixed ocF_pick kVF_pick dcF_pick pmF_pick cdF_pick ctF_pick ocF_names kVF_names dcF_names pmF_names cdF_names ctF_names ocF_caps kVF_caps dcF_caps pmF_caps cdF_caps ctF_caps ocF_bound kVF_bound dcF_bound pmF_bound cdF_bound ctF_bound ocF_shown kVF_shown dcF_shown pmF_shown cdF_shown ctF_shown ocF_about kVF_about dcF_about pmF_about cdF_about ctF_about ocF_inside kVF_inside dcF_inside pmF_inside cdF_inside ctF_inside ocF_lines kVF_lines dcF_lines pmF_lines cdF_lines ctF_lines ocF_lines_text kVF_lines_text dcF_lines_text pmF_lines_text cdF_lines_text ctF_lines_text ocF_written kVF_written dcF_written pmF_written cdF_written ctF_written ocF_nodenames kVF_nodenames dcF_nodenames pmF_nodenames cdF_nodenames ctF_nodenames ocF_part kVF_part dcF_part pmF_part cdF_part ctF_part ocF_many kVF_many dcF_many pmF_many cdF_many ctF_many ocF_drawn kVF_drawn dcF_drawn pmF_drawn cdF_drawn ctF_drawn ocF_all_written kVF_all_written dcF_all_written pmF_all_written cdF_all_written ctF_all_written ocF_told kVF_told dcF_told pmF_told cdF_told ctF_told ocF_law kVF_law dcF_law pmF_law cdF_law ctF_law ocF_dinit kVF_dinit dcF_dinit pmF_dinit cdF_dinit ctF_dinit ocF_dtake kVF_dtake dcF_dtake pmF_dtake cdF_dtake ctF_dtake ocF_dended kVF_dended dcF_dended pmF_dended cdF_dended ctF_dended ocF_datom kVF_datom dcF_datom pmF_datom cdF_datom ctF_datom ocF_dbehind kVF_dbehind dcF_dbehind pmF_dbehind cdF_dbehind ctF_dbehind ocF_dclose kVF_dclose dcF_dclose pmF_dclose cdF_dclose ctF_dclose ocF_dput kVF_dput dcF_dput pmF_dput cdF_dput ctF_dput ocF_dgather kVF_dgather dcF_dgather pmF_dgather cdF_dgather ctF_dgather ocF_rinit kVF_rinit dcF_rinit pmF_rinit cdF_rinit ctF_rinit ocF_line kVF_line dcF_line pmF_line cdF_line ctF_line ocF_unlike kVF_unlike dcF_unlike pmF_unlike cdF_unlike ctF_unlike ocF_used kVF_used dcF_used pmF_used cdF_used ctF_used ocF_kinit kVF_kinit dcF_kinit pmF_kinit cdF_kinit ctF_kinit ocF_kread kVF_kread dcF_kread pmF_kread cdF_kread ctF_kread ocF_kstr kVF_kstr dcF_kstr pmF_kstr cdF_kstr ctF_kstr ocF_keq kVF_keq dcF_keq pmF_keq cdF_keq ctF_keq ocF_klen kVF_klen dcF_klen pmF_klen cdF_klen ctF_klen ocF_kcon kVF_kcon dcF_kcon pmF_kcon cdF_kcon ctF_kcon : Value}
    {slF_rows_in slF_words_in slF_consists slF_is_name slF_is_kind_name slF_fits slF_count_of slF_joined slF_encl slF_tunder slF_tof slF_depth slF_ato slF_is_place slF_condition_of slF_kind_row_of slF_faults slF_box slF_take slF_mixed slF_pick slF_names slF_caps slF_bound slF_shown slF_about slF_inside slF_lines slF_lines_text slF_written slF_nodenames slF_part slF_many slF_drawn slF_all_written slF_told slF_law slF_dinit slF_dtake slF_dended slF_datom slF_dbehind slF_dclose slF_dput slF_dgather slF_rinit slF_line slF_unlike slF_used slF_kinit slF_kread slF_kstr slF_keq slF_klen slF_kcon : Array (Option Value)}
    {rest_kread : List Value}
    {tk_j0 tk_j1 : Tok} {nT_j : Nat} {slT_j : Array (Option Value)}
    {tk_o0 tk_o1 : Tok} {nT_o : Nat} {slT_o : Array (Option Value)}
    {tk_h0 tk_h1 tk_h2 : Tok} {nT_h : Nat} {slT_h : Array (Option Value)}
    {tk_w0 tk_w1 tk_w2 tk_w3 tk_w4 tk_w5 tk_w6 tk_w7 : Tok} {nT_w : Nat} {slT_w : Array (Option Value)}
    {tk_nn0 tk_nn1 tk_nn2 : Tok} {nT_nn : Nat} {slT_nn : Array (Option Value)}
    {fQ qf0 qf1 qf2 qf3 qf4 qf5 qf6 qf7 qf8 qf9 qf10 qf11 : Addr} {odQ od_q0 od_q1 od_q2 od_q3 od_q4 od_q5 od_q6 od_q7 od_q8 od_q9 od_q10 od_q11 : Option Addr} {nQ n_q0 n_q1 n_q2 n_q3 n_q4 n_q5 n_q6 n_q7 n_q8 n_q9 n_q10 n_q11 : Nat} {slQ sl_q0 sl_q1 sl_q2 sl_q3 sl_q4 sl_q5 sl_q6 sl_q7 sl_q8 sl_q9 sl_q10 sl_q11 : Array (Option Value)} {tq0_0 tq0_1 tq1_0 tq1_1 tq2_0 tq2_1 tq3_0 tq3_1 tq4_0 tq4_1 tq4_2 tq5_0 tq5_1 tq5_2 tq6_0 tq6_1 tq6_2 tq6_3 tq6_4 tq6_5 tq7_0 tq7_1 tq7_2 tq7_3 tq7_4 tq7_5 tq8_0 tq8_1 tq8_2 tq8_3 tq8_4 tq8_5 tq9_0 tq9_1 tq9_2 tq9_3 tq9_4 tq9_5 tq10_0 tq10_1 tq10_2 tq10_3 tq10_4 tq10_5 tq11_0 tq11_1 : Tok}
    (aF_rows_in : PySem.W.nsIn K mainGlobals "rows_in" = some (some (.ref fF_rows_in)))
    (lF_rows_in : K.lookup fF_rows_in = some ⟨ocF_rows_in, odF_rows_in, .func (PySem.W.fnOf "rows_in" "rows_in" (defArgs s_rows_in) (defBody s_rows_in) (defScope s_rows_in) .none kVF_rows_in dcF_rows_in pmF_rows_in anF_rows_in cdF_rows_in ctF_rows_in), slF_rows_in⟩)
    (cF_rows_in : PySem.W.codeIn K cdF_rows_in "rows_in" = true)
    (kF_rows_in : PySem.W.keepIn K (.ref fF_rows_in) = true)
    (aF_words_in : PySem.W.nsIn K mainGlobals "words_in" = some (some (.ref fF_words_in)))
    (lF_words_in : K.lookup fF_words_in = some ⟨ocF_words_in, odF_words_in, .func (PySem.W.fnOf "words_in" "words_in" (defArgs s_words_in) (defBody s_words_in) (defScope s_words_in) .none kVF_words_in dcF_words_in pmF_words_in anF_words_in cdF_words_in ctF_words_in), slF_words_in⟩)
    (cF_words_in : PySem.W.codeIn K cdF_words_in "words_in" = true)
    (kF_words_in : PySem.W.keepIn K (.ref fF_words_in) = true)
    (aF_consists : PySem.W.nsIn K mainGlobals "consists_of" = some (some (.ref fF_consists)))
    (lF_consists : K.lookup fF_consists = some ⟨ocF_consists, odF_consists, .func (PySem.W.fnOf "consists_of" "consists_of" (defArgs s_consists) (defBody s_consists) (defScope s_consists) .none kVF_consists dcF_consists pmF_consists anF_consists cdF_consists ctF_consists), slF_consists⟩)
    (cF_consists : PySem.W.codeIn K cdF_consists "consists_of" = true)
    (kF_consists : PySem.W.keepIn K (.ref fF_consists) = true)
    (aF_is_name : PySem.W.nsIn K mainGlobals "is_name" = some (some (.ref fF_is_name)))
    (lF_is_name : K.lookup fF_is_name = some ⟨ocF_is_name, odF_is_name, .func (PySem.W.fnOf "is_name" "is_name" (defArgs s_is_name) (defBody s_is_name) (defScope s_is_name) .none kVF_is_name dcF_is_name pmF_is_name anF_is_name cdF_is_name ctF_is_name), slF_is_name⟩)
    (cF_is_name : PySem.W.codeIn K cdF_is_name "is_name" = true)
    (kF_is_name : PySem.W.keepIn K (.ref fF_is_name) = true)
    (aF_is_kind_name : PySem.W.nsIn K mainGlobals "is_kind_name" = some (some (.ref fF_is_kind_name)))
    (lF_is_kind_name : K.lookup fF_is_kind_name = some ⟨ocF_is_kind_name, odF_is_kind_name, .func (PySem.W.fnOf "is_kind_name" "is_kind_name" (defArgs s_is_kind_name) (defBody s_is_kind_name) (defScope s_is_kind_name) .none kVF_is_kind_name dcF_is_kind_name pmF_is_kind_name anF_is_kind_name cdF_is_kind_name ctF_is_kind_name), slF_is_kind_name⟩)
    (cF_is_kind_name : PySem.W.codeIn K cdF_is_kind_name "is_kind_name" = true)
    (kF_is_kind_name : PySem.W.keepIn K (.ref fF_is_kind_name) = true)
    (aF_fits : PySem.W.nsIn K mainGlobals "fits" = some (some (.ref fF_fits)))
    (lF_fits : K.lookup fF_fits = some ⟨ocF_fits, odF_fits, .func (PySem.W.fnOf "fits" "fits" (defArgs s_fits) (defBody s_fits) (defScope s_fits) .none kVF_fits dcF_fits pmF_fits anF_fits cdF_fits ctF_fits), slF_fits⟩)
    (cF_fits : PySem.W.codeIn K cdF_fits "fits" = true)
    (kF_fits : PySem.W.keepIn K (.ref fF_fits) = true)
    (aF_count_of : PySem.W.nsIn K mainGlobals "count_of" = some (some (.ref fF_count_of)))
    (lF_count_of : K.lookup fF_count_of = some ⟨ocF_count_of, odF_count_of, .func (PySem.W.fnOf "count_of" "count_of" (defArgs s_count_of) (defBody s_count_of) (defScope s_count_of) .none kVF_count_of dcF_count_of pmF_count_of anF_count_of cdF_count_of ctF_count_of), slF_count_of⟩)
    (cF_count_of : PySem.W.codeIn K cdF_count_of "count_of" = true)
    (kF_count_of : PySem.W.keepIn K (.ref fF_count_of) = true)
    (aF_joined : PySem.W.nsIn K mainGlobals "joined" = some (some (.ref fF_joined)))
    (lF_joined : K.lookup fF_joined = some ⟨ocF_joined, odF_joined, .func (PySem.W.fnOf "joined" "joined" (defArgs s_joined) (defBody s_joined) (defScope s_joined) .none kVF_joined dcF_joined pmF_joined anF_joined cdF_joined ctF_joined), slF_joined⟩)
    (cF_joined : PySem.W.codeIn K cdF_joined "joined" = true)
    (kF_joined : PySem.W.keepIn K (.ref fF_joined) = true)
    (aF_encl : PySem.W.nsIn K mainGlobals "is_enclosed" = some (some (.ref fF_encl)))
    (lF_encl : K.lookup fF_encl = some ⟨ocF_encl, odF_encl, .func (PySem.W.fnOf "is_enclosed" "is_enclosed" (defArgs s_encl) (defBody s_encl) (defScope s_encl) .none kVF_encl dcF_encl pmF_encl anF_encl cdF_encl ctF_encl), slF_encl⟩)
    (cF_encl : PySem.W.codeIn K cdF_encl "is_enclosed" = true)
    (kF_encl : PySem.W.keepIn K (.ref fF_encl) = true)
    (aF_tunder : PySem.W.nsIn K mainGlobals "text_under" = some (some (.ref fF_tunder)))
    (lF_tunder : K.lookup fF_tunder = some ⟨ocF_tunder, odF_tunder, .func (PySem.W.fnOf "text_under" "text_under" (defArgs s_tunder) (defBody s_tunder) (defScope s_tunder) .none kVF_tunder dcF_tunder pmF_tunder anF_tunder cdF_tunder ctF_tunder), slF_tunder⟩)
    (cF_tunder : PySem.W.codeIn K cdF_tunder "text_under" = true)
    (kF_tunder : PySem.W.keepIn K (.ref fF_tunder) = true)
    (aF_tof : PySem.W.nsIn K mainGlobals "text_of" = some (some (.ref fF_tof)))
    (lF_tof : K.lookup fF_tof = some ⟨ocF_tof, odF_tof, .func (PySem.W.fnOf "text_of" "text_of" (defArgs s_tof) (defBody s_tof) (defScope s_tof) .none kVF_tof dcF_tof pmF_tof anF_tof cdF_tof ctF_tof), slF_tof⟩)
    (cF_tof : PySem.W.codeIn K cdF_tof "text_of" = true)
    (kF_tof : PySem.W.keepIn K (.ref fF_tof) = true)
    (aF_depth : PySem.W.nsIn K mainGlobals "depth_of" = some (some (.ref fF_depth)))
    (lF_depth : K.lookup fF_depth = some ⟨ocF_depth, odF_depth, .func (PySem.W.fnOf "depth_of" "depth_of" (defArgs s_depth) (defBody s_depth) (defScope s_depth) .none kVF_depth dcF_depth pmF_depth anF_depth cdF_depth ctF_depth), slF_depth⟩)
    (cF_depth : PySem.W.codeIn K cdF_depth "depth_of" = true)
    (kF_depth : PySem.W.keepIn K (.ref fF_depth) = true)
    (aF_ato : PySem.W.nsIn K mainGlobals "atoms_of" = some (some (.ref fF_ato)))
    (lF_ato : K.lookup fF_ato = some ⟨ocF_ato, odF_ato, .func (PySem.W.fnOf "atoms_of" "atoms_of" (defArgs s_ato) (defBody s_ato) (defScope s_ato) .none kVF_ato dcF_ato pmF_ato anF_ato cdF_ato ctF_ato), slF_ato⟩)
    (cF_ato : PySem.W.codeIn K cdF_ato "atoms_of" = true)
    (kF_ato : PySem.W.keepIn K (.ref fF_ato) = true)
    (aF_is_place : PySem.W.nsIn K mainGlobals "is_place" = some (some (.ref fF_is_place)))
    (lF_is_place : K.lookup fF_is_place = some ⟨ocF_is_place, odF_is_place, .func (PySem.W.fnOf "is_place" "is_place" (defArgs s_is_place) (defBody s_is_place) (defScope s_is_place) .none kVF_is_place dcF_is_place pmF_is_place anF_is_place cdF_is_place ctF_is_place), slF_is_place⟩)
    (cF_is_place : PySem.W.codeIn K cdF_is_place "is_place" = true)
    (kF_is_place : PySem.W.keepIn K (.ref fF_is_place) = true)
    (aF_condition_of : PySem.W.nsIn K mainGlobals "condition_of" = some (some (.ref fF_condition_of)))
    (lF_condition_of : K.lookup fF_condition_of = some ⟨ocF_condition_of, odF_condition_of, .func (PySem.W.fnOf "condition_of" "condition_of" (defArgs s_condition_of) (defBody s_condition_of) (defScope s_condition_of) .none kVF_condition_of dcF_condition_of pmF_condition_of anF_condition_of cdF_condition_of ctF_condition_of), slF_condition_of⟩)
    (cF_condition_of : PySem.W.codeIn K cdF_condition_of "condition_of" = true)
    (kF_condition_of : PySem.W.keepIn K (.ref fF_condition_of) = true)
    (aF_kind_row_of : PySem.W.nsIn K mainGlobals "kind_row_of" = some (some (.ref fF_kind_row_of)))
    (lF_kind_row_of : K.lookup fF_kind_row_of = some ⟨ocF_kind_row_of, odF_kind_row_of, .func (PySem.W.fnOf "kind_row_of" "kind_row_of" (defArgs s_kind_row_of) (defBody s_kind_row_of) (defScope s_kind_row_of) .none kVF_kind_row_of dcF_kind_row_of pmF_kind_row_of anF_kind_row_of cdF_kind_row_of ctF_kind_row_of), slF_kind_row_of⟩)
    (cF_kind_row_of : PySem.W.codeIn K cdF_kind_row_of "kind_row_of" = true)
    (kF_kind_row_of : PySem.W.keepIn K (.ref fF_kind_row_of) = true)
    (aF_faults : PySem.W.nsIn K mainGlobals "refuse_faults" = some (some (.ref fF_faults)))
    (lF_faults : K.lookup fF_faults = some ⟨ocF_faults, odF_faults, .func (PySem.W.fnOf "refuse_faults" "refuse_faults" (defArgs s_faults) (defBody s_faults) (defScope s_faults) .none kVF_faults dcF_faults pmF_faults anF_faults cdF_faults ctF_faults), slF_faults⟩)
    (cF_faults : PySem.W.codeIn K cdF_faults "refuse_faults" = true)
    (kF_faults : PySem.W.keepIn K (.ref fF_faults) = true)
    (aF_box : PySem.W.nsIn K mainGlobals "_law_box" = some (some (.ref fF_box)))
    (lF_box : K.lookup fF_box = some ⟨ocF_box, odF_box, .func (PySem.W.fnOf "_law_box" "_law_box" (defArgs s_box) (defBody s_box) (defScope s_box) .none kVF_box dcF_box pmF_box anF_box cdF_box ctF_box), slF_box⟩)
    (cF_box : PySem.W.codeIn K cdF_box "_law_box" = true)
    (kF_box : PySem.W.keepIn K (.ref fF_box) = true)
    (aF_take : PySem.W.nsIn K mainGlobals "_law_take" = some (some (.ref fF_take)))
    (lF_take : K.lookup fF_take = some ⟨ocF_take, odF_take, .func (PySem.W.fnOf "_law_take" "_law_take" (defArgs s_take) (defBody s_take) (defScope s_take) .none kVF_take dcF_take pmF_take anF_take cdF_take ctF_take), slF_take⟩)
    (cF_take : PySem.W.codeIn K cdF_take "_law_take" = true)
    (kF_take : PySem.W.keepIn K (.ref fF_take) = true)
    (aF_mixed : PySem.W.nsIn K mainGlobals "_law_mixed" = some (some (.ref fF_mixed)))
    (lF_mixed : K.lookup fF_mixed = some ⟨ocF_mixed, odF_mixed, .func (PySem.W.fnOf "_law_mixed" "_law_mixed" (defArgs s_mixed) (defBody s_mixed) (defScope s_mixed) .none kVF_mixed dcF_mixed pmF_mixed anF_mixed cdF_mixed ctF_mixed), slF_mixed⟩)
    (cF_mixed : PySem.W.codeIn K cdF_mixed "_law_mixed" = true)
    (kF_mixed : PySem.W.keepIn K (.ref fF_mixed) = true)
    (aF_pick : PySem.W.nsIn K mainGlobals "_law_pick" = some (some (.ref fF_pick)))
    (lF_pick : K.lookup fF_pick = some ⟨ocF_pick, odF_pick, .func (PySem.W.fnOf "_law_pick" "_law_pick" (defArgs s_pick) (defBody s_pick) (defScope s_pick) .none kVF_pick dcF_pick pmF_pick anF_pick cdF_pick ctF_pick), slF_pick⟩)
    (cF_pick : PySem.W.codeIn K cdF_pick "_law_pick" = true)
    (kF_pick : PySem.W.keepIn K (.ref fF_pick) = true)
    (aF_names : PySem.W.nsIn K mainGlobals "_law_names" = some (some (.ref fF_names)))
    (lF_names : K.lookup fF_names = some ⟨ocF_names, odF_names, .func (PySem.W.fnOf "_law_names" "_law_names" (defArgs s_names) (defBody s_names) (defScope s_names) .none kVF_names dcF_names pmF_names anF_names cdF_names ctF_names), slF_names⟩)
    (cF_names : PySem.W.codeIn K cdF_names "_law_names" = true)
    (kF_names : PySem.W.keepIn K (.ref fF_names) = true)
    (aF_caps : PySem.W.nsIn K mainGlobals "_law_caps" = some (some (.ref fF_caps)))
    (lF_caps : K.lookup fF_caps = some ⟨ocF_caps, odF_caps, .func (PySem.W.fnOf "_law_caps" "_law_caps" (defArgs s_caps) (defBody s_caps) (defScope s_caps) .none kVF_caps dcF_caps pmF_caps anF_caps cdF_caps ctF_caps), slF_caps⟩)
    (cF_caps : PySem.W.codeIn K cdF_caps "_law_caps" = true)
    (kF_caps : PySem.W.keepIn K (.ref fF_caps) = true)
    (aF_bound : PySem.W.nsIn K mainGlobals "_law_bound" = some (some (.ref fF_bound)))
    (lF_bound : K.lookup fF_bound = some ⟨ocF_bound, odF_bound, .func (PySem.W.fnOf "_law_bound" "_law_bound" (defArgs s_bound) (defBody s_bound) (defScope s_bound) .none kVF_bound dcF_bound pmF_bound anF_bound cdF_bound ctF_bound), slF_bound⟩)
    (cF_bound : PySem.W.codeIn K cdF_bound "_law_bound" = true)
    (kF_bound : PySem.W.keepIn K (.ref fF_bound) = true)
    (aF_shown : PySem.W.nsIn K mainGlobals "_law_shown" = some (some (.ref fF_shown)))
    (lF_shown : K.lookup fF_shown = some ⟨ocF_shown, odF_shown, .func (PySem.W.fnOf "_law_shown" "_law_shown" (defArgs s_shown) (defBody s_shown) (defScope s_shown) .none kVF_shown dcF_shown pmF_shown anF_shown cdF_shown ctF_shown), slF_shown⟩)
    (cF_shown : PySem.W.codeIn K cdF_shown "_law_shown" = true)
    (kF_shown : PySem.W.keepIn K (.ref fF_shown) = true)
    (aF_about : PySem.W.nsIn K mainGlobals "_law_about" = some (some (.ref fF_about)))
    (lF_about : K.lookup fF_about = some ⟨ocF_about, odF_about, .func (PySem.W.fnOf "_law_about" "_law_about" (defArgs s_about) (defBody s_about) (defScope s_about) .none kVF_about dcF_about pmF_about anF_about cdF_about ctF_about), slF_about⟩)
    (cF_about : PySem.W.codeIn K cdF_about "_law_about" = true)
    (kF_about : PySem.W.keepIn K (.ref fF_about) = true)
    (aF_inside : PySem.W.nsIn K mainGlobals "_law_inside" = some (some (.ref fF_inside)))
    (lF_inside : K.lookup fF_inside = some ⟨ocF_inside, odF_inside, .func (PySem.W.fnOf "_law_inside" "_law_inside" (defArgs s_inside) (defBody s_inside) (defScope s_inside) .none kVF_inside dcF_inside pmF_inside anF_inside cdF_inside ctF_inside), slF_inside⟩)
    (cF_inside : PySem.W.codeIn K cdF_inside "_law_inside" = true)
    (kF_inside : PySem.W.keepIn K (.ref fF_inside) = true)
    (aF_lines : PySem.W.nsIn K mainGlobals "_law_lines" = some (some (.ref fF_lines)))
    (lF_lines : K.lookup fF_lines = some ⟨ocF_lines, odF_lines, .func (PySem.W.fnOf "_law_lines" "_law_lines" (defArgs s_lines) (defBody s_lines) (defScope s_lines) .none kVF_lines dcF_lines pmF_lines anF_lines cdF_lines ctF_lines), slF_lines⟩)
    (cF_lines : PySem.W.codeIn K cdF_lines "_law_lines" = true)
    (kF_lines : PySem.W.keepIn K (.ref fF_lines) = true)
    (aF_lines_text : PySem.W.nsIn K mainGlobals "_law_lines_text" = some (some (.ref fF_lines_text)))
    (lF_lines_text : K.lookup fF_lines_text = some ⟨ocF_lines_text, odF_lines_text, .func (PySem.W.fnOf "_law_lines_text" "_law_lines_text" (defArgs s_lines_text) (defBody s_lines_text) (defScope s_lines_text) .none kVF_lines_text dcF_lines_text pmF_lines_text anF_lines_text cdF_lines_text ctF_lines_text), slF_lines_text⟩)
    (cF_lines_text : PySem.W.codeIn K cdF_lines_text "_law_lines_text" = true)
    (kF_lines_text : PySem.W.keepIn K (.ref fF_lines_text) = true)
    (aF_written : PySem.W.nsIn K mainGlobals "_law_written" = some (some (.ref fF_written)))
    (lF_written : K.lookup fF_written = some ⟨ocF_written, odF_written, .func (PySem.W.fnOf "_law_written" "_law_written" (defArgs s_written) (defBody s_written) (defScope s_written) .none kVF_written dcF_written pmF_written anF_written cdF_written ctF_written), slF_written⟩)
    (cF_written : PySem.W.codeIn K cdF_written "_law_written" = true)
    (kF_written : PySem.W.keepIn K (.ref fF_written) = true)
    (aF_nodenames : PySem.W.nsIn K mainGlobals "_law_nodenames" = some (some (.ref fF_nodenames)))
    (lF_nodenames : K.lookup fF_nodenames = some ⟨ocF_nodenames, odF_nodenames, .func (PySem.W.fnOf "_law_nodenames" "_law_nodenames" (defArgs s_nodenames) (defBody s_nodenames) (defScope s_nodenames) .none kVF_nodenames dcF_nodenames pmF_nodenames anF_nodenames cdF_nodenames ctF_nodenames), slF_nodenames⟩)
    (cF_nodenames : PySem.W.codeIn K cdF_nodenames "_law_nodenames" = true)
    (kF_nodenames : PySem.W.keepIn K (.ref fF_nodenames) = true)
    (aF_part : PySem.W.nsIn K mainGlobals "_law_part" = some (some (.ref fF_part)))
    (lF_part : K.lookup fF_part = some ⟨ocF_part, odF_part, .func (PySem.W.fnOf "_law_part" "_law_part" (defArgs s_part) (defBody s_part) (defScope s_part) .none kVF_part dcF_part pmF_part anF_part cdF_part ctF_part), slF_part⟩)
    (cF_part : PySem.W.codeIn K cdF_part "_law_part" = true)
    (kF_part : PySem.W.keepIn K (.ref fF_part) = true)
    (aF_many : PySem.W.nsIn K mainGlobals "_law_many" = some (some (.ref fF_many)))
    (lF_many : K.lookup fF_many = some ⟨ocF_many, odF_many, .func (PySem.W.fnOf "_law_many" "_law_many" (defArgs s_many) (defBody s_many) (defScope s_many) .none kVF_many dcF_many pmF_many anF_many cdF_many ctF_many), slF_many⟩)
    (cF_many : PySem.W.codeIn K cdF_many "_law_many" = true)
    (kF_many : PySem.W.keepIn K (.ref fF_many) = true)
    (aF_drawn : PySem.W.nsIn K mainGlobals "_law_drawn" = some (some (.ref fF_drawn)))
    (lF_drawn : K.lookup fF_drawn = some ⟨ocF_drawn, odF_drawn, .func (PySem.W.fnOf "_law_drawn" "_law_drawn" (defArgs s_drawn) (defBody s_drawn) (defScope s_drawn) .none kVF_drawn dcF_drawn pmF_drawn anF_drawn cdF_drawn ctF_drawn), slF_drawn⟩)
    (cF_drawn : PySem.W.codeIn K cdF_drawn "_law_drawn" = true)
    (kF_drawn : PySem.W.keepIn K (.ref fF_drawn) = true)
    (aF_all_written : PySem.W.nsIn K mainGlobals "_law_all_written" = some (some (.ref fF_all_written)))
    (lF_all_written : K.lookup fF_all_written = some ⟨ocF_all_written, odF_all_written, .func (PySem.W.fnOf "_law_all_written" "_law_all_written" (defArgs s_all_written) (defBody s_all_written) (defScope s_all_written) .none kVF_all_written dcF_all_written pmF_all_written anF_all_written cdF_all_written ctF_all_written), slF_all_written⟩)
    (cF_all_written : PySem.W.codeIn K cdF_all_written "_law_all_written" = true)
    (kF_all_written : PySem.W.keepIn K (.ref fF_all_written) = true)
    (aF_told : PySem.W.nsIn K mainGlobals "_law_told_right" = some (some (.ref fF_told)))
    (lF_told : K.lookup fF_told = some ⟨ocF_told, odF_told, .func (PySem.W.fnOf "_law_told_right" "_law_told_right" (defArgs s_told) (defBody s_told) (defScope s_told) .none kVF_told dcF_told pmF_told anF_told cdF_told ctF_told), slF_told⟩)
    (cF_told : PySem.W.codeIn K cdF_told "_law_told_right" = true)
    (kF_told : PySem.W.keepIn K (.ref fF_told) = true)
    (aF_law : PySem.W.nsIn K mainGlobals "law" = some (some (.ref fF_law)))
    (lF_law : K.lookup fF_law = some ⟨ocF_law, odF_law, .func (PySem.W.fnOf "law" "law" (defArgs s_law) (defBody s_law) (defScope s_law) .none kVF_law dcF_law pmF_law anF_law cdF_law ctF_law), slF_law⟩)
    (cF_law : PySem.W.codeIn K cdF_law "law" = true)
    (kF_law : PySem.W.keepIn K (.ref fF_law) = true)
    (g_Cr : PySem.W.nsIn K mainGlobals "Reading" = some (some (.ref Cr)))
    (pg_Cr : PySem.W.plainGet K Cr Str.empty = true)
    (hd_Cr : PySem.W.hasDictIn K Cr = true)
    (po_Cr : PySem.W.plainOver K Cr = true)
    (sa_Cr : PySem.W.findIn K (.ref Cr) "__setattr__" = some (some (.builtin "object.__setattr__")))
    (mk_Cr : PySem.W.makesIn K Cr = true)
    (kc_Cr : PySem.W.keepIn K (.ref Cr) = true)
    (ha_Cr : PySem.W.findIn K (.ref Cr) "__class__" = some (some (.builtin "object.__class__")))
    (hm_Cr : PySem.W.mroIn K Cr (.type "object") = some true)
    (na_Cr__forms : PySem.W.findIn K (.ref Cr) "_forms" = some none)
    (na_Cr__heads : PySem.W.findIn K (.ref Cr) "_heads" = some none)
    (na_Cr__parts : PySem.W.findIn K (.ref Cr) "_parts" = some none)
    (na_Cr__waiting : PySem.W.findIn K (.ref Cr) "_waiting" = some none)
    (na_Cr__begun : PySem.W.findIn K (.ref Cr) "_begun" = some none)
    (na_Cr__is_whole : PySem.W.findIn K (.ref Cr) "_is_whole" = some none)
    (aF_dinit : PySem.W.findIn K (.ref Cr) "__init__" = some (some (.ref fF_dinit)))
    (iF_dinit : PySem.W.isFn K (.ref fF_dinit) = true)
    (lF_dinit : K.lookup fF_dinit = some ⟨ocF_dinit, odF_dinit, .func (PySem.W.fnOf "__init__" "Reading.__init__" (defArgs s_dinit) (defBody s_dinit) (defScope s_dinit) .none kVF_dinit dcF_dinit pmF_dinit anF_dinit cdF_dinit ctF_dinit), slF_dinit⟩)
    (cF_dinit : PySem.W.codeIn K cdF_dinit "Reading.__init__" = true)
    (kF_dinit : PySem.W.keepIn K (.ref fF_dinit) = true)
    (aF_dtake : PySem.W.findIn K (.ref Cr) "take" = some (some (.ref fF_dtake)))
    (iF_dtake : PySem.W.isFn K (.ref fF_dtake) = true)
    (lF_dtake : K.lookup fF_dtake = some ⟨ocF_dtake, odF_dtake, .func (PySem.W.fnOf "take" "Reading.take" (defArgs s_dtake) (defBody s_dtake) (defScope s_dtake) .none kVF_dtake dcF_dtake pmF_dtake anF_dtake cdF_dtake ctF_dtake), slF_dtake⟩)
    (cF_dtake : PySem.W.codeIn K cdF_dtake "Reading.take" = true)
    (kF_dtake : PySem.W.keepIn K (.ref fF_dtake) = true)
    (aF_dended : PySem.W.findIn K (.ref Cr) "ended" = some (some (.ref fF_dended)))
    (iF_dended : PySem.W.isFn K (.ref fF_dended) = true)
    (lF_dended : K.lookup fF_dended = some ⟨ocF_dended, odF_dended, .func (PySem.W.fnOf "ended" "Reading.ended" (defArgs s_dended) (defBody s_dended) (defScope s_dended) .none kVF_dended dcF_dended pmF_dended anF_dended cdF_dended ctF_dended), slF_dended⟩)
    (cF_dended : PySem.W.codeIn K cdF_dended "Reading.ended" = true)
    (kF_dended : PySem.W.keepIn K (.ref fF_dended) = true)
    (aF_datom : PySem.W.findIn K (.ref Cr) "_take_in_atom" = some (some (.ref fF_datom)))
    (iF_datom : PySem.W.isFn K (.ref fF_datom) = true)
    (lF_datom : K.lookup fF_datom = some ⟨ocF_datom, odF_datom, .func (PySem.W.fnOf "_take_in_atom" "Reading._take_in_atom" (defArgs s_datom) (defBody s_datom) (defScope s_datom) .none kVF_datom dcF_datom pmF_datom anF_datom cdF_datom ctF_datom), slF_datom⟩)
    (cF_datom : PySem.W.codeIn K cdF_datom "Reading._take_in_atom" = true)
    (kF_datom : PySem.W.keepIn K (.ref fF_datom) = true)
    (aF_dbehind : PySem.W.findIn K (.ref Cr) "_take_behind" = some (some (.ref fF_dbehind)))
    (iF_dbehind : PySem.W.isFn K (.ref fF_dbehind) = true)
    (lF_dbehind : K.lookup fF_dbehind = some ⟨ocF_dbehind, odF_dbehind, .func (PySem.W.fnOf "_take_behind" "Reading._take_behind" (defArgs s_dbehind) (defBody s_dbehind) (defScope s_dbehind) .none kVF_dbehind dcF_dbehind pmF_dbehind anF_dbehind cdF_dbehind ctF_dbehind), slF_dbehind⟩)
    (cF_dbehind : PySem.W.codeIn K cdF_dbehind "Reading._take_behind" = true)
    (kF_dbehind : PySem.W.keepIn K (.ref fF_dbehind) = true)
    (aF_dclose : PySem.W.findIn K (.ref Cr) "_close" = some (some (.ref fF_dclose)))
    (iF_dclose : PySem.W.isFn K (.ref fF_dclose) = true)
    (lF_dclose : K.lookup fF_dclose = some ⟨ocF_dclose, odF_dclose, .func (PySem.W.fnOf "_close" "Reading._close" (defArgs s_dclose) (defBody s_dclose) (defScope s_dclose) .none kVF_dclose dcF_dclose pmF_dclose anF_dclose cdF_dclose ctF_dclose), slF_dclose⟩)
    (cF_dclose : PySem.W.codeIn K cdF_dclose "Reading._close" = true)
    (kF_dclose : PySem.W.keepIn K (.ref fF_dclose) = true)
    (aF_dput : PySem.W.findIn K (.ref Cr) "_put" = some (some (.ref fF_dput)))
    (iF_dput : PySem.W.isFn K (.ref fF_dput) = true)
    (lF_dput : K.lookup fF_dput = some ⟨ocF_dput, odF_dput, .func (PySem.W.fnOf "_put" "Reading._put" (defArgs s_dput) (defBody s_dput) (defScope s_dput) .none kVF_dput dcF_dput pmF_dput anF_dput cdF_dput ctF_dput), slF_dput⟩)
    (cF_dput : PySem.W.codeIn K cdF_dput "Reading._put" = true)
    (kF_dput : PySem.W.keepIn K (.ref fF_dput) = true)
    (aF_dgather : PySem.W.findIn K (.ref Cr) "_gather" = some (some (.ref fF_dgather)))
    (iF_dgather : PySem.W.isFn K (.ref fF_dgather) = true)
    (lF_dgather : K.lookup fF_dgather = some ⟨ocF_dgather, odF_dgather, .func (PySem.W.fnOf "_gather" "Reading._gather" (defArgs s_dgather) (defBody s_dgather) (defScope s_dgather) .none kVF_dgather dcF_dgather pmF_dgather anF_dgather cdF_dgather ctF_dgather), slF_dgather⟩)
    (cF_dgather : PySem.W.codeIn K cdF_dgather "Reading._gather" = true)
    (kF_dgather : PySem.W.keepIn K (.ref fF_dgather) = true)
    (g_Cw : PySem.W.nsIn K mainGlobals "KindRow" = some (some (.ref Cw)))
    (pg_Cw : PySem.W.plainGet K Cw Str.empty = true)
    (hd_Cw : PySem.W.hasDictIn K Cw = true)
    (po_Cw : PySem.W.plainOver K Cw = true)
    (sa_Cw : PySem.W.findIn K (.ref Cw) "__setattr__" = some (some (.builtin "object.__setattr__")))
    (mk_Cw : PySem.W.makesIn K Cw = true)
    (kc_Cw : PySem.W.keepIn K (.ref Cw) = true)
    (ha_Cw : PySem.W.findIn K (.ref Cw) "__class__" = some (some (.builtin "object.__class__")))
    (hm_Cw : PySem.W.mroIn K Cw (.type "object") = some true)
    (na_Cw_kind : PySem.W.findIn K (.ref Cw) "kind" = some none)
    (na_Cw_names : PySem.W.findIn K (.ref Cw) "names" = some none)
    (na_Cw_words : PySem.W.findIn K (.ref Cw) "words" = some none)
    (na_Cw_condition : PySem.W.findIn K (.ref Cw) "condition" = some none)
    (aF_rinit : PySem.W.findIn K (.ref Cw) "__init__" = some (some (.ref fF_rinit)))
    (iF_rinit : PySem.W.isFn K (.ref fF_rinit) = true)
    (lF_rinit : K.lookup fF_rinit = some ⟨ocF_rinit, odF_rinit, .func (PySem.W.fnOf "__init__" "KindRow.__init__" (defArgs s_rinit) (defBody s_rinit) (defScope s_rinit) .none kVF_rinit dcF_rinit pmF_rinit anF_rinit cdF_rinit ctF_rinit), slF_rinit⟩)
    (cF_rinit : PySem.W.codeIn K cdF_rinit "KindRow.__init__" = true)
    (kF_rinit : PySem.W.keepIn K (.ref fF_rinit) = true)
    (aF_line : PySem.W.findIn K (.ref Cw) "line" = some (some (.ref fF_line)))
    (iF_line : PySem.W.isFn K (.ref fF_line) = true)
    (lF_line : K.lookup fF_line = some ⟨ocF_line, odF_line, .func (PySem.W.fnOf "line" "KindRow.line" (defArgs s_line) (defBody s_line) (defScope s_line) .none kVF_line dcF_line pmF_line anF_line cdF_line ctF_line), slF_line⟩)
    (cF_line : PySem.W.codeIn K cdF_line "KindRow.line" = true)
    (kF_line : PySem.W.keepIn K (.ref fF_line) = true)
    (aF_unlike : PySem.W.findIn K (.ref Cw) "unlike_atoms" = some (some (.ref fF_unlike)))
    (iF_unlike : PySem.W.isFn K (.ref fF_unlike) = true)
    (lF_unlike : K.lookup fF_unlike = some ⟨ocF_unlike, odF_unlike, .func (PySem.W.fnOf "unlike_atoms" "KindRow.unlike_atoms" (defArgs s_unlike) (defBody s_unlike) (defScope s_unlike) .none kVF_unlike dcF_unlike pmF_unlike anF_unlike cdF_unlike ctF_unlike), slF_unlike⟩)
    (cF_unlike : PySem.W.codeIn K cdF_unlike "KindRow.unlike_atoms" = true)
    (kF_unlike : PySem.W.keepIn K (.ref fF_unlike) = true)
    (aF_used : PySem.W.findIn K (.ref Cw) "used_kinds" = some (some (.ref fF_used)))
    (iF_used : PySem.W.isFn K (.ref fF_used) = true)
    (lF_used : K.lookup fF_used = some ⟨ocF_used, odF_used, .func (PySem.W.fnOf "used_kinds" "KindRow.used_kinds" (defArgs s_used) (defBody s_used) (defScope s_used) .none kVF_used dcF_used pmF_used anF_used cdF_used ctF_used), slF_used⟩)
    (cF_used : PySem.W.codeIn K cdF_used "KindRow.used_kinds" = true)
    (kF_used : PySem.W.keepIn K (.ref fF_used) = true)
    (g_C : PySem.W.nsIn K mainGlobals "Kinds" = some (some (.ref C)))
    (pg_C : PySem.W.plainGet K C Str.empty = true)
    (hd_C : PySem.W.hasDictIn K C = true)
    (po_C : PySem.W.plainOver K C = true)
    (sa_C : PySem.W.findIn K (.ref C) "__setattr__" = some (some (.builtin "object.__setattr__")))
    (mk_C : PySem.W.makesIn K C = true)
    (kc_C : PySem.W.keepIn K (.ref C) = true)
    (ha_C : PySem.W.findIn K (.ref C) "__class__" = some (some (.builtin "object.__class__")))
    (hm_C : PySem.W.mroIn K C (.type "object") = some true)
    (na_C_words : PySem.W.findIn K (.ref C) "words" = some none)
    (na_C_names : PySem.W.findIn K (.ref C) "names" = some none)
    (na_C_rows : PySem.W.findIn K (.ref C) "rows" = some none)
    (na_C_atoms : PySem.W.findIn K (.ref C) "atoms" = some none)
    (na_C__text : PySem.W.findIn K (.ref C) "_text" = some none)
    (aF_kinit : PySem.W.findIn K (.ref C) "__init__" = some (some (.ref fF_kinit)))
    (iF_kinit : PySem.W.isFn K (.ref fF_kinit) = true)
    (lF_kinit : K.lookup fF_kinit = some ⟨ocF_kinit, odF_kinit, .func (PySem.W.fnOf "__init__" "Kinds.__init__" (defArgs s_kinit) (defBody s_kinit) (defScope s_kinit) .none kVF_kinit dcF_kinit pmF_kinit anF_kinit cdF_kinit ctF_kinit), slF_kinit⟩)
    (cF_kinit : PySem.W.codeIn K cdF_kinit "Kinds.__init__" = true)
    (kF_kinit : PySem.W.keepIn K (.ref fF_kinit) = true)
    (aF_kread : PySem.W.findCls K (.ref C) (.type "type") "read" = some (.get (.builtin "staticmethod.__get__") (.ref rec_kread) .none (.ref C)))
    (rF_kread : PySem.W.recIn K rec_kread "staticmethod" = some (.ref fF_kread :: rest_kread))
    (lF_kread : K.lookup fF_kread = some ⟨ocF_kread, odF_kread, .func (PySem.W.fnOf "read" "Kinds.read" (defArgs s_kread) (defBody s_kread) (defScope s_kread) .none kVF_kread dcF_kread pmF_kread anF_kread cdF_kread ctF_kread), slF_kread⟩)
    (cF_kread : PySem.W.codeIn K cdF_kread "Kinds.read" = true)
    (kF_kread : PySem.W.keepIn K (.ref fF_kread) = true)
    (aF_kstr : PySem.W.findIn K (.ref C) "__str__" = some (some (.ref fF_kstr)))
    (iF_kstr : PySem.W.isFn K (.ref fF_kstr) = true)
    (lF_kstr : K.lookup fF_kstr = some ⟨ocF_kstr, odF_kstr, .func (PySem.W.fnOf "__str__" "Kinds.__str__" (defArgs s_kstr) (defBody s_kstr) (defScope s_kstr) .none kVF_kstr dcF_kstr pmF_kstr anF_kstr cdF_kstr ctF_kstr), slF_kstr⟩)
    (cF_kstr : PySem.W.codeIn K cdF_kstr "Kinds.__str__" = true)
    (kF_kstr : PySem.W.keepIn K (.ref fF_kstr) = true)
    (aF_keq : PySem.W.findIn K (.ref C) "__eq__" = some (some (.ref fF_keq)))
    (iF_keq : PySem.W.isFn K (.ref fF_keq) = true)
    (lF_keq : K.lookup fF_keq = some ⟨ocF_keq, odF_keq, .func (PySem.W.fnOf "__eq__" "Kinds.__eq__" (defArgs s_keq) (defBody s_keq) (defScope s_keq) .none kVF_keq dcF_keq pmF_keq anF_keq cdF_keq ctF_keq), slF_keq⟩)
    (cF_keq : PySem.W.codeIn K cdF_keq "Kinds.__eq__" = true)
    (kF_keq : PySem.W.keepIn K (.ref fF_keq) = true)
    (aF_klen : PySem.W.findIn K (.ref C) "__len__" = some (some (.ref fF_klen)))
    (iF_klen : PySem.W.isFn K (.ref fF_klen) = true)
    (lF_klen : K.lookup fF_klen = some ⟨ocF_klen, odF_klen, .func (PySem.W.fnOf "__len__" "Kinds.__len__" (defArgs s_klen) (defBody s_klen) (defScope s_klen) .none kVF_klen dcF_klen pmF_klen anF_klen cdF_klen ctF_klen), slF_klen⟩)
    (cF_klen : PySem.W.codeIn K cdF_klen "Kinds.__len__" = true)
    (kF_klen : PySem.W.keepIn K (.ref fF_klen) = true)
    (aF_kcon : PySem.W.findIn K (.ref C) "__contains__" = some (some (.ref fF_kcon)))
    (iF_kcon : PySem.W.isFn K (.ref fF_kcon) = true)
    (lF_kcon : K.lookup fF_kcon = some ⟨ocF_kcon, odF_kcon, .func (PySem.W.fnOf "__contains__" "Kinds.__contains__" (defArgs s_kcon) (defBody s_kcon) (defScope s_kcon) .none kVF_kcon dcF_kcon pmF_kcon anF_kcon cdF_kcon ctF_kcon), slF_kcon⟩)
    (cF_kcon : PySem.W.codeIn K cdF_kcon "Kinds.__contains__" = true)
    (kF_kcon : PySem.W.keepIn K (.ref fF_kcon) = true)
    (rd_C : PySem.W.readsIn K C (.type "type") = true)
    (ga_C : PySem.W.specialIn K (.ref C) "__getattribute__" = some (some (.builtin "type.__getattribute__")))
    (aT_j : PySem.W.nsIn K mainGlobals "JOINTS" = some (some (.ref fT_j)))
    (lT_j : K.lookup fT_j = some ⟨.type "tuple", odT_j, .seq #[.str "and" tk_j0, .str "or" tk_j1] nT_j, slT_j⟩)
    (aT_o : PySem.W.nsIn K mainGlobals "OUTER" = some (some (.ref fT_o)))
    (lT_o : K.lookup fT_o = some ⟨.type "tuple", odT_o, .seq #[.str "parent" tk_o0, .str "above" tk_o1] nT_o, slT_o⟩)
    (aT_h : PySem.W.nsIn K mainGlobals "HEADS" = some (some (.ref fT_h)))
    (lT_h : K.lookup fT_h = some ⟨.type "tuple", odT_h, .seq #[.str "not" tk_h0, .str "parent" tk_h1, .str "above" tk_h2] nT_h, slT_h⟩)
    (aT_w : PySem.W.nsIn K mainGlobals "ATOM_WORDS" = some (some (.ref fT_w)))
    (lT_w : K.lookup fT_w = some ⟨.type "tuple", odT_w, .seq #[.str "some" tk_w0, .str "every" tk_w1, .str "first" tk_w2, .str "last" tk_w3, .str "then" tk_w4, .str "next" tk_w5, .str "count" tk_w6, .str "below" tk_w7] nT_w, slT_w⟩)
    (aT_nn : PySem.W.nsIn K mainGlobals "NO_NAMES" = some (some (.ref fT_nn)))
    (lT_nn : K.lookup fT_nn = some ⟨.type "tuple", odT_nn, .seq #[.str "any" tk_nn0, .str "other" tk_nn1, .str "where" tk_nn2] nT_nn, slT_nn⟩)
    (n_len : PySem.W.nsIn K mainGlobals "len" = some none)
    (n_abs : PySem.W.nsIn K mainGlobals "abs" = some none)
    (n_int : PySem.W.nsIn K mainGlobals "int" = some none)
    (n_isinstance : PySem.W.nsIn K mainGlobals "isinstance" = some none)
    (n_list : PySem.W.nsIn K mainGlobals "list" = some none)
    (n_tuple : PySem.W.nsIn K mainGlobals "tuple" = some none)
    (n_range : PySem.W.nsIn K mainGlobals "range" = some none)
    (n_max : PySem.W.nsIn K mainGlobals "max" = some none)
    (n_min : PySem.W.nsIn K mainGlobals "min" = some none)
    (n_enumerate : PySem.W.nsIn K mainGlobals "enumerate" = some none)
    (n_all : PySem.W.nsIn K mainGlobals "all" = some none)
    (n_any : PySem.W.nsIn K mainGlobals "any" = some none)
    (n_str : PySem.W.nsIn K mainGlobals "str" = some none)
    (n_zip : PySem.W.nsIn K mainGlobals "zip" = some none)
    (n_set : PySem.W.nsIn K mainGlobals "set" = some none)
    (n_sorted : PySem.W.nsIn K mainGlobals "sorted" = some none)
    (n_sum : PySem.W.nsIn K mainGlobals "sum" = some none)
    (tab : tabB K C = true)
    (hn : PySem.W.specialIn K (.builtin "object.__class__") "__get__" = some (some (.builtin "getset_descriptor.__get__")))
    (ht : PySem.W.takesIn K (.builtin "object.__class__") = some true)
    (gQ : PySem.W.nsIn K mainGlobals "KIND_FORMS" = some (some (.ref fQ)))
    (lQ : K.lookup fQ = some ⟨.type "tuple", odQ, .seq #[.ref qf0, .ref qf1, .ref qf2, .ref qf3, .ref qf4, .ref qf5, .ref qf6, .ref qf7, .ref qf8, .ref qf9, .ref qf10, .ref qf11] nQ, slQ⟩)
    (lq0 : K.lookup qf0 = some ⟨.type "tuple", od_q0, .seq #[.str "some" tq0_0, .str "K" tq0_1] n_q0, sl_q0⟩)
    (lq1 : K.lookup qf1 = some ⟨.type "tuple", od_q1, .seq #[.str "every" tq1_0, .str "K" tq1_1] n_q1, sl_q1⟩)
    (lq2 : K.lookup qf2 = some ⟨.type "tuple", od_q2, .seq #[.str "first" tq2_0, .str "K" tq2_1] n_q2, sl_q2⟩)
    (lq3 : K.lookup qf3 = some ⟨.type "tuple", od_q3, .seq #[.str "last" tq3_0, .str "K" tq3_1] n_q3, sl_q3⟩)
    (lq4 : K.lookup qf4 = some ⟨.type "tuple", od_q4, .seq #[.str "K" tq4_0, .str "then" tq4_1, .str "K" tq4_2] n_q4, sl_q4⟩)
    (lq5 : K.lookup qf5 = some ⟨.type "tuple", od_q5, .seq #[.str "K" tq5_0, .str "next" tq5_1, .str "K" tq5_2] n_q5, sl_q5⟩)
    (lq6 : K.lookup qf6 = some ⟨.type "tuple", od_q6, .seq #[.str "count" tq6_0, .str "K" tq6_1, .str "mod" tq6_2, .str "2" tq6_3, .str "is" tq6_4, .str "0" tq6_5] n_q6, sl_q6⟩)
    (lq7 : K.lookup qf7 = some ⟨.type "tuple", od_q7, .seq #[.str "count" tq7_0, .str "K" tq7_1, .str "mod" tq7_2, .str "2" tq7_3, .str "is" tq7_4, .str "1" tq7_5] n_q7, sl_q7⟩)
    (lq8 : K.lookup qf8 = some ⟨.type "tuple", od_q8, .seq #[.str "count" tq8_0, .str "K" tq8_1, .str "mod" tq8_2, .str "3" tq8_3, .str "is" tq8_4, .str "0" tq8_5] n_q8, sl_q8⟩)
    (lq9 : K.lookup qf9 = some ⟨.type "tuple", od_q9, .seq #[.str "count" tq9_0, .str "K" tq9_1, .str "mod" tq9_2, .str "3" tq9_3, .str "is" tq9_4, .str "1" tq9_5] n_q9, sl_q9⟩)
    (lq10 : K.lookup qf10 = some ⟨.type "tuple", od_q10, .seq #[.str "count" tq10_0, .str "K" tq10_1, .str "mod" tq10_2, .str "3" tq10_3, .str "is" tq10_4, .str "2" tq10_5] n_q10, sl_q10⟩)
    (lq11 : K.lookup qf11 = some ⟨.type "tuple", od_q11, .seq #[.str "below" tq11_0, .str "K" tq11_1] n_q11, sl_q11⟩) :
    ∃ fd : FuncData, (∀ (s : Shared) (v : Value), BindsTo s fd ⟨[v], []⟩ [("_law_script", v)]) ∧ ∀ base : Heap, K.In base → base.Ns mainGlobals mg → Rg.FnG Lw.prog w K mg base CX0 64 fa fd ["_law_script"] (spLaw K) := by
  have e := hfa.symm.trans (PySem.W.mg_of X G aF_law)
  cases e
  have m_len := PySem.W.mg_none_of X G n_len
  have m_abs := PySem.W.mg_none_of X G n_abs
  have m_int := PySem.W.mg_none_of X G n_int
  have m_isinstance := PySem.W.mg_none_of X G n_isinstance
  have m_list := PySem.W.mg_none_of X G n_list
  have m_tuple := PySem.W.mg_none_of X G n_tuple
  have m_range := PySem.W.mg_none_of X G n_range
  have m_max := PySem.W.mg_none_of X G n_max
  have m_min := PySem.W.mg_none_of X G n_min
  have m_enumerate := PySem.W.mg_none_of X G n_enumerate
  have m_all := PySem.W.mg_none_of X G n_all
  have m_any := PySem.W.mg_none_of X G n_any
  have m_str := PySem.W.mg_none_of X G n_str
  have m_zip := PySem.W.mg_none_of X G n_zip
  have m_set := PySem.W.mg_none_of X G n_set
  have m_sorted := PySem.W.mg_none_of X G n_sorted
  have m_sum := PySem.W.mg_none_of X G n_sum
  have TT := tabB_ok tab
  have m_j := PySem.W.mg_of X G aT_j
  have q_j : ∀ H : Hp, SqT K H fT_j [.str "and", .str "or"] := fun H => .inr ⟨_, _, _, lT_j, rfl, rfl, (by show 2 ≤ sizeLine; decide), (.cons ⟨_, rfl⟩ (.cons ⟨_, rfl⟩ .nil))⟩
  have m_o := PySem.W.mg_of X G aT_o
  have q_o : ∀ H : Hp, SqT K H fT_o [.str "parent", .str "above"] := fun H => .inr ⟨_, _, _, lT_o, rfl, rfl, (by show 2 ≤ sizeLine; decide), (.cons ⟨_, rfl⟩ (.cons ⟨_, rfl⟩ .nil))⟩
  have m_h := PySem.W.mg_of X G aT_h
  have q_h : ∀ H : Hp, SqT K H fT_h [.str "not", .str "parent", .str "above"] := fun H => .inr ⟨_, _, _, lT_h, rfl, rfl, (by show 3 ≤ sizeLine; decide), (.cons ⟨_, rfl⟩ (.cons ⟨_, rfl⟩ (.cons ⟨_, rfl⟩ .nil)))⟩
  have m_w := PySem.W.mg_of X G aT_w
  have q_w : ∀ H : Hp, SqT K H fT_w [.str "some", .str "every", .str "first", .str "last", .str "then", .str "next", .str "count", .str "below"] := fun H => .inr ⟨_, _, _, lT_w, rfl, rfl, (by show 8 ≤ sizeLine; decide), (.cons ⟨_, rfl⟩ (.cons ⟨_, rfl⟩ (.cons ⟨_, rfl⟩ (.cons ⟨_, rfl⟩ (.cons ⟨_, rfl⟩ (.cons ⟨_, rfl⟩ (.cons ⟨_, rfl⟩ (.cons ⟨_, rfl⟩ .nil))))))))⟩
  have m_nn := PySem.W.mg_of X G aT_nn
  have q_nn : ∀ H : Hp, SqT K H fT_nn [.str "any", .str "other", .str "where"] := fun H => .inr ⟨_, _, _, lT_nn, rfl, rfl, (by show 3 ≤ sizeLine; decide), (.cons ⟨_, rfl⟩ (.cons ⟨_, rfl⟩ (.cons ⟨_, rfl⟩ .nil)))⟩
  have F_rows_in := fun_mk (st := s_rows_in) lF_rows_in cF_rows_in kF_rows_in
  have m_rows_in := PySem.W.mg_of X G aF_rows_in
  have B_rows_in := F_rows_in.binds (ps := ["text"]) fun _ _ _ _ _ _ us hl => match us, hl with | [_], _ => rfl
  have F_words_in := fun_mk (st := s_words_in) lF_words_in cF_words_in kF_words_in
  have m_words_in := PySem.W.mg_of X G aF_words_in
  have B_words_in := F_words_in.binds (ps := ["row"]) fun _ _ _ _ _ _ us hl => match us, hl with | [_], _ => rfl
  have F_consists := fun_mk (st := s_consists) lF_consists cF_consists kF_consists
  have m_consists := PySem.W.mg_of X G aF_consists
  have B_consists := F_consists.binds (ps := ["word", "low", "high", "most"]) fun _ _ _ _ _ _ us hl => match us, hl with | [_, _, _, _], _ => rfl
  have F_is_name := fun_mk (st := s_is_name) lF_is_name cF_is_name kF_is_name
  have m_is_name := PySem.W.mg_of X G aF_is_name
  have B_is_name := F_is_name.binds (ps := ["word"]) fun _ _ _ _ _ _ us hl => match us, hl with | [_], _ => rfl
  have F_is_kind_name := fun_mk (st := s_is_kind_name) lF_is_kind_name cF_is_kind_name kF_is_kind_name
  have m_is_kind_name := PySem.W.mg_of X G aF_is_kind_name
  have B_is_kind_name := F_is_kind_name.binds (ps := ["word"]) fun _ _ _ _ _ _ us hl => match us, hl with | [_], _ => rfl
  have F_fits := fun_mk (st := s_fits) lF_fits cF_fits kF_fits
  have m_fits := PySem.W.mg_of X G aF_fits
  have B_fits := F_fits.binds (ps := ["form", "words"]) fun _ _ _ _ _ _ us hl => match us, hl with | [_, _], _ => rfl
  have F_count_of := fun_mk (st := s_count_of) lF_count_of cF_count_of kF_count_of
  have m_count_of := PySem.W.mg_of X G aF_count_of
  have B_count_of := F_count_of.binds (ps := ["words", "wanted"]) fun _ _ _ _ _ _ us hl => match us, hl with | [_, _], _ => rfl
  have F_joined := fun_mk (st := s_joined) lF_joined cF_joined kF_joined
  have m_joined := PySem.W.mg_of X G aF_joined
  have B_joined := F_joined.binds (ps := ["joint", "parts"]) fun _ _ _ _ _ _ us hl => match us, hl with | [_, _], _ => rfl
  have F_encl := fun_mk (st := s_encl) lF_encl cF_encl kF_encl
  have m_encl := PySem.W.mg_of X G aF_encl
  have B_encl := F_encl.binds (ps := ["part", "head"]) fun _ _ _ _ _ _ us hl => match us, hl with | [_, _], _ => rfl
  have F_tunder := fun_mk (st := s_tunder) lF_tunder cF_tunder kF_tunder
  have m_tunder := PySem.W.mg_of X G aF_tunder
  have B_tunder := F_tunder.binds (ps := ["part", "head"]) fun _ _ _ _ _ _ us hl => match us, hl with | [_, _], _ => rfl
  have F_tof := fun_mk (st := s_tof) lF_tof cF_tof kF_tof
  have m_tof := PySem.W.mg_of X G aF_tof
  have B_tof := F_tof.binds (ps := ["part"]) fun _ _ _ _ _ _ us hl => match us, hl with | [_], _ => rfl
  have F_depth := fun_mk (st := s_depth) lF_depth cF_depth kF_depth
  have m_depth := PySem.W.mg_of X G aF_depth
  have B_depth := F_depth.binds (ps := ["words"]) fun _ _ _ _ _ _ us hl => match us, hl with | [_], _ => rfl
  have F_ato := fun_mk (st := s_ato) lF_ato cF_ato kF_ato
  have m_ato := PySem.W.mg_of X G aF_ato
  have B_ato := F_ato.binds (ps := ["part"]) fun _ _ _ _ _ _ us hl => match us, hl with | [_], _ => rfl
  have F_is_place := fun_mk (st := s_is_place) lF_is_place cF_is_place kF_is_place
  have m_is_place := PySem.W.mg_of X G aF_is_place
  have B_is_place := F_is_place.binds (ps := ["word"]) fun _ _ _ _ _ _ us hl => match us, hl with | [_], _ => rfl
  have F_condition_of := fun_mk (st := s_condition_of) lF_condition_of cF_condition_of kF_condition_of
  have m_condition_of := PySem.W.mg_of X G aF_condition_of
  have B_condition_of := F_condition_of.binds (ps := ["words"]) fun _ _ _ _ _ _ us hl => match us, hl with | [_], _ => rfl
  have F_kind_row_of := fun_mk (st := s_kind_row_of) lF_kind_row_of cF_kind_row_of kF_kind_row_of
  have m_kind_row_of := PySem.W.mg_of X G aF_kind_row_of
  have B_kind_row_of := F_kind_row_of.binds (ps := ["words"]) fun _ _ _ _ _ _ us hl => match us, hl with | [_], _ => rfl
  have F_faults := fun_mk (st := s_faults) lF_faults cF_faults kF_faults
  have m_faults := PySem.W.mg_of X G aF_faults
  have B_faults := F_faults.binds (ps := ["rows"]) fun _ _ _ _ _ _ us hl => match us, hl with | [_], _ => rfl
  have F_box := fun_mk (st := s_box) lF_box cF_box kF_box
  have m_box := PySem.W.mg_of X G aF_box
  have B_box := F_box.binds (ps := ["_law_script", "_law_k", "_law_own"]) fun _ _ _ _ _ _ us hl => match us, hl with | [_, _, _], _ => rfl
  have F_take := fun_mk (st := s_take) lF_take cF_take kF_take
  have m_take := PySem.W.mg_of X G aF_take
  have B_take := F_take.binds (ps := ["_law_box_here", "_law_many_here"]) fun _ _ _ _ _ _ us hl => match us, hl with | [_, _], _ => rfl
  have F_mixed := fun_mk (st := s_mixed) lF_mixed cF_mixed kF_mixed
  have m_mixed := PySem.W.mg_of X G aF_mixed
  have B_mixed := F_mixed.binds (ps := ["_law_box_here", "_law_items"]) fun _ _ _ _ _ _ us hl => match us, hl with | [_, _], _ => rfl
  have F_pick := fun_mk (st := s_pick) lF_pick cF_pick kF_pick
  have m_pick := PySem.W.mg_of X G aF_pick
  have B_pick := F_pick.binds (ps := ["_law_box_here", "_law_items"]) fun _ _ _ _ _ _ us hl => match us, hl with | [_, _], _ => rfl
  have F_names := fun_mk (st := s_names) lF_names cF_names kF_names
  have m_names := PySem.W.mg_of X G aF_names
  have B_names := F_names.binds (ps := ["_law_box_here", "_law_many_here"]) fun _ _ _ _ _ _ us hl => match us, hl with | [_, _], _ => rfl
  have F_caps := fun_mk (st := s_caps) lF_caps cF_caps kF_caps
  have m_caps := PySem.W.mg_of X G aF_caps
  have B_caps := F_caps.binds (ps := ["_law_box_here", "_law_many_here"]) fun _ _ _ _ _ _ us hl => match us, hl with | [_, _], _ => rfl
  have F_bound := fun_mk (st := s_bound) lF_bound cF_bound kF_bound
  have m_bound := PySem.W.mg_of X G aF_bound
  have B_bound := F_bound.binds (ps := ["_law_tree", "_law_word"]) fun _ _ _ _ _ _ us hl => match us, hl with | [_, _], _ => rfl
  have F_shown := fun_mk (st := s_shown) lF_shown cF_shown kF_shown
  have m_shown := PySem.W.mg_of X G aF_shown
  have B_shown := F_shown.binds (ps := ["_law_tree"]) fun _ _ _ _ _ _ us hl => match us, hl with | [_], _ => rfl
  have F_about := fun_mk (st := s_about) lF_about cF_about kF_about
  have m_about := PySem.W.mg_of X G aF_about
  have B_about := F_about.binds (ps := ["_law_box_here", "_law_caps_here"]) fun _ _ _ _ _ _ us hl => match us, hl with | [_, _], _ => rfl
  have F_inside := fun_mk (st := s_inside) lF_inside cF_inside kF_inside
  have m_inside := PySem.W.mg_of X G aF_inside
  have B_inside := F_inside.binds (ps := ["_law_box_here", "_law_caps_here", "_law_size"]) fun _ _ _ _ _ _ us hl => match us, hl with | [_, _, _], _ => rfl
  have F_lines := fun_mk (st := s_lines) lF_lines cF_lines kF_lines
  have m_lines := PySem.W.mg_of X G aF_lines
  have B_lines := F_lines.binds (ps := ["_law_box_here", "_law_caps_here", "_law_names_here"]) fun _ _ _ _ _ _ us hl => match us, hl with | [_, _, _], _ => rfl
  have F_lines_text := fun_mk (st := s_lines_text) lF_lines_text cF_lines_text kF_lines_text
  have m_lines_text := PySem.W.mg_of X G aF_lines_text
  have B_lines_text := F_lines_text.binds (ps := ["_law_lines_here"]) fun _ _ _ _ _ _ us hl => match us, hl with | [_], _ => rfl
  have F_written := fun_mk (st := s_written) lF_written cF_written kF_written
  have m_written := PySem.W.mg_of X G aF_written
  have B_written := F_written.binds (ps := ["_law_box_here", "_law_tree", "_law_odds"]) fun _ _ _ _ _ _ us hl => match us, hl with | [_, _, _], _ => rfl
  have F_nodenames := fun_mk (st := s_nodenames) lF_nodenames cF_nodenames kF_nodenames
  have m_nodenames := PySem.W.mg_of X G aF_nodenames
  have B_nodenames := F_nodenames.binds (ps := ["_law_lines_here"]) fun _ _ _ _ _ _ us hl => match us, hl with | [_], _ => rfl
  have F_part := fun_mk (st := s_part) lF_part cF_part kF_part
  have m_part := PySem.W.mg_of X G aF_part
  have B_part := F_part.binds (ps := ["_law_box_here", "_law_tree", "_law_word", "_law_odds"]) fun _ _ _ _ _ _ us hl => match us, hl with | [_, _, _, _], _ => rfl
  have F_many := fun_mk (st := s_many) lF_many cF_many kF_many
  have m_many := PySem.W.mg_of X G aF_many
  have B_many := F_many.binds (ps := ["_law_tree"]) fun _ _ _ _ _ _ us hl => match us, hl with | [_], _ => rfl
  have F_drawn := fun_mk (st := s_drawn) lF_drawn cF_drawn kF_drawn
  have m_drawn := PySem.W.mg_of X G aF_drawn
  have B_drawn := F_drawn.binds (ps := ["_law_box_here", "_law_caps_here", "_law_names_here"]) fun _ _ _ _ _ _ us hl => match us, hl with | [_, _, _], _ => rfl
  have F_all_written := fun_mk (st := s_all_written) lF_all_written cF_all_written kF_all_written
  have m_all_written := PySem.W.mg_of X G aF_all_written
  have B_all_written := F_all_written.binds (ps := ["_law_box_here", "_law_lines_here"]) fun _ _ _ _ _ _ us hl => match us, hl with | [_, _], _ => rfl
  have F_told := fun_mk (st := s_told) lF_told cF_told kF_told
  have m_told := PySem.W.mg_of X G aF_told
  have B_told := F_told.binds (ps := ["_law_kinds", "_law_lines_here"]) fun _ _ _ _ _ _ us hl => match us, hl with | [_, _], _ => rfl
  have F_law := fun_mk (st := s_law) lF_law cF_law kF_law
  have m_law := PySem.W.mg_of X G aF_law
  have cl_Cr : Cls K Cr := ⟨pg_Cr, hd_Cr, po_Cr, sa_Cr⟩
  have m_Cr := PySem.W.mg_of X G g_Cr
  have F_dinit := fun_mk (st := s_dinit) lF_dinit cF_dinit kF_dinit
  have B_dinit := F_dinit.binds (ps := ["self", "forms", "heads"]) fun _ _ _ _ _ _ us hl => match us, hl with | [_, _, _], _ => rfl
  have F_dtake := fun_mk (st := s_dtake) lF_dtake cF_dtake kF_dtake
  have B_dtake := F_dtake.binds (ps := ["self", "word"]) fun _ _ _ _ _ _ us hl => match us, hl with | [_, _], _ => rfl
  have F_dended := fun_mk (st := s_dended) lF_dended cF_dended kF_dended
  have B_dended := F_dended.binds (ps := ["self"]) fun _ _ _ _ _ _ us hl => match us, hl with | [_], _ => rfl
  have F_datom := fun_mk (st := s_datom) lF_datom cF_datom kF_datom
  have B_datom := F_datom.binds (ps := ["self", "word"]) fun _ _ _ _ _ _ us hl => match us, hl with | [_, _], _ => rfl
  have F_dbehind := fun_mk (st := s_dbehind) lF_dbehind cF_dbehind kF_dbehind
  have B_dbehind := F_dbehind.binds (ps := ["self", "word"]) fun _ _ _ _ _ _ us hl => match us, hl with | [_, _], _ => rfl
  have F_dclose := fun_mk (st := s_dclose) lF_dclose cF_dclose kF_dclose
  have B_dclose := F_dclose.binds (ps := ["self"]) fun _ _ _ _ _ _ us hl => match us, hl with | [_], _ => rfl
  have F_dput := fun_mk (st := s_dput) lF_dput cF_dput kF_dput
  have B_dput := F_dput.binds (ps := ["self", "part"]) fun _ _ _ _ _ _ us hl => match us, hl with | [_, _], _ => rfl
  have F_dgather := fun_mk (st := s_dgather) lF_dgather cF_dgather kF_dgather
  have B_dgather := F_dgather.binds (ps := ["self", "joints"]) fun _ _ _ _ _ _ us hl => match us, hl with | [_, _], _ => rfl
  have cl_Cw : Cls K Cw := ⟨pg_Cw, hd_Cw, po_Cw, sa_Cw⟩
  have m_Cw := PySem.W.mg_of X G g_Cw
  have F_rinit := fun_mk (st := s_rinit) lF_rinit cF_rinit kF_rinit
  have B_rinit := F_rinit.binds (ps := ["self", "kind", "names", "words", "condition"]) fun _ _ _ _ _ _ us hl => match us, hl with | [_, _, _, _, _], _ => rfl
  have F_line := fun_mk (st := s_line) lF_line cF_line kF_line
  have B_line := F_line.binds (ps := ["self"]) fun _ _ _ _ _ _ us hl => match us, hl with | [_], _ => rfl
  have F_unlike := fun_mk (st := s_unlike) lF_unlike cF_unlike kF_unlike
  have B_unlike := F_unlike.binds (ps := ["self"]) fun _ _ _ _ _ _ us hl => match us, hl with | [_], _ => rfl
  have F_used := fun_mk (st := s_used) lF_used cF_used kF_used
  have B_used := F_used.binds (ps := ["self"]) fun _ _ _ _ _ _ us hl => match us, hl with | [_], _ => rfl
  have cl_C : Cls K C := ⟨pg_C, hd_C, po_C, sa_C⟩
  have m_C := PySem.W.mg_of X G g_C
  have F_kinit := fun_mk (st := s_kinit) lF_kinit cF_kinit kF_kinit
  have B_kinit := F_kinit.binds (ps := ["self", "rows"]) fun _ _ _ _ _ _ us hl => match us, hl with | [_, _], _ => rfl
  have F_kread := fun_mk (st := s_kread) lF_kread cF_kread kF_kread
  have B_kread := F_kread.binds (ps := ["text"]) fun _ _ _ _ _ _ us hl => match us, hl with | [_], _ => rfl
  have cs_kread : Wc.CSta K C (.type "type") "read" rec_kread fF_kread := ⟨aF_kread, ⟨_, rF_kread⟩, kF_kread⟩
  have F_kstr := fun_mk (st := s_kstr) lF_kstr cF_kstr kF_kstr
  have B_kstr := F_kstr.binds (ps := ["self"]) fun _ _ _ _ _ _ us hl => match us, hl with | [_], _ => rfl
  have F_keq := fun_mk (st := s_keq) lF_keq cF_keq kF_keq
  have B_keq := F_keq.binds (ps := ["self", "other"]) fun _ _ _ _ _ _ us hl => match us, hl with | [_, _], _ => rfl
  have F_klen := fun_mk (st := s_klen) lF_klen cF_klen kF_klen
  have B_klen := F_klen.binds (ps := ["self"]) fun _ _ _ _ _ _ us hl => match us, hl with | [_], _ => rfl
  have F_kcon := fun_mk (st := s_kcon) lF_kcon cF_kcon kF_kcon
  have B_kcon := F_kcon.binds (ps := ["self", "word"]) fun _ _ _ _ _ _ us hl => match us, hl with | [_, _], _ => rfl
  have cr_C : ClX.CRead K C (.type "type") := ⟨rd_C, ga_C⟩
  refine ⟨PySem.W.fnOf "law" "law" (defArgs s_law) (defBody s_law) (defScope s_law) .none kVF_law dcF_law pmF_law anF_law cdF_law ctF_law, fun s v => .of_eq rfl, fun base hKb hNb => ?_⟩
  have mQ := PySem.W.mg_of X G gQ
  have hk_j : HdK K fT_j Qp.jts := ⟨q_j⟩
  have hk_o : HdK K fT_o Qp.out := ⟨q_o⟩
  have hk_h : HdK K fT_h hds := ⟨q_h⟩
  have hk_w : HdK K fT_w katw := ⟨q_w⟩
  have s0 : ∀ H : Hp, SqT K H qf0 [.str "some", .str "K"] := fun H => .inr ⟨_, _, _, lq0, rfl, rfl, (by show 2 ≤ sizeLine; decide), (.cons ⟨_, rfl⟩ (.cons ⟨_, rfl⟩ .nil))⟩
  have s1 : ∀ H : Hp, SqT K H qf1 [.str "every", .str "K"] := fun H => .inr ⟨_, _, _, lq1, rfl, rfl, (by show 2 ≤ sizeLine; decide), (.cons ⟨_, rfl⟩ (.cons ⟨_, rfl⟩ .nil))⟩
  have s2 : ∀ H : Hp, SqT K H qf2 [.str "first", .str "K"] := fun H => .inr ⟨_, _, _, lq2, rfl, rfl, (by show 2 ≤ sizeLine; decide), (.cons ⟨_, rfl⟩ (.cons ⟨_, rfl⟩ .nil))⟩
  have s3 : ∀ H : Hp, SqT K H qf3 [.str "last", .str "K"] := fun H => .inr ⟨_, _, _, lq3, rfl, rfl, (by show 2 ≤ sizeLine; decide), (.cons ⟨_, rfl⟩ (.cons ⟨_, rfl⟩ .nil))⟩
  have s4 : ∀ H : Hp, SqT K H qf4 [.str "K", .str "then", .str "K"] := fun H => .inr ⟨_, _, _, lq4, rfl, rfl, (by show 3 ≤ sizeLine; decide), (.cons ⟨_, rfl⟩ (.cons ⟨_, rfl⟩ (.cons ⟨_, rfl⟩ .nil)))⟩
  have s5 : ∀ H : Hp, SqT K H qf5 [.str "K", .str "next", .str "K"] := fun H => .inr ⟨_, _, _, lq5, rfl, rfl, (by show 3 ≤ sizeLine; decide), (.cons ⟨_, rfl⟩ (.cons ⟨_, rfl⟩ (.cons ⟨_, rfl⟩ .nil)))⟩
  have s6 : ∀ H : Hp, SqT K H qf6 [.str "count", .str "K", .str "mod", .str "2", .str "is", .str "0"] := fun H => .inr ⟨_, _, _, lq6, rfl, rfl, (by show 6 ≤ sizeLine; decide), (.cons ⟨_, rfl⟩ (.cons ⟨_, rfl⟩ (.cons ⟨_, rfl⟩ (.cons ⟨_, rfl⟩ (.cons ⟨_, rfl⟩ (.cons ⟨_, rfl⟩ .nil))))))⟩
  have s7 : ∀ H : Hp, SqT K H qf7 [.str "count", .str "K", .str "mod", .str "2", .str "is", .str "1"] := fun H => .inr ⟨_, _, _, lq7, rfl, rfl, (by show 6 ≤ sizeLine; decide), (.cons ⟨_, rfl⟩ (.cons ⟨_, rfl⟩ (.cons ⟨_, rfl⟩ (.cons ⟨_, rfl⟩ (.cons ⟨_, rfl⟩ (.cons ⟨_, rfl⟩ .nil))))))⟩
  have s8 : ∀ H : Hp, SqT K H qf8 [.str "count", .str "K", .str "mod", .str "3", .str "is", .str "0"] := fun H => .inr ⟨_, _, _, lq8, rfl, rfl, (by show 6 ≤ sizeLine; decide), (.cons ⟨_, rfl⟩ (.cons ⟨_, rfl⟩ (.cons ⟨_, rfl⟩ (.cons ⟨_, rfl⟩ (.cons ⟨_, rfl⟩ (.cons ⟨_, rfl⟩ .nil))))))⟩
  have s9 : ∀ H : Hp, SqT K H qf9 [.str "count", .str "K", .str "mod", .str "3", .str "is", .str "1"] := fun H => .inr ⟨_, _, _, lq9, rfl, rfl, (by show 6 ≤ sizeLine; decide), (.cons ⟨_, rfl⟩ (.cons ⟨_, rfl⟩ (.cons ⟨_, rfl⟩ (.cons ⟨_, rfl⟩ (.cons ⟨_, rfl⟩ (.cons ⟨_, rfl⟩ .nil))))))⟩
  have s10 : ∀ H : Hp, SqT K H qf10 [.str "count", .str "K", .str "mod", .str "3", .str "is", .str "2"] := fun H => .inr ⟨_, _, _, lq10, rfl, rfl, (by show 6 ≤ sizeLine; decide), (.cons ⟨_, rfl⟩ (.cons ⟨_, rfl⟩ (.cons ⟨_, rfl⟩ (.cons ⟨_, rfl⟩ (.cons ⟨_, rfl⟩ (.cons ⟨_, rfl⟩ .nil))))))⟩
  have s11 : ∀ H : Hp, SqT K H qf11 [.str "below", .str "K"] := fun H => .inr ⟨_, _, _, lq11, rfl, rfl, (by show 2 ≤ sizeLine; decide), (.cons ⟨_, rfl⟩ (.cons ⟨_, rfl⟩ .nil))⟩
  have sQ : ∀ H : Hp, SqT K H fQ [.ref qf0, .ref qf1, .ref qf2, .ref qf3, .ref qf4, .ref qf5, .ref qf6, .ref qf7, .ref qf8, .ref qf9, .ref qf10, .ref qf11] := fun H => .inr ⟨_, _, _, lQ, rfl, rfl, (by show 12 ≤ sizeLine; decide), (.cons rfl (.cons rfl (.cons rfl (.cons rfl (.cons rfl (.cons rfl (.cons rfl (.cons rfl (.cons rfl (.cons rfl (.cons rfl (.cons rfl .nil))))))))))))⟩
  have hfm : FmK K fQ kfs := ⟨_, rfl, sQ, fun i f h => match i, h with | 0, h => (by cases h; exact ⟨qf0, rfl, s0⟩) | 1, h => (by cases h; exact ⟨qf1, rfl, s1⟩) | 2, h => (by cases h; exact ⟨qf2, rfl, s2⟩) | 3, h => (by cases h; exact ⟨qf3, rfl, s3⟩) | 4, h => (by cases h; exact ⟨qf4, rfl, s4⟩) | 5, h => (by cases h; exact ⟨qf5, rfl, s5⟩) | 6, h => (by cases h; exact ⟨qf6, rfl, s6⟩) | 7, h => (by cases h; exact ⟨qf7, rfl, s7⟩) | 8, h => (by cases h; exact ⟨qf8, rfl, s8⟩) | 9, h => (by cases h; exact ⟨qf9, rfl, s9⟩) | 10, h => (by cases h; exact ⟨qf10, rfl, s10⟩) | 11, h => (by cases h; exact ⟨qf11, rfl, s11⟩) | _ + 12, h => nomatch h⟩
  have TA : NmA mg K fF_consists fF_is_kind_name fF_fits fF_joined := ⟨m_consists, kF_consists, m_is_kind_name, kF_is_kind_name, m_fits, kF_fits, m_joined, kF_joined, m_len, m_all, m_zip, m_tuple⟩
  have TRd : NmRd mg K Cr fT_j fF_datom fF_dbehind fF_dclose fF_dput fF_dgather := ⟨cl_Cr, na_Cr__forms, na_Cr__heads, na_Cr__parts, na_Cr__waiting, na_Cr__begun, na_Cr__is_whole, m_j, hk_j, ⟨aF_datom, iF_datom, kF_datom⟩, ⟨aF_dbehind, iF_dbehind, kF_dbehind⟩, ⟨aF_dclose, iF_dclose, kF_dclose⟩, ⟨aF_dput, iF_dput, kF_dput⟩, ⟨aF_dgather, iF_dgather, kF_dgather⟩⟩
  have TTx : NmTx mg K fF_encl fF_tunder fF_tof fT_j := ⟨m_encl, kF_encl, m_tunder, kF_tunder, m_tof, kF_tof, m_j, hk_j⟩
  have TAt : NmAt mg K fF_ato fT_o := ⟨m_ato, kF_ato, m_o, hk_o⟩
  have TNK : NmK mg K fF_consists fF_is_name fF_is_place fF_count_of fF_depth fF_condition_of Cr fF_dtake fF_dended fT_nn fQ fT_w := ⟨m_consists, kF_consists, m_is_name, kF_is_name, m_is_place, kF_is_place, m_count_of, kF_count_of, m_depth, kF_depth, m_condition_of, kF_condition_of, m_Cr, cl_Cr, ⟨aF_dtake, iF_dtake, kF_dtake⟩, ⟨aF_dended, iF_dended, kF_dended⟩, m_nn, q_nn, mQ, hfm, m_w, hk_w, m_len, m_set, m_all, m_any, m_enumerate⟩
  have TR : NmR mg K Cw fF_is_kind_name := ⟨m_Cw, cl_Cw, na_Cw_kind, na_Cw_names, na_Cw_words, na_Cw_condition, m_is_kind_name, kF_is_kind_name, m_tuple, m_sorted⟩
  have TF : NmF mg K Cw fF_line fF_unlike fF_used := ⟨⟨aF_line, iF_line, kF_line⟩, ⟨aF_unlike, iF_unlike, kF_unlike⟩, ⟨aF_used, iF_used, kF_used⟩⟩
  have TK : NmKd mg K C := ⟨m_C, cl_C, na_C_words, na_C_names, na_C_rows, na_C_atoms, na_C__text⟩
  have TJ : NmKr mg K fF_rows_in fF_words_in fF_kind_row_of fF_faults := ⟨m_rows_in, kF_rows_in, m_words_in, kF_words_in, m_kind_row_of, kF_kind_row_of, m_faults, kF_faults, m_isinstance⟩
  have TE : NmKe K C := ⟨ha_C, hn, ht, hm_C, TT.kit⟩
  have MR : Mk K Cr fF_dinit := ⟨mk_Cr, aF_dinit, iF_dinit, kc_Cr⟩
  have MW : Mk K Cw fF_rinit := ⟨mk_Cw, aF_rinit, iF_rinit, kc_Cw⟩
  have MK : Mk K C fF_kinit := ⟨mk_C, aF_kinit, iF_kinit, kc_C⟩
  have G_rows_in := ok_rows_in (P := Lw.prog) (w := w) (mg := mg) (base := base) F_rows_in
  have G_words_in := ok_words_in (P := Lw.prog) (w := w) (mg := mg) (base := base) F_words_in
  have G_consists := ok_consists (P := Lw.prog) (w := w) (mg := mg) (base := base) F_consists ⟨m_len, m_all⟩
  have G_is_name := ok_is_name (P := Lw.prog) (w := w) (mg := mg) (base := base) F_is_name TNK G_consists B_consists
  have G_is_place := ok_is_place (P := Lw.prog) (w := w) (mg := mg) (base := base) F_is_place TNK G_is_name B_is_name
  have G_is_kind_name := ok_is_kind_name (P := Lw.prog) (w := w) (mg := mg) (base := base) F_is_kind_name TA G_consists B_consists
  have G_fits := ok_fits (P := Lw.prog) (w := w) (mg := mg) (base := base) F_fits TA G_is_kind_name B_is_kind_name
  have G_count := ok_count_of (P := Lw.prog) (w := w) (mg := mg) (base := base) F_count_of TA
  have G_joined := ok_joined (P := Lw.prog) (w := w) (mg := mg) (base := base) F_joined TA
  have G_gather := ok_dgather (P := Lw.prog) (w := w) (mg := mg) (base := base) F_dgather TA TRd G_joined B_joined
  have G_put := ok_dput (P := Lw.prog) (w := w) (mg := mg) (base := base) F_dput TRd
  have G_close := ok_dclose (P := Lw.prog) (w := w) (mg := mg) (base := base) F_dclose TRd G_gather B_dgather G_put B_dput
  have G_ended := ok_dended (P := Lw.prog) (w := w) (mg := mg) (base := base) F_dended TRd G_gather B_dgather
  have G_datom := ok_datom (P := Lw.prog) (w := w) (mg := mg) (base := base) F_datom TA TRd G_fits B_fits G_put B_dput
  have G_dinit := ok_dinit (P := Lw.prog) (w := w) (mg := mg) (base := base) F_dinit TRd
  have G_behind := ok_dbehind (P := Lw.prog) (w := w) (mg := mg) (base := base) F_dbehind TRd G_gather B_dgather G_close B_dclose
  have G_dtake := ok_dtake (P := Lw.prog) (w := w) (mg := mg) (base := base) F_dtake TRd G_datom B_datom G_behind B_dbehind
  have G_encl := ok_encl (P := Lw.prog) (w := w) (mg := mg) (base := base) F_encl TTx
  have G_tof := ok_tof (P := Lw.prog) (w := w) (mg := mg) (base := base) F_tof F_tunder TTx G_encl B_encl B_tof B_tunder 15
  have G_ato := ok_ato (P := Lw.prog) (w := w) (mg := mg) (base := base) F_ato TTx TAt B_ato 15
  have G_depth := ok_depth (P := Lw.prog) (w := w) (mg := mg) (base := base) F_depth ⟨m_h, hk_h, m_max⟩
  have G_cond := ok_condition_of (P := Lw.prog) (w := w) (mg := mg) (base := base) F_condition_of TNK MR G_dinit B_dinit G_dtake B_dtake G_ended B_dended
  have G_rinit := ok_rinit (P := Lw.prog) (w := w) (mg := mg) (base := base) F_rinit TR
  have G_line := ok_line (P := Lw.prog) (w := w) (mg := mg) (base := base) F_line TR TTx G_tof B_tof
  have G_unl := ok_unlike (P := Lw.prog) (w := w) (mg := mg) (base := base) F_unlike TR TTx TAt G_tof B_tof G_ato B_ato
  have G_used := ok_used (P := Lw.prog) (w := w) (mg := mg) (base := base) F_used TR G_is_kind_name B_is_kind_name
  have G_kr := ok_kind_row_of (P := Lw.prog) (w := w) (mg := mg) (base := base) F_kind_row_of TNK TR G_is_kind_name B_is_kind_name G_is_place B_is_place G_cond B_condition_of MW G_rinit B_rinit
  have G_faults := ok_faults (P := Lw.prog) (w := w) (mg := mg) (base := base) F_faults TNK TR TF G_used B_used G_count B_count_of G_depth B_depth
  have G_kinit := ok_kinit (P := Lw.prog) (w := w) (mg := mg) (base := base) F_kinit TNK TR TF TK G_is_name B_is_name G_line B_line G_unl B_unlike
  have G_kread := ok_kread (P := Lw.prog) (w := w) (mg := mg) (base := base) F_kread TNK TK TJ G_rows_in B_rows_in G_words_in B_words_in G_kr B_kind_row_of G_faults B_faults MK G_kinit B_kinit
  have G_kstr := ok_kstr (P := Lw.prog) (w := w) (mg := mg) (base := base) (Cw := Cw) F_kstr TK
  have G_klen := ok_klen (P := Lw.prog) (w := w) (mg := mg) (base := base) (Cw := Cw) F_klen TNK TK
  have G_kcon := ok_kcon (P := Lw.prog) (w := w) (mg := mg) (base := base) (Cw := Cw) F_kcon TK
  have G_keq := ok_keq (P := Lw.prog) (w := w) (mg := mg) (base := base) (Cw := Cw) F_keq TK TJ TE
  have G_box := ok_box (P := Lw.prog) (w := w) (mg := mg) (base := base) F_box ⟨m_len, m_abs, m_int⟩
  have G_take := ok_take (P := Lw.prog) (w := w) (mg := mg) (base := base) F_take
  have TM : N7.NmM mg K fF_take fF_mixed := ⟨m_take, kF_take, m_mixed, kF_mixed, m_list, m_len, m_range⟩
  have G_mixed := ok_mixed (P := Lw.prog) (w := w) (mg := mg) (base := base) F_mixed TM G_take B_take
  have G_pick := ok_pick (P := Lw.prog) (w := w) (mg := mg) (base := base) F_pick TM G_take B_take
  have G_caps := ok_caps (P := Lw.prog) (w := w) (mg := mg) (base := base) F_caps TM (G_take.mono (by decide)) B_take G_mixed B_mixed
  have G_names := ok_names (P := Lw.prog) (w := w) (mg := mg) (base := base) F_names TM (G_take.mono (by decide)) B_take G_mixed B_mixed
  have TS : NmS mg K fF_bound fF_shown := ⟨m_bound, kF_bound, m_shown, kF_shown, m_str⟩
  have G_shF := ok_shownA (P := Lw.prog) (w := w) (mg := mg) (base := base) F_bound F_shown TS B_bound B_shown
  have TB : NmB mg K fF_take fF_mixed fF_pick fF_about fF_inside := ⟨m_take, kF_take, m_mixed, kF_mixed, m_pick, kF_pick, m_about, kF_about, m_inside, kF_inside, m_range, m_len⟩
  have G_about := ok_about (P := Lw.prog) (w := w) (mg := mg) (base := base) F_about TB G_take B_take G_pick B_pick
  have G_insF := ok_insideA (P := Lw.prog) (w := w) (mg := mg) (base := base) F_inside TB G_take B_take G_about B_about B_inside
  have G_lines := ok_lines (P := Lw.prog) (w := w) (mg := mg) (base := base) F_lines TB m_tuple m_enumerate G_take B_take G_mixed B_mixed (G_insF 3) B_inside
  have G_lt := ok_lines_text (P := Lw.prog) (w := w) (mg := mg) (base := base) F_lines_text TS (G_shF 30) B_shown
  have TW : NmW mg K fF_take fF_written fF_part fF_shown := ⟨m_take, kF_take, m_written, kF_written, m_part, kF_part, m_shown, kF_shown, m_max, m_int⟩
  have G_wrF := ok_writtenA (P := Lw.prog) (w := w) (mg := mg) (base := base) F_written F_part TW G_take B_take (G_shF 0) B_shown B_part B_written
  have G_manF := ok_manyA (P := Lw.prog) (w := w) (mg := mg) (base := base) F_many ⟨m_many, kF_many, m_sum⟩ B_many
  have G_drawn := ok_drawn (P := Lw.prog) (w := w) (mg := mg) (base := base) F_drawn TB ⟨m_lines, kF_lines, m_written, kF_written, m_many, kF_many, m_tuple⟩ G_take B_take G_mixed B_mixed (G_insF 8) B_inside G_lines B_lines (G_wrF 30) B_written (G_manF 30) B_many
  have G_allw := ok_all_written (P := Lw.prog) (w := w) (mg := mg) (base := base) F_all_written TW (G_shF 30) B_shown (G_wrF 30) B_written
  have G_nn := ok_nodenames (P := Lw.prog) (w := w) (mg := mg) (base := base) F_nodenames m_set m_sorted
  have TTo : NmTo mg K C fF_nodenames fF_lines_text fF_kstr fF_klen fF_kcon := ⟨m_nodenames, kF_nodenames, m_lines_text, kF_lines_text, m_tuple, m_len, m_str, aF_kstr, iF_kstr, aF_klen, iF_klen, aF_kcon, iF_kcon⟩
  have G_told := ok_told (P := Lw.prog) (w := w) (mg := mg) (base := base) F_told TTo TK G_nn B_nodenames G_lt B_lines_text G_kstr B_kstr G_klen B_klen G_kcon B_kcon
  have TQ : NmKq K C (.type "type") rec_kread fF_kread fF_kstr fF_klen fF_keq := ⟨cr_C, cs_kread, aF_kstr, iF_kstr, aF_klen, iF_klen, aF_keq, iF_keq, TT.ne, TT.k2, TT.k3, TT.f2, TT.f3, TT.f4⟩
  exact ok_law F_law ⟨m_box, kF_box, m_take, kF_take, m_caps, kF_caps, m_names, kF_names, m_drawn, kF_drawn, m_all_written, kF_all_written, m_told, kF_told, m_range, m_max, m_min, m_len, m_str⟩ TK TQ TE G_box B_box G_take B_take G_caps B_caps G_names B_names G_drawn B_drawn G_allw B_all_written G_told B_told G_kread B_kread G_kstr B_kstr G_klen B_klen G_keq B_keq
end N7

set_option linter.all false
open PySem PySem.W PyProof.Rows
set_option maxRecDepth 100000 in
set_option maxHeartbeats 0 in
theorem PySem.Challenge.cw_keptnomore_k07_kinds_shown_holds : PySem.Challenge.rw_keptnomore_k07_kinds_shown.Holds := by
  w_on; o_law; k_head; (case hw => w_witness2)
  k_fill
  refine Rg.walkG (l := PySem.Challenge.rw_keptnomore_k07_kinds_shown) (n := 63) (k := 64) (x := "_law_script") (CX := fun _ => L2.CX0) (sp := fun w => N7.spLaw _) rfl (by decide) rfl ⟨rfl, by decide, by decide⟩ (fun w h Y => PySem.W.kIn_of Y) ?F
    (fun _ _ a ns hl _ _ hS => ⟨a, ns, rfl, hS, Nat.le_trans hl (by decide), fun _ => rfl⟩) (fun _ _ _ _ _ z => z)
  case F =>
    intro w mg fa h KX G hmg
    refine' N7.all_mk KX G hmg ?kk_aF_rows_in ?kk_lF_rows_in ?kk_cF_rows_in ?kk_kF_rows_in ?kk_aF_words_in ?kk_lF_words_in ?kk_cF_words_in ?kk_kF_words_in ?kk_aF_consists ?kk_lF_consists ?kk_cF_consists ?kk_kF_consists ?kk_aF_is_name ?kk_lF_is_name ?kk_cF_is_name ?kk_kF_is_name ?kk_aF_is_kind_name ?kk_lF_is_kind_name ?kk_cF_is_kind_name ?kk_kF_is_kind_name ?kk_aF_fits ?kk_lF_fits ?kk_cF_fits ?kk_kF_fits ?kk_aF_count_of ?kk_lF_count_of ?kk_cF_count_of ?kk_kF_count_of ?kk_aF_joined ?kk_lF_joined ?kk_cF_joined ?kk_kF_joined ?kk_aF_encl ?kk_lF_encl ?kk_cF_encl ?kk_kF_encl ?kk_aF_tunder ?kk_lF_tunder ?kk_cF_tunder ?kk_kF_tunder ?kk_aF_tof ?kk_lF_tof ?kk_cF_tof ?kk_kF_tof ?kk_aF_depth ?kk_lF_depth ?kk_cF_depth ?kk_kF_depth ?kk_aF_ato ?kk_lF_ato ?kk_cF_ato ?kk_kF_ato ?kk_aF_is_place ?kk_lF_is_place ?kk_cF_is_place ?kk_kF_is_place ?kk_aF_condition_of ?kk_lF_condition_of ?kk_cF_condition_of ?kk_kF_condition_of ?kk_aF_kind_row_of ?kk_lF_kind_row_of ?kk_cF_kind_row_of ?kk_kF_kind_row_of ?kk_aF_faults ?kk_lF_faults ?kk_cF_faults ?kk_kF_faults ?kk_aF_box ?kk_lF_box ?kk_cF_box ?kk_kF_box ?kk_aF_take ?kk_lF_take ?kk_cF_take ?kk_kF_take ?kk_aF_mixed ?kk_lF_mixed ?kk_cF_mixed ?kk_kF_mixed ?kk_aF_pick ?kk_lF_pick ?kk_cF_pick ?kk_kF_pick ?kk_aF_names ?kk_lF_names ?kk_cF_names ?kk_kF_names ?kk_aF_caps ?kk_lF_caps ?kk_cF_caps ?kk_kF_caps ?kk_aF_bound ?kk_lF_bound ?kk_cF_bound ?kk_kF_bound ?kk_aF_shown ?kk_lF_shown ?kk_cF_shown ?kk_kF_shown ?kk_aF_about ?kk_lF_about ?kk_cF_about ?kk_kF_about ?kk_aF_inside ?kk_lF_inside ?kk_cF_inside ?kk_kF_inside ?kk_aF_lines ?kk_lF_lines ?kk_cF_lines ?kk_kF_lines ?kk_aF_lines_text ?kk_lF_lines_text ?kk_cF_lines_text ?kk_kF_lines_text ?kk_aF_written ?kk_lF_written ?kk_cF_written ?kk_kF_written ?kk_aF_nodenames ?kk_lF_nodenames ?kk_cF_nodenames ?kk_kF_nodenames ?kk_aF_part ?kk_lF_part ?kk_cF_part ?kk_kF_part ?kk_aF_many ?kk_lF_many ?kk_cF_many ?kk_kF_many ?kk_aF_drawn ?kk_lF_drawn ?kk_cF_drawn ?kk_kF_drawn ?kk_aF_all_written ?kk_lF_all_written ?kk_cF_all_written ?kk_kF_all_written ?kk_aF_told ?kk_lF_told ?kk_cF_told ?kk_kF_told ?kk_aF_law ?kk_lF_law ?kk_cF_law ?kk_kF_law ?kk_g_Cr ?kk_pg_Cr ?kk_hd_Cr ?kk_po_Cr ?kk_sa_Cr ?kk_mk_Cr ?kk_kc_Cr ?kk_ha_Cr ?kk_hm_Cr ?kk_na_Cr__forms ?kk_na_Cr__heads ?kk_na_Cr__parts ?kk_na_Cr__waiting ?kk_na_Cr__begun ?kk_na_Cr__is_whole ?kk_aF_dinit ?kk_iF_dinit ?kk_lF_dinit ?kk_cF_dinit ?kk_kF_dinit ?kk_aF_dtake ?kk_iF_dtake ?kk_lF_dtake ?kk_cF_dtake ?kk_kF_dtake ?kk_aF_dended ?kk_iF_dended ?kk_lF_dended ?kk_cF_dended ?kk_kF_dended ?kk_aF_datom ?kk_iF_datom ?kk_lF_datom ?kk_cF_datom ?kk_kF_datom ?kk_aF_dbehind ?kk_iF_dbehind ?kk_lF_dbehind ?kk_cF_dbehind ?kk_kF_dbehind ?kk_aF_dclose ?kk_iF_dclose ?kk_lF_dclose ?kk_cF_dclose ?kk_kF_dclose ?kk_aF_dput ?kk_iF_dput ?kk_lF_dput ?kk_cF_dput ?kk_kF_dput ?kk_aF_dgather ?kk_iF_dgather ?kk_lF_dgather ?kk_cF_dgather ?kk_kF_dgather ?kk_g_Cw ?kk_pg_Cw ?kk_hd_Cw ?kk_po_Cw ?kk_sa_Cw ?kk_mk_Cw ?kk_kc_Cw ?kk_ha_Cw ?kk_hm_Cw ?kk_na_Cw_kind ?kk_na_Cw_names ?kk_na_Cw_words ?kk_na_Cw_condition ?kk_aF_rinit ?kk_iF_rinit ?kk_lF_rinit ?kk_cF_rinit ?kk_kF_rinit ?kk_aF_line ?kk_iF_line ?kk_lF_line ?kk_cF_line ?kk_kF_line ?kk_aF_unlike ?kk_iF_unlike ?kk_lF_unlike ?kk_cF_unlike ?kk_kF_unlike ?kk_aF_used ?kk_iF_used ?kk_lF_used ?kk_cF_used ?kk_kF_used ?kk_g_C ?kk_pg_C ?kk_hd_C ?kk_po_C ?kk_sa_C ?kk_mk_C ?kk_kc_C ?kk_ha_C ?kk_hm_C ?kk_na_C_words ?kk_na_C_names ?kk_na_C_rows ?kk_na_C_atoms ?kk_na_C__text ?kk_aF_kinit ?kk_iF_kinit ?kk_lF_kinit ?kk_cF_kinit ?kk_kF_kinit ?kk_aF_kread ?kk_rF_kread ?kk_lF_kread ?kk_cF_kread ?kk_kF_kread ?kk_aF_kstr ?kk_iF_kstr ?kk_lF_kstr ?kk_cF_kstr ?kk_kF_kstr ?kk_aF_keq ?kk_iF_keq ?kk_lF_keq ?kk_cF_keq ?kk_kF_keq ?kk_aF_klen ?kk_iF_klen ?kk_lF_klen ?kk_cF_klen ?kk_kF_klen ?kk_aF_kcon ?kk_iF_kcon ?kk_lF_kcon ?kk_cF_kcon ?kk_kF_kcon ?kk_rd_C ?kk_ga_C ?kk_aT_j ?kk_lT_j ?kk_aT_o ?kk_lT_o ?kk_aT_h ?kk_lT_h ?kk_aT_w ?kk_lT_w ?kk_aT_nn ?kk_lT_nn ?kk_n_len ?kk_n_abs ?kk_n_int ?kk_n_isinstance ?kk_n_list ?kk_n_tuple ?kk_n_range ?kk_n_max ?kk_n_min ?kk_n_enumerate ?kk_n_all ?kk_n_any ?kk_n_str ?kk_n_zip ?kk_n_set ?kk_n_sorted ?kk_n_sum ?kk_tab ?kk_hn ?kk_ht ?kk_gQ ?kk_lQ ?kk_lq0 ?kk_lq1 ?kk_lq2 ?kk_lq3 ?kk_lq4 ?kk_lq5 ?kk_lq6 ?kk_lq7 ?kk_lq8 ?kk_lq9 ?kk_lq10 ?kk_lq11
    (case kk_aF_rows_in => k_is)
    (case kk_lF_rows_in => k_is)
    (case kk_cF_rows_in => k_is)
    (case kk_kF_rows_in => k_is)
    (case kk_aF_words_in => k_is)
    (case kk_lF_words_in => k_is)
    (case kk_cF_words_in => k_is)
    (case kk_kF_words_in => k_is)
    (case kk_aF_consists => k_is)
    (case kk_lF_consists => k_is)
    (case kk_cF_consists => k_is)
    (case kk_kF_consists => k_is)
    (case kk_aF_is_name => k_is)
    (case kk_lF_is_name => k_is)
    (case kk_cF_is_name => k_is)
    (case kk_kF_is_name => k_is)
    (case kk_aF_is_kind_name => k_is)
    (case kk_lF_is_kind_name => k_is)
    (case kk_cF_is_kind_name => k_is)
    (case kk_kF_is_kind_name => k_is)
    (case kk_aF_fits => k_is)
    (case kk_lF_fits => k_is)
    (case kk_cF_fits => k_is)
    (case kk_kF_fits => k_is)
    (case kk_aF_count_of => k_is)
    (case kk_lF_count_of => k_is)
    (case kk_cF_count_of => k_is)
    (case kk_kF_count_of => k_is)
    (case kk_aF_joined => k_is)
    (case kk_lF_joined => k_is)
    (case kk_cF_joined => k_is)
    (case kk_kF_joined => k_is)
    (case kk_aF_encl => k_is)
    (case kk_lF_encl => k_is)
    (case kk_cF_encl => k_is)
    (case kk_kF_encl => k_is)
    (case kk_aF_tunder => k_is)
    (case kk_lF_tunder => k_is)
    (case kk_cF_tunder => k_is)
    (case kk_kF_tunder => k_is)
    (case kk_aF_tof => k_is)
    (case kk_lF_tof => k_is)
    (case kk_cF_tof => k_is)
    (case kk_kF_tof => k_is)
    (case kk_aF_depth => k_is)
    (case kk_lF_depth => k_is)
    (case kk_cF_depth => k_is)
    (case kk_kF_depth => k_is)
    (case kk_aF_ato => k_is)
    (case kk_lF_ato => k_is)
    (case kk_cF_ato => k_is)
    (case kk_kF_ato => k_is)
    (case kk_aF_is_place => k_is)
    (case kk_lF_is_place => k_is)
    (case kk_cF_is_place => k_is)
    (case kk_kF_is_place => k_is)
    (case kk_aF_condition_of => k_is)
    (case kk_lF_condition_of => k_is)
    (case kk_cF_condition_of => k_is)
    (case kk_kF_condition_of => k_is)
    (case kk_aF_kind_row_of => k_is)
    (case kk_lF_kind_row_of => k_is)
    (case kk_cF_kind_row_of => k_is)
    (case kk_kF_kind_row_of => k_is)
    (case kk_aF_faults => k_is)
    (case kk_lF_faults => k_is)
    (case kk_cF_faults => k_is)
    (case kk_kF_faults => k_is)
    (case kk_aF_box => k_is)
    (case kk_lF_box => k_is)
    (case kk_cF_box => k_is)
    (case kk_kF_box => k_is)
    (case kk_aF_take => k_is)
    (case kk_lF_take => k_is)
    (case kk_cF_take => k_is)
    (case kk_kF_take => k_is)
    (case kk_aF_mixed => k_is)
    (case kk_lF_mixed => k_is)
    (case kk_cF_mixed => k_is)
    (case kk_kF_mixed => k_is)
    (case kk_aF_pick => k_is)
    (case kk_lF_pick => k_is)
    (case kk_cF_pick => k_is)
    (case kk_kF_pick => k_is)
    (case kk_aF_names => k_is)
    (case kk_lF_names => k_is)
    (case kk_cF_names => k_is)
    (case kk_kF_names => k_is)
    (case kk_aF_caps => k_is)
    (case kk_lF_caps => k_is)
    (case kk_cF_caps => k_is)
    (case kk_kF_caps => k_is)
    (case kk_aF_bound => k_is)
    (case kk_lF_bound => k_is)
    (case kk_cF_bound => k_is)
    (case kk_kF_bound => k_is)
    (case kk_aF_shown => k_is)
    (case kk_lF_shown => k_is)
    (case kk_cF_shown => k_is)
    (case kk_kF_shown => k_is)
    (case kk_aF_about => k_is)
    (case kk_lF_about => k_is)
    (case kk_cF_about => k_is)
    (case kk_kF_about => k_is)
    (case kk_aF_inside => k_is)
    (case kk_lF_inside => k_is)
    (case kk_cF_inside => k_is)
    (case kk_kF_inside => k_is)
    (case kk_aF_lines => k_is)
    (case kk_lF_lines => k_is)
    (case kk_cF_lines => k_is)
    (case kk_kF_lines => k_is)
    (case kk_aF_lines_text => k_is)
    (case kk_lF_lines_text => k_is)
    (case kk_cF_lines_text => k_is)
    (case kk_kF_lines_text => k_is)
    (case kk_aF_written => k_is)
    (case kk_lF_written => k_is)
    (case kk_cF_written => k_is)
    (case kk_kF_written => k_is)
    (case kk_aF_nodenames => k_is)
    (case kk_lF_nodenames => k_is)
    (case kk_cF_nodenames => k_is)
    (case kk_kF_nodenames => k_is)
    (case kk_aF_part => k_is)
    (case kk_lF_part => k_is)
    (case kk_cF_part => k_is)
    (case kk_kF_part => k_is)
    (case kk_aF_many => k_is)
    (case kk_lF_many => k_is)
    (case kk_cF_many => k_is)
    (case kk_kF_many => k_is)
    (case kk_aF_drawn => k_is)
    (case kk_lF_drawn => k_is)
    (case kk_cF_drawn => k_is)
    (case kk_kF_drawn => k_is)
    (case kk_aF_all_written => k_is)
    (case kk_lF_all_written => k_is)
    (case kk_cF_all_written => k_is)
    (case kk_kF_all_written => k_is)
    (case kk_aF_told => k_is)
    (case kk_lF_told => k_is)
    (case kk_cF_told => k_is)
    (case kk_kF_told => k_is)
    (case kk_aF_law => k_is)
    (case kk_lF_law => k_is)
    (case kk_cF_law => k_is)
    (case kk_kF_law => k_is)
    (case kk_g_Cr => k_is)
    (case kk_pg_Cr => k_is)
    (case kk_hd_Cr => k_is)
    (case kk_po_Cr => k_is)
    (case kk_sa_Cr => k_is)
    (case kk_mk_Cr => k_is)
    (case kk_kc_Cr => k_is)
    (case kk_ha_Cr => k_is)
    (case kk_hm_Cr => k_is)
    (case kk_na_Cr__forms => k_is)
    (case kk_na_Cr__heads => k_is)
    (case kk_na_Cr__parts => k_is)
    (case kk_na_Cr__waiting => k_is)
    (case kk_na_Cr__begun => k_is)
    (case kk_na_Cr__is_whole => k_is)
    (case kk_aF_dinit => k_is)
    (case kk_iF_dinit => k_is)
    (case kk_lF_dinit => k_is)
    (case kk_cF_dinit => k_is)
    (case kk_kF_dinit => k_is)
    (case kk_aF_dtake => k_is)
    (case kk_iF_dtake => k_is)
    (case kk_lF_dtake => k_is)
    (case kk_cF_dtake => k_is)
    (case kk_kF_dtake => k_is)
    (case kk_aF_dended => k_is)
    (case kk_iF_dended => k_is)
    (case kk_lF_dended => k_is)
    (case kk_cF_dended => k_is)
    (case kk_kF_dended => k_is)
    (case kk_aF_datom => k_is)
    (case kk_iF_datom => k_is)
    (case kk_lF_datom => k_is)
    (case kk_cF_datom => k_is)
    (case kk_kF_datom => k_is)
    (case kk_aF_dbehind => k_is)
    (case kk_iF_dbehind => k_is)
    (case kk_lF_dbehind => k_is)
    (case kk_cF_dbehind => k_is)
    (case kk_kF_dbehind => k_is)
    (case kk_aF_dclose => k_is)
    (case kk_iF_dclose => k_is)
    (case kk_lF_dclose => k_is)
    (case kk_cF_dclose => k_is)
    (case kk_kF_dclose => k_is)
    (case kk_aF_dput => k_is)
    (case kk_iF_dput => k_is)
    (case kk_lF_dput => k_is)
    (case kk_cF_dput => k_is)
    (case kk_kF_dput => k_is)
    (case kk_aF_dgather => k_is)
    (case kk_iF_dgather => k_is)
    (case kk_lF_dgather => k_is)
    (case kk_cF_dgather => k_is)
    (case kk_kF_dgather => k_is)
    (case kk_g_Cw => k_is)
    (case kk_pg_Cw => k_is)
    (case kk_hd_Cw => k_is)
    (case kk_po_Cw => k_is)
    (case kk_sa_Cw => k_is)
    (case kk_mk_Cw => k_is)
    (case kk_kc_Cw => k_is)
    (case kk_ha_Cw => k_is)
    (case kk_hm_Cw => k_is)
    (case kk_na_Cw_kind => k_is)
    (case kk_na_Cw_names => k_is)
    (case kk_na_Cw_words => k_is)
    (case kk_na_Cw_condition => k_is)
    (case kk_aF_rinit => k_is)
    (case kk_iF_rinit => k_is)
    (case kk_lF_rinit => k_is)
    (case kk_cF_rinit => k_is)
    (case kk_kF_rinit => k_is)
    (case kk_aF_line => k_is)
    (case kk_iF_line => k_is)
    (case kk_lF_line => k_is)
    (case kk_cF_line => k_is)
    (case kk_kF_line => k_is)
    (case kk_aF_unlike => k_is)
    (case kk_iF_unlike => k_is)
    (case kk_lF_unlike => k_is)
    (case kk_cF_unlike => k_is)
    (case kk_kF_unlike => k_is)
    (case kk_aF_used => k_is)
    (case kk_iF_used => k_is)
    (case kk_lF_used => k_is)
    (case kk_cF_used => k_is)
    (case kk_kF_used => k_is)
    (case kk_g_C => k_is)
    (case kk_pg_C => k_is)
    (case kk_hd_C => k_is)
    (case kk_po_C => k_is)
    (case kk_sa_C => k_is)
    (case kk_mk_C => k_is)
    (case kk_kc_C => k_is)
    (case kk_ha_C => k_is)
    (case kk_hm_C => k_is)
    (case kk_na_C_words => k_is)
    (case kk_na_C_names => k_is)
    (case kk_na_C_rows => k_is)
    (case kk_na_C_atoms => k_is)
    (case kk_na_C__text => k_is)
    (case kk_aF_kinit => k_is)
    (case kk_iF_kinit => k_is)
    (case kk_lF_kinit => k_is)
    (case kk_cF_kinit => k_is)
    (case kk_kF_kinit => k_is)
    (case kk_aF_kread => k_is)
    (case kk_rF_kread => k_is)
    (case kk_lF_kread => k_is)
    (case kk_cF_kread => k_is)
    (case kk_kF_kread => k_is)
    (case kk_aF_kstr => k_is)
    (case kk_iF_kstr => k_is)
    (case kk_lF_kstr => k_is)
    (case kk_cF_kstr => k_is)
    (case kk_kF_kstr => k_is)
    (case kk_aF_keq => k_is)
    (case kk_iF_keq => k_is)
    (case kk_lF_keq => k_is)
    (case kk_cF_keq => k_is)
    (case kk_kF_keq => k_is)
    (case kk_aF_klen => k_is)
    (case kk_iF_klen => k_is)
    (case kk_lF_klen => k_is)
    (case kk_cF_klen => k_is)
    (case kk_kF_klen => k_is)
    (case kk_aF_kcon => k_is)
    (case kk_iF_kcon => k_is)
    (case kk_lF_kcon => k_is)
    (case kk_cF_kcon => k_is)
    (case kk_kF_kcon => k_is)
    (case kk_rd_C => k_is)
    (case kk_ga_C => k_is)
    (case kk_aT_j => k_is)
    (case kk_lT_j => k_is)
    (case kk_aT_o => k_is)
    (case kk_lT_o => k_is)
    (case kk_aT_h => k_is)
    (case kk_lT_h => k_is)
    (case kk_aT_w => k_is)
    (case kk_lT_w => k_is)
    (case kk_aT_nn => k_is)
    (case kk_lT_nn => k_is)
    (case kk_n_len => k_is)
    (case kk_n_abs => k_is)
    (case kk_n_int => k_is)
    (case kk_n_isinstance => k_is)
    (case kk_n_list => k_is)
    (case kk_n_tuple => k_is)
    (case kk_n_range => k_is)
    (case kk_n_max => k_is)
    (case kk_n_min => k_is)
    (case kk_n_enumerate => k_is)
    (case kk_n_all => k_is)
    (case kk_n_any => k_is)
    (case kk_n_str => k_is)
    (case kk_n_zip => k_is)
    (case kk_n_set => k_is)
    (case kk_n_sorted => k_is)
    (case kk_n_sum => k_is)
    (case kk_tab => kernel_rfl)
    (case kk_hn => k_is)
    (case kk_ht => k_is)
    (case kk_gQ => k_is)
    (case kk_lQ => k_is)
    (case kk_lq0 => k_is)
    (case kk_lq1 => k_is)
    (case kk_lq2 => k_is)
    (case kk_lq3 => k_is)
    (case kk_lq4 => k_is)
    (case kk_lq5 => k_is)
    (case kk_lq6 => k_is)
    (case kk_lq7 => k_is)
    (case kk_lq8 => k_is)
    (case kk_lq9 => k_is)
    (case kk_lq10 => k_is)
    (case kk_lq11 => k_is)


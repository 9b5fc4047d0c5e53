import PyProof.Rows.All
import Wide.All
import OpenK.AllK
import Wide.FinOn
import PyProof.EqAt
import PyProof.EqKinds
import PyProof.TupleCall
import HandS.ForMost
import HandS.Property
import HandS.IsInst
import HandS.Replace
import HandS.Evl
import HandS.FStrTup
import HandS.ForExc
import HandS.HotCalls
import KE.KExcInit
import KE.KExcIs
import HandS.Lambda
import HandS.SetFor
import HandS.NoneIn
import HandS.ExcValue
import KE.OsRunLaw
import PySem.Challenge.RW_rowreaders_k01_constants_and_errors
set_option Elab.async false
set_option linter.all false
set_option maxRecDepth 100000
set_option maxHeartbeats 2000000
/-! rules of our own beside the hand layer's: calls by keywords alone, len of an own instance, repr of data, defs that are entered where no repr is under way -/
namespace Rw
open PySem PySem.Spec PyProof.Rows L2
section
variable {X : Cx} {CX : CXT} {k : Nat} {f C : Addr} {fd : FuncData} {ps ks : List Str} {sp : Sp} {E : XK} {x : Str} {p pos : Pos} {kws : List Keyword} {tk : TA} {ta : TE} {e : Expr}
  {g : List Value → List Value → List Value} {gV : List V → List V → List V}

theorem pe_callK0 (F : FnOk X.prog X.w X.K X.mg X.base CX k f fd ps sp) (room : Room k X.A) (glob : Gl X x) (known : X.mg x = some (.ref f))
    (keep : PySem.W.keepIn X.K (.ref f) = true) (kb : KBinds X.K fd ps ks g gV) (pass : Passes CX X E) (hkw : PK X kws tk)
    (hall : (backToKw pos (keywordEach kws X.env)).all (·.1.isSome) = true := by rfl)
    (hks : (backToKw pos (keywordEach kws X.env)).filterMap (·.1) = ks := by rfl)
    (hdb : (x == ("__debug__" : Str)) = false := by decide)
    (hpl : ((backTo pos (starEach [] X.env)).any (·.1) || (backToKw pos (keywordEach kws X.env)).any (·.1.isNone)) = false := by rfl) :
    PE X (.Call (.Name x p) [] kws pos) (tCallK sp gV E tNil tk) := by
  constructor
  intro pins s σ H Q I h
  refine wpAny_Call_Name_kw (ld_glob I glob known ?_ hdb)
  refine PySem.W.callWith_KW0 (h₀ := X.base) I.ok.mod.kin keep hall
    (thn (hkw.run pos pins s σ H _ I h) fun ws s2 hh => ?_) hpl
  obtain ⟨zs, H2, I2, rz, q2⟩ := hh
  refine ⟨I2.kIn, ?_⟩
  rw [hks]
  exact run_fnk (us := []) F room kb pass I2 .nil rz q2

/-- len(o), o an instance of the class at C whose __len__ is the def at f -/
def rLenO (C : Addr) (sp : Sp) (E : XK) : List V → Hp → VK → Prop := fun vs H Q => ∃ a dx fs, vs = [.ref a] ∧ H a = some (.ins C dx fs) ∧
  sp [.ref a] H (fun v H2 => ∃ n : Nat, v = .int (n : Int) ∧ (n : Int) < 2 ^ 63 ∧ Q (.int (n : Int)) H2) E
theorem call_lenO (F : FnOk X.prog X.w X.K X.mg X.base CX k f fd ps sp) (room : Room (k + 1) X.A)
    (own : PySem.W.findIn X.K (.ref C) "__len__" = some (some (.ref f))) (isf : PySem.W.isFn X.K (.ref f) = true)
    (b : L2.Binds X.K fd ps []) (pass : Passes CX X E) : CallR X (.builtin "len") (rLenO C sp E) := by
  intro pins s σ H xs us Q I r h
  obtain ⟨a, dx, fs, rfl, ha, hsp⟩ := h
  obtain ⟨u, rfl⟩ : ∃ u, us = [u] := by
    cases r with
    | cons p q => cases q; exact ⟨_, rfl⟩
  have ru : u = Value.ref a := by
    cases r with
    | cons p q => exact p
  subst ru
  obtain ⟨mA, O, _, _, _, _⟩ := ins_get I.hok ha
  obtain ⟨od, J, _⟩ := O.look
  obtain ⟨m, hF⟩ := I.fr
  refine PySem.W.len_K hF I.ok.mod.kin J own isf ?_
  have hl := F.len _ _ _ _ hsp
  refine wpAny_call (codeAny_mono (F.run X.A.in1 X.stack s H ⟨[.ref a], []⟩ [.ref a] [.ref a] _ E room.in1 I.env0.in1 (by
    have := b s [.ref a] I.kIn (by simpa using hl)
    simpa using this) (.cons rfl .nil) hsp) fun r s' hq => ?_)
  cases r with
  | error e => exact pass pins σ H s e s' I hq
  | ok fl =>
    cases fl with
    | ret w =>
      obtain ⟨z, H', I', rz, n, ez, hn, hQ⟩ := I.after hq
      subst ez
      obtain ⟨t, rfl⟩ := rz
      refine ⟨⟨Int.natCast_nonneg n, hn⟩, ?_⟩
      exact ⟨.int n, H', I'.tok _, ⟨_, rfl⟩, hQ⟩
    | next => exact False.elim hq
    | brk => exact False.elim hq
    | cont => exact False.elim hq

mutual
theorem noDict {K : PySem.W.Frag} {H : Hp} : ∀ (d : PyData) (v : V), Dp K H v d → d.hasDict = false
  | .none, _, _ => by simp only [PyData.hasDict]
  | .bool _, _, _ => by simp only [PyData.hasDict]
  | .int _, _, _ => by simp only [PyData.hasDict]
  | .str _, _, _ => by simp only [PyData.hasDict]
  | .list ds, _, h => by
    cases h with
    | lst _ a => simp only [PyData.hasDict]; exact noDicts ds _ a
  | .tuple ds, _, h => by
    cases h with
    | tup _ a => simp only [PyData.hasDict]; exact noDicts ds _ a
  | .dict _, _, h => by cases h
theorem noDicts {K : PySem.W.Frag} {H : Hp} : ∀ (ds : List PyData) (vs : List V), DpAll K H vs ds → PyData.hasDictAll ds = false
  | [], _, _ => by simp only [PyData.hasDictAll]
  | d :: ds, _, h => by
    cases h with
    | cons a b => simp only [PyData.hasDictAll, noDict d _ a, noDicts ds _ b, Bool.or_false]
end

/-- repr(x), x a list or a tuple of data, where no repr is under way -/
def rReprD (K : PySem.W.Frag) : List V → Hp → VK → Prop := fun vs H Q => ∃ a d, vs = [.ref a] ∧ Dp K H (.ref a) d ∧ d.showable = true ∧ d.depth ≤ 10 ∧ d.shown.length ≤ sizeLine ∧ Q (.str d.shown) H
theorem call_reprD (hg : X.A.guards = some []) (hr : Room k X.A) : CallR X (.builtin "repr") (rReprD X.K) := by
  intro pins s σ H xs us Q I r h
  obtain ⟨a, d, rfl, hd, hs, hdep, hsz, hQ⟩ := h
  obtain ⟨u, rfl⟩ : ∃ u, us = [u] := by
    cases r with
    | cons p q => cases q; exact ⟨_, rfl⟩
  have ru : u = Value.ref a := by
    cases r with
    | cons p q => exact p
  subst ru
  obtain ⟨as, R⟩ := Dp.reads I d _ _ hd rfl
  have hu := hr.units
  refine repr_of_reads' R hs (PyData.noDict_hsm (noDict d _ hd)) hg (by omega) (fun b o e => e) (fun h' u tk hk => ?_) hsz
  exact ⟨.str d.shown, H, I.kept hk, ⟨_, rfl⟩, hQ⟩
end

/-! ### the layer's rules with the written part named -/
section
variable {X : Cx} {K : PySem.W.Frag} {tg l a : Expr} {tl ta : TE} {pos : Pos}
theorem w_ixL (h : X.K = K := by rfl) : IxR X (rIxL K) := by subst h; exact ix_list
theorem w_ixT (h : X.K = K := by rfl) : IxR X (rIxT K) := by subst h; exact ix_tup
def rLenK (K : PySem.W.Frag) : List V → Hp → VK → Prop := fun xs H Q => ∃ x n, xs = [x] ∧ LenV K x H n ∧ Q (.int n) H
theorem w_len (h : X.K = K := by rfl) : CallR X (.builtin "len") (rLenK K) := by subst h; exact call_len
theorem w_in (h : X.K = K := by rfl) : OpR X (compareOp .In) (rIn K false) := by subst h; exact op_in_seq
theorem w_notIn (h : X.K = K := by rfl) : OpR X (compareOp .NotIn) (rIn K true) := by subst h; exact op_notIn_seq
theorem w_sum (hc : X.calm = true) (h : X.K = K := by rfl) : CallR X (.builtin "sum") (rSum K) := by subst h; exact cr_sum hc
theorem w_all (hc : X.calm = true) (h : X.K = K := by rfl) : CallR X (.builtin "all") (rAll K) := by subst h; exact cr_all hc
theorem w_any (hc : X.calm = true) (h : X.K = K := by rfl) : CallR X (.builtin "any") (rAny K) := by subst h; exact cr_any hc
def rListK (K : PySem.W.Frag) : List V → Hp → VK → Prop := fun xs H Q => ∃ p ys, xs = [.ref p] ∧ (SqL K H p ys ∨ SqT K H p ys) ∧ ∀ l, H l = none → Q (.ref l) (upd H l (.lst ys))
theorem w_list (h : X.K = K := by rfl) : CallR X (.type "list") (rListK K) := by subst h; exact call_list_of
def rTupK (K : PySem.W.Frag) : List V → Hp → VK → Prop := fun xs H Q => ∃ p ys, xs = [.ref p] ∧ ((SqL K H p ys ∧ ∀ l, H l = none → Q (.ref l) (upd H l (.tup ys))) ∨ (SqT K H p ys ∧ Q (.ref p) H))
theorem w_tuple (h : X.K = K := by rfl) : CallR X (.type "tuple") (rTupK K) := by subst h; exact call_tuple_of
theorem w_isi (h : X.K = K := by rfl) : CallR X (.builtin "isinstance") (rIsi K) := by subst h; exact call_isi
theorem w_slL (h : X.K = K := by rfl) : SlR X (rSlL K) := by subst h; exact sl_list
theorem w_slT (h : X.K = K := by rfl) : SlR X (rSlT K) := by subst h; exact sl_tup
theorem w_piL (hl : PE X l tl) (h : X.K = K := by rfl) : PI X tg l (iList K tl) := by subst h; exact pi_list hl
theorem w_piT (hl : PE X l tl) (h : X.K = K := by rfl) : PI X tg l (iTup K tl) := by subst h; exact pi_tup hl
theorem w_tup {es : List Expr} {k : Nat} {t : TGs} {n : Nat} (hc : X.calm = true) (hs : PGs X es t) (h : X.K = K := by rfl)
    (hn : (assignEach es X.env).length = n := by rfl) (hst : (assignEach es X.env).findIdx? (·.1) = none := by rfl) : PG X (.Tuple es k pos) (gTup K n t) := by subst h; exact pg_tup hc hs hn hst
def tTruK (K : PySem.W.Frag) (ta : TE) : TT := fun σ H Q => ta σ H fun x H' => ∃ k, TruV K x H' k ∧ Q k H'
theorem w_truth (ha : PE X a ta) (he : ∀ whole, isTrue a X.env whole = (do let v ← whole; standAt a.pos; holding [v] (truthy v))) (h : X.K = K := by rfl) : PT X a (tTruK K ta) := by subst h; exact pt_truth ha he
theorem w_eqD (hu : X.A.units + 64 < cLine) (h : X.K = K := by rfl) : OpR X (compareOp .Eq) (rEqD K) := by subst h; exact op_eqD hu
theorem w_neD (hu : X.A.units + 64 < cLine) (h : X.K = K := by rfl) : OpR X (compareOp .NotEq) (rNeD K) := by subst h; exact op_neD hu
theorem w_reprD {k : Nat} (hg : X.A.guards = some []) (hr : Room k X.A) (h : X.K = K := by rfl) : CallR X (.builtin "repr") (rReprD K) := by subst h; exact call_reprD hg hr
end
/-! ### a def that is entered where no repr is under way -/
structure FnOkG (P : Program) (w : World) (K : PySem.W.Frag) (mg : Str → Option Value) (base : Heap) (k : Nat) (f : Addr) (fd : FuncData) (ps : List Str) (sp : Sp) : Prop where
  len : ∀ vs H Q E, sp vs H Q E → vs.length = ps.length
  run : ∀ (A : Around) (outer : List Env) (s : Shared) (H : Hp) (args : Args) (us : List Value) (vs : List V) (Q : VK) (E : XK), A.guards = some [] → Room k A →
    Env0 P w K mg base A outer s H → BindsTo s fd args (ps.zip us) → Vals vs us → sp vs H Q E → codeAny (model P w) A (.call (.ref f) args) (CR CX0 outer P w H s Q E) s
section
variable {P : Program} {w : World} {K : PySem.W.Frag} {mg : Str → Option Value} {base : Heap} {f : Addr} {fd : FuncData} {N ps : List Str} {k : Nat} {sp : Sp} {x qual : Str} {st : Stmt}
theorem okG (F : Fun K x qual st f fd) (S : FnScope N ps (defScope st)) (len : ∀ vs H Q E, sp vs H Q E → vs.length = ps.length)
    (hbody : ∀ (cdv : Value) (A : Around) (outer : List Env) (s : Shared) (H : Hp) (vs : List V) (Q : VK) (E : XK), A.guards = some [] →
      Room k (A.deeper (envOfC qual (defScope st) s.heap.objs.size f cdv)) → sp vs H Q E →
      ∃ t, PSs (cxOf CX0 P w K mg base N qual (defScope st) f cdv A outer s H E).nox (defBody st) t ∧ t { nx := fun _ H' => Q .non H', rt := Q } (start N vs) H) :
    FnOkG P w K mg base (k + 1) f fd ps sp := by
  obtain ⟨oc, od, kV, doc, pm, an, cdv, ct, osl, rfl, lk, hcd⟩ := F.ex
  refine ⟨len, fun A outer s H args us vs Q E hg hr e0 hb r hsp => ?_⟩
  have hl := len _ _ _ _ hsp
  have inn : K.In s.heap := e0.mod.kin.keeps (fun b o e => (e0.bs b o e).1)
  have nolim : s.heap.NoLimit := e0.mod.nolimit.keeps (fun b o e => (e0.bs b o e).1)
  have kinds : ∀ y ∈ ps.zip us, (defScope st).names.lookup y.1 = some .local ∨
      ((defScope st).names.lookup y.1 = some .cell ∧ ((cellsFrom (s.heap.objs.size + 1) (defScope st).names []).lookup y.1).isSome = true) := by
    rintro ⟨n, v⟩ hy
    rcases S.par n (List.of_mem_zip hy).1 with q | q
    · exact .inl q
    · exact .inr ⟨q, PySem.W.cellsFrom_some _ _ _ (.inl q)⟩
  refine codeAny_call_function hr.depth (inn _ _ lk) rfl S.co S.gen rfl (PySem.W.codeRec_of inn hcd) (hb _ _ _ _ ?_)
  refine wpAny_newFunctionEnv_cells S.kind kinds (fun env he s1 x => ?_)
  subst he
  refine ⟨nolim.keeps x.toInCall.keep, codeAny_func ?_⟩
  obtain ⟨t, ht, hq⟩ := hbody cdv A outer s H vs Q E hg (hr.deeper _) hsp
  have I := inv_start (CX := CX0) (P := P) (w := w) (K := K) (mg := mg) (base := base) (qual := qual) (f := f) (cd := cdv) (E := E) S hr.hd e0 hl r x
  refine wpAny_mono (ht.nox.run [] s1 (start N vs) H _ I hq) (fun fl s' hs => ?_) (fun e s' hs => hs)
  cases fl with
  | ret u =>
    obtain ⟨v, σ', H', J, rv, q⟩ := hs
    exact ⟨v, H', J.os, J.bare, J.base, J.hok, rv, q⟩
  | next =>
    obtain ⟨σ', H', J, q⟩ := hs
    exact ⟨V.non, H', J.os, J.bare, J.base, J.hok, rfl, q⟩
  | brk =>
    obtain ⟨_, _, _, q⟩ := hs
    exact False.elim q
  | cont =>
    obtain ⟨_, _, _, q⟩ := hs
    exact False.elim q
end
section
variable {X : Cx} {k : Nat} {f : Addr} {fd : FuncData} {ps : List Str} {sp : Sp} {x : Str} {p pos : Pos} {e : Expr} {es : List Expr} {t : TA}
theorem pe_callG (F : FnOkG X.prog X.w X.K X.mg X.base k f fd ps sp) (hgd : X.A.guards = some []) (room : Room k X.A) (glob : Gl X x) (known : X.mg x = some (.ref f))
    (keep : PySem.W.keepIn X.K (.ref f) = true) (b : L2.Binds X.K fd ps []) (ha : PA X (e :: es) t)
    (hdb : (x == ("__debug__" : Str)) = false := by decide) (he : starEach (e :: es) X.env = (false, eval e X.env) :: starEach es X.env := by rfl)
    (hpl : (backTo pos (starEach es X.env)).any (·.1) = false := by rfl) : PE X (.Call (.Name x p) (e :: es) [] pos) (tCall sp [] E0 t) := by
  constructor
  intro pins s σ H Q I h
  refine wpAny_Call_Name_kw (ld_glob I glob known ?_ hdb)
  refine PySem.W.callWith_K (h₀ := X.base) I.ok.mod.kin keep (thn (ha.run pos pins s σ H _ I h) fun us s1 hh => ?_) he hpl
  obtain ⟨vs, H1, I1, r, q⟩ := hh
  refine ⟨I1.kIn, ?_⟩
  have q : sp (vs ++ []) H1 Q E0 := q
  rw [List.append_nil] at q
  have hl : us.length = ps.length := by rw [← r.length]; exact F.len _ _ _ _ q
  refine wpAny_call (codeAny_mono (F.run X.A X.stack s1 H1 ⟨us, []⟩ us vs Q E0 hgd room I1.env0 (by
    have := b s1 us I1.kIn (by simpa using hl)
    simpa using this) r q) fun r s' hq => ?_)
  cases r with
  | error e => exact False.elim hq
  | ok fl =>
    cases fl with
    | ret u => exact I1.after hq
    | next => exact False.elim hq
    | brk => exact False.elim hq
    | cont => exact False.elim hq
end

/-! ### the law's call from above, for such a def -/
section
variable {P : Program} {w : World} {K : PySem.W.Frag} {mg mb : Str → Option Value} {k : Nat} {fa a : Addr} {fd : FuncData} {x : Str} {sp : Sp} {s1 : Shared} {vs : List Value} {ns : List Int}
abbrev Fin1 (s1 : Shared) (r : Result) (s' : Shared) : Prop := r = .ok (.ret (.bool true)) ∧ PySem.OldK s1.heap s'.heap ∧ s'.os = s1.os ∧ AllBare s'.gens
theorem callG_core (KX : K.In s1.heap) (nsg : s1.heap.Ns mainGlobals mg) (nsb : s1.heap.Ns builtinsNs mb) (boot : ∀ x : Str, x ≠ "__name__" → mb x = bootBuiltins x)
    (lim : s1.heap.NoLimit) (noGens : s1.gens = #[]) (obj : s1.heap.get? a = some { cls := .type "list", data := .seq vs.toArray }) (room : Room k callerA)
    (F : ∀ base : Heap, K.In base → base.Ns mainGlobals mg → FnOkG P w K mg base k fa fd [x] sp) (bind : ∀ (s : Shared) (u : Value), BindsTo s fd ⟨[u], []⟩ [(x, u)])
    (H : Hp) (only : Only H) (hsp : sp [.ref a] H (fun v _ => v = .bl true) fun _ _ _ => False) (ok : HOk P w H s1.heap) (onlyA : ∀ b, H b ≠ none → b = a) (outK : H a ≠ none → K.lookup a = none) :
    codeAny (model P w) callerA (.call (.ref fa) ⟨[.ref a], []⟩) (Fin1 s1) s1 := by
  have keepsB : ∀ {b : Addr} {o : Obj}, s1.heap.get? b = some o → H b = none → (hidT s1.heap H).get? b = some o := fun e n => hidT_get e n
  have isA : ∀ {b : Addr} {u : HO}, H b = some u → b = a := fun {b u} q => onlyA b (by rw [q]; simp)
  have dictNo : ∀ {b : Addr} {o : Obj} {es : Array DictEntry} {ep : Nat}, s1.heap.get? b = some o → o.data = .dict es ep → H b = none := by
    intro b o es ep e d
    cases q : H b with
    | none => rfl
    | some u =>
      have z := isA q
      subst z
      rw [obj] at e
      cases e
      exact absurd (show Data.seq vs.toArray _ = Data.dict es ep from d) (by intro y; cases y)
  have nsK : ∀ {b : Addr} {m : Str → Option Value}, s1.heap.Ns b m → (hidT s1.heap H).Ns b m := by
    rintro b m ⟨o, es, ep, e, d, r⟩
    exact ⟨o, es, ep, keepsB e (dictNo e d), d, r⟩
  have inB : K.In (hidT s1.heap H) := by
    intro b o e
    refine keepsB (KX b o e) ?_
    cases q : H b with
    | none => rfl
    | some u =>
      have z := isA q
      subst z
      rw [outK (by rw [q]; simp)] at e
      cases e
  have md : Mod K mg (hidT s1.heap H) := by
    obtain ⟨mc, h1, h2⟩ := lim
    exact ⟨inB, nsK nsg, ⟨mb, nsK nsb, boot⟩, ⟨mc, nsK h1, h2⟩⟩
  have e0 : Env0 P w K mg (hidT s1.heap H) callerA [] s1 H := by
    refine ⟨rfl, md, fun b o e => of_hidT e, Nat.le_of_eq (hidT_size _ _), trivial, ?_, ok, .of_eq noGens⟩
    intro b hb
    exact absurd (show b ∈ ([] : List Addr) from hb) (by simp)
  refine codeAny_mono ((F _ inB (nsK nsg)).run callerA [] s1 H ⟨[.ref a], []⟩ [.ref a] [.ref a] _ _ rfl room e0 (bind s1 (.ref a)) (.cons rfl .nil) hsp) ?_
  intro r s' h
  cases r with
  | error e => exact False.elim h
  | ok fl =>
    cases fl with
    | next => exact False.elim h
    | brk => exact False.elim h
    | cont => exact False.elim h
    | ret u =>
      obtain ⟨v, H', os, bare, un, ok', rv, q⟩ := h
      have q : v = .bl true := q
      subst q
      have ru : u = Value.bool true := rv
      subst ru
      refine ⟨rfl, PySem.OldK.of_keep (fun b o e => ?_), os, bare⟩
      cases q : H b with
      | none => exact un.keep b o e q (fun z => absurd (show b ∈ ([] : List Addr) from z) (by simp)) (by simp)
      | some u =>
        rcases only b with z | ⟨ob, xs, z⟩
        · rw [q] at z
          cases z
        · obtain ⟨e1, _⟩ := ok b _ z
          obtain ⟨e2, _⟩ := ok' b _ (un.frzs b ob _ z)
          rw [e] at e1
          cases e1
          exact e2
theorem callG (KX : K.In s1.heap) (nsg : s1.heap.Ns mainGlobals mg) (nsb : s1.heap.Ns builtinsNs mb) (boot : ∀ x : Str, x ≠ "__name__" → mb x = bootBuiltins x)
    (lim : s1.heap.NoLimit) (noGens : s1.gens = #[]) (obj : s1.heap.get? a = some { cls := .type "list", data := .seq vs.toArray }) (hi : IntsAre vs ns) (hl : ns.length ≤ sizeLine) (room : Room k callerA)
    (F : ∀ base : Heap, K.In base → base.Ns mainGlobals mg → FnOkG P w K mg base k fa fd [x] sp) (bind : ∀ (s : Shared) (u : Value), BindsTo s fd ⟨[u], []⟩ [(x, u)])
    (hsp : ∀ H : Hp, Only H → SqL K H a (ns.map V.int) → sp [.ref a] H (fun v _ => v = .bl true) fun _ _ _ => False) :
    codeAny (model P w) callerA (.call (.ref fa) ⟨[.ref a], []⟩) (Fin1 s1) s1 := by
  have rv := vals_ints hi
  have lenV := hi.length
  cases hk : K.lookup a with
  | some o =>
    have e := KX a o hk
    rw [obj] at e
    cases e
    have only : Only (fun _ => none) := fun _ => .inl rfl
    refine callG_core KX nsg nsb boot lim noGens obj room F bind (fun _ => none) only (hsp _ only ?_) (fun b u z => ?_) (fun b z => absurd rfl z) (fun z => absurd rfl z)
    · exact .inr ⟨_, vs.toArray, _, hk, rfl, rfl, rfl, by rw [List.size_toArray, lenV]; exact hl, by simpa using rv⟩
    · have z : (none : Option HO) = some u := z
      cases z
  | none =>
    have only : Only (fun b => if b = a then some (.frz { cls := .type "list", data := .seq vs.toArray } (.lst (ns.map V.int))) else none) := by
      intro b
      by_cases hb : b = a
      · exact .inr ⟨_, _, if_pos hb⟩
      · exact .inl (if_neg hb)
    refine callG_core KX nsg nsb boot lim noGens obj room F bind _ only (hsp _ only ?_) (fun b u z => ?_) (fun b z => ?_) (fun _ => hk)
    · exact .inl (.inr ⟨{ cls := .type "list", data := .seq vs.toArray }, if_pos rfl⟩)
    · by_cases hb : b = a
      · have z' := (if_pos hb).symm.trans z
        cases z'
        subst hb
        exact ⟨obj, by rw [List.length_map]; exact hl, vs, _, rv, obj⟩
      · have z' := (if_neg hb).symm.trans z
        cases z'
    · by_cases hb : b = a
      · exact hb
      · exact absurd (if_neg hb) z
theorem walkG {l : PySem.W.OpenLaw} {n k : Nat} {q : Program} {loose : List Str} {XP : (Str → Option Value) → Heap → Prop} {YP : World → Heap → Prop} {d : DefRec} {K : Params → PySem.W.Frag} {sp : PySem.W.Frag → Sp} {x : Str}
    (hn : l.most = some n) (hn2 : n ≤ sizeLine) (hdf : d.params.defaults = []) (room : Room k callerA) (hY : ∀ (w : World) (h : Heap), YP w h → (K w.params).In h)
    (F : ∀ (w : World) (mg : Str → Option Value) (fa : Addr) (h : Heap), (K w.params).In h → h.Ns mainGlobals mg → mg d.name = some (.ref fa) →
      ∃ fd : FuncData, (∀ (s : Shared) (u : Value), BindsTo s fd ⟨[u], []⟩ [(x, u)]) ∧
        ∀ base : Heap, (K w.params).In base → base.Ns mainGlobals mg → FnOkG l.prog w (K w.params) mg base k fa fd [x] (sp (K w.params)))
    (hsp : ∀ (K : PySem.W.Frag) (H : Hp) (a : Addr) (ns : List Int), ns.length ≤ n → Only H → SqL K H a (ns.map V.int) → sp K [.ref a] H (fun v _ => v = .bl true) fun _ _ _ => False) :
    PySem.W.WalkO q loose XP YP l.row.toRowW d [] (fun f vs => PySem.call f vs) := by
  refine Att.attach_call hn hdf (fun w s0 s1 mg mb fa o pm cd doc a vs ns G Y ho hd hcd hmg hobj hints hlen hg => ?_)
  have KX := hY w _ Y
  obtain ⟨fd, hb, hF⟩ := F w mg fa _ KX G.T.g hmg
  exact callG KX G.T.g G.T.b G.T.builtins G.T.nolimit hg hobj hints (Nat.le_trans hlen hn2) room hF hb (fun H hO hS => hsp (K w.params) H a ns hlen hO hS)
end
end Rw

set_option Elab.async false
set_option linter.all false
set_option maxRecDepth 100000
set_option maxHeartbeats 4000000
/-! rules of our own beside the hand layer's: errors of one's own over any base, caught by two classes at once, handed to a def -/
namespace Rw
open PySem PySem.W PySem.Calls PySem.Spec PyProof.Rows
section
variable {prog : Program} {w : World} {A : Around} {R : Result → Shared → Prop} {hp : Heap} {g : Array GenState} {d : Drawn} {t : Nat} {os : OsState} {K : Frag} {x C : Addr} {B : String} {bmB : List Value}
open Builtin.ObjectAttr in
/-- the first field of an error that has no dict as yet -/
theorem firstField {f : Str} {tk : Tok} {v : Value} {fv : Array Value} (SF : StoreFacts B bmB "object.__setattr__" "object") (X : K.In hp) (hx : hp.get? x = some { cls := .ref C, data := .fields fv })
    (over : excOver K C bmB = true) (free : takerIn K C f = some none) (dct : hasDictIn K C = true)
    (hq : ∀ h' tk' dx, (∀ b o, b ≠ x → hp.get? b = some o → h'.get? b = some o) → hp.objs.size ≤ dx → dx ≠ x → h'.get? x = some { cls := .ref C, dict := some dx, data := .fields fv } →
      h'.Ns1 dx (fun y => if y = f then some v else none) → R (.ok (.ret .none)) ⟨h', g, d, tk', os⟩) :
    codeAny (model prog w) A (.call (.builtin "object.__setattr__") ⟨[.ref x, .str f tk, v], []⟩) R ⟨hp, g, d, t, os⟩ := by
  have I : InstAt hp x { cls := .ref C, data := .fields fv } C none := ⟨hx, rfl, rfl, trivial⟩
  have far : x ≠ hp.objs.size := Nat.ne_of_lt (Heap.lt_size hx)
  refine osa_openX (s := ⟨hp, g, d, t, os⟩) SF X I over free fun b => ?_
  obtain ⟨cd, hcd, hh⟩ := any_some dct
  have lookC : Looks (model prog w) hp (classData C) cd := looks_clsIn X hcd
  show wpAny _ _ (storeInOwnDict (.ref x) (.ref C) (.str f tk) f v b) _ _ _
  obtain ⟨nm, bs, mro, ns, qn, hd, sn, sb, ab, col, del⟩ := cd
  dsimp only at hh
  subst hh
  unfold storeInOwnDict ownDictForStores
  repeat (first
    | with_reducible refine HandSPX.store_in_new ?_ ?_
    | with_reducible refine wpAny_loadPart_at hx ?_
    | with_reducible refine lookC.at ?_
    | wp_step)
  · refine ⟨_, #[], _, (Heap.get?_update_ne _ _ _ _ far.symm).trans (Heap.get?_push_at rfl rfl), rfl, ?_, fun _ => rfl⟩
    intro e he
    exact absurd he (by simp)
  · intro h' tk' hn' hs
    have there : (hp.push { cls := .type "dict", data := .dict #[] }).get? x = some { cls := .ref C, data := .fields fv } := Heap.get?_push_of_some _ hx
    refine hq h' tk' hp.objs.size (fun b o hb ho => ?_) (Nat.le_refl _) far.symm ?_ hn'
    · have z := Heap.get?_update_ne (h := hp.push { cls := .type "dict", data := .dict #[] })
      exact (hs.2 b (Nat.ne_of_lt (Heap.lt_size ho))).trans ((Heap.get?_update_ne _ _ _ _ hb).trans (Heap.get?_push_of_some _ ho))
    · exact (hs.2 x far).trans (Heap.get?_update_self _ there rfl)
end
theorem nameL {M : Model} {s : Shared} {name : Str} {scope : Scope} {L a : Addr} {cd : Value} {m : Str → Option Value} {x : Str} {pos : Pos} {v : Value} {Q : Value → Shared → Prop} {A : Around} {E : Value → Shared → Prop}
    (hn : s.heap.Ns L m) (hv : m x = some v) (h : Q v s) (hk : scope.kind = .function := by rfl)
    (hl : (envOfC name scope L a cd).kindOf x = some .local := by rfl) (hd : (x == ("__debug__" : Str)) = false := by decide) :
    wpAny M A (eval (.Name x pos) (envOfC name scope L a cd)) Q E s := by
  refine wpAny_Name ?_ hd
  exact wpAny_loadName_local hk hl hn hv h
/-- behind __init__ of a fresh error at x -/
structure IniEnd (f : Str) (h h' : Heap) (x C dx t1 : Addr) (v : Value) : Prop where
  keep : ∀ b o, b ≠ x → h.get? b = some o → h'.get? b = some o
  obj : h'.get? x = some { cls := .ref C, dict := some dx, data := .fields #[.ref t1, .none, .none, .none, .bool false, .none] }
  dbig : h.objs.size ≤ dx
  dne : dx ≠ x
  ns : h'.Ns1 dx (fun y => if y = f then some v else none)
/-- an error that was made -/
structure NewEx (f : Str) (h h' : Heap) (e C d : Addr) (v : Value) : Prop where
  keep : ∀ b o, h.get? b = some o → h'.get? b = some o
  new : h.objs.size ≤ e
  obj : ∃ oe vs, h'.get? e = some oe ∧ oe.cls = .ref C ∧ oe.dict = some d ∧ oe.data = .fields vs ∧ vs[1]? = some .none
  dbig : h.objs.size ≤ d
  dne : d ≠ e
  ns : h'.Ns1 d (fun y => if y = f then some v else none)
namespace Ex_given
/-! ### the text of an own error's __init__, its field being given -/
def iA (p1 p2 : Pos) : Arguments := { posonlyargs := [], args := [{ arg := "self", annotation := none, pos := p1 }, { arg := "given", annotation := none, pos := p2 }], vararg := none, kwonlyargs := [], kw_defaults := [], kwarg := none, defaults := [] }
def iB (q1 q2 q3 q4 : Pos) : List Stmt := [.Assign [.Attribute (.Name "self" q1) "given" q2] (.Name "given" q3) q4]
def iS : Scope := { kind := .function, names := [(PySem.Str.ofString "self", .local), (PySem.Str.ofString "given", .local)], isGenerator := false, isCoroutine := false, more := [] }
/-- the facts of such a class at C, with its __init__ at fI -/
structure Tx (K : Frag) (mg : Str → Option Value) (nm : Str) (B newId initId : String) (bmB : List Value) (C fI : Addr) : Prop where
  gC : mg nm = some (.ref C)
  base : ExcBaseFacts B newId initId bmB
  stor : StoreFacts B bmB "object.__setattr__" "object"
  ini : excInitIn K C bmB newId = true
  ovr : excOver K C bmB = true
  tkr : takerIn K C "given" = some none
  sa : findIn K (.ref C) "__setattr__" = some (some (.builtin "object.__setattr__"))
  ga : findIn K (.ref C) "__getattribute__" = some (some (.builtin "BaseException.__getattribute__"))
  gg : findIn K (.ref C) "__getattr__" = some none
  noN : findIn K (.ref C) "given" = some none
  iC : findIn K (.ref C) "__init__" = some (some (.ref fI))
  tC : typeIn K (.ref fI) = some (.type "function")
  kC : keepIn K (.ref C) = true
  exC : subIn K (.ref C) (.type "BaseException") = some true
  tyC : typeIn K (.ref C) = some (.type "type")
  hdC : hasDictIn K C = true
  cls : findIn K (.ref C) "__class__" = some (some (.builtin "object.__class__"))
  cln : specialIn K (.builtin "object.__class__") "__get__" = some (some (.builtin "getset_descriptor.__get__"))
  clt : takesIn K (.builtin "object.__class__") = some true
  clm : mroIn K C (.type "object") = some true
  fn : ∃ (q : Str) (oc : Value) (od : Option Addr) (doc pm : Value) (an : Option Addr) (cdv ct : Value) (osl : Array (Option Value)) (p1 p2 q1 q2 q3 q4 : Pos),
    K.lookup fI = some ⟨oc, od, .func (fnOf "__init__" q (iA p1 p2) (iB q1 q2 q3 q4) iS .none .none doc pm an cdv ct), osl⟩ ∧ codeIn K cdv q = true
section
variable {prog : Program} {w : World} {A : Around} {E : Value → Shared → Prop} {R : Result → Shared → Prop} {s : Shared} {K : Frag} {mg : Str → Option Value} {C fI : Addr} {nm : Str} {B newId initId : String} {bmB : List Value}
theorem inited (T : Tx K mg nm B newId initId bmB C fI) {x t0 : Addr} {v : Value} (X : K.In s.heap) (hlim : s.heap.NoLimit) (hx : s.heap.get? x = some (HandSPX.excO C t0)) (hroom : A.depth < recursionLimit)
    (hq : ∀ h' tk dx, IniEnd "given" s.heap h' x C dx t0 v → R (.ok (.ret .none)) { s with heap := h', toks := tk }) :
    codeAny (model prog w) A (.call (.ref fI) ⟨[.ref x, v], []⟩) R s := by
  obtain ⟨q, oc, od, doc, pm, an, cdv, ct, osl, p1, p2, q1, q2, q3, q4, ho, hcd⟩ := T.fn
  refine Att.call_fn (binds := [("self", .ref x), ("given", v)]) X hlim ho hcd hroom (BindsTo.of_eq (by first | rfl | with_unfolding_all rfl)) (by first | rfl | decide | with_unfolding_all rfl) (fun s₁ IC => ?_) rfl rfl rfl
  obtain ⟨h₁, tk₁, rfl⟩ := IC.toInCall.same
  have k : ∀ b o, s.heap.get? b = some o → h₁.get? b = some o := IC.toInCall.keep
  have hn := IC.toInCall.ns
  have X₁ : K.In h₁ := X.keeps k
  have hx₁ := k _ _ hx
  show wpAny _ _ (execs _ _) _ _ _
  refine wpAny_execs_cons (plainObj_wpAny_Assign_Attribute ?_)
  refine nameL (v := v) hn (by first | rfl | with_unfolding_all rfl | kernel_rfl) (nameL (v := .ref x) hn (by first | rfl | with_unfolding_all rfl | kernel_rfl) ?_)
  refine set_plain X₁ (ox := HandSPX.excO C t0) (od := none) ⟨hx₁, rfl, rfl, trivial⟩ T.sa ?_
  refine firstField T.stor X₁ hx₁ T.ovr T.tkr T.hdC fun h₃ tk₃ dx k₃ dn dne hx₃ hn₃ => ?_
  show wpAny _ _ (execs _ _) _ _ _
  have z : s.heap.objs.size < h₁.objs.size := hn.lt
  exact wpAny_execs_nil (hq h₃ tk₃ dx ⟨fun b o hb e => k₃ b o hb (k b o e), hx₃, Nat.le_of_lt (Nat.lt_of_lt_of_le z dn), dne, hn₃⟩)
theorem made (T : Tx K mg nm B newId initId bmB C fI) {v : Value} (X : K.In s.heap) (hlim : s.heap.NoLimit) (hroom : A.depth + 1 < recursionLimit)
    (hq : ∀ h' tk e d, NewEx "given" s.heap h' e C d v → R (.ok (.ret (.ref e))) { s with heap := h', toks := tk }) :
    codeAny (model prog w) A (.call (.ref C) ⟨[v], []⟩) R s := by
  obtain ⟨nm, N, q, bs, bm, hdct, sn, sub, ab, col, dd, k0, k1, k2, k3, k5, hC, hT⟩ := excInit_of X T.ini
  obtain ⟨hp, g, dr, tk, os⟩ := s
  have k : ∀ b o, hp.get? b = some o → ((hp.push (kdv_tup [v])).push (HandSPX.excO C hp.objs.size)).get? b = some o := fun b o e => Heap.get?_push_of_some _ (Heap.get?_push_of_some _ e)
  have hget : ((hp.push (kdv_tup [v])).push (HandSPX.excO C hp.objs.size)).get? (hp.objs.size + 1) = some (HandSPX.excO C hp.objs.size) := by heap_get
  refine HandSPX.call_own T.base hT hC (looks_findIn X T.iC) (fun self => bind_fn X self T.tC) (by show 1 ≤ sizeLine; decide) ?_
  refine inited (s := ⟨(hp.push (kdv_tup [v])).push (HandSPX.excO C hp.objs.size), g, dr, tk, os⟩) T (X.keeps k) (hlim.keeps k) hget ?_ fun h' tk' dx ⟨k', hx, dn, dne, hns⟩ => ?_
  · show A.depth + 1 < recursionLimit
    exact hroom
  · have old : ∀ b o, hp.get? b = some o → h'.get? b = some o := fun b o e => k' b o (Nat.ne_of_lt (Nat.lt_succ_of_lt (Heap.lt_size e))) (k b o e)
    have z : hp.objs.size + 1 + 1 ≤ dx := by
      first
        | (simpa only [Heap.size_push] using dn)
        | exact dn
        | (have q := dn; rw [Heap.size_push, Heap.size_push] at q; exact q)
    exact ⟨rfl, hq h' tk' (hp.objs.size + 1) dx ⟨old, Nat.le_succ _, ⟨_, _, hx, rfl, rfl, rfl, rfl⟩, Nat.le_trans (Nat.le_trans (Nat.le_succ _) (Nat.le_succ _)) z, dne, hns⟩⟩
end
end Ex_given
namespace Ex_limit
/-! ### the text of an own error's __init__, its field being limit -/
def iA (p1 p2 : Pos) : Arguments := { posonlyargs := [], args := [{ arg := "self", annotation := none, pos := p1 }, { arg := "limit", annotation := none, pos := p2 }], vararg := none, kwonlyargs := [], kw_defaults := [], kwarg := none, defaults := [] }
def iB (q1 q2 q3 q4 : Pos) : List Stmt := [.Assign [.Attribute (.Name "self" q1) "limit" q2] (.Name "limit" q3) q4]
def iS : Scope := { kind := .function, names := [(PySem.Str.ofString "self", .local), (PySem.Str.ofString "limit", .local)], isGenerator := false, isCoroutine := false, more := [] }
/-- the facts of such a class at C, with its __init__ at fI -/
structure Tx (K : Frag) (mg : Str → Option Value) (nm : Str) (B newId initId : String) (bmB : List Value) (C fI : Addr) : Prop where
  gC : mg nm = some (.ref C)
  base : ExcBaseFacts B newId initId bmB
  stor : StoreFacts B bmB "object.__setattr__" "object"
  ini : excInitIn K C bmB newId = true
  ovr : excOver K C bmB = true
  tkr : takerIn K C "limit" = some none
  sa : findIn K (.ref C) "__setattr__" = some (some (.builtin "object.__setattr__"))
  ga : findIn K (.ref C) "__getattribute__" = some (some (.builtin "BaseException.__getattribute__"))
  gg : findIn K (.ref C) "__getattr__" = some none
  noN : findIn K (.ref C) "limit" = some none
  iC : findIn K (.ref C) "__init__" = some (some (.ref fI))
  tC : typeIn K (.ref fI) = some (.type "function")
  kC : keepIn K (.ref C) = true
  exC : subIn K (.ref C) (.type "BaseException") = some true
  tyC : typeIn K (.ref C) = some (.type "type")
  hdC : hasDictIn K C = true
  cls : findIn K (.ref C) "__class__" = some (some (.builtin "object.__class__"))
  cln : specialIn K (.builtin "object.__class__") "__get__" = some (some (.builtin "getset_descriptor.__get__"))
  clt : takesIn K (.builtin "object.__class__") = some true
  clm : mroIn K C (.type "object") = some true
  fn : ∃ (q : Str) (oc : Value) (od : Option Addr) (doc pm : Value) (an : Option Addr) (cdv ct : Value) (osl : Array (Option Value)) (p1 p2 q1 q2 q3 q4 : Pos),
    K.lookup fI = some ⟨oc, od, .func (fnOf "__init__" q (iA p1 p2) (iB q1 q2 q3 q4) iS .none .none doc pm an cdv ct), osl⟩ ∧ codeIn K cdv q = true
section
variable {prog : Program} {w : World} {A : Around} {E : Value → Shared → Prop} {R : Result → Shared → Prop} {s : Shared} {K : Frag} {mg : Str → Option Value} {C fI : Addr} {nm : Str} {B newId initId : String} {bmB : List Value}
theorem inited (T : Tx K mg nm B newId initId bmB C fI) {x t0 : Addr} {v : Value} (X : K.In s.heap) (hlim : s.heap.NoLimit) (hx : s.heap.get? x = some (HandSPX.excO C t0)) (hroom : A.depth < recursionLimit)
    (hq : ∀ h' tk dx, IniEnd "limit" s.heap h' x C dx t0 v → R (.ok (.ret .none)) { s with heap := h', toks := tk }) :
    codeAny (model prog w) A (.call (.ref fI) ⟨[.ref x, v], []⟩) R s := by
  obtain ⟨q, oc, od, doc, pm, an, cdv, ct, osl, p1, p2, q1, q2, q3, q4, ho, hcd⟩ := T.fn
  refine Att.call_fn (binds := [("self", .ref x), ("limit", v)]) X hlim ho hcd hroom (BindsTo.of_eq (by first | rfl | with_unfolding_all rfl)) (by first | rfl | decide | with_unfolding_all rfl) (fun s₁ IC => ?_) rfl rfl rfl
  obtain ⟨h₁, tk₁, rfl⟩ := IC.toInCall.same
  have k : ∀ b o, s.heap.get? b = some o → h₁.get? b = some o := IC.toInCall.keep
  have hn := IC.toInCall.ns
  have X₁ : K.In h₁ := X.keeps k
  have hx₁ := k _ _ hx
  show wpAny _ _ (execs _ _) _ _ _
  refine wpAny_execs_cons (plainObj_wpAny_Assign_Attribute ?_)
  refine nameL (v := v) hn (by first | rfl | with_unfolding_all rfl | kernel_rfl) (nameL (v := .ref x) hn (by first | rfl | with_unfolding_all rfl | kernel_rfl) ?_)
  refine set_plain X₁ (ox := HandSPX.excO C t0) (od := none) ⟨hx₁, rfl, rfl, trivial⟩ T.sa ?_
  refine firstField T.stor X₁ hx₁ T.ovr T.tkr T.hdC fun h₃ tk₃ dx k₃ dn dne hx₃ hn₃ => ?_
  show wpAny _ _ (execs _ _) _ _ _
  have z : s.heap.objs.size < h₁.objs.size := hn.lt
  exact wpAny_execs_nil (hq h₃ tk₃ dx ⟨fun b o hb e => k₃ b o hb (k b o e), hx₃, Nat.le_of_lt (Nat.lt_of_lt_of_le z dn), dne, hn₃⟩)
theorem made (T : Tx K mg nm B newId initId bmB C fI) {v : Value} (X : K.In s.heap) (hlim : s.heap.NoLimit) (hroom : A.depth + 1 < recursionLimit)
    (hq : ∀ h' tk e d, NewEx "limit" s.heap h' e C d v → R (.ok (.ret (.ref e))) { s with heap := h', toks := tk }) :
    codeAny (model prog w) A (.call (.ref C) ⟨[v], []⟩) R s := by
  obtain ⟨nm, N, q, bs, bm, hdct, sn, sub, ab, col, dd, k0, k1, k2, k3, k5, hC, hT⟩ := excInit_of X T.ini
  obtain ⟨hp, g, dr, tk, os⟩ := s
  have k : ∀ b o, hp.get? b = some o → ((hp.push (kdv_tup [v])).push (HandSPX.excO C hp.objs.size)).get? b = some o := fun b o e => Heap.get?_push_of_some _ (Heap.get?_push_of_some _ e)
  have hget : ((hp.push (kdv_tup [v])).push (HandSPX.excO C hp.objs.size)).get? (hp.objs.size + 1) = some (HandSPX.excO C hp.objs.size) := by heap_get
  refine HandSPX.call_own T.base hT hC (looks_findIn X T.iC) (fun self => bind_fn X self T.tC) (by show 1 ≤ sizeLine; decide) ?_
  refine inited (s := ⟨(hp.push (kdv_tup [v])).push (HandSPX.excO C hp.objs.size), g, dr, tk, os⟩) T (X.keeps k) (hlim.keeps k) hget ?_ fun h' tk' dx ⟨k', hx, dn, dne, hns⟩ => ?_
  · show A.depth + 1 < recursionLimit
    exact hroom
  · have old : ∀ b o, hp.get? b = some o → h'.get? b = some o := fun b o e => k' b o (Nat.ne_of_lt (Nat.lt_succ_of_lt (Heap.lt_size e))) (k b o e)
    have z : hp.objs.size + 1 + 1 ≤ dx := by
      first
        | (simpa only [Heap.size_push] using dn)
        | exact dn
        | (have q := dn; rw [Heap.size_push, Heap.size_push] at q; exact q)
    exact ⟨rfl, hq h' tk' (hp.objs.size + 1) dx ⟨old, Nat.le_succ _, ⟨_, _, hx, rfl, rfl, rfl, rfl⟩, Nat.le_trans (Nat.le_trans (Nat.le_succ _) (Nat.le_succ _)) z, dne, hns⟩⟩
end
end Ex_limit
end Rw
namespace Rw
open PySem PySem.Spec PyProof.Rows L2
theorem relO_one {f : Str} {v : V} {v' : Value} (r : RelV v v') (g : Str) : RelO (List.lookup g [(f, v)]) (if g = f then some v' else none) := by
  by_cases hw : g = f
  · subst hw
    rw [if_pos rfl]
    have q : List.lookup g [(g, v)] = some v := by simp [List.lookup]
    rw [q]
    exact r
  · rw [if_neg hw]
    have qw : (g == f) = false := by simpa using hw
    have q2 : List.lookup g [(f, v)] = none := by simp [List.lookup, qw]
    rw [q2]
    trivial
/-- x(e), x an own error at C: its dict, new, has the field alone -/
def tMkEx (f : Str) (C : Addr) (ta : TA) : L2.St → Hp → XK → Prop := fun σ H Q => ta σ H fun vs H1 => ∃ v, vs = [v] ∧ ∀ d, H1 d = none → Q (.ref C) (some d) (upd H1 d (.xd [(f, v)]))
theorem flown {X : Cx} {pins : List (Addr × Obj)} {σ : L2.St} {H1 : Hp} {Q : XK} {hp h' : Heap} {g : Array GenState} {dr : Drawn} {tk tk' : Nat} {os : OsState} {C e d : Addr} {v : V} {v' : Value} {f nm : Str}
    (ra : Raises X (.ref C)) (I1 : Inv X pins σ H1 ⟨hp, g, dr, tk, os⟩) (rv : RelV v v') (M : NewEx f hp h' e C d v') (q1 : ∀ d, H1 d = none → Q (.ref C) (some d) (upd H1 d (.xd [(f, v)]))) : MkP X pins σ Q (.ref e) ⟨h', g, dr, tk', os⟩ := by
  obtain ⟨oe, fv, hoe, hc, hd, hdat, h1⟩ := M.obj
  have hns := M.ns
  obtain ⟨G', g1, g2⟩ := restrict h' fun b => decide (b ≠ e)
  have gk : ∀ b, b ≠ e → G'.get? b = h'.get? b := fun b hb => g1 b (decide_eq_true hb)
  have ge : G'.get? e = none := g2 e (by simp)
  have old : ∀ b o, hp.get? b = some o → G'.get? b = some o := fun b o q => (gk b (Nat.ne_of_lt (Nat.lt_of_lt_of_le (Heap.lt_size q) M.new))).trans (M.keep b o q)
  have ob : ObjOk X.prog X.w (upd H1 d (.xd [(f, v)])) G' d (.xd [(f, v)]) := ⟨_, hns.at (fun o q => (gk d M.dne).trans q), fun g => relO_one rv g⟩
  have J : Inv X pins σ (upd H1 d (.xd [(f, v)])) ⟨G', g, dr, tk', os⟩ := I1.laid (t' := tk') old M.dbig ob
  refine ⟨e, oe, fv, ⟨G', g, dr, tk', os⟩, _, .ref C, some d, rfl, J, fun b o q => ?_, ge, hoe, ⟨hc, hd⟩, hdat, h1, ?_, rfl, I1.bare, ra, q1 d (I1.hok.fresh M.dbig)⟩
  · by_cases hb : b = e
    · have q' : G'.get? b = some o := q
      rw [hb, ge] at q'; cases q'
    · exact (gk b hb).symm.trans q
  · rw [upd_ne (Ne.symm M.dne)]
    exact I1.hok.fresh M.new
/-- x(e), x an own error with the field given -/
theorem pmk_given {X : Cx} {C fI : Addr} {nm : Str} {B newId initId : String} {bmB : List Value} {a : Expr} {ta : TA} {p pos : Pos} {k : Nat} (T : Ex_given.Tx X.K X.mg nm B newId initId bmB C fI) (hr : Room k X.A) (ha : PA X [a] ta) (hg : Gl X nm := by rfl)
    (hdb : (nm == ("__debug__" : Str)) = false := by decide) (he : starEach (a :: []) X.env = (false, eval a X.env) :: starEach [] X.env := by rfl) (hpl : (backTo pos (starEach [] X.env)).any (·.1) = false := by rfl) :
    PMk X (.Call (.Name nm p) [a] [] pos) (tMkEx "given" C ta) := by
  intro pins s σ H Q I h
  refine wpAny_Call_Name_kw (ld_glob I hg T.gC ?_ hdb)
  refine PySem.W.callWith_K (h₀ := X.base) I.ok.mod.kin T.kC (thn (ha.run pos pins s σ H _ I h) fun us s1 hh => ?_) he hpl
  obtain ⟨vs, H1, I1, r1, v, ev, q1⟩ := hh
  subst ev
  refine ⟨I1.kIn, ?_⟩
  cases r1 with
  | cons rv rn =>
    rename_i v' us'
    cases rn
    show wpAny _ _ (call (.ref C) [v']) _ _ _
    have hlim := I1.nolimit
    obtain ⟨hp, g, dr, tk, os⟩ := s1
    refine wpAny_call (Ex_given.made T I1.kIn hlim (by have := hr.dp; omega) fun h' tk' e d M => ?_)
    exact flown (nm := nm) (raises_own T.exC T.tyC) I1 rv M q1
/-- x(e), x an own error with the field limit -/
theorem pmk_limit {X : Cx} {C fI : Addr} {nm : Str} {B newId initId : String} {bmB : List Value} {a : Expr} {ta : TA} {p pos : Pos} {k : Nat} (T : Ex_limit.Tx X.K X.mg nm B newId initId bmB C fI) (hr : Room k X.A) (ha : PA X [a] ta) (hg : Gl X nm := by rfl)
    (hdb : (nm == ("__debug__" : Str)) = false := by decide) (he : starEach (a :: []) X.env = (false, eval a X.env) :: starEach [] X.env := by rfl) (hpl : (backTo pos (starEach [] X.env)).any (·.1) = false := by rfl) :
    PMk X (.Call (.Name nm p) [a] [] pos) (tMkEx "limit" C ta) := by
  intro pins s σ H Q I h
  refine wpAny_Call_Name_kw (ld_glob I hg T.gC ?_ hdb)
  refine PySem.W.callWith_K (h₀ := X.base) I.ok.mod.kin T.kC (thn (ha.run pos pins s σ H _ I h) fun us s1 hh => ?_) he hpl
  obtain ⟨vs, H1, I1, r1, v, ev, q1⟩ := hh
  subst ev
  refine ⟨I1.kIn, ?_⟩
  cases r1 with
  | cons rv rn =>
    rename_i v' us'
    cases rn
    show wpAny _ _ (call (.ref C) [v']) _ _ _
    have hlim := I1.nolimit
    obtain ⟨hp, g, dr, tk, os⟩ := s1
    refine wpAny_call (Ex_limit.made T I1.kIn hlim (by have := hr.dp; omega) fun h' tk' e d M => ?_)
    exact flown (nm := nm) (raises_own T.exC T.tyC) I1 rv M q1
end Rw

set_option Elab.async false
set_option linter.all false
set_option maxRecDepth 100000
set_option maxHeartbeats 4000000
/-! except (A, B) as n; a def that is handed the caught error -/
namespace Rw
open PySem PySem.Spec PyProof.Rows L2
theorem flying_more {B h h' : Heap} {l : List Env} {a : Addr} {Z : Obj → Prop} (fl : HandSPX.FlyingZ B l a Z h) (k : ∀ b o, h.get? b = some o → h'.get? b = some o) : HandSPX.FlyingZ B l a Z h' := by
  obtain ⟨f1, f2, f3, oe, vs, T, oT, ts, e1, z, e2, e3, n1, n2, e4, e5, e6⟩ := fl
  refine ⟨fun b o e => k _ _ (f1 b o e), f2, ?_, oe, vs, T, oT, ts, k _ _ e1, z, e2, e3, n1, n2, k _ _ e4, e5, e6⟩
  exact Heap.FunFrames.of_keeps (fun b o e _ => ⟨o, k b o e, rfl⟩) f3
/-- the wish of 'except (..) as n' where one of the classes fits -/
def wTwo (K : PySem.W.Frag) (cs : List Value) (i : Nat) (ts : Addr → Value → Option Addr → TS) (D : Ends) : WX := fun cls d σ H =>
  PySem.W.exmAny K cls cs = some true ∧ ∀ a, H a = none → ts a cls d { nx := fun σ' H' => D.nx (σ'.set i none) H', rt := D.rt, bk := fun σ' H' => D.bk (σ'.set i none) H', ct := fun σ' H' => D.ct (σ'.set i none) H' } (σ.set i (some (.ref a))) H
section
variable {X : Cx} {x1 x2 n : Str} {c1 c2 : Value} {i kk : Nat} {body suite : List Stmt} {b₀ : Stmt} {q1 q2 tp pos pos' : Pos} {tb : WX → TS} {ts : Addr → Value → Option Addr → TS}
theorem name_at {Y : Cx} {x : Str} {c : Value} {p : Pos} {pins : List (Addr × Obj)} {σ : L2.St} {H : Hp} {s : Shared} {Q : Value → Shared → Prop} {E : Value → Shared → Prop} (I : Inv Y pins σ H s) (hc : Names Y x c) (q : Q c s) : wpAny (model Y.prog Y.w) Y.A (eval (.Name x p) Y.env) Q E s := by
  obtain ⟨hg, hdb, hm | ⟨hm, hv, hn⟩⟩ := hc
  · exact ld_glob I hg hm q hdb
  · exact ld_blt I hg hm hv q hn hdb
theorem ps_try_two (stk : X.stack = X.env :: X.outer) (frm : X.env.frame = some X.env.locals) (nod : X.N.Nodup) (slot : X.N[i]? = some n) (loc : X.env.kindOf n = some .local) (m1 : Names X x1 c1) (m2 : Names X x2 c2)
    (bod : ∀ (W : WX) (pn : List (Addr × Obj)) (xe : Value → Shared → Prop), Takes (X.tr pn xe) W → PassesOwn (model X.prog X.w) X.A X.env xe → PSs (X.tr pn xe) body (tb W))
    (sui : ∀ (a : Addr) (oe : Obj) (cls : Value) (d : Option Addr) (pn : List (Addr × Obj)), Zc cls d oe → (∃ vs, oe.data = .fields vs) → PSs (X.suite a ((a, oe) :: pn)) (b₀ :: suite) (ts a cls d)) :
    PS X (.Try body [.ExceptHandler (some (.Tuple [.Name x1 q1, .Name x2 q2] kk tp)) (some n) (b₀ :: suite) pos'] [] [] pos) (fun D σ H => tb (wTwo X.K [c1, c2] i ts D) D σ H) := by
  constructor
  intro pins s σ H D I h
  have ok := I.ok
  have frames : X.A.frames = some (X.env :: X.outer) := by rw [ok.frames, stk]
  refine wpAny_Try_except ?_
  have catch_ := bod (wTwo X.K [c1, c2] i ts D) (X.pn ++ pins) (fun e t1 => wpAny (model X.prog X.w) X.A (noteFrame e X.env) (fun _ t2 => wpAny (model X.prog X.w) X.A (setFlight e none)
    (fun _ t3 => wpAny (model X.prog X.w) X.A (handleBy e X.env [.ExceptHandler (some (.Tuple [.Name x1 q1, .Name x2 q2] kk tp)) (some n) (b₀ :: suite) pos']) (SP X pins D) X.xe t3) X.xe t2) X.xe t1) ?_ PassesOwn.looking
  · refine wpAny_mono (catch_.run [] s σ H D (I.toTry _) h) (fun f t1 out => ?_) (fun e t1 z => z)
    cases f with
    | next => obtain ⟨σ', H', J, q⟩ := out; exact wpAny_execs_nil ⟨σ', H', J.ofTry ok, q⟩
    | brk => obtain ⟨σ', H', J, q⟩ := out; exact ⟨σ', H', J.ofTry ok, q⟩
    | cont => obtain ⟨σ', H', J, q⟩ := out; exact ⟨σ', H', J.ofTry ok, q⟩
    | ret u => obtain ⟨v, σ', H', J, r, q⟩ := out; exact ⟨v, σ', H', J.ofTry ok, r, q⟩
  · intro u t1 air
    obtain ⟨a, B, sI, pins', σ', H', cls, d, rfl, J', nb, up, sky, na, os, ag, fits, go⟩ := air
    have J : Inv X pins σ' H' sI := J'.ofTry ok
    have sky1 : Sky B (X.env :: X.outer) a (Zc cls d) X.env.locals t1.heap := by rw [← stk]; exact sky
    refine Sky.land Zc.steady frames frm sky1 fun h3 fl3 up3 => ?_
    have J3 : Inv X pins σ' H' { t1 with heap := h3 } := J.landed nb fl3.1 (up.trans up3) os ag
    obtain ⟨o3, v3, g3, z3, d3⟩ := fl3.there
    have apart : a ∉ frs (X.env :: X.outer) := by
      intro hm
      obtain ⟨_, o', e', hnf⟩ := fl3.2.2.1.mem hm
      rw [g3] at e'
      cases e'
      exact hnf _ d3
    have nL : a ≠ X.env.locals := fun z => apart (List.mem_filterMap.mpr ⟨X.env, List.mem_cons_self, by rw [frm, z]⟩)
    have nF : a ∉ X.fs := by
      intro hm
      obtain ⟨e, he, q⟩ := List.mem_filterMap.mp hm
      exact apart (List.mem_filterMap.mpr ⟨e, List.mem_cons_of_mem _ he, q⟩)
    have S3 := J3.suite g3 d3 na nL nF
    refine wpAny_handleBy_cons (codeAny_handlers_test ?_) (by intro q; cases q)
    refine wpAny_Tuple (wpAny_items_cons (name_at (Y := X.suite a ((a, o3) :: (X.pn ++ pins))) S3 m1 (wpAny_items_cons (name_at (Y := X.suite a ((a, o3) :: (X.pn ++ pins))) S3 m2 (wpAny_items_nil ⟨by show 2 ≤ sizeLine; decide, ?_⟩)))))
    have kp : ∀ b o, h3.get? b = some o → (h3.push { cls := .type "tuple", data := .seq [c1, c2].toArray }).get? b = some o := fun _ _ z => Heap.get?_push_of_some _ z
    have LT : PySem.W.Looks (model X.prog X.w) h3 (typeOf (.ref a)) cls := fun A Q E s k q => wpAny_typeOf_ref (k _ _ g3) (by rw [z3.1]; exact q)
    refine (PySem.W.exm_tup2 (M := model X.prog X.w) (J3.kIn.keeps kp) (LT.keeps kp) (Heap.get?_push_size h3 rfl) fits).here ?_
    have fl4 := flying_more fl3 kp
    have up4 : h3.UpToSlots (h3.push { cls := .type "tuple", data := .seq [c1, c2].toArray }) := fun b o e _ => ⟨o.slots, kp b o e⟩
    refine codeAny_handlers_suite_as ?_
    refine HandSPX.lands_againZ (s := { t1 with heap := h3.push { cls := .type "tuple", data := .seq [c1, c2].toArray } }) fl4 fun h5 fl5 up5 => ?_
    have J5 : Inv X pins σ' H' { t1 with heap := h5 } := J.landed nb fl5.1 (((up.trans up3).trans up4).trans up5) os ag
    obtain ⟨o5, v5, g5, z5, d5⟩ := fl5.there
    have S5 := J5.suite g5 d5 na nL nF
    refine store_ok (X := X.suite a ((a, o5) :: (X.pn ++ pins))) (v := .ref a) S5 nod slot (.inl loc) rfl (fun t6 S6 => ?_) (.inr loc)
    refine wpAny_mono ((sui a o5 cls d (X.pn ++ pins) z5 ⟨_, d5⟩).run [] t6 _ H' _ S6 (go a na)) (fun f t7 out => ?_) (fun _ _ z => False.elim z)
    have leave : ∀ {σ6 : L2.St} {H6 : Hp} {Q : Shared → Prop}, Inv (X.suite a ((a, o5) :: (X.pn ++ pins))) [] σ6 H6 t7 → (∀ s7, Inv X pins (σ6.set i none) H6 s7 → Q s7) →
        wpAny (model X.prog X.w) X.A (do bindName X.env n .none; unbindBehindTheSuite X.env n pos') (fun _ s7 => Q s7) X.xe t7 := fun S7 hq => gone_ok (S7.unsuite ok) nod slot loc hq
    cases f with
    | next => obtain ⟨σ6, H6, S7, q⟩ := out; exact leave S7 fun s7 J7 => ⟨_, _, J7, q⟩
    | brk => obtain ⟨σ6, H6, S7, q⟩ := out; exact leave S7 fun s7 J7 => ⟨_, _, J7, q⟩
    | cont => obtain ⟨σ6, H6, S7, q⟩ := out; exact leave S7 fun s7 J7 => ⟨_, _, J7, q⟩
    | ret u => obtain ⟨v6, σ6, H6, S7, r6, q⟩ := out; exact leave S7 fun s7 J7 => ⟨_, _, _, J7, r6, q⟩
end
/-! ### a def that is handed the error -/
structure FnW (P : Program) (w : World) (K : PySem.W.Frag) (mg : Str → Option Value) (base : Heap) (k : Nat) (f : Addr) (fd : FuncData) (y : Str) (sp : Addr → Value → Option Addr → Hp → VK → Prop) : Prop where
  run : ∀ (A : Around) (outer : List Env) (s : Shared) (H : Hp) (args : Args) (Q : VK) (a : Addr) (oe : Obj), A.guards = some [] → L2H.RoomH k A → L2H.PinOk outer H s (a, oe) → (∃ vs, oe.data = .fields vs) →
    Env0 P w K mg base A outer s H → BindsTo s fd args [(y, .ref a)] → sp a oe.cls oe.dict H Q → codeAny (model P w) A (.call (.ref f) args) (CR L2.CX0 outer P w H s Q L2.E0) s
section
variable {P : Program} {w : World} {K : PySem.W.Frag} {mg : Str → Option Value} {base : Heap} {f : Addr} {fd : FuncData} {N : List Str} {k : Nat} {sp : Addr → Value → Option Addr → Hp → VK → Prop} {x qual y : Str} {st : Stmt}
theorem fnW_of (F : Fun K x qual st f fd) (S : FnScope N [y] (defScope st))
    (hbody : ∀ (cdv : Value) (A : Around) (outer : List Env) (s : Shared) (H : Hp) (Q : VK) (a : Addr) (oe : Obj), A.guards = some [] → L2H.RoomH k (A.deeper (envOfC qual (defScope st) s.heap.objs.size f cdv)) → (∃ vs, oe.data = .fields vs) → sp a oe.cls oe.dict H Q →
      ∃ t, PSs (L2H.cxH L2.CX0 P w K mg base N qual (defScope st) f cdv A outer s H L2.E0 (a, oe)).nox (defBody st) t ∧ t { nx := fun _ H' => Q .non H', rt := Q } (L2.start N [.ref a]) H) :
    FnW P w K mg base (k + 1) f fd y sp := by
  obtain ⟨oc, od, kV, doc, pm, an, cdv, ct, osl, rfl, lk, hcd⟩ := F.ex
  constructor
  intro A outer s H args Q a oe hg hr pin hf e0 hb hsp
  have inn : K.In s.heap := e0.mod.kin.keeps (fun b o e => (e0.bs b o e).1)
  have nolim : s.heap.NoLimit := e0.mod.nolimit.keeps (fun b o e => (e0.bs b o e).1)
  have kinds : ∀ z ∈ [y].zip [Value.ref a], (defScope st).names.lookup z.1 = some .local ∨
      ((defScope st).names.lookup z.1 = some .cell ∧ ((cellsFrom (s.heap.objs.size + 1) (defScope st).names []).lookup z.1).isSome = true) := by
    rintro ⟨m, v⟩ hz
    rcases S.par m (List.of_mem_zip hz).1 with q | q
    · exact .inl q
    · exact .inr ⟨q, PySem.W.cellsFrom_some _ _ _ (.inl q)⟩
  refine codeAny_call_function hr.depth (inn _ _ lk) rfl S.co S.gen rfl (PySem.W.codeRec_of inn hcd) (hb _ _ _ _ ?_)
  refine wpAny_newFunctionEnv_cells S.kind kinds (fun env he s1 z => ?_)
  subst he
  refine ⟨nolim.keeps z.toInCall.keep, codeAny_func ?_⟩
  obtain ⟨t, ht, hq⟩ := hbody cdv A outer s H Q a oe hg (hr.deeper _) hf hsp
  have I := L2H.inv_startH (CX := L2.CX0) (P := P) (w := w) (K := K) (mg := mg) (base := base) (qual := qual) (f := f) (cd := cdv) (E := L2.E0) (vs := [.ref a]) (us := [.ref a]) S pin e0 rfl (.cons rfl .nil) z
  refine wpAny_mono (ht.nox.run [] s1 _ H _ I hq) (fun fl s' hs => ?_) (fun e s' hs => hs)
  cases fl with
  | ret u =>
    obtain ⟨v, σ', H', J, rv, q⟩ := hs
    exact ⟨v, H', J.os, J.bare, J.base, J.hok, rv, q⟩
  | next =>
    obtain ⟨σ', H', J, q⟩ := hs
    exact ⟨V.non, H', J.os, J.bare, J.base, J.hok, rfl, q⟩
  | brk => obtain ⟨_, _, _, q⟩ := hs; exact False.elim q
  | cont => obtain ⟨_, _, _, q⟩ := hs; exact False.elim q
end
section
variable {X : Cx} {k : Nat} {f a : Addr} {oe : Obj} {pn : List (Addr × Obj)} {fd : FuncData} {y : Str} {sp : Addr → Value → Option Addr → Hp → VK → Prop} {x : Str} {p pos : Pos} {e : Expr} {ta : TE}
def tCallW (a : Addr) (oe : Obj) (sp : Addr → Value → Option Addr → Hp → VK → Prop) (t : TA) : TE := fun σ H Q => t σ H fun vs H1 => vs = [.ref a] ∧ sp a oe.cls oe.dict H1 Q
theorem pe_callW {t : TA} (F : FnW X.prog X.w X.K X.mg X.base k f fd y sp) (hgd : X.A.guards = some []) (room : L2H.RoomH k X.A) (glob : Gl X x) (known : X.mg x = some (.ref f))
    (keep : PySem.W.keepIn X.K (.ref f) = true) (b : L2.Binds X.K fd [y] []) (hf : ∃ vs, oe.data = .fields vs) (ha : PA (X.suite a ((a, oe) :: pn)) [e] t)
    (hdb : (x == ("__debug__" : Str)) = false := by decide) (he : starEach (e :: []) X.env = (false, eval e X.env) :: starEach [] X.env := by rfl)
    (hpl : (backTo pos (starEach [] X.env)).any (·.1) = false := by rfl) : PE (X.suite a ((a, oe) :: pn)) (.Call (.Name x p) [e] [] pos) (tCallW a oe sp t) := by
  constructor
  intro pins s σ H Q I h
  refine wpAny_Call_Name_kw (ld_glob I glob known ?_ hdb)
  refine PySem.W.callWith_K (h₀ := X.base) I.ok.mod.kin keep (thn (ha.run pos pins s σ H _ I h) fun us s1 hh => ?_) he hpl
  obtain ⟨vs, H1, I1, r, rfl, q⟩ := hh
  refine ⟨I1.kIn, ?_⟩
  obtain rfl : us = [Value.ref a] := by
    cases r with
    | cons p1 q1 =>
      cases q1
      cases p1
      rfl
  have P1 := I1.pin (a, oe) (List.mem_append_left _ List.mem_cons_self)
  have hpin : L2H.PinOk X.stack H1 s1 (a, oe) := ⟨P1.1, P1.2.1, fun hm => (List.mem_cons.mp (I1.stkSub a hm)).elim P1.2.2.1 P1.2.2.2.1, P1.2.2.2.2⟩
  have bb := b s1 [.ref a] I1.kIn rfl
  refine wpAny_call (codeAny_mono (F.run (X.suite a ((a, oe) :: pn)).A X.stack s1 H1 ⟨[.ref a], []⟩ Q a oe hgd ⟨room.dp, room.un⟩ hpin hf I1.env0 bb q) fun r s' hq => ?_)
  cases r with
  | error e => exact False.elim hq
  | ok fl =>
    cases fl with
    | ret u => exact I1.after hq
    | next => exact False.elim hq
    | brk => exact False.elim hq
    | cont => exact False.elim hq
end
end Rw

set_option Elab.async false
set_option linter.all false
set_option maxRecDepth 100000
set_option maxHeartbeats 4000000
/-! what may be asked of a caught error: its class, its field; repr of any data; how often a bool stands in a list -/
namespace Rw
open PySem PySem.Spec PyProof.Rows L2
/-- what an error's class must say -/
structure XC (K : PySem.W.Frag) (C : Addr) : Prop where
  ga : PySem.W.findIn K (.ref C) "__getattribute__" = some (some (.builtin "BaseException.__getattribute__"))
  gg : PySem.W.findIn K (.ref C) "__getattr__" = some none
  exC : PySem.W.subIn K (.ref C) (.type "BaseException") = some true
  hdC : PySem.W.hasDictIn K C = true
  cls : PySem.W.findIn K (.ref C) "__class__" = some (some (.builtin "object.__class__"))
  cln : PySem.W.specialIn K (.builtin "object.__class__") "__get__" = some (some (.builtin "getset_descriptor.__get__"))
  clt : PySem.W.takesIn K (.builtin "object.__class__") = some true
  clm : PySem.W.mroIn K C (.type "object") = some true
theorem Ex_given.Tx.xc {K : PySem.W.Frag} {mg : Str → Option Value} {C fI : Addr} {nm : Str} {B newId initId : String} {bmB : List Value} (T : Ex_given.Tx K mg nm B newId initId bmB C fI) : XC K C := ⟨T.ga, T.gg, T.exC, T.hdC, T.cls, T.cln, T.clt, T.clm⟩
theorem Ex_limit.Tx.xc {K : PySem.W.Frag} {mg : Str → Option Value} {C fI : Addr} {nm : Str} {B newId initId : String} {bmB : List Value} (T : Ex_limit.Tx K mg nm B newId initId bmB C fI) : XC K C := ⟨T.ga, T.gg, T.exC, T.hdC, T.cls, T.cln, T.clt, T.clm⟩
/-- the error in hand: its class, its dict -/
structure Hand (K : PySem.W.Frag) (H : Hp) (oe : Obj) (C d : Addr) (fs : List (Str × V)) : Prop where
  xc : XC K C
  cls : oe.cls = .ref C
  dct : oe.dict = some d
  at_ : H d = some (.xd fs)
theorem Hand.mono {K : PySem.W.Frag} {H H' : Hp} {oe : Obj} {C d : Addr} {fs : List (Str × V)} (h : Hand K H oe C d fs) (s : Same H H') : Hand K H' oe C d fs := ⟨h.xc, h.cls, h.dct, s _ _ h.at_⟩
section
variable {X : Cx} {a : Addr} {oe : Obj}
theorem Hand.inst {pins : List (Addr × Obj)} {σ : L2.St} {H : Hp} {s : Shared} {C d : Addr} {fs : List (Str × V)} (I : Inv X pins σ H s) (hp : (a, oe) ∈ X.pn) (hf : ∃ vs, oe.data = .fields vs) (h : Hand X.K H oe C d fs) :
    ∃ od mA, PySem.W.InstAt s.heap a oe C (some od) ∧ s.heap.get? d = some od ∧ s.heap.Ns1 d mA ∧ (∀ f, RelO (fs.lookup f) (mA f)) ∧ ∀ f, PySem.W.lookIn f od = some (mA f) := by
  obtain ⟨ha, _⟩ := I.pin (a, oe) (List.mem_append_left _ hp)
  obtain ⟨vs, hd⟩ := hf
  have hx : ObjOk X.prog X.w H s.heap d (.xd fs) := I.hok d _ h.at_
  obtain ⟨mA, hns, hr⟩ := hx
  obtain ⟨od, ho, hl⟩ := lookIn_ns hns
  exact ⟨od, mA, ⟨ha, h.cls, by unfold PySem.W.notCls; rw [hd] <;> rfl, by rw [h.dct]; exact ho⟩, ho, hns, hr, hl⟩
/-- isinstance(e, c) -/
def rIsX (K : PySem.W.Frag) (a : Addr) (oe : Obj) : List V → Hp → VK → Prop := fun xs H Q => ∃ (C d : Addr) (fs : List (Str × V)) (c : V) (cv : Value) (b : Bool), xs = [.ref a, c] ∧ Hand K H oe C d fs ∧ ClsV c cv ∧ PySem.W.kitOne K (.ref C) cv = some b ∧ Q (.bl b) H
theorem call_isX (hp : (a, oe) ∈ X.pn) (hf : ∃ vs, oe.data = .fields vs) : CallR X (.builtin "isinstance") (rIsX X.K a oe) := by
  intro pins s σ H xs us Q I r h
  obtain ⟨C, d, fs, c, cv, b, rfl, hand, hcv, e, q⟩ := h
  cases r with
  | cons rx rr =>
    cases rr with
    | cons rt rr =>
      cases rr
      cases rx
      have ec := hcv.eq rt
      subst ec
      obtain ⟨od, mA, J, ho, hns, hr, hl⟩ := hand.inst I hp hf
      have cl : (PySem.W.clsIn X.K C).isSome = true := by
        obtain ⟨cd, hc, _⟩ := PySem.W.any_some hand.xc.hdC
        rw [hc] <;> rfl
      exact PySem.W.kia_one (PySem.W.kitx_exc cl hand.xc.ga hand.xc.gg hand.xc.exC hand.xc.cls hand.xc.cln hand.xc.clt hand.xc.clm) I.kIn J e (fun z => nomatch z) fun tk => ⟨.bl b, H, I.kept (t' := tk) fun _ _ z => z, rfl, q⟩
/-- e.f -/
def tFldX (K : PySem.W.Frag) (a : Addr) (oe : Obj) (f : Str) (te : TE) : TE := fun σ H Q => te σ H fun x H1 => x = .ref a ∧ ∃ (C d : Addr) (fs : List (Str × V)) (v : V), Hand K H1 oe C d fs ∧ PySem.W.findIn K (.ref C) f = some none ∧ fs.lookup f = some v ∧ Q v H1
theorem pe_fldX {e : Expr} {te : TE} {pos : Pos} {n : Str} (hp : (a, oe) ∈ X.pn) (hf : ∃ vs, oe.data = .fields vs) (he : PE X e te) (hb : attributeBase e n X.env (eval e X.env) = eval e X.env := by rfl) : PE X (.Attribute e n pos) (tFldX X.K a oe n te) := by
  constructor
  intro pins s σ H Q I h
  refine attr_of hb (thn (he.run pins s σ H _ I h) fun u s1 hh => ?_)
  obtain ⟨x, H1, I1, rx, rfl, C, d, fs, v, hand, hno, l, q⟩ := hh
  obtain rfl : u = Value.ref a := rx
  obtain ⟨od, mA, J, ho, hns, hr, hl⟩ := hand.inst I1 hp hf
  obtain ⟨u, hu, ru⟩ := RelO.some_of (v := v) (o := mA n) (by rw [← l]; exact hr n)
  exact HandSPX.exc_get I1.kIn J hand.xc.ga hand.xc.gg hand.xc.exC (PySem.W.findObj_own hand.xc.hdC hno rfl (by rw [hl, hu])) (handed_of ru) ⟨v, H1, I1.tok _, ru, q⟩
/-! ### xs.count(True), xs a list of bools -/
def rCntB (K : PySem.W.Frag) : V → List V → Hp → VK → Prop := fun x xs H Q => ∃ (p : Addr) (bs : List Bool) (b : Bool), x = .ref p ∧ xs = [.bl b] ∧ SqL K H p (bs.map V.bl) ∧ Q (.int (bs.count b : Nat)) H
def isB (b : Bool) (v : Value) : Bool := match v with
  | .bool c => c == b
  | _ => false
theorem bools_of : ∀ {bs : List Bool} {us : List Value}, Vals (bs.map V.bl) us → us = bs.map Value.bool
  | [], _, h => by cases h; rfl
  | b :: bs, _, h => by
    cases h with
    | cons p q =>
      cases p
      rw [bools_of q]
      rfl
theorem isB_count (b : Bool) : ∀ bs : List Bool, (bs.map Value.bool).countP (isB b) = bs.count b
  | [] => rfl
  | c :: bs => by
    rw [List.map_cons, List.countP_cons, isB_count b bs, List.count_cons]
    rfl
theorem mt_countB : MtR X "list.count" (rCntB X.K) := by
  intro pins s σ H x xs v us Q I rx rxs h
  obtain ⟨p, bs, b, rfl, rfl, hs, q⟩ := h
  cases rx
  obtain ⟨u, rfl, ru⟩ := rxs.one
  cases ru
  obtain ⟨its, rv, ⟨⟨cls, dd, data, sl⟩, n, ho, hc, hdn, hd⟩, hlen⟩ := I.list hs
  simp only at hc hd
  subst hc hd
  obtain rfl := bools_of rv
  refine call_meets PySem.F.slot_list_count ⟨_, ho, rfl⟩ PySem.F.entry_list_count (PySem.F.args_list_count_2 _ _) (SeqAt.list_countAt p (bs.map Value.bool).toArray n dd sl (.bool b) (isB b)) ⟨ho, fun y hy => ?_, ?_⟩
  · have hy : y ∈ bs.map Value.bool := by simpa using hy
    obtain ⟨c, _, rfl⟩ := List.mem_map.mp hy
    exact SeqAt.EqAt.bool_bool c b
  · refine ⟨.int (bs.count b : Nat), H, I.tok _, ⟨s.toks, ?_⟩, q⟩
    show Value.int (((bs.map Value.bool).toArray.toList.countP (isB b) : Nat) : Int) s.toks = Value.int ((bs.count b : Nat) : Int) s.toks
    rw [show (bs.map Value.bool).toArray.toList = bs.map Value.bool from rfl, isB_count]
end
/-! ### repr of any data -/
def dK : Key → PyData
  | .inl i => .int i
  | .inr x => .str x
inductive Rep (K : PySem.W.Frag) (H : Hp) : V → PyData → Prop
  | dp {v : V} {d : PyData} : Dp K H v d → Rep K H v d
  | dct {a : Addr} {kvs : List (Key × Int)} : H a = some (.dK (kvs.map fun p => (p.1, V.int p.2))) → Rep K H (.ref a) (.dict (kvs.map fun p => (dK p.1, PyData.int p.2)))
theorem pairs_keys {P : Program} {w : World} {h : Heap} : ∀ {es : List DictEntry} {kvs : List (Key × Int)} {vs : List (Key × Value)}, Pairs (mixKind P w) es vs → KV (kvs.map fun p => (p.1, V.int p.2)) vs →
    ReadsAll h (es.map (·.key)) ((kvs.map fun p => (dK p.1, PyData.int p.2)).map (·.1)) [] ∧ ReadsAll h (es.map (·.val)) ((kvs.map fun p => (dK p.1, PyData.int p.2)).map (·.2)) []
  | _, [], _, hp, hk => by
    cases hk
    cases hp
    exact ⟨.nil, .nil⟩
  | _, (k, i) :: kvs, _, hp, hk => by
    cases hk with
    | cons e r =>
      cases hp with
      | cons e1 e2 r2 =>
        obtain ⟨h1, h2⟩ := pairs_keys (h := h) (kvs := kvs) r2 r
        obtain ⟨ek, t, ev⟩ := e
        dsimp only at ek ev
        refine ⟨ReadsAll.cons (as := []) (bs := []) ?_ h1, ReadsAll.cons (as := []) (bs := []) ?_ h2⟩
        · dsimp only
          rw [← ek] at e1
          rcases keyIs_shape e1 with ⟨j, t, rfl, e⟩ | ⟨x, t, rfl, e⟩
          · rw [e]
            exact .int j t
          · rw [e]
            exact .str x t
        · dsimp only
          rw [e2, ev]
          exact .int i t
section
variable {X : Cx}
def rRepX (K : PySem.W.Frag) : List V → Hp → VK → Prop := fun vs H Q => ∃ v d, vs = [v] ∧ Rep K H v d ∧ d.showable = true ∧ d.depth ≤ 10 ∧ d.shown.length ≤ sizeLine ∧ Q (.str d.shown) H
theorem call_reprX (hg : X.A.guards = some []) (hu : X.A.units + 64 < cLine) : CallR X (.builtin "repr") (rRepX X.K) := by
  intro pins s σ H xs us Q I r h
  obtain ⟨v, d, rfl, hr, hs, hdep, hsz, hQ⟩ := h
  obtain ⟨u, rfl, ru⟩ := r.one
  have key : ∀ (a : Addr) (as : List Addr), u = .ref a → Reads s.heap (.ref a) d as → (d.hasDict = true → sysModules ∉ as) → wpAny (model X.prog X.w) X.A (call (.builtin "repr") [u]) (EP X pins σ Q) X.xe s := by
    rintro a as rfl R hd
    refine repr_of_reads' R hs hd hg (by omega) (fun b o e => e) (fun h' u tk hk => ?_) hsz
    exact ⟨.str d.shown, H, I.kept hk, ⟨_, rfl⟩, hQ⟩
  have ok : ∀ t, EP X pins σ Q (.str d.shown t) { s with toks := s.toks + 1 } := fun t => ⟨.str d.shown, H, I.tok _, ⟨t, rfl⟩, hQ⟩
  cases hr with
  | dp hd =>
    obtain ⟨as, R⟩ := Dp.reads I d _ _ hd ru
    cases hd with
    | non => cases ru; exact P.repr_of_none (ok _)
    | bl b => cases ru; exact P.repr_of_bool (ok _)
    | int i =>
      obtain ⟨t, rfl⟩ := ru
      exact P.repr_of_int (by simpa [PyData.showable] using hs) (ok _)
    | str x =>
      obtain ⟨t, rfl⟩ := ru
      exact P.repr_of_str (ok _) hsz
    | lst hx ha =>
      have z := noDict _ _ (Dp.lst hx ha)
      cases ru
      exact key _ as rfl R (PyData.noDict_hsm z)
    | tup hx ha =>
      have z := noDict _ _ (Dp.tup hx ha)
      cases ru
      exact key _ as rfl R (PyData.noDict_hsm z)
  | @dct a kvs ha =>
    obtain ⟨_, hsys, vs, rel, o, es, ep, h1, ⟨h2, _, _⟩, h3, h4, h5, _⟩ := dk_of I.hok ha
    obtain ⟨r1, r2⟩ := pairs_keys (h := s.heap) h5 rel
    cases ru
    refine key a ([a] ++ []) rfl (Reads.dict h1 h2 h3 r1 r2) (fun _ hm => ?_)
    have e : sysModules = a := by simpa using hm
    rw [e] at hsys
    simp at hsys
theorem w_reprX {K : PySem.W.Frag} (hg : X.A.guards = some []) (hu : X.A.units + 64 < cLine) (h : X.K = K := by rfl) : CallR X (.builtin "repr") (rRepX K) := by subst h; exact call_reprX hg hu
end
end Rw

set_option Elab.async false
set_option linter.all false
set_option maxRecDepth 100000
set_option maxHeartbeats 4000000
namespace PySem
namespace HandSPX
open Builtin Builtin.ObjectAttr
section
variable {M : Model} {A : Around} {E : Value → Shared → Prop} {h : Heap} {g : Array GenState} {d : Drawn} {t : Nat} {os : OsState}
variable {nm q : Str} {C N : Addr} {bs bm bmB : List Value} {hdct : Bool} {sn : List Str} {sub : List Value} {ab : Bool} {col : Option Bool} {dd : Option Addr} {k0 k1 k2 k3 k5 : Option Value} {B newId initId : String}
theorem check_new_kw (F : ExcBaseFacts B newId initId bmB) (hT : ∀ X : String, bm.contains (.type X) = bmB.contains (.type X)) {rest : List Value} {kw : List (Str × Value)} {Q : Unit → Shared → Prop}
    (hC : h.get? C = some (excClassObj nm q C N bs bm hdct sn sub ab col dd k0 k1 k2 k3 k5 newId)) (hq : Q () ⟨h, g, d, t, os⟩) : wpAny M A (checkBuiltinCall newId ⟨.ref C :: rest, kw⟩) Q E ⟨h, g, d, t, os⟩ := by
  have hcont : (Value.ref C :: bm).contains (.type B) = true := by rw [List.contains_cons, hT, F.hasB, Bool.or_true]
  have hstar := F.noStar
  simp only [checkBuiltinCall, F.newKind, F.newSplit, F.newRow]
  repeat (first | refine wpAny_loadPart_at hC ?_ | (refine wpAny_isSubtype_exc hC ?_; rw [hcont]) | refine wpAny_staticBase_exc hC ?_ | refine wpAny_madeBy_exc hC ?_ | simp only [bne_self_eq_false, Bool.false_eq_true, if_false] | wp_step)
  exact hq
end
section
variable {prog : Program} {w : World} {A : Around} {E : Value → Shared → Prop} {R : Result → Shared → Prop} {h : Heap} {g : Array GenState} {d : Drawn} {t : Nat} {os : OsState}
variable {nm q : Str} {C N : Addr} {bs bm bmB : List Value} {hdct : Bool} {sn : List Str} {sub : List Value} {ab : Bool} {col : Option Bool} {dd : Option Addr} {k0 k1 k2 k3 k5 : Option Value} {B newId initId : String}
theorem new_kw (F : ExcBaseFacts B newId initId bmB) (hT : ∀ X : String, bm.contains (.type X) = bmB.contains (.type X)) {n : Str} {v : Value}
    (hC : h.get? C = some (excClassObj nm q C N bs bm hdct sn sub ab col dd k0 k1 k2 k3 k5 newId))
    (hq : R (.ok (.ret (.ref (h.objs.size + 1)))) ⟨(h.push { cls := .type "tuple", data := .seq #[] }).push
      { cls := .ref C, data := .fields #[.ref h.objs.size, .none, .none, .none, .bool false, .none] }, g, d, t, os⟩) :
    codeAny (model prog w) A (.builtin newId ⟨[.ref C], [(n, v)]⟩) R ⟨h, g, d, t, os⟩ := by
  have hends := F.ends
  have hcB : (Value.ref C :: bm).contains (.type B) = true := by rw [List.contains_cons, hT, F.hasB, Bool.or_true]
  have hcA : (Value.ref C :: bm).contains (.type "AttributeError") = false := by rw [List.contains_cons, hT, F.noAttr]; rfl
  have hcN : (Value.ref C :: bm).contains (.type "NameError") = false := by rw [List.contains_cons, hT, F.noName]; rfl
  refine codeAny_builtinAt F.entry ?_
  unfold Builtin.«BaseException.__new__»
  refine wpAt_bind ?_
  show wpAt _ _ _ (stack >>= _) _ _ _
  refine wpAt_bind (wpAt_stack fun p below => wpAt_of_wpAny ?_)
  wp_walk
  refine wpAt_of_wpAny ?_
  rw [F.owner]
  repeat (first | with_reducible refine wpAny_madeHere_exc F.canon hC ?_ | with_reducible refine wpAny_loadPart_at hC ?_ | (with_reducible refine wpAny_isSubtype_exc hC ?_; first | rw [hcB] | rw [hcA] | rw [hcN]) | wp_step)
  show R _ _
  rw [Heap.size_push]
  exact hq
theorem type_call_kw (F : ExcBaseFacts B newId initId bmB) (hT : ∀ X : String, bm.contains (.type X) = bmB.contains (.type X)) {n : Str} {v : Value} {fI : Addr} {Q : Fin → Shared → Prop}
    (hC : h.get? C = some (excClassObj nm q C N bs bm hdct sn sub ab col dd k0 k1 k2 k3 k5 newId))
    (hi : W.Looks (model prog w) h (typeLookup (.ref C) "__init__") (some (.ref fI))) (hb : ∀ self, W.Looks (model prog w) h (bindSpecial (.ref fI) self) (.ref fI, [self]))
    (hq : codeAny (model prog w) A (.call (.ref fI) ⟨[.ref (h.objs.size + 1)], [(n, v)]⟩)
      (fun r s' => match r with | .ok (.ret v) => v = .none ∧ Q (.done (.ret (.ref (h.objs.size + 1)))) s' | .ok _ => False | .error e => E e s')
      ⟨(h.push (W.kdv_tup [])).push (excO C h.objs.size), g, d, t, os⟩) :
    wpAny (model prog w) A (Builtin.«type.__call__» ⟨[.ref C], [(n, v)]⟩) Q E ⟨h, g, d, t, os⟩ := by
  repeat (first | with_reducible refine wpAny_loadPart_at hC ?_ | with_reducible refine wpAny_madeBy_exc hC ?_ | wp_step)
  refine codeAny_call_builtin_code (Code.quiet_builtin _ F.quiet) (check_new_kw F hT hC ?_)
  refine new_kw F hT hC ?_
  show wpAny _ _ _ _ _ _
  have k : ∀ b o, h.get? b = some o → ((h.push (W.kdv_tup [])).push (excO C h.objs.size)).get? b = some o := fun b o e => Heap.get?_push_of_some _ (Heap.get?_push_of_some _ e)
  have hC₁ := k _ _ hC
  have hget : ((h.push (W.kdv_tup [])).push (excO C h.objs.size)).get? (h.objs.size + 1) = some (excO C h.objs.size) := by heap_get
  have hcC : (Value.ref C :: bm).contains (.ref C) = true := by simp
  have i1 := hi.keeps k
  have b1 := (hb (.ref (h.objs.size + 1))).keeps k
  unfold isInstance
  repeat (first | with_reducible refine wpAny_loadPart_at hget ?_ | (with_reducible refine wpAny_isSubtype_exc hC₁ ?_; rw [hcC]) | wp_step)
  show wpAny _ _ (typeLookup (.ref C) _) _ _ _
  refine i1.at ?_
  refine wpAny_holding (wpAny_bind (b1.at ?_))
  refine wpAny_bind (wpAny_call (codeAny_mono hq fun r s' z => ?_))
  rcases r with e | (v | _ | _ | _) <;> first | exact z | exact z.elim | skip
  obtain ⟨rfl, z⟩ := z
  first
    | exact wpAny_pure (wpAny_pure z)
    | (wp_walk; exact z)
theorem call_kw (F : ExcBaseFacts B newId initId bmB) (hT : ∀ X : String, bm.contains (.type X) = bmB.contains (.type X)) {n : Str} {v : Value} {fI : Addr}
    (hC : h.get? C = some (excClassObj nm q C N bs bm hdct sn sub ab col dd k0 k1 k2 k3 k5 newId))
    (hi : W.Looks (model prog w) h (typeLookup (.ref C) "__init__") (some (.ref fI))) (hb : ∀ self, W.Looks (model prog w) h (bindSpecial (.ref fI) self) (.ref fI, [self]))
    (hq : codeAny (model prog w) (A.under (.builtin "type.__call__" ⟨[.ref C], [(n, v)]⟩)) (.call (.ref fI) ⟨[.ref (h.objs.size + 1)], [(n, v)]⟩) (W.InitBack (h.objs.size + 1) R)
      ⟨(h.push (W.kdv_tup [])).push (excO C h.objs.size), g, d, t, os⟩) :
    codeAny (model prog w) A (.call (.ref C) ⟨[], [(n, v)]⟩) R ⟨h, g, d, t, os⟩ := by
  have f1 := tc_lookup
  have f2 := tc_bind (.ref C)
  have hTy : (⟨h, g, d, t, os⟩ : Shared).TypeIs (.ref C) "type" := ⟨_, hC, rfl⟩
  refine codeAny_of_tree ?_
  show wpAny _ _ (callAny (.ref C) _) _ _ _
  repeat (any_goals (first | assumption | with_reducible refine wpAny_loadPart_at hC ?_ | wp_step))
  refine ⟨rfl, ?_⟩
  refine codeAny_call_builtin_at (Code.quiet_builtin _ (by decide +kernel)) entry_typeCall (wpAny_check_type_call_sub hC (type_call_kw F hT hC hi hb ?_))
  refine codeAny_mono hq fun r s' z => ?_
  rcases r with e | (v | _ | _ | _) <;> exact z
end
end HandSPX
end PySem

set_option Elab.async false
set_option linter.all false
set_option maxRecDepth 100000
set_option maxHeartbeats 4000000
namespace Rw
open PySem PySem.W PySem.Calls PySem.Spec PyProof.Rows
namespace Ex_index
/-! ### the text of an own error's __init__, its field being limit -/
def iA (p1 p2 : Pos) : Arguments := { posonlyargs := [], args := [{ arg := "self", annotation := none, pos := p1 }, { arg := "index", annotation := none, pos := p2 }], vararg := none, kwonlyargs := [], kw_defaults := [], kwarg := none, defaults := [] }
def iB (q1 q2 q3 q4 : Pos) : List Stmt := [.Assign [.Attribute (.Name "self" q1) "index" q2] (.Name "index" q3) q4]
def iS : Scope := { kind := .function, names := [(PySem.Str.ofString "self", .local), (PySem.Str.ofString "index", .local)], isGenerator := false, isCoroutine := false, more := [] }
/-- the facts of such a class at C, with its __init__ at fI -/
structure Tx (K : Frag) (mg : Str → Option Value) (nm : Str) (B newId initId : String) (bmB : List Value) (C fI : Addr) : Prop where
  gC : mg nm = some (.ref C)
  base : ExcBaseFacts B newId initId bmB
  stor : StoreFacts B bmB "object.__setattr__" "object"
  ini : excInitIn K C bmB newId = true
  ovr : excOver K C bmB = true
  tkr : takerIn K C "index" = some none
  sa : findIn K (.ref C) "__setattr__" = some (some (.builtin "object.__setattr__"))
  ga : findIn K (.ref C) "__getattribute__" = some (some (.builtin "BaseException.__getattribute__"))
  gg : findIn K (.ref C) "__getattr__" = some none
  noN : findIn K (.ref C) "index" = some none
  iC : findIn K (.ref C) "__init__" = some (some (.ref fI))
  tC : typeIn K (.ref fI) = some (.type "function")
  kC : keepIn K (.ref C) = true
  exC : subIn K (.ref C) (.type "BaseException") = some true
  tyC : typeIn K (.ref C) = some (.type "type")
  hdC : hasDictIn K C = true
  cls : findIn K (.ref C) "__class__" = some (some (.builtin "object.__class__"))
  cln : specialIn K (.builtin "object.__class__") "__get__" = some (some (.builtin "getset_descriptor.__get__"))
  clt : takesIn K (.builtin "object.__class__") = some true
  clm : mroIn K C (.type "object") = some true
  fn : ∃ (q : Str) (oc : Value) (od : Option Addr) (doc pm : Value) (an : Option Addr) (cdv ct : Value) (osl : Array (Option Value)) (p1 p2 q1 q2 q3 q4 : Pos),
    K.lookup fI = some ⟨oc, od, .func (fnOf "__init__" q (iA p1 p2) (iB q1 q2 q3 q4) iS .none .none doc pm an cdv ct), osl⟩ ∧ codeIn K cdv q = true
section
variable {prog : Program} {w : World} {A : Around} {E : Value → Shared → Prop} {R : Result → Shared → Prop} {s : Shared} {K : Frag} {mg : Str → Option Value} {C fI : Addr} {nm : Str} {B newId initId : String} {bmB : List Value}
theorem inited (T : Tx K mg nm B newId initId bmB C fI) {x t0 : Addr} {v : Value} (X : K.In s.heap) (hlim : s.heap.NoLimit) (hx : s.heap.get? x = some (HandSPX.excO C t0)) (hroom : A.depth < recursionLimit)
    (hq : ∀ h' tk dx, IniEnd "index" s.heap h' x C dx t0 v → R (.ok (.ret .none)) { s with heap := h', toks := tk }) :
    codeAny (model prog w) A (.call (.ref fI) ⟨[.ref x, v], []⟩) R s := by
  obtain ⟨q, oc, od, doc, pm, an, cdv, ct, osl, p1, p2, q1, q2, q3, q4, ho, hcd⟩ := T.fn
  refine Att.call_fn (binds := [("self", .ref x), ("index", v)]) X hlim ho hcd hroom (BindsTo.of_eq (by first | rfl | with_unfolding_all rfl)) (by first | rfl | decide | with_unfolding_all rfl) (fun s₁ IC => ?_) rfl rfl rfl
  obtain ⟨h₁, tk₁, rfl⟩ := IC.toInCall.same
  have k : ∀ b o, s.heap.get? b = some o → h₁.get? b = some o := IC.toInCall.keep
  have hn := IC.toInCall.ns
  have X₁ : K.In h₁ := X.keeps k
  have hx₁ := k _ _ hx
  show wpAny _ _ (execs _ _) _ _ _
  refine wpAny_execs_cons (plainObj_wpAny_Assign_Attribute ?_)
  refine nameL (v := v) hn (by first | rfl | with_unfolding_all rfl | kernel_rfl) (nameL (v := .ref x) hn (by first | rfl | with_unfolding_all rfl | kernel_rfl) ?_)
  refine set_plain X₁ (ox := HandSPX.excO C t0) (od := none) ⟨hx₁, rfl, rfl, trivial⟩ T.sa ?_
  refine firstField T.stor X₁ hx₁ T.ovr T.tkr T.hdC fun h₃ tk₃ dx k₃ dn dne hx₃ hn₃ => ?_
  show wpAny _ _ (execs _ _) _ _ _
  have z : s.heap.objs.size < h₁.objs.size := hn.lt
  exact wpAny_execs_nil (hq h₃ tk₃ dx ⟨fun b o hb e => k₃ b o hb (k b o e), hx₃, Nat.le_of_lt (Nat.lt_of_lt_of_le z dn), dne, hn₃⟩)
theorem made (T : Tx K mg nm B newId initId bmB C fI) {v : Value} (X : K.In s.heap) (hlim : s.heap.NoLimit) (hroom : A.depth + 1 < recursionLimit)
    (hq : ∀ h' tk e d, NewEx "index" s.heap h' e C d v → R (.ok (.ret (.ref e))) { s with heap := h', toks := tk }) :
    codeAny (model prog w) A (.call (.ref C) ⟨[v], []⟩) R s := by
  obtain ⟨nm, N, q, bs, bm, hdct, sn, sub, ab, col, dd, k0, k1, k2, k3, k5, hC, hT⟩ := excInit_of X T.ini
  obtain ⟨hp, g, dr, tk, os⟩ := s
  have k : ∀ b o, hp.get? b = some o → ((hp.push (kdv_tup [v])).push (HandSPX.excO C hp.objs.size)).get? b = some o := fun b o e => Heap.get?_push_of_some _ (Heap.get?_push_of_some _ e)
  have hget : ((hp.push (kdv_tup [v])).push (HandSPX.excO C hp.objs.size)).get? (hp.objs.size + 1) = some (HandSPX.excO C hp.objs.size) := by heap_get
  refine HandSPX.call_own T.base hT hC (looks_findIn X T.iC) (fun self => bind_fn X self T.tC) (by show 1 ≤ sizeLine; decide) ?_
  refine inited (s := ⟨(hp.push (kdv_tup [v])).push (HandSPX.excO C hp.objs.size), g, dr, tk, os⟩) T (X.keeps k) (hlim.keeps k) hget ?_ fun h' tk' dx ⟨k', hx, dn, dne, hns⟩ => ?_
  · show A.depth + 1 < recursionLimit
    exact hroom
  · have old : ∀ b o, hp.get? b = some o → h'.get? b = some o := fun b o e => k' b o (Nat.ne_of_lt (Nat.lt_succ_of_lt (Heap.lt_size e))) (k b o e)
    have z : hp.objs.size + 1 + 1 ≤ dx := by
      first
        | (simpa only [Heap.size_push] using dn)
        | exact dn
        | (have q := dn; rw [Heap.size_push, Heap.size_push] at q; exact q)
    exact ⟨rfl, hq h' tk' (hp.objs.size + 1) dx ⟨old, Nat.le_succ _, ⟨_, _, hx, rfl, rfl, rfl, rfl⟩, Nat.le_trans (Nat.le_trans (Nat.le_succ _) (Nat.le_succ _)) z, dne, hns⟩⟩
end
end Ex_index
namespace Ex_given
section
variable {prog : Program} {w : World} {A : Around} {E : Value → Shared → Prop} {R : Result → Shared → Prop} {s : Shared} {K : Frag} {mg : Str → Option Value} {C fI : Addr} {nm : Str} {B newId initId : String} {bmB : List Value}
theorem initedK (T : Tx K mg nm B newId initId bmB C fI) {x t0 : Addr} {v : Value} (X : K.In s.heap) (hlim : s.heap.NoLimit) (hx : s.heap.get? x = some (HandSPX.excO C t0)) (hroom : A.depth < recursionLimit)
    (hq : ∀ h' tk dx, IniEnd "given" s.heap h' x C dx t0 v → R (.ok (.ret .none)) { s with heap := h', toks := tk }) :
    codeAny (model prog w) A (.call (.ref fI) ⟨[.ref x], [("given", v)]⟩) R s := by
  obtain ⟨q, oc, od, doc, pm, an, cdv, ct, osl, p1, p2, q1, q2, q3, q4, ho, hcd⟩ := T.fn
  refine Att.call_fn (binds := [("self", .ref x), ("given", v)]) X hlim ho hcd hroom (BindsTo.of_eq (by first | rfl | with_unfolding_all rfl)) (by first | rfl | decide | with_unfolding_all rfl) (fun s₁ IC => ?_) rfl rfl rfl
  obtain ⟨h₁, tk₁, rfl⟩ := IC.toInCall.same
  have k : ∀ b o, s.heap.get? b = some o → h₁.get? b = some o := IC.toInCall.keep
  have hn := IC.toInCall.ns
  have X₁ : K.In h₁ := X.keeps k
  have hx₁ := k _ _ hx
  show wpAny _ _ (execs _ _) _ _ _
  refine wpAny_execs_cons (plainObj_wpAny_Assign_Attribute ?_)
  refine nameL (v := v) hn (by first | rfl | with_unfolding_all rfl | kernel_rfl) (nameL (v := .ref x) hn (by first | rfl | with_unfolding_all rfl | kernel_rfl) ?_)
  refine set_plain X₁ (ox := HandSPX.excO C t0) (od := none) ⟨hx₁, rfl, rfl, trivial⟩ T.sa ?_
  refine firstField T.stor X₁ hx₁ T.ovr T.tkr T.hdC fun h₃ tk₃ dx k₃ dn dne hx₃ hn₃ => ?_
  show wpAny _ _ (execs _ _) _ _ _
  have z : s.heap.objs.size < h₁.objs.size := hn.lt
  exact wpAny_execs_nil (hq h₃ tk₃ dx ⟨fun b o hb e => k₃ b o hb (k b o e), hx₃, Nat.le_of_lt (Nat.lt_of_lt_of_le z dn), dne, hn₃⟩)
theorem madeK (T : Tx K mg nm B newId initId bmB C fI) {v : Value} (X : K.In s.heap) (hlim : s.heap.NoLimit) (hroom : A.depth + 1 < recursionLimit)
    (hq : ∀ h' tk e d, NewEx "given" s.heap h' e C d v → R (.ok (.ret (.ref e))) { s with heap := h', toks := tk }) :
    codeAny (model prog w) A (.call (.ref C) ⟨[], [("given", v)]⟩) R s := by
  obtain ⟨nm, N, q, bs, bm, hdct, sn, sub, ab, col, dd, k0, k1, k2, k3, k5, hC, hT⟩ := excInit_of X T.ini
  obtain ⟨hp, g, dr, tk, os⟩ := s
  have k : ∀ b o, hp.get? b = some o → ((hp.push (kdv_tup [])).push (HandSPX.excO C hp.objs.size)).get? b = some o := fun b o e => Heap.get?_push_of_some _ (Heap.get?_push_of_some _ e)
  have hget : ((hp.push (kdv_tup [])).push (HandSPX.excO C hp.objs.size)).get? (hp.objs.size + 1) = some (HandSPX.excO C hp.objs.size) := by heap_get
  refine HandSPX.call_kw T.base hT hC (looks_findIn X T.iC) (fun self => bind_fn X self T.tC) ?_
  refine initedK (s := ⟨(hp.push (kdv_tup [])).push (HandSPX.excO C hp.objs.size), g, dr, tk, os⟩) T (X.keeps k) (hlim.keeps k) hget ?_ fun h' tk' dx ⟨k', hx, dn, dne, hns⟩ => ?_
  · show A.depth + 1 < recursionLimit
    exact hroom
  · have old : ∀ b o, hp.get? b = some o → h'.get? b = some o := fun b o e => k' b o (Nat.ne_of_lt (Nat.lt_succ_of_lt (Heap.lt_size e))) (k b o e)
    have z : hp.objs.size + 1 + 1 ≤ dx := by
      first
        | (simpa only [Heap.size_push] using dn)
        | exact dn
        | (have q := dn; rw [Heap.size_push, Heap.size_push] at q; exact q)
    exact ⟨rfl, hq h' tk' (hp.objs.size + 1) dx ⟨old, Nat.le_succ _, ⟨_, _, hx, rfl, rfl, rfl, rfl⟩, Nat.le_trans (Nat.le_trans (Nat.le_succ _) (Nat.le_succ _)) z, dne, hns⟩⟩
end
end Ex_given
namespace Ex_limit
section
variable {prog : Program} {w : World} {A : Around} {E : Value → Shared → Prop} {R : Result → Shared → Prop} {s : Shared} {K : Frag} {mg : Str → Option Value} {C fI : Addr} {nm : Str} {B newId initId : String} {bmB : List Value}
theorem initedK (T : Tx K mg nm B newId initId bmB C fI) {x t0 : Addr} {v : Value} (X : K.In s.heap) (hlim : s.heap.NoLimit) (hx : s.heap.get? x = some (HandSPX.excO C t0)) (hroom : A.depth < recursionLimit)
    (hq : ∀ h' tk dx, IniEnd "limit" s.heap h' x C dx t0 v → R (.ok (.ret .none)) { s with heap := h', toks := tk }) :
    codeAny (model prog w) A (.call (.ref fI) ⟨[.ref x], [("limit", v)]⟩) R s := by
  obtain ⟨q, oc, od, doc, pm, an, cdv, ct, osl, p1, p2, q1, q2, q3, q4, ho, hcd⟩ := T.fn
  refine Att.call_fn (binds := [("self", .ref x), ("limit", v)]) X hlim ho hcd hroom (BindsTo.of_eq (by first | rfl | with_unfolding_all rfl)) (by first | rfl | decide | with_unfolding_all rfl) (fun s₁ IC => ?_) rfl rfl rfl
  obtain ⟨h₁, tk₁, rfl⟩ := IC.toInCall.same
  have k : ∀ b o, s.heap.get? b = some o → h₁.get? b = some o := IC.toInCall.keep
  have hn := IC.toInCall.ns
  have X₁ : K.In h₁ := X.keeps k
  have hx₁ := k _ _ hx
  show wpAny _ _ (execs _ _) _ _ _
  refine wpAny_execs_cons (plainObj_wpAny_Assign_Attribute ?_)
  refine nameL (v := v) hn (by first | rfl | with_unfolding_all rfl | kernel_rfl) (nameL (v := .ref x) hn (by first | rfl | with_unfolding_all rfl | kernel_rfl) ?_)
  refine set_plain X₁ (ox := HandSPX.excO C t0) (od := none) ⟨hx₁, rfl, rfl, trivial⟩ T.sa ?_
  refine firstField T.stor X₁ hx₁ T.ovr T.tkr T.hdC fun h₃ tk₃ dx k₃ dn dne hx₃ hn₃ => ?_
  show wpAny _ _ (execs _ _) _ _ _
  have z : s.heap.objs.size < h₁.objs.size := hn.lt
  exact wpAny_execs_nil (hq h₃ tk₃ dx ⟨fun b o hb e => k₃ b o hb (k b o e), hx₃, Nat.le_of_lt (Nat.lt_of_lt_of_le z dn), dne, hn₃⟩)
theorem madeK (T : Tx K mg nm B newId initId bmB C fI) {v : Value} (X : K.In s.heap) (hlim : s.heap.NoLimit) (hroom : A.depth + 1 < recursionLimit)
    (hq : ∀ h' tk e d, NewEx "limit" s.heap h' e C d v → R (.ok (.ret (.ref e))) { s with heap := h', toks := tk }) :
    codeAny (model prog w) A (.call (.ref C) ⟨[], [("limit", v)]⟩) R s := by
  obtain ⟨nm, N, q, bs, bm, hdct, sn, sub, ab, col, dd, k0, k1, k2, k3, k5, hC, hT⟩ := excInit_of X T.ini
  obtain ⟨hp, g, dr, tk, os⟩ := s
  have k : ∀ b o, hp.get? b = some o → ((hp.push (kdv_tup [])).push (HandSPX.excO C hp.objs.size)).get? b = some o := fun b o e => Heap.get?_push_of_some _ (Heap.get?_push_of_some _ e)
  have hget : ((hp.push (kdv_tup [])).push (HandSPX.excO C hp.objs.size)).get? (hp.objs.size + 1) = some (HandSPX.excO C hp.objs.size) := by heap_get
  refine HandSPX.call_kw T.base hT hC (looks_findIn X T.iC) (fun self => bind_fn X self T.tC) ?_
  refine initedK (s := ⟨(hp.push (kdv_tup [])).push (HandSPX.excO C hp.objs.size), g, dr, tk, os⟩) T (X.keeps k) (hlim.keeps k) hget ?_ fun h' tk' dx ⟨k', hx, dn, dne, hns⟩ => ?_
  · show A.depth + 1 < recursionLimit
    exact hroom
  · have old : ∀ b o, hp.get? b = some o → h'.get? b = some o := fun b o e => k' b o (Nat.ne_of_lt (Nat.lt_succ_of_lt (Heap.lt_size e))) (k b o e)
    have z : hp.objs.size + 1 + 1 ≤ dx := by
      first
        | (simpa only [Heap.size_push] using dn)
        | exact dn
        | (have q := dn; rw [Heap.size_push, Heap.size_push] at q; exact q)
    exact ⟨rfl, hq h' tk' (hp.objs.size + 1) dx ⟨old, Nat.le_succ _, ⟨_, _, hx, rfl, rfl, rfl, rfl⟩, Nat.le_trans (Nat.le_trans (Nat.le_succ _) (Nat.le_succ _)) z, dne, hns⟩⟩
end
end Ex_limit
namespace Ex_index
section
variable {prog : Program} {w : World} {A : Around} {E : Value → Shared → Prop} {R : Result → Shared → Prop} {s : Shared} {K : Frag} {mg : Str → Option Value} {C fI : Addr} {nm : Str} {B newId initId : String} {bmB : List Value}
theorem initedK (T : Tx K mg nm B newId initId bmB C fI) {x t0 : Addr} {v : Value} (X : K.In s.heap) (hlim : s.heap.NoLimit) (hx : s.heap.get? x = some (HandSPX.excO C t0)) (hroom : A.depth < recursionLimit)
    (hq : ∀ h' tk dx, IniEnd "index" s.heap h' x C dx t0 v → R (.ok (.ret .none)) { s with heap := h', toks := tk }) :
    codeAny (model prog w) A (.call (.ref fI) ⟨[.ref x], [("index", v)]⟩) R s := by
  obtain ⟨q, oc, od, doc, pm, an, cdv, ct, osl, p1, p2, q1, q2, q3, q4, ho, hcd⟩ := T.fn
  refine Att.call_fn (binds := [("self", .ref x), ("index", v)]) X hlim ho hcd hroom (BindsTo.of_eq (by first | rfl | with_unfolding_all rfl)) (by first | rfl | decide | with_unfolding_all rfl) (fun s₁ IC => ?_) rfl rfl rfl
  obtain ⟨h₁, tk₁, rfl⟩ := IC.toInCall.same
  have k : ∀ b o, s.heap.get? b = some o → h₁.get? b = some o := IC.toInCall.keep
  have hn := IC.toInCall.ns
  have X₁ : K.In h₁ := X.keeps k
  have hx₁ := k _ _ hx
  show wpAny _ _ (execs _ _) _ _ _
  refine wpAny_execs_cons (plainObj_wpAny_Assign_Attribute ?_)
  refine nameL (v := v) hn (by first | rfl | with_unfolding_all rfl | kernel_rfl) (nameL (v := .ref x) hn (by first | rfl | with_unfolding_all rfl | kernel_rfl) ?_)
  refine set_plain X₁ (ox := HandSPX.excO C t0) (od := none) ⟨hx₁, rfl, rfl, trivial⟩ T.sa ?_
  refine firstField T.stor X₁ hx₁ T.ovr T.tkr T.hdC fun h₃ tk₃ dx k₃ dn dne hx₃ hn₃ => ?_
  show wpAny _ _ (execs _ _) _ _ _
  have z : s.heap.objs.size < h₁.objs.size := hn.lt
  exact wpAny_execs_nil (hq h₃ tk₃ dx ⟨fun b o hb e => k₃ b o hb (k b o e), hx₃, Nat.le_of_lt (Nat.lt_of_lt_of_le z dn), dne, hn₃⟩)
theorem madeK (T : Tx K mg nm B newId initId bmB C fI) {v : Value} (X : K.In s.heap) (hlim : s.heap.NoLimit) (hroom : A.depth + 1 < recursionLimit)
    (hq : ∀ h' tk e d, NewEx "index" s.heap h' e C d v → R (.ok (.ret (.ref e))) { s with heap := h', toks := tk }) :
    codeAny (model prog w) A (.call (.ref C) ⟨[], [("index", v)]⟩) R s := by
  obtain ⟨nm, N, q, bs, bm, hdct, sn, sub, ab, col, dd, k0, k1, k2, k3, k5, hC, hT⟩ := excInit_of X T.ini
  obtain ⟨hp, g, dr, tk, os⟩ := s
  have k : ∀ b o, hp.get? b = some o → ((hp.push (kdv_tup [])).push (HandSPX.excO C hp.objs.size)).get? b = some o := fun b o e => Heap.get?_push_of_some _ (Heap.get?_push_of_some _ e)
  have hget : ((hp.push (kdv_tup [])).push (HandSPX.excO C hp.objs.size)).get? (hp.objs.size + 1) = some (HandSPX.excO C hp.objs.size) := by heap_get
  refine HandSPX.call_kw T.base hT hC (looks_findIn X T.iC) (fun self => bind_fn X self T.tC) ?_
  refine initedK (s := ⟨(hp.push (kdv_tup [])).push (HandSPX.excO C hp.objs.size), g, dr, tk, os⟩) T (X.keeps k) (hlim.keeps k) hget ?_ fun h' tk' dx ⟨k', hx, dn, dne, hns⟩ => ?_
  · show A.depth + 1 < recursionLimit
    exact hroom
  · have old : ∀ b o, hp.get? b = some o → h'.get? b = some o := fun b o e => k' b o (Nat.ne_of_lt (Nat.lt_succ_of_lt (Heap.lt_size e))) (k b o e)
    have z : hp.objs.size + 1 + 1 ≤ dx := by
      first
        | (simpa only [Heap.size_push] using dn)
        | exact dn
        | (have q := dn; rw [Heap.size_push, Heap.size_push] at q; exact q)
    exact ⟨rfl, hq h' tk' (hp.objs.size + 1) dx ⟨old, Nat.le_succ _, ⟨_, _, hx, rfl, rfl, rfl, rfl⟩, Nat.le_trans (Nat.le_trans (Nat.le_succ _) (Nat.le_succ _)) z, dne, hns⟩⟩
end
end Ex_index
end Rw
namespace Rw
open PySem PySem.Spec PyProof.Rows L2
section
variable {X : Cx} {pins : List (Addr × Obj)} {σ : L2.St} {H H' : Hp} {s : Shared} {h' : Heap}
/-- many new objects laid and tracked -/
theorem Inv.grown {t' : Nat} (I : Inv X pins σ H s) (k : ∀ b u, s.heap.get? b = some u → h'.get? b = some u) (hH : ∀ b, b < s.heap.objs.size → H' b = H b) (new : ∀ b u, s.heap.objs.size ≤ b → H' b = some u → ObjOk X.prog X.w H' h' b u) : Inv X pins σ H' { s with heap := h', toks := t' } := by
  have le : ∀ b u, H b = some u → H' b = some u := fun b u e => (hH b ((I.hok b u e).lt)).trans e
  refine I.un ⟨fun b u q _ _ _ => k b u q, fun b u q _ _ _ => ⟨u.slots, k b u q⟩, fun b u q n _ => (hH b (Heap.lt_size q)).trans n, fun b u q _ => ⟨u, k b u q⟩, fun b xs q => le _ _ q, fun b u xs q => le _ _ q, fun b ps q => ⟨#[], by rw [le _ _ q]; simp⟩⟩ fun b u e => ?_
  by_cases hb : b < s.heap.objs.size
  · exact (I.hok b u ((hH b hb).symm.trans e)).stay (fun c v _ q => k c v q) (fun c q => le _ _ q) fun c xs q => le _ _ q
  · exact new b u (Nat.le_of_not_lt hb) e
end
/-- an error's object: its class, its dict -/
def XV (C : Addr) (d : Option Addr) (a : Addr) : HO := .ext fun h => ∃ (oe : Obj) (vs : Array Value), h.get? a = some oe ∧ oe.cls = .ref C ∧ oe.dict = d ∧ oe.data = .fields vs
theorem xv_ok {P : Program} {w : World} {H : Hp} {h : Heap} {a C : Addr} {d : Option Addr} {oe : Obj} {vs : Array Value} (e : h.get? a = some oe) (c : oe.cls = .ref C) (dd : oe.dict = d) (hd : oe.data = .fields vs) : ObjOk P w H h a (XV C d a) :=
  ⟨⟨oe, vs, e, c, dd, hd⟩, ⟨oe, e⟩, fun h1 h2 ⟨o1, v1, e1, r⟩ k => ⟨o1, v1, k o1 e1, r⟩⟩
/-- an error as a value, new: its dict has the field alone -/
def tMkV (f : Str) (C : Addr) (ta : TA) : TE := fun σ H Q => ta σ H fun vs H1 => ∃ v, vs = [v] ∧ ∀ e d H2, H1 e = none → H1 d = none → Same H1 H2 → H2 e = some (XV C (some d) e) → H2 d = some (.xd [(f, v)]) → Q (.ref e) H2
theorem laidV {X : Cx} {pins : List (Addr × Obj)} {σ : L2.St} {H1 : Hp} {Q : VK} {hp h' : Heap} {g : Array GenState} {dr : Drawn} {tk tk' : Nat} {os : OsState} {C e d : Addr} {v : V} {v' : Value} {f : Str}
    (I1 : Inv X pins σ H1 ⟨hp, g, dr, tk, os⟩) (rv : RelV v v') (M : NewEx f hp h' e C d v') (q1 : ∀ e d H2, H1 e = none → H1 d = none → Same H1 H2 → H2 e = some (XV C (some d) e) → H2 d = some (.xd [(f, v)]) → Q (.ref e) H2) : EP X pins σ Q (.ref e) ⟨h', g, dr, tk', os⟩ := by
  obtain ⟨oe, fv, hoe, hc, hd, hdat, h1⟩ := M.obj
  let H2 : Hp := upd (upd H1 d (.xd [(f, v)])) e (XV C (some d) e)
  have ne : d ≠ e := M.dne
  have he : H2 e = some (XV C (some d) e) := upd_same
  have hd2 : H2 d = some (.xd [(f, v)]) := (upd_ne ne).trans upd_same
  have old : ∀ b, b < hp.objs.size → H2 b = H1 b := fun b hb => (upd_ne (Nat.ne_of_lt (Nat.lt_of_lt_of_le hb M.new))).trans (upd_ne (Nat.ne_of_lt (Nat.lt_of_lt_of_le hb M.dbig)))
  have I2 : Inv X pins σ H2 ⟨h', g, dr, tk', os⟩ := by
    refine Inv.grown (t' := tk') I1 M.keep old fun b u hb e2 => ?_
    by_cases c1 : b = e
    · subst c1
      rw [he] at e2
      cases e2
      exact xv_ok hoe hc hd hdat
    · by_cases c2 : b = d
      · subst c2
        rw [hd2] at e2
        cases e2
        exact ⟨_, M.ns, fun g => relO_one rv g⟩
      · have e3 : H1 b = some u := by
          have : H2 b = H1 b := (upd_ne c1).trans (upd_ne c2)
          rw [← this]
          exact e2
        rw [I1.hok.fresh hb] at e3
        cases e3
  exact ⟨.ref e, H2, I2, rfl, q1 e d H2 (I1.hok.fresh M.new) (I1.hok.fresh M.dbig) (fun b o q => (old b (I1.hok b o q).lt).trans q) he hd2⟩
theorem Ex_given.Tx.xc' {K : PySem.W.Frag} {mg : Str → Option Value} {C fI : Addr} {nm : Str} {B newId initId : String} {bmB : List Value} (T : Ex_given.Tx K mg nm B newId initId bmB C fI) : XC K C := ⟨T.ga, T.gg, T.exC, T.hdC, T.cls, T.cln, T.clt, T.clm⟩
theorem pe_given {X : Cx} {C fI : Addr} {nm : Str} {B newId initId : String} {bmB : List Value} {a : Expr} {ta : TA} {p pos : Pos} {k : Nat} (T : Ex_given.Tx X.K X.mg nm B newId initId bmB C fI) (hr : Room k X.A) (ha : PA X [a] ta) (hg : Gl X nm := by rfl)
    (hdb : (nm == ("__debug__" : Str)) = false := by decide) (he : starEach (a :: []) X.env = (false, eval a X.env) :: starEach [] X.env := by rfl) (hpl : (backTo pos (starEach [] X.env)).any (·.1) = false := by rfl) :
    PE X (.Call (.Name nm p) [a] [] pos) (tMkV "given" C ta) := by
  refine ⟨fun pins s σ H Q I h => ?_⟩
  refine wpAny_Call_Name_kw (ld_glob I hg T.gC ?_ hdb)
  refine PySem.W.callWith_K (h₀ := X.base) I.ok.mod.kin T.kC (thn (ha.run pos pins s σ H _ I h) fun us s1 hh => ?_) he hpl
  obtain ⟨vs, H1, I1, r1, v, ev, q1⟩ := hh
  subst ev
  refine ⟨I1.kIn, ?_⟩
  cases r1 with
  | cons rv rn =>
    rename_i v' us'
    cases rn
    show wpAny _ _ (call (.ref C) [v']) _ _ _
    have hlim := I1.nolimit
    obtain ⟨hp, g, dr, tk, os⟩ := s1
    refine wpAny_call (Ex_given.made T I1.kIn hlim (by have := hr.dp; omega) fun h' tk' e d M => ?_)
    exact laidV I1 rv M q1
theorem pe_givenK {X : Cx} {C fI : Addr} {nm : Str} {B newId initId : String} {bmB : List Value} {kws : List Keyword} {tk : TA} {p pos : Pos} {k : Nat} (T : Ex_given.Tx X.K X.mg nm B newId initId bmB C fI) (hr : Room k X.A) (hkw : PK X kws tk) (hg : Gl X nm := by rfl)
    (hall : (backToKw pos (keywordEach kws X.env)).all (·.1.isSome) = true := by rfl)
    (hks : (backToKw pos (keywordEach kws X.env)).filterMap (·.1) = [("given" : Str)] := by rfl)
    (hdb : (nm == ("__debug__" : Str)) = false := by decide)
    (hpl : ((backTo pos (starEach [] X.env)).any (·.1) || (backToKw pos (keywordEach kws X.env)).any (·.1.isNone)) = false := by rfl) :
    PE X (.Call (.Name nm p) [] kws pos) (tMkV "given" C tk) := by
  refine ⟨fun pins s σ H Q I h => ?_⟩
  refine wpAny_Call_Name_kw (ld_glob I hg T.gC ?_ hdb)
  refine PySem.W.callWith_KW0 (h₀ := X.base) I.ok.mod.kin T.kC hall (thn (hkw.run pos pins s σ H _ I h) fun ws s2 hh => ?_) hpl
  obtain ⟨vs, H1, I1, r1, v, ev, q1⟩ := hh
  subst ev
  refine ⟨I1.kIn, ?_⟩
  rw [hks]
  cases r1 with
  | cons rv rn =>
    rename_i v' us'
    cases rn
    show wpAny _ _ (call (.ref C) [] [("given", v')]) _ _ _
    have hlim := I1.nolimit
    obtain ⟨hp, g, dr, tk2, os⟩ := s2
    refine wpAny_call (Ex_given.madeK T I1.kIn hlim (by have := hr.dp; omega) fun h' tk' e d M => ?_)
    exact laidV I1 rv M q1
theorem Ex_limit.Tx.xc' {K : PySem.W.Frag} {mg : Str → Option Value} {C fI : Addr} {nm : Str} {B newId initId : String} {bmB : List Value} (T : Ex_limit.Tx K mg nm B newId initId bmB C fI) : XC K C := ⟨T.ga, T.gg, T.exC, T.hdC, T.cls, T.cln, T.clt, T.clm⟩
theorem pe_limit {X : Cx} {C fI : Addr} {nm : Str} {B newId initId : String} {bmB : List Value} {a : Expr} {ta : TA} {p pos : Pos} {k : Nat} (T : Ex_limit.Tx X.K X.mg nm B newId initId bmB C fI) (hr : Room k X.A) (ha : PA X [a] ta) (hg : Gl X nm := by rfl)
    (hdb : (nm == ("__debug__" : Str)) = false := by decide) (he : starEach (a :: []) X.env = (false, eval a X.env) :: starEach [] X.env := by rfl) (hpl : (backTo pos (starEach [] X.env)).any (·.1) = false := by rfl) :
    PE X (.Call (.Name nm p) [a] [] pos) (tMkV "limit" C ta) := by
  refine ⟨fun pins s σ H Q I h => ?_⟩
  refine wpAny_Call_Name_kw (ld_glob I hg T.gC ?_ hdb)
  refine PySem.W.callWith_K (h₀ := X.base) I.ok.mod.kin T.kC (thn (ha.run pos pins s σ H _ I h) fun us s1 hh => ?_) he hpl
  obtain ⟨vs, H1, I1, r1, v, ev, q1⟩ := hh
  subst ev
  refine ⟨I1.kIn, ?_⟩
  cases r1 with
  | cons rv rn =>
    rename_i v' us'
    cases rn
    show wpAny _ _ (call (.ref C) [v']) _ _ _
    have hlim := I1.nolimit
    obtain ⟨hp, g, dr, tk, os⟩ := s1
    refine wpAny_call (Ex_limit.made T I1.kIn hlim (by have := hr.dp; omega) fun h' tk' e d M => ?_)
    exact laidV I1 rv M q1
theorem pe_limitK {X : Cx} {C fI : Addr} {nm : Str} {B newId initId : String} {bmB : List Value} {kws : List Keyword} {tk : TA} {p pos : Pos} {k : Nat} (T : Ex_limit.Tx X.K X.mg nm B newId initId bmB C fI) (hr : Room k X.A) (hkw : PK X kws tk) (hg : Gl X nm := by rfl)
    (hall : (backToKw pos (keywordEach kws X.env)).all (·.1.isSome) = true := by rfl)
    (hks : (backToKw pos (keywordEach kws X.env)).filterMap (·.1) = [("limit" : Str)] := by rfl)
    (hdb : (nm == ("__debug__" : Str)) = false := by decide)
    (hpl : ((backTo pos (starEach [] X.env)).any (·.1) || (backToKw pos (keywordEach kws X.env)).any (·.1.isNone)) = false := by rfl) :
    PE X (.Call (.Name nm p) [] kws pos) (tMkV "limit" C tk) := by
  refine ⟨fun pins s σ H Q I h => ?_⟩
  refine wpAny_Call_Name_kw (ld_glob I hg T.gC ?_ hdb)
  refine PySem.W.callWith_KW0 (h₀ := X.base) I.ok.mod.kin T.kC hall (thn (hkw.run pos pins s σ H _ I h) fun ws s2 hh => ?_) hpl
  obtain ⟨vs, H1, I1, r1, v, ev, q1⟩ := hh
  subst ev
  refine ⟨I1.kIn, ?_⟩
  rw [hks]
  cases r1 with
  | cons rv rn =>
    rename_i v' us'
    cases rn
    show wpAny _ _ (call (.ref C) [] [("limit", v')]) _ _ _
    have hlim := I1.nolimit
    obtain ⟨hp, g, dr, tk2, os⟩ := s2
    refine wpAny_call (Ex_limit.madeK T I1.kIn hlim (by have := hr.dp; omega) fun h' tk' e d M => ?_)
    exact laidV I1 rv M q1
theorem Ex_index.Tx.xc' {K : PySem.W.Frag} {mg : Str → Option Value} {C fI : Addr} {nm : Str} {B newId initId : String} {bmB : List Value} (T : Ex_index.Tx K mg nm B newId initId bmB C fI) : XC K C := ⟨T.ga, T.gg, T.exC, T.hdC, T.cls, T.cln, T.clt, T.clm⟩
theorem pe_index {X : Cx} {C fI : Addr} {nm : Str} {B newId initId : String} {bmB : List Value} {a : Expr} {ta : TA} {p pos : Pos} {k : Nat} (T : Ex_index.Tx X.K X.mg nm B newId initId bmB C fI) (hr : Room k X.A) (ha : PA X [a] ta) (hg : Gl X nm := by rfl)
    (hdb : (nm == ("__debug__" : Str)) = false := by decide) (he : starEach (a :: []) X.env = (false, eval a X.env) :: starEach [] X.env := by rfl) (hpl : (backTo pos (starEach [] X.env)).any (·.1) = false := by rfl) :
    PE X (.Call (.Name nm p) [a] [] pos) (tMkV "index" C ta) := by
  refine ⟨fun pins s σ H Q I h => ?_⟩
  refine wpAny_Call_Name_kw (ld_glob I hg T.gC ?_ hdb)
  refine PySem.W.callWith_K (h₀ := X.base) I.ok.mod.kin T.kC (thn (ha.run pos pins s σ H _ I h) fun us s1 hh => ?_) he hpl
  obtain ⟨vs, H1, I1, r1, v, ev, q1⟩ := hh
  subst ev
  refine ⟨I1.kIn, ?_⟩
  cases r1 with
  | cons rv rn =>
    rename_i v' us'
    cases rn
    show wpAny _ _ (call (.ref C) [v']) _ _ _
    have hlim := I1.nolimit
    obtain ⟨hp, g, dr, tk, os⟩ := s1
    refine wpAny_call (Ex_index.made T I1.kIn hlim (by have := hr.dp; omega) fun h' tk' e d M => ?_)
    exact laidV I1 rv M q1
theorem pe_indexK {X : Cx} {C fI : Addr} {nm : Str} {B newId initId : String} {bmB : List Value} {kws : List Keyword} {tk : TA} {p pos : Pos} {k : Nat} (T : Ex_index.Tx X.K X.mg nm B newId initId bmB C fI) (hr : Room k X.A) (hkw : PK X kws tk) (hg : Gl X nm := by rfl)
    (hall : (backToKw pos (keywordEach kws X.env)).all (·.1.isSome) = true := by rfl)
    (hks : (backToKw pos (keywordEach kws X.env)).filterMap (·.1) = [("index" : Str)] := by rfl)
    (hdb : (nm == ("__debug__" : Str)) = false := by decide)
    (hpl : ((backTo pos (starEach [] X.env)).any (·.1) || (backToKw pos (keywordEach kws X.env)).any (·.1.isNone)) = false := by rfl) :
    PE X (.Call (.Name nm p) [] kws pos) (tMkV "index" C tk) := by
  refine ⟨fun pins s σ H Q I h => ?_⟩
  refine wpAny_Call_Name_kw (ld_glob I hg T.gC ?_ hdb)
  refine PySem.W.callWith_KW0 (h₀ := X.base) I.ok.mod.kin T.kC hall (thn (hkw.run pos pins s σ H _ I h) fun ws s2 hh => ?_) hpl
  obtain ⟨vs, H1, I1, r1, v, ev, q1⟩ := hh
  subst ev
  refine ⟨I1.kIn, ?_⟩
  rw [hks]
  cases r1 with
  | cons rv rn =>
    rename_i v' us'
    cases rn
    show wpAny _ _ (call (.ref C) [] [("index", v')]) _ _ _
    have hlim := I1.nolimit
    obtain ⟨hp, g, dr, tk2, os⟩ := s2
    refine wpAny_call (Ex_index.madeK T I1.kIn hlim (by have := hr.dp; omega) fun h' tk' e d M => ?_)
    exact laidV I1 rv M q1
end Rw

set_option Elab.async false
set_option linter.all false
set_option maxRecDepth 100000
set_option maxHeartbeats 4000000
namespace Rw
open PySem PySem.Spec PyProof.Rows L2
section
variable {X : Cx}
/-- an error at a, as a value -/
structure VAt (K : PySem.W.Frag) (H : Hp) (a C : Addr) (d : Option Addr) : Prop where
  xc : XC K C
  at_ : H a = some (XV C d a)
  dct : ∀ dd, d = some dd → ∃ fs, H dd = some (.xd fs)
theorem VAt.mono {K : PySem.W.Frag} {H H' : Hp} {a C : Addr} {d : Option Addr} (h : VAt K H a C d) (s : Same H H') : VAt K H' a C d := ⟨h.xc, s _ _ h.at_, fun dd e => by
  obtain ⟨fs, q⟩ := h.dct dd e
  exact ⟨fs, s _ _ q⟩⟩
theorem VAt.inst {pins : List (Addr × Obj)} {σ : L2.St} {H : Hp} {s : Shared} {a C : Addr} {d : Option Addr} (I : Inv X pins σ H s) (h : VAt X.K H a C d) : ∃ oe od, PySem.W.InstAt s.heap a oe C od := by
  obtain ⟨⟨oe, vs, he, hc, hd, hf⟩, _⟩ := I.hok a _ h.at_
  have nc : PySem.W.notCls oe := by unfold PySem.W.notCls; rw [hf] <;> rfl
  cases d with
  | none => exact ⟨oe, none, he, hc, nc, by rw [hd]; trivial⟩
  | some dd =>
    obtain ⟨fs, hx⟩ := h.dct dd rfl
    obtain ⟨mA, hns, _⟩ := (I.hok dd _ hx : ObjOk X.prog X.w H s.heap dd (.xd fs))
    obtain ⟨od, ho, _⟩ := lookIn_ns hns
    exact ⟨oe, some od, he, hc, nc, by rw [hd]; exact ho⟩
/-- isinstance(e, c), e an error as a value -/
def rIsV (K : PySem.W.Frag) : List V → Hp → VK → Prop := fun xs H Q => ∃ (a C : Addr) (d : Option Addr) (c : V) (cv : Value) (b : Bool), xs = [.ref a, c] ∧ VAt K H a C d ∧ ClsV c cv ∧ PySem.W.kitOne K (.ref C) cv = some b ∧ Q (.bl b) H
theorem call_isV : CallR X (.builtin "isinstance") (rIsV X.K) := by
  intro pins s σ H xs us Q I r h
  obtain ⟨a, C, d, c, cv, b, rfl, hand, hcv, e, q⟩ := h
  cases r with
  | cons rx rr =>
    cases rr with
    | cons rt rr =>
      cases rr
      cases rx
      have ec := hcv.eq rt
      subst ec
      obtain ⟨oe, od, J⟩ := hand.inst I
      have cl : (PySem.W.clsIn X.K C).isSome = true := by
        obtain ⟨cd, hc, _⟩ := PySem.W.any_some hand.xc.hdC
        rw [hc] <;> rfl
      exact PySem.W.kia_one (PySem.W.kitx_exc cl hand.xc.ga hand.xc.gg hand.xc.exC hand.xc.cls hand.xc.cln hand.xc.clt hand.xc.clm) I.kIn J e (fun z => nomatch z) fun tk => ⟨.bl b, H, I.kept (t' := tk) fun _ _ z => z, rfl, q⟩
theorem w_isV {K : PySem.W.Frag} (h : X.K = K := by rfl) : CallR X (.builtin "isinstance") (rIsV K) := by subst h; exact call_isV
/-- e.f -/
def tFldV (K : PySem.W.Frag) (f : Str) (te : TE) : TE := fun σ H Q => te σ H fun x H1 => ∃ (a C d : Addr) (fs : List (Str × V)) (v : V), x = .ref a ∧ XC K C ∧ H1 a = some (XV C (some d) a) ∧ H1 d = some (.xd fs) ∧ PySem.W.findIn K (.ref C) f = some none ∧ fs.lookup f = some v ∧ Q v H1
theorem pe_fldV {K : PySem.W.Frag} {e : Expr} {te : TE} {pos : Pos} {n : Str} (hK : X.K = K) (he : PE X e te) (hb : attributeBase e n X.env (eval e X.env) = eval e X.env := by rfl) : PE X (.Attribute e n pos) (tFldV K n te) := by
  subst hK
  constructor
  intro pins s σ H Q I h
  refine attr_of hb (thn (he.run pins s σ H _ I h) fun u s1 hh => ?_)
  obtain ⟨x, H1, I1, rx, a, C, d, fs, v, rfl, xc, ha, hd, hno, l, q⟩ := hh
  obtain rfl : u = Value.ref a := rx
  obtain ⟨⟨oe, vs, hoe, hc, hdd, hf⟩, _⟩ := I1.hok a _ ha
  obtain ⟨mA, hns, hr⟩ := (I1.hok d _ hd : ObjOk X.prog X.w H1 s1.heap d (.xd fs))
  obtain ⟨od, ho, hl⟩ := lookIn_ns hns
  have J : PySem.W.InstAt s1.heap a oe C (some od) := ⟨hoe, hc, by unfold PySem.W.notCls; rw [hf] <;> rfl, by rw [hdd]; exact ho⟩
  obtain ⟨u, hu, ru⟩ := RelO.some_of (v := v) (o := mA n) (by rw [← l]; exact hr n)
  exact HandSPX.exc_get I1.kIn J xc.ga xc.gg xc.exC (PySem.W.findObj_own xc.hdC hno rfl (by rw [hl, hu])) (handed_of ru) ⟨v, H1, I1.tok _, ru, q⟩
/-- X(), an own error without own __init__, as a value -/
structure Tx0 (K : PySem.W.Frag) (mg : Str → Option Value) (nm : Str) (B newId initId : String) (bmB : List Value) (C : Addr) : Prop where
  gC : mg nm = some (.ref C)
  base : ExcBaseFacts B newId initId bmB
  ini : PySem.W.excIn K C bmB newId = true
  ga : PySem.W.findIn K (.ref C) "__getattribute__" = some (some (.builtin "BaseException.__getattribute__"))
  gg : PySem.W.findIn K (.ref C) "__getattr__" = some none
  kC : PySem.W.keepIn K (.ref C) = true
  exC : PySem.W.subIn K (.ref C) (.type "BaseException") = some true
  hdC : PySem.W.hasDictIn K C = true
  cls : PySem.W.findIn K (.ref C) "__class__" = some (some (.builtin "object.__class__"))
  cln : PySem.W.specialIn K (.builtin "object.__class__") "__get__" = some (some (.builtin "getset_descriptor.__get__"))
  clt : PySem.W.takesIn K (.builtin "object.__class__") = some true
  clm : PySem.W.mroIn K C (.type "object") = some true
theorem Tx0.xc {K : PySem.W.Frag} {mg : Str → Option Value} {C : Addr} {nm : Str} {B newId initId : String} {bmB : List Value} (T : Tx0 K mg nm B newId initId bmB C) : XC K C := ⟨T.ga, T.gg, T.exC, T.hdC, T.cls, T.cln, T.clt, T.clm⟩
theorem pe_none {C : Addr} {nm : Str} {B newId initId : String} {bmB : List Value} {p pos : Pos} (T : Tx0 X.K X.mg nm B newId initId bmB C) (hg : Gl X nm := by rfl) (hdb : (nm == ("__debug__" : Str)) = false := by decide) :
    PE X (.Call (.Name nm p) [] [] pos) (fun σ H1 Q => ∀ e H2, H1 e = none → Same H1 H2 → H2 e = some (XV C none e) → Q (.ref e) H2) := by
  refine ⟨fun pins s σ H Q I h => ?_⟩
  refine wpAny_Call_Name_kw (ld_glob I hg T.gC ?_ hdb)
  refine PySem.W.callWith_K0 I.kIn T.kC ?_
  show wpAny _ _ (call (.ref C) []) _ _ _
  obtain ⟨bm, N, nm, qn, bs, hdct, sn, sub, ab, col, dd, k0, k1, k2, k3, k5, mN, hC, hN, hni, T2⟩ := exc_obj I.kIn T.ini
  refine wpAny_call_exc_subT T.base T2 hC hN hni (fun h' a hm => ?_) (by show 0 ≤ sizeLine; rw [sizeLine_eq]; omega)
  have hn : H a = none := I.hok.gone hm.new
  obtain ⟨t, ht, _, _⟩ := hm.there
  refine ⟨.ref a, upd H a (XV C none a), I.laidN hm.keeps hm.new hn (xv_ok ht rfl rfl rfl), rfl, h a _ hn (fun b o q => ?_) upd_same⟩
  rw [upd_ne (fun z => by rw [z, hn] at q; cases q)]
  exact q
end
end Rw

set_option Elab.async false
set_option linter.all false
set_option maxRecDepth 100000
set_option maxHeartbeats 4000000
namespace K6
open PySem PySem.Spec PyProof.Rows L2 Rw
/-! ### the text by places, the names of each def -/
def topS (i : Nat) : Stmt := PySem.Challenge.pw_rowreaders_k01_constants_and_errors.main.body.getD i (.Pass ⟨0, 0, 0, 0⟩)
abbrev s_l_given : Stmt := topS 52
abbrev n_l_given : List Str := ["_law_found"]
abbrev p_l_given : List Str := []
theorem sc_l_given : FnScope n_l_given p_l_given (defScope s_l_given) := ⟨rfl, rfl, rfl, by decide +kernel, rfl, by decide +kernel, by decide +kernel⟩
abbrev s_l_bases : Stmt := topS 53
abbrev n_l_bases : List Str := ["_law_e", "_law_found"]
abbrev p_l_bases : List Str := ["_law_e"]
theorem sc_l_bases : FnScope n_l_bases p_l_bases (defScope s_l_bases) := ⟨rfl, rfl, rfl, by decide +kernel, rfl, by decide +kernel, by decide +kernel⟩
abbrev s_l_sorts : Stmt := topS 54
abbrev n_l_sorts : List Str := ["_law_e", "_law_found", "_law_at"]
abbrev p_l_sorts : List Str := ["_law_e"]
theorem sc_l_sorts : FnScope n_l_sorts p_l_sorts (defScope s_l_sorts) := ⟨rfl, rfl, rfl, by decide +kernel, rfl, by decide +kernel, by decide +kernel⟩
abbrev s_law : Stmt := topS 55
abbrev n_law : List Str := ["_law_script", "_law_told", "_law_every", "_law_bases_here", "_law_kept", "_law_e", "_law_at"]
abbrev p_law : List Str := ["_law_script"]
theorem sc_law : FnScope n_law p_law (defScope s_law) := ⟨rfl, rfl, rfl, by decide +kernel, rfl, by decide +kernel, by decide +kernel⟩
/-! ### where the defs stand -/
structure Ad where
  l_given : Addr
  l_bases : Addr
  l_sorts : Addr
  law : Addr
  x_WrongValue : Addr
  x_WrongName : Addr
  x_NoAnswer : Addr
  x_InvalidSigns : Addr
  xi_InvalidSigns : Addr
  x_InvalidArrows : Addr
  xi_InvalidArrows : Addr
  x_InvalidEnds : Addr
  xi_InvalidEnds : Addr
  x_InvalidRow : Addr
  xi_InvalidRow : Addr
  x_InvalidNumber : Addr
  xi_InvalidNumber : Addr
  x_InvalidStand : Addr
  xi_InvalidStand : Addr
  x_InvalidSign : Addr
  xi_InvalidSign : Addr
  x_InvalidBook : Addr
  xi_InvalidBook : Addr
  x_InvalidPlan : Addr
  xi_InvalidPlan : Addr
  x_InvalidSteps : Addr
  xi_InvalidSteps : Addr
  x_InvalidWeights : Addr
  xi_InvalidWeights : Addr
  x_InvalidOutputs : Addr
  xi_InvalidOutputs : Addr
  x_InvalidMarks : Addr
  xi_InvalidMarks : Addr
  x_InvalidFormula : Addr
  xi_InvalidFormula : Addr
  x_InvalidTold : Addr
  xi_InvalidTold : Addr
  x_InvalidText : Addr
  xi_InvalidText : Addr
  x_InvalidName : Addr
  xi_InvalidName : Addr
  x_InvalidClaim : Addr
  xi_InvalidClaim : Addr
  x_InvalidIndex : Addr
  xi_InvalidIndex : Addr
  x_InvalidLine : Addr
  xi_InvalidLine : Addr
  x_NotAReader : Addr
  xi_NotAReader : Addr
  x_NotAGuesser : Addr
  xi_NotAGuesser : Addr
  x_NotAWeigher : Addr
  xi_NotAWeigher : Addr
  x_NotAWriter : Addr
  xi_NotAWriter : Addr
  x_NotAWatcher : Addr
  xi_NotAWatcher : Addr
  x_InvalidDeeds : Addr
  xi_InvalidDeeds : Addr
  x_InvalidLog : Addr
  xi_InvalidLog : Addr
  x_UnknownName : Addr
  xi_UnknownName : Addr
  x_InUse : Addr
  xi_InUse : Addr
  x_UnlikeSigns : Addr
  x_NotFull : Addr
  x_TooMany : Addr
  xi_TooMany : Addr
  x_NothingToUndo : Addr
  x_Broken : Addr
  xi_Broken : Addr
/-- which sorts an error is of -/
def bas (i : Nat) : List Bool := if i < 27 then [true, false, false, true, false, false] else if i < 29 then [false, true, false, false, true, false] else [false, false, true, false, false, true]
def kkB (K : PySem.W.Frag) (xs : List Addr) : Bool := xs.zipIdx.all fun p => xs.zipIdx.all fun q => PySem.W.kitOne K (.ref p.1) (.ref q.1) == some (p.2 == q.2)
def kbB (K : PySem.W.Frag) (xs : List Addr) (bs : List Value) : Bool := xs.zipIdx.all fun p => bs.zipIdx.all fun q => PySem.W.kitOne K (.ref p.1) q.1 == some ((bas p.2).getD q.2 false)
structure Txt (K : PySem.W.Frag) (mg : Str → Option Value) (A : Ad) : Prop where
  b_ArithmeticError : mg "ArithmeticError" = none
  b_LookupError : mg "LookupError" = none
  b_ValueError : mg "ValueError" = none
  b_isinstance : mg "isinstance" = none
  b_range : mg "range" = none
  c_MOST_CHANGES : ∃ t, mg "MOST_CHANGES" = some (.int 60 t)
  c_MOST_DEEDS : ∃ t, mg "MOST_DEEDS" = some (.int 500 t)
  c_MOST_GUESSED : ∃ t, mg "MOST_GUESSED" = some (.int 12 t)
  c_MOST_LED : ∃ t, mg "MOST_LED" = some (.int 12 t)
  c_MOST_LISTED : ∃ t, mg "MOST_LISTED" = some (.int 1000 t)
  c_MOST_LOOKS : ∃ t, mg "MOST_LOOKS" = some (.int 2000 t)
  c_MOST_PARTED : ∃ t, mg "MOST_PARTED" = some (.int 8 t)
  c_MOST_ROW : ∃ t, mg "MOST_ROW" = some (.int 200 t)
  c_MOST_SIGNS : ∃ t, mg "MOST_SIGNS" = some (.int 8 t)
  c_MOST_SIZE : ∃ t, mg "MOST_SIZE" = some (.int 6 t)
  c_MOST_STANDS : ∃ t, mg "MOST_STANDS" = some (.int 200 t)
  c_MOST_WEIGHED : ∃ t, mg "MOST_WEIGHED" = some (.int 36 t)
  c_MOST_WORD : ∃ t, mg "MOST_WORD" = some (.int 4 t)
  m_l_given : mg "_law_given" = some (.ref A.l_given)
  k_l_given : PySem.W.keepIn K (.ref A.l_given) = true
  m_l_bases : mg "_law_bases" = some (.ref A.l_bases)
  k_l_bases : PySem.W.keepIn K (.ref A.l_bases) = true
  m_l_sorts : mg "_law_sorts" = some (.ref A.l_sorts)
  k_l_sorts : PySem.W.keepIn K (.ref A.l_sorts) = true
  m_law : mg "law" = some (.ref A.law)
  k_law : PySem.W.keepIn K (.ref A.law) = true
  t_hn : PySem.W.specialIn K (.builtin "object.__class__") "__get__" = some (some (.builtin "getset_descriptor.__get__"))
  t_tk : PySem.W.takesIn K (.builtin "object.__class__") = some true
  mx_WrongValue : mg "WrongValue" = some (.ref A.x_WrongValue)
  mx_WrongName : mg "WrongName" = some (.ref A.x_WrongName)
  mx_NoAnswer : mg "NoAnswer" = some (.ref A.x_NoAnswer)
  mx_InvalidSigns : mg "InvalidSigns" = some (.ref A.x_InvalidSigns)
  mx_InvalidArrows : mg "InvalidArrows" = some (.ref A.x_InvalidArrows)
  mx_InvalidEnds : mg "InvalidEnds" = some (.ref A.x_InvalidEnds)
  mx_InvalidRow : mg "InvalidRow" = some (.ref A.x_InvalidRow)
  mx_InvalidNumber : mg "InvalidNumber" = some (.ref A.x_InvalidNumber)
  mx_InvalidStand : mg "InvalidStand" = some (.ref A.x_InvalidStand)
  mx_InvalidSign : mg "InvalidSign" = some (.ref A.x_InvalidSign)
  mx_InvalidBook : mg "InvalidBook" = some (.ref A.x_InvalidBook)
  mx_InvalidPlan : mg "InvalidPlan" = some (.ref A.x_InvalidPlan)
  mx_InvalidSteps : mg "InvalidSteps" = some (.ref A.x_InvalidSteps)
  mx_InvalidWeights : mg "InvalidWeights" = some (.ref A.x_InvalidWeights)
  mx_InvalidOutputs : mg "InvalidOutputs" = some (.ref A.x_InvalidOutputs)
  mx_InvalidMarks : mg "InvalidMarks" = some (.ref A.x_InvalidMarks)
  mx_InvalidFormula : mg "InvalidFormula" = some (.ref A.x_InvalidFormula)
  mx_InvalidTold : mg "InvalidTold" = some (.ref A.x_InvalidTold)
  mx_InvalidText : mg "InvalidText" = some (.ref A.x_InvalidText)
  mx_InvalidName : mg "InvalidName" = some (.ref A.x_InvalidName)
  mx_InvalidClaim : mg "InvalidClaim" = some (.ref A.x_InvalidClaim)
  mx_InvalidIndex : mg "InvalidIndex" = some (.ref A.x_InvalidIndex)
  mx_InvalidLine : mg "InvalidLine" = some (.ref A.x_InvalidLine)
  mx_NotAReader : mg "NotAReader" = some (.ref A.x_NotAReader)
  mx_NotAGuesser : mg "NotAGuesser" = some (.ref A.x_NotAGuesser)
  mx_NotAWeigher : mg "NotAWeigher" = some (.ref A.x_NotAWeigher)
  mx_NotAWriter : mg "NotAWriter" = some (.ref A.x_NotAWriter)
  mx_NotAWatcher : mg "NotAWatcher" = some (.ref A.x_NotAWatcher)
  mx_InvalidDeeds : mg "InvalidDeeds" = some (.ref A.x_InvalidDeeds)
  mx_InvalidLog : mg "InvalidLog" = some (.ref A.x_InvalidLog)
  mx_UnknownName : mg "UnknownName" = some (.ref A.x_UnknownName)
  mx_InUse : mg "InUse" = some (.ref A.x_InUse)
  mx_UnlikeSigns : mg "UnlikeSigns" = some (.ref A.x_UnlikeSigns)
  mx_NotFull : mg "NotFull" = some (.ref A.x_NotFull)
  mx_TooMany : mg "TooMany" = some (.ref A.x_TooMany)
  mx_NothingToUndo : mg "NothingToUndo" = some (.ref A.x_NothingToUndo)
  mx_Broken : mg "Broken" = some (.ref A.x_Broken)
  x_InvalidSigns : Ex_given.Tx K mg "InvalidSigns" "ValueError" "ValueError.__new__" "ValueError.__init__" [.type "ValueError", .type "Exception", .type "BaseException", .type "object"] A.x_InvalidSigns A.xi_InvalidSigns
  x_InvalidArrows : Ex_given.Tx K mg "InvalidArrows" "ValueError" "ValueError.__new__" "ValueError.__init__" [.type "ValueError", .type "Exception", .type "BaseException", .type "object"] A.x_InvalidArrows A.xi_InvalidArrows
  x_InvalidEnds : Ex_given.Tx K mg "InvalidEnds" "ValueError" "ValueError.__new__" "ValueError.__init__" [.type "ValueError", .type "Exception", .type "BaseException", .type "object"] A.x_InvalidEnds A.xi_InvalidEnds
  x_InvalidRow : Ex_given.Tx K mg "InvalidRow" "ValueError" "ValueError.__new__" "ValueError.__init__" [.type "ValueError", .type "Exception", .type "BaseException", .type "object"] A.x_InvalidRow A.xi_InvalidRow
  x_InvalidNumber : Ex_given.Tx K mg "InvalidNumber" "ValueError" "ValueError.__new__" "ValueError.__init__" [.type "ValueError", .type "Exception", .type "BaseException", .type "object"] A.x_InvalidNumber A.xi_InvalidNumber
  x_InvalidStand : Ex_given.Tx K mg "InvalidStand" "ValueError" "ValueError.__new__" "ValueError.__init__" [.type "ValueError", .type "Exception", .type "BaseException", .type "object"] A.x_InvalidStand A.xi_InvalidStand
  x_InvalidSign : Ex_given.Tx K mg "InvalidSign" "ValueError" "ValueError.__new__" "ValueError.__init__" [.type "ValueError", .type "Exception", .type "BaseException", .type "object"] A.x_InvalidSign A.xi_InvalidSign
  x_InvalidBook : Ex_given.Tx K mg "InvalidBook" "ValueError" "ValueError.__new__" "ValueError.__init__" [.type "ValueError", .type "Exception", .type "BaseException", .type "object"] A.x_InvalidBook A.xi_InvalidBook
  x_InvalidPlan : Ex_given.Tx K mg "InvalidPlan" "ValueError" "ValueError.__new__" "ValueError.__init__" [.type "ValueError", .type "Exception", .type "BaseException", .type "object"] A.x_InvalidPlan A.xi_InvalidPlan
  x_InvalidSteps : Ex_given.Tx K mg "InvalidSteps" "ValueError" "ValueError.__new__" "ValueError.__init__" [.type "ValueError", .type "Exception", .type "BaseException", .type "object"] A.x_InvalidSteps A.xi_InvalidSteps
  x_InvalidWeights : Ex_given.Tx K mg "InvalidWeights" "ValueError" "ValueError.__new__" "ValueError.__init__" [.type "ValueError", .type "Exception", .type "BaseException", .type "object"] A.x_InvalidWeights A.xi_InvalidWeights
  x_InvalidOutputs : Ex_given.Tx K mg "InvalidOutputs" "ValueError" "ValueError.__new__" "ValueError.__init__" [.type "ValueError", .type "Exception", .type "BaseException", .type "object"] A.x_InvalidOutputs A.xi_InvalidOutputs
  x_InvalidMarks : Ex_given.Tx K mg "InvalidMarks" "ValueError" "ValueError.__new__" "ValueError.__init__" [.type "ValueError", .type "Exception", .type "BaseException", .type "object"] A.x_InvalidMarks A.xi_InvalidMarks
  x_InvalidFormula : Ex_given.Tx K mg "InvalidFormula" "ValueError" "ValueError.__new__" "ValueError.__init__" [.type "ValueError", .type "Exception", .type "BaseException", .type "object"] A.x_InvalidFormula A.xi_InvalidFormula
  x_InvalidTold : Ex_given.Tx K mg "InvalidTold" "ValueError" "ValueError.__new__" "ValueError.__init__" [.type "ValueError", .type "Exception", .type "BaseException", .type "object"] A.x_InvalidTold A.xi_InvalidTold
  x_InvalidText : Ex_given.Tx K mg "InvalidText" "ValueError" "ValueError.__new__" "ValueError.__init__" [.type "ValueError", .type "Exception", .type "BaseException", .type "object"] A.x_InvalidText A.xi_InvalidText
  x_InvalidName : Ex_given.Tx K mg "InvalidName" "ValueError" "ValueError.__new__" "ValueError.__init__" [.type "ValueError", .type "Exception", .type "BaseException", .type "object"] A.x_InvalidName A.xi_InvalidName
  x_InvalidClaim : Ex_given.Tx K mg "InvalidClaim" "ValueError" "ValueError.__new__" "ValueError.__init__" [.type "ValueError", .type "Exception", .type "BaseException", .type "object"] A.x_InvalidClaim A.xi_InvalidClaim
  x_InvalidIndex : Ex_given.Tx K mg "InvalidIndex" "ValueError" "ValueError.__new__" "ValueError.__init__" [.type "ValueError", .type "Exception", .type "BaseException", .type "object"] A.x_InvalidIndex A.xi_InvalidIndex
  x_InvalidLine : Ex_given.Tx K mg "InvalidLine" "ValueError" "ValueError.__new__" "ValueError.__init__" [.type "ValueError", .type "Exception", .type "BaseException", .type "object"] A.x_InvalidLine A.xi_InvalidLine
  x_NotAReader : Ex_given.Tx K mg "NotAReader" "ValueError" "ValueError.__new__" "ValueError.__init__" [.type "ValueError", .type "Exception", .type "BaseException", .type "object"] A.x_NotAReader A.xi_NotAReader
  x_NotAGuesser : Ex_given.Tx K mg "NotAGuesser" "ValueError" "ValueError.__new__" "ValueError.__init__" [.type "ValueError", .type "Exception", .type "BaseException", .type "object"] A.x_NotAGuesser A.xi_NotAGuesser
  x_NotAWeigher : Ex_given.Tx K mg "NotAWeigher" "ValueError" "ValueError.__new__" "ValueError.__init__" [.type "ValueError", .type "Exception", .type "BaseException", .type "object"] A.x_NotAWeigher A.xi_NotAWeigher
  x_NotAWriter : Ex_given.Tx K mg "NotAWriter" "ValueError" "ValueError.__new__" "ValueError.__init__" [.type "ValueError", .type "Exception", .type "BaseException", .type "object"] A.x_NotAWriter A.xi_NotAWriter
  x_NotAWatcher : Ex_given.Tx K mg "NotAWatcher" "ValueError" "ValueError.__new__" "ValueError.__init__" [.type "ValueError", .type "Exception", .type "BaseException", .type "object"] A.x_NotAWatcher A.xi_NotAWatcher
  x_InvalidDeeds : Ex_index.Tx K mg "InvalidDeeds" "ValueError" "ValueError.__new__" "ValueError.__init__" [.type "ValueError", .type "Exception", .type "BaseException", .type "object"] A.x_InvalidDeeds A.xi_InvalidDeeds
  x_InvalidLog : Ex_index.Tx K mg "InvalidLog" "ValueError" "ValueError.__new__" "ValueError.__init__" [.type "ValueError", .type "Exception", .type "BaseException", .type "object"] A.x_InvalidLog A.xi_InvalidLog
  x_UnknownName : Ex_given.Tx K mg "UnknownName" "LookupError" "LookupError.__new__" "LookupError.__init__" [.type "LookupError", .type "Exception", .type "BaseException", .type "object"] A.x_UnknownName A.xi_UnknownName
  x_InUse : Ex_index.Tx K mg "InUse" "LookupError" "LookupError.__new__" "LookupError.__init__" [.type "LookupError", .type "Exception", .type "BaseException", .type "object"] A.x_InUse A.xi_InUse
  x_UnlikeSigns : Tx0 K mg "UnlikeSigns" "ArithmeticError" "ArithmeticError.__new__" "ArithmeticError.__init__" [.type "ArithmeticError", .type "Exception", .type "BaseException", .type "object"] A.x_UnlikeSigns
  x_NotFull : Tx0 K mg "NotFull" "ArithmeticError" "ArithmeticError.__new__" "ArithmeticError.__init__" [.type "ArithmeticError", .type "Exception", .type "BaseException", .type "object"] A.x_NotFull
  x_TooMany : Ex_limit.Tx K mg "TooMany" "ArithmeticError" "ArithmeticError.__new__" "ArithmeticError.__init__" [.type "ArithmeticError", .type "Exception", .type "BaseException", .type "object"] A.x_TooMany A.xi_TooMany
  x_NothingToUndo : Tx0 K mg "NothingToUndo" "ArithmeticError" "ArithmeticError.__new__" "ArithmeticError.__init__" [.type "ArithmeticError", .type "Exception", .type "BaseException", .type "object"] A.x_NothingToUndo
  x_Broken : Ex_index.Tx K mg "Broken" "ArithmeticError" "ArithmeticError.__new__" "ArithmeticError.__init__" [.type "ArithmeticError", .type "Exception", .type "BaseException", .type "object"] A.x_Broken A.xi_Broken
  kk : kkB K [A.x_InvalidSigns, A.x_InvalidArrows, A.x_InvalidEnds, A.x_InvalidRow, A.x_InvalidNumber, A.x_InvalidStand, A.x_InvalidSign, A.x_InvalidBook, A.x_InvalidPlan, A.x_InvalidSteps, A.x_InvalidWeights, A.x_InvalidOutputs, A.x_InvalidMarks, A.x_InvalidFormula, A.x_InvalidTold, A.x_InvalidText, A.x_InvalidName, A.x_InvalidClaim, A.x_InvalidIndex, A.x_InvalidLine, A.x_NotAReader, A.x_NotAGuesser, A.x_NotAWeigher, A.x_NotAWriter, A.x_NotAWatcher, A.x_InvalidDeeds, A.x_InvalidLog, A.x_UnknownName, A.x_InUse, A.x_UnlikeSigns, A.x_NotFull, A.x_TooMany, A.x_NothingToUndo, A.x_Broken] = true
  kb : kbB K [A.x_InvalidSigns, A.x_InvalidArrows, A.x_InvalidEnds, A.x_InvalidRow, A.x_InvalidNumber, A.x_InvalidStand, A.x_InvalidSign, A.x_InvalidBook, A.x_InvalidPlan, A.x_InvalidSteps, A.x_InvalidWeights, A.x_InvalidOutputs, A.x_InvalidMarks, A.x_InvalidFormula, A.x_InvalidTold, A.x_InvalidText, A.x_InvalidName, A.x_InvalidClaim, A.x_InvalidIndex, A.x_InvalidLine, A.x_NotAReader, A.x_NotAGuesser, A.x_NotAWeigher, A.x_NotAWriter, A.x_NotAWatcher, A.x_InvalidDeeds, A.x_InvalidLog, A.x_UnknownName, A.x_InUse, A.x_UnlikeSigns, A.x_NotFull, A.x_TooMany, A.x_NothingToUndo, A.x_Broken] [.ref A.x_WrongValue, .ref A.x_WrongName, .ref A.x_NoAnswer, .type "ValueError", .type "LookupError", .type "ArithmeticError"] = true
/-! ### the defs themselves -/
structure Fds where
  l_given : FuncData
  l_bases : FuncData
  l_sorts : FuncData
  law : FuncData
structure Funs (K : PySem.W.Frag) (A : Ad) (fd : Fds) : Prop where
  F_l_given : Fun K "_law_given" "_law_given" s_l_given A.l_given fd.l_given
  b_l_given : L2.Binds K fd.l_given p_l_given []
  F_l_bases : Fun K "_law_bases" "_law_bases" s_l_bases A.l_bases fd.l_bases
  b_l_bases : L2.Binds K fd.l_bases p_l_bases []
  F_l_sorts : Fun K "_law_sorts" "_law_sorts" s_l_sorts A.l_sorts fd.l_sorts
  b_l_sorts : L2.Binds K fd.l_sorts p_l_sorts []
  F_law : Fun K "law" "law" s_law A.law fd.law
  b_law : L2.Binds K fd.law p_law []
end K6

set_option Elab.async false
set_option linter.all false
set_option maxRecDepth 100000
set_option maxHeartbeats 4000000
namespace K6
open PySem PySem.Spec PyProof.Rows L2 Rw
/-! ### data that stands in the heap -/
section
variable {K : PySem.W.Frag} {H H' H1 : Hp}
theorem sqL_mono (s : Same H H') {a : Addr} {xs : List V} (h : SqL K H a xs) : SqL K H' a xs := s.seq h
theorem sqT_mono (s : Same H H') {a : Addr} {xs : List V} (h : SqT K H a xs) : SqT K H' a xs := by
  rcases h with (h | ⟨o, h⟩) | h
  · exact .inl (.inl (s _ _ h))
  · exact .inl (.inr ⟨o, s _ _ h⟩)
  · exact .inr h
mutual
theorem dp_mono (s : Same H H') : ∀ (d : PyData) (v : V), Dp K H v d → Dp K H' v d
  | .none, _, h => by cases h; exact .non
  | .bool b, _, h => by cases h; exact .bl b
  | .int i, _, h => by cases h; exact .int i
  | .str x, _, h => by cases h; exact .str x
  | .list ds, _, h => by
    cases h with
    | lst a b => exact .lst (sqL_mono s a) (dps_mono s ds _ b)
  | .tuple ds, _, h => by
    cases h with
    | tup a b => exact .tup (sqT_mono s a) (dps_mono s ds _ b)
  | .dict _, _, h => by cases h
theorem dps_mono (s : Same H H') : ∀ (ds : List PyData) (vs : List V), DpAll K H vs ds → DpAll K H' vs ds
  | [], _, h => by cases h; exact .nil
  | d :: ds, _, h => by
    cases h with
    | cons a b => exact .cons (dp_mono s d _ a) (dps_mono s ds _ b)
end
theorem dps_len : ∀ {vs : List V} {ds : List PyData}, DpAll K H vs ds → vs.length = ds.length
  | _, _, .nil => rfl
  | _, _, .cons _ b => by
    show _ + 1 = _ + 1
    rw [dps_len b]
theorem dps_get : ∀ {vs : List V} {ds : List PyData} {i : Nat} {d : PyData}, DpAll K H vs ds → ds[i]? = some d → ∃ v, vs[i]? = some v ∧ Dp K H v d
  | _, _, _, _, .nil, h => by simp at h
  | _, _, 0, _, .cons a b, h => by
    have e := Option.some.inj h
    subst e
    exact ⟨_, rfl, a⟩
  | _, _, i + 1, _, .cons a b, h => dps_get (i := i) b h
theorem dps_getV : ∀ {vs : List V} {ds : List PyData} {i : Nat} {v : V}, DpAll K H vs ds → vs[i]? = some v → ∃ d, ds[i]? = some d ∧ Dp K H v d
  | _, _, _, _, .nil, h => by simp at h
  | _, _, 0, _, .cons a b, h => by
    have e := Option.some.inj h
    subst e
    exact ⟨_, rfl, a⟩
  | _, _, i + 1, _, .cons a b, h => dps_getV (i := i) b h
theorem dps_snoc : ∀ {vs : List V} {ds : List PyData} {v : V} {d : PyData}, DpAll K H vs ds → Dp K H v d → DpAll K H (vs ++ [v]) (ds ++ [d])
  | _, _, _, _, .nil, h => .cons h .nil
  | _, _, _, _, .cons a b, h => .cons a (dps_snoc b h)
theorem dps_app : ∀ {vs us : List V} {ds es : List PyData}, DpAll K H vs ds → DpAll K H us es → DpAll K H (vs ++ us) (ds ++ es)
  | _, _, _, _, .nil, h => h
  | _, _, _, _, .cons a b, h => .cons a (dps_app b h)
theorem dps_ints : ∀ {vs : List V} {ns : List Int}, DpAll K H vs (ns.map PyData.int) → vs = ns.map V.int
  | _, [], h => by cases h; rfl
  | _, n :: ns, h => by
    cases h with
    | cons a b =>
      cases a
      rw [dps_ints b]
      rfl
theorem ints_dps : ∀ (ns : List Int), DpAll K H (ns.map V.int) (ns.map PyData.int)
  | [] => .nil
  | n :: ns => .cons (.int n) (ints_dps ns)
theorem dps_strs : ∀ {vs : List V} {ns : List Str}, DpAll K H vs (ns.map PyData.str) → vs = ns.map V.str
  | _, [], h => by cases h; rfl
  | _, n :: ns, h => by
    cases h with
    | cons a b =>
      cases a
      rw [dps_strs b]
      rfl
theorem strs_dps : ∀ (ns : List Str), DpAll K H (ns.map V.str) (ns.map PyData.str)
  | [] => .nil
  | n :: ns => .cons (.str n) (strs_dps ns)
def vO : Option Nat → V
  | none => .non
  | some n => .int (n : Int)
def dO : Option Nat → PyData
  | none => .none
  | some n => .int (n : Int)
theorem dps_opts : ∀ {vs : List V} {ns : List (Option Nat)}, DpAll K H vs (ns.map dO) → vs = ns.map vO
  | _, [], h => by cases h; rfl
  | _, none :: ns, h => by
    cases h with
    | cons a b =>
      cases a
      rw [dps_opts b]
      rfl
  | _, some n :: ns, h => by
    cases h with
    | cons a b =>
      cases a
      rw [dps_opts b]
      rfl
theorem opts_dps : ∀ (ns : List (Option Nat)), DpAll K H (ns.map vO) (ns.map dO)
  | [] => .nil
  | none :: ns => .cons .non (opts_dps ns)
  | some n :: ns => .cons (.int n) (opts_dps ns)
theorem dp_tup {v : V} {ds : List PyData} (h : Dp K H v (.tuple ds)) : ∃ a xs, v = .ref a ∧ SqT K H a xs ∧ DpAll K H xs ds := by
  cases h with
  | tup a b => exact ⟨_, _, rfl, a, b⟩
theorem dp_lst {v : V} {ds : List PyData} (h : Dp K H v (.list ds)) : ∃ a xs, v = .ref a ∧ SqL K H a xs ∧ DpAll K H xs ds := by
  cases h with
  | lst a b => exact ⟨_, _, rfl, a, b⟩
/-! ### heaps -/
theorem same_upd {p : Addr} {o : HO} (h : H p = none) : Same H (upd H p o) := fun b x e => by
  rw [upd_ne (ne_of_none e h)]
  exact e
/-- a new object, changed later -/
theorem same_put {p : Addr} {o : HO} (s : Same H H1) (h : H p = none) : Same H (upd H1 p o) := fun b x e => by
  rw [upd_ne (ne_of_none e h)]
  exact s b x e
theorem lst_of {p : Addr} {xs : List V} (h : H p = some (.lst xs)) : SqL K H p xs := .inl (.inl h)
theorem tup_of {p : Addr} {xs : List V} (h : H p = some (.tup xs)) : SqT K H p xs := .inl (.inl h)
theorem szl {n : Nat} (h : n ≤ 100000) : n ≤ sizeLine := Nat.le_trans h (by decide)
theorem szt {n : Nat} (h : n < 100000) : n < sizeLine := Nat.lt_of_lt_of_le h (by decide)
/-- the heap without one object -/
def del (b : Addr) (H : Hp) : Hp := fun x => if x = b then none else H x
theorem del_same (b : Addr) : Same (del b H) H := fun x o e => by
  unfold del at e
  by_cases h : x = b
  · rw [if_pos h] at e
    cases e
  · rw [if_neg h] at e
    exact e
theorem del_ne {b x : Addr} (h : x ≠ b) : del b H x = H x := if_neg h
theorem del_mono {b : Addr} (s : Same H H') : Same (del b H) (del b H') := fun x o e => by
  unfold del at e ⊢
  by_cases h : x = b
  · rw [if_pos h] at e
    cases e
  · rw [if_neg h] at e ⊢
    exact s x o e
/-- what a draw may change: the barrel alone -/
def Keep (b : Addr) (H H' : Hp) : Prop := Same (del b H) (del b H')
theorem Keep.refl (b : Addr) (H : Hp) : Keep b H H := Same.refl _
theorem Keep.trans {b : Addr} {H2 : Hp} (a : Keep b H H1) (c : Keep b H1 H2) : Keep b H H2 := Same.trans a c
theorem Keep.of {b : Addr} (s : Same H H') : Keep b H H' := del_mono s
theorem keep_upd {b : Addr} {o : HO} : Keep b H (upd H b o) := fun x u e => by
  have hx : x ≠ b := by
    intro z
    unfold del at e
    rw [if_pos z] at e
    cases e
  rw [del_ne hx] at e ⊢
  rw [upd_ne hx]
  exact e
theorem del_none {b : Addr} : del b H b = none := if_pos rfl
/-- an object that is new is no barrel, and is not told ahead -/
theorem Keep.get {b x : Addr} {o : HO} (k : Keep b H H') (h : x ≠ b) (e : H x = some o) : H' x = some o := by
  have z := k x o (by rw [del_ne h]; exact e)
  rw [del_ne h] at z
  exact z
end
end K6

set_option Elab.async false
set_option linter.all false
set_option maxRecDepth 100000
set_option maxHeartbeats 4000000
namespace K6
open PySem PySem.Spec PyProof.Rows L2 Rw
/-! ### comprehensions: what a turn adds, and the whole -/
section
variable {K : PySem.W.Frag} {H : Hp} {σ : L2.St} {tt : TT} {te : TE} {vs : List Nat} {j : Nat} {Q : VK}
def pre (st : Nat → List V) (n : Nat) : List V := (List.range n).flatMap st
theorem pre_succ (st : Nat → List V) (n : Nat) : pre st (n + 1) = pre st n ++ st n := by
  unfold pre
  rw [List.range_succ, List.flatMap_append]
  simp
theorem pre_len {st : Nat → List V} (h : ∀ i, (st i).length ≤ 1) : ∀ n, (pre st n).length ≤ n
  | 0 => Nat.le_refl 0
  | n + 1 => by
    rw [pre_succ, List.length_append]
    have a := pre_len h n
    have b := h n
    omega
theorem pre_map {f : Nat → V} (n : Nat) : pre (fun i => [f i]) n = (List.range n).map f := by
  unfold pre
  induction n with
  | zero => rfl
  | succ n ih => rw [List.range_succ, List.flatMap_append, List.map_append, ih]; rfl
/-- a turn: what is added is [y], or nothing -/
def Turn1 (tt : TT) (te : TE) (σ : L2.St) (H : Hp) (s : List V) : Prop := ∀ H1 (R : V → Hp → Prop) (N : Hp → Prop), Same H H1 → (∀ y H2, s = [y] → Same H1 H2 → R y H2) → (∀ H2, s = [] → Same H1 H2 → N H2) →
  tt σ H1 (fun b H2 => if b = true then te σ H2 R else N H2)
theorem lcG (J : It) (n : Nat) (xs : Nat → V) (st : Nat → List V) (hst : ∀ i, (st i).length ≤ 1) (hn : n < 100000)
    (hgo : ∀ i H1, i < n → Same H H1 → J.go i H1) (hstop : ∀ H1, Same H H1 → J.stop n H1) (hyld : ∀ i H1 x H', i < n → Same H H1 → J.yld i H1 x H' → H' = H1 ∧ x = xs i)
    (hw : ∀ x, wipe ((wipe σ vs).set j (some x)) vs = wipe σ vs) (turn : ∀ i, i < n → Turn1 tt te ((wipe σ vs).set j (some (xs i))) H (st i))
    (fin : ∀ D H1, H D = none → Same H H1 → H1 D = some (.lst (pre st n)) → Q (.ref D) H1) :
    ∀ D, H D = none → ∃ W : Nat → Nat → Hp → Prop, (∃ m, W 0 m (upd H D (.lst []))) ∧ ∀ i m H, W i m H →
      (J.stop i H ∧ Q (.ref D) H) ∨ (J.go i H ∧ ∃ Nx : Hp → Prop, (∀ H', Nx H' → ∃ m', m' < m ∧ W (i + 1) m' H') ∧ ∀ x H', J.yld i H x H' → gName j x (wipe σ vs) H' fun σ2 H2 => wipe σ2 vs = wipe σ vs ∧ tt σ2 H2 fun b H3 =>
        if b = true then te σ2 H3 fun y H4 => ∃ acc, H4 D = some (.lst acc) ∧ acc.length < sizeLine ∧ Nx (upd H4 D (.lst (acc ++ [y]))) else Nx H3) := by
  intro D hD
  refine ⟨fun i m H1 => m = n - i ∧ i ≤ n ∧ Same H H1 ∧ H1 D = some (.lst (pre st i)), ⟨n, rfl, Nat.zero_le _, same_upd hD, upd_same⟩, ?_⟩
  rintro i m H1 ⟨rfl, hi, s1, h1⟩
  by_cases c : i < n
  · refine .inr ⟨hgo i H1 c s1, fun H2 => Same H H2 ∧ H2 D = some (.lst (pre st (i + 1))), fun H2 h2 => ⟨n - (i + 1), by omega, rfl, c, h2.1, h2.2⟩, fun x H' hy => ?_⟩
    obtain ⟨rfl, rfl⟩ := hyld i H1 x H' c s1 hy
    refine ⟨hw _, ?_⟩
    refine turn i c H' _ _ s1 (fun y H2 hs s2 => ?_) (fun H2 hs s2 => ?_)
    · refine ⟨pre st i, s2 D _ h1, szt (by have := pre_len hst i; omega), ?_, ?_⟩
      · exact same_put (s1.trans s2) hD
      · rw [pre_succ, hs]
        exact upd_same
    · refine ⟨s1.trans s2, ?_⟩
      rw [pre_succ, hs, List.append_nil]
      exact s2 D _ h1
  · have e : i = n := by omega
    subst e
    exact .inl ⟨hstop H1 s1, fin D H1 hD s1 h1⟩
theorem getD_of {xs : List V} {i : Nat} {x : V} (h : xs[i]? = some x) : xs.getD i .non = x := by
  rw [List.getD_eq_getElem?_getD, h]
  rfl
theorem lt_of_get {α : Type} {xs : List α} {i : Nat} {x : α} (h : xs[i]? = some x) : i < xs.length := (List.getElem?_eq_some_iff.mp h).1
/-- over a tuple -/
theorem cT {tl : TE} {a : Addr} {xs : List V} (st : Nat → List V) (htl : ∀ R : VK, R (.ref a) H → tl σ H R) (hx : SqT K H a xs) (hst : ∀ i, (st i).length ≤ 1) (hn : xs.length < 100000)
    (hw : ∀ x, wipe ((wipe σ vs).set j (some x)) vs = wipe σ vs) (turn : ∀ i x, xs[i]? = some x → Turn1 tt te ((wipe σ vs).set j (some x)) H (st i))
    (fin : ∀ D H1, H D = none → Same H H1 → H1 D = some (.lst (pre st xs.length)) → Q (.ref D) H1) : tLc (iTup K tl) (gName j) tt te vs σ H Q := by
  refine htl _ ⟨a, rfl, ⟨xs, hx⟩, ?_⟩
  refine lcG (Itt K a) xs.length (fun i => xs.getD i .non) st hst hn (fun i H1 hi s => ?_) (fun H1 s => ?_) (fun i H1 x H' hi s hy => ?_) hw (fun i hi => ?_) fin
  · exact ⟨xs, xs[i], sqT_mono s hx, by simp [hi]⟩
  · exact ⟨xs, sqT_mono s hx, Nat.le_refl _⟩
  · obtain ⟨e, y⟩ := hy
    exact ⟨e, (getD_of (y xs (sqT_mono s hx))).symm⟩
  · have h : xs[i]? = some (xs.getD i .non) := by
      rw [List.getElem?_eq_getElem hi, List.getD_eq_getElem?_getD, List.getElem?_eq_getElem hi]
      rfl
    exact turn i _ h
/-- over a list that a call has handed back -/
theorem lL {Qd : Addr → Hp → Prop} {a : Addr} {xs : List V} (st : Nat → List V) (hx : SqL K H a xs) (hst : ∀ i, (st i).length ≤ 1) (hn : xs.length < 100000)
    (hw : ∀ x, wipe ((wipe σ vs).set j (some x)) vs = wipe σ vs) (turn : ∀ i x, xs[i]? = some x → Turn1 tt te ((wipe σ vs).set j (some x)) H (st i))
    (fin : ∀ D H1, H D = none → Same H H1 → H1 D = some (.lst (pre st xs.length)) → Qd D H1) :
    ∀ D, H D = none → ∃ W : Nat → Nat → Hp → Prop, (∃ m, W 0 m (upd H D (.lst []))) ∧ ∀ i m H, W i m H →
      ((Itl K a).stop i H ∧ Qd D H) ∨ ((Itl K a).go i H ∧ ∃ Nx : Hp → Prop, (∀ H', Nx H' → ∃ m', m' < m ∧ W (i + 1) m' H') ∧ ∀ x H', (Itl K a).yld i H x H' → gName j x (wipe σ vs) H' fun σ2 H2 => wipe σ2 vs = wipe σ vs ∧ tt σ2 H2 fun b H3 =>
        if b = true then te σ2 H3 fun y H4 => ∃ acc, H4 D = some (.lst acc) ∧ acc.length < sizeLine ∧ Nx (upd H4 D (.lst (acc ++ [y]))) else Nx H3) := by
  refine lcG (Q := fun v H => match v with | .ref D => Qd D H | _ => False) (Itl K a) xs.length (fun i => xs.getD i .non) st hst hn (fun i H1 hi s => ?_) (fun H1 s => ?_) (fun i H1 x H' hi s hy => ?_) hw (fun i hi => ?_) fin
  · exact ⟨xs, xs[i], sqL_mono s hx, by simp [hi]⟩
  · exact ⟨xs, sqL_mono s hx, Nat.le_refl _⟩
  · obtain ⟨e, y⟩ := hy
    exact ⟨e, (getD_of (y xs (sqL_mono s hx))).symm⟩
  · have h : xs[i]? = some (xs.getD i .non) := by
      rw [List.getElem?_eq_getElem hi, List.getD_eq_getElem?_getD, List.getElem?_eq_getElem hi]
      rfl
    exact turn i _ h
/-- over a list -/
theorem cL {tl : TE} {a : Addr} {xs : List V} (st : Nat → List V) (htl : ∀ R : VK, R (.ref a) H → tl σ H R) (hx : SqL K H a xs) (hst : ∀ i, (st i).length ≤ 1) (hn : xs.length < 100000)
    (hw : ∀ x, wipe ((wipe σ vs).set j (some x)) vs = wipe σ vs) (turn : ∀ i x, xs[i]? = some x → Turn1 tt te ((wipe σ vs).set j (some x)) H (st i))
    (fin : ∀ D H1, H D = none → Same H H1 → H1 D = some (.lst (pre st xs.length)) → Q (.ref D) H1) : tLc (iList K tl) (gName j) tt te vs σ H Q := by
  refine htl _ ⟨a, rfl, ⟨xs, hx⟩, ?_⟩
  refine lcG (Itl K a) xs.length (fun i => xs.getD i .non) st hst hn (fun i H1 hi s => ?_) (fun H1 s => ?_) (fun i H1 x H' hi s hy => ?_) hw (fun i hi => ?_) fin
  · exact ⟨xs, xs[i], sqL_mono s hx, by simp [hi]⟩
  · exact ⟨xs, sqL_mono s hx, Nat.le_refl _⟩
  · obtain ⟨e, y⟩ := hy
    exact ⟨e, (getD_of (y xs (sqL_mono s hx))).symm⟩
  · have h : xs[i]? = some (xs.getD i .non) := by
      rw [List.getElem?_eq_getElem hi, List.getD_eq_getElem?_getD, List.getElem?_eq_getElem hi]
      rfl
    exact turn i _ h
/-- over range(n) -/
theorem cR {ta : TA} {n : Nat} {m : Int} (st : Nat → List V) (hm : m.toNat = n) (hb : -1000 ≤ m) (hta : ∀ R : List V → Hp → Prop, R [.int m] H → ta σ H R) (hst : ∀ i, (st i).length ≤ 1) (hn : n < 100000)
    (hw : ∀ x, wipe ((wipe σ vs).set j (some x)) vs = wipe σ vs) (turn : ∀ i : Nat, i < n → Turn1 tt te ((wipe σ vs).set j (some (.int (i : Int)))) H (st i))
    (fin : ∀ D H1, H D = none → Same H H1 → H1 D = some (.lst (pre st n)) → Q (.ref D) H1) : tLc (iRng1 ta) (gName j) tt te vs σ H Q := by
  refine hta _ ⟨m, rfl, by omega, by omega, ?_⟩
  rw [hm]
  refine lcG (Itr 0 n) n (fun i => .int (i : Int)) st hst hn (fun i H1 hi s => hi) (fun H1 s => Nat.le_refl _) (fun i H1 x H' hi s hy => ?_) hw turn fin
  obtain ⟨e, y⟩ := hy
  refine ⟨e, ?_⟩
  rw [y, Int.zero_add]
/-- over a text -/
theorem cS {tl : TE} {z : Str} (st : Nat → List V) (htl : ∀ R : VK, R (.str z) H → tl σ H R) (hst : ∀ i, (st i).length ≤ 1) (hn : z.cps.size < 100000)
    (hw : ∀ x, wipe ((wipe σ vs).set j (some x)) vs = wipe σ vs) (turn : ∀ i c, z.cps[i]? = some c → Turn1 tt te ((wipe σ vs).set j (some (.str ⟨#[c]⟩))) H (st i))
    (fin : ∀ D H1, H D = none → Same H H1 → H1 D = some (.lst (pre st z.cps.size)) → Q (.ref D) H1) : tLc (iStr tl) (gName j) tt te vs σ H Q := by
  refine htl _ ⟨z, rfl, ?_⟩
  refine lcG (Its z) z.cps.size (fun i => .str ⟨#[z.cps.getD i 0]⟩) st hst hn (fun i H1 hi s => hi) (fun H1 s => Nat.le_refl _) (fun i H1 x H' hi s hy => ?_) hw (fun i hi => ?_) fin
  · obtain ⟨e, c, hc, rfl⟩ := hy
    refine ⟨e, ?_⟩
    simp [Array.getD_eq_getD_getElem?, hc]
  · have h : z.cps[i]? = some (z.cps.getD i 0) := by
      simp [Array.getD_eq_getD_getElem?, hi]
    exact turn i _ h
/-- no test -/
theorem turn_yes {y : V} (h : ∀ H1 (R : V → Hp → Prop), Same H H1 → (∀ H2, Same H1 H2 → R y H2) → te σ H1 R) : Turn1 tYes te σ H [y] := by
  intro H1 R N s hy hn
  show (if true = true then te σ H1 R else N H1)
  rw [if_pos rfl]
  exact h H1 R s fun H2 s2 => hy y H2 rfl s2
theorem replicate_pre (n : Nat) (v : V) : pre (fun _ => [v]) n = List.replicate n v := by
  rw [pre_map]
  induction n with
  | zero => rfl
  | succ n ih => rw [List.range_succ, List.map_append, ih, List.replicate_succ']; rfl
theorem all_true (n : Nat) : (List.replicate n true).all id = true := by simp
theorem bls (n : Nat) : List.replicate n (V.bl true) = (List.replicate n true).map V.bl := by simp
end
/-! ### comprehensions whose items are new lists -/
section
variable {K : PySem.W.Frag} {H : Hp} {σ : L2.St} {te : TE} {vs : List Nat} {j : Nat} {Q : VK}
/-- lists that stand at the items of a list: what is at each place -/
def Hold (H : Hp) (acc : List V) (n : Nat) (ys : Nat → List V) : Prop := acc.length = n ∧ ∀ k, k < n → ∃ p, acc[k]? = some (.ref p) ∧ H p = some (.lst (ys k))
theorem Hold.mono {H H' : Hp} {acc : List V} {n : Nat} {ys : Nat → List V} (h : Hold H acc n ys) (s : Same H H') : Hold H' acc n ys :=
  ⟨h.1, fun k hk => let ⟨p, e, hp⟩ := h.2 k hk; ⟨p, e, s _ _ hp⟩⟩
theorem Hold.snoc {acc : List V} {n : Nat} {ys : Nat → List V} {p : Addr} (h : Hold H acc n ys) (hp : H p = some (.lst (ys n))) : Hold H (acc ++ [.ref p]) (n + 1) ys := by
  refine ⟨by rw [List.length_append, h.1]; rfl, fun k hk => ?_⟩
  by_cases c : k < n
  · obtain ⟨q, e, hq⟩ := h.2 k c
    exact ⟨q, by rw [List.getElem?_append_left (by rw [h.1]; exact c)]; exact e, hq⟩
  · have e : k = n := by omega
    subst e
    refine ⟨p, ?_, hp⟩
    rw [List.getElem?_append_right (by rw [h.1]; exact Nat.le_refl _), h.1, Nat.sub_self]
    rfl
theorem yes_go {σ : L2.St} {H : Hp} {f g : Hp → Prop} (h : f H) : tYes σ H (fun b H2 => if b = true then f H2 else g H2) := by
  show (if true = true then f H else g H)
  rw [if_pos rfl]
  exact h
def TurnN (te : TE) (σ : L2.St) (H : Hp) (ys : List V) : Prop := ∀ H1 (R : V → Hp → Prop), Same H H1 → (∀ p H2, H1 p = none → Same H1 H2 → H2 p = some (.lst ys) → R (.ref p) H2) → te σ H1 R
theorem lcN (J : It) (n : Nat) (xs : Nat → V) (ys : Nat → List V) (hn : n < 100000)
    (hgo : ∀ i H1, i < n → Same H H1 → J.go i H1) (hstop : ∀ H1, Same H H1 → J.stop n H1) (hyld : ∀ i H1 x H', i < n → Same H H1 → J.yld i H1 x H' → H' = H1 ∧ x = xs i)
    (hw : ∀ x, wipe ((wipe σ vs).set j (some x)) vs = wipe σ vs) (turn : ∀ i, i < n → TurnN te ((wipe σ vs).set j (some (xs i))) H (ys i))
    (fin : ∀ D acc H1, H D = none → Same H H1 → H1 D = some (.lst acc) → Hold (del D H1) acc n ys → Q (.ref D) H1) :
    ∀ D, H D = none → ∃ W : Nat → Nat → Hp → Prop, (∃ m, W 0 m (upd H D (.lst []))) ∧ ∀ i m H, W i m H →
      (J.stop i H ∧ Q (.ref D) H) ∨ (J.go i H ∧ ∃ Nx : Hp → Prop, (∀ H', Nx H' → ∃ m', m' < m ∧ W (i + 1) m' H') ∧ ∀ x H', J.yld i H x H' → gName j x (wipe σ vs) H' fun σ2 H2 => wipe σ2 vs = wipe σ vs ∧ tYes σ2 H2 fun b H3 =>
        if b = true then te σ2 H3 fun y H4 => ∃ acc, H4 D = some (.lst acc) ∧ acc.length < sizeLine ∧ Nx (upd H4 D (.lst (acc ++ [y]))) else Nx H3) := by
  intro D hD
  refine ⟨fun i m H1 => m = n - i ∧ i ≤ n ∧ Same H H1 ∧ ∃ acc, H1 D = some (.lst acc) ∧ Hold (del D H1) acc i ys, ⟨n, rfl, Nat.zero_le _, same_upd hD, [], upd_same, rfl, fun k hk => absurd hk (Nat.not_lt_zero k)⟩, ?_⟩
  rintro i m H1 ⟨rfl, hi, s1, acc, h1, hold⟩
  by_cases c : i < n
  · refine .inr ⟨hgo i H1 c s1, fun H2 => Same H H2 ∧ ∃ acc, H2 D = some (.lst acc) ∧ Hold (del D H2) acc (i + 1) ys, fun H2 h2 => ⟨n - (i + 1), by omega, rfl, c, h2.1, h2.2⟩, fun x H' hy => ?_⟩
    obtain ⟨rfl, rfl⟩ := hyld i H1 x H' c s1 hy
    refine ⟨hw _, ?_⟩
    refine yes_go ?_
    refine turn i c H' _ s1 (fun p H2 np s2 hp => ?_)
    refine ⟨acc, s2 D _ h1, szt (by rw [hold.1]; omega), same_put (s1.trans s2) hD, acc ++ [.ref p], upd_same, ?_⟩
    have ne : p ≠ D := fun e => by
      rw [e, h1] at np
      cases np
    have hdel : Same (del D H2) (del D (upd H2 D (.lst (acc ++ [.ref p])))) := keep_upd
    refine ((hold.mono (del_mono s2)).snoc ?_).mono hdel
    rw [del_ne ne]
    exact hp
  · have e : i = n := by omega
    subst e
    exact .inl ⟨hstop H1 s1, fin D acc H1 hD s1 h1 hold⟩
theorem cTN {tl : TE} {a : Addr} {xs : List V} (ys : Nat → List V) (htl : ∀ R : VK, R (.ref a) H → tl σ H R) (hx : SqT K H a xs) (hn : xs.length < 100000)
    (hw : ∀ x, wipe ((wipe σ vs).set j (some x)) vs = wipe σ vs) (turn : ∀ i x, xs[i]? = some x → TurnN te ((wipe σ vs).set j (some x)) H (ys i))
    (fin : ∀ D acc H1, H D = none → Same H H1 → H1 D = some (.lst acc) → Hold (del D H1) acc xs.length ys → Q (.ref D) H1) : tLc (iTup K tl) (gName j) tYes te vs σ H Q := by
  refine htl _ ⟨a, rfl, ⟨xs, hx⟩, ?_⟩
  refine lcN (Itt K a) xs.length (fun i => xs.getD i .non) ys hn (fun i H1 hi s => ?_) (fun H1 s => ?_) (fun i H1 x H' hi s hy => ?_) hw (fun i hi => ?_) fin
  · exact ⟨xs, xs[i], sqT_mono s hx, by simp [hi]⟩
  · exact ⟨xs, sqT_mono s hx, Nat.le_refl _⟩
  · obtain ⟨e, y⟩ := hy
    exact ⟨e, (getD_of (y xs (sqT_mono s hx))).symm⟩
  · have h : xs[i]? = some (xs.getD i .non) := by
      rw [List.getElem?_eq_getElem hi, List.getD_eq_getElem?_getD, List.getElem?_eq_getElem hi]
      rfl
    exact turn i _ h
end
/-! ### openers -/
section
variable {te ta : TE} {D : Ends} {σ : L2.St} {H : Hp} {Q : VK} {r : List V → Hp → VK → Prop} {i : Nat}
theorem g_ret (h : te σ H D.rt) : tRet te D σ H := h
theorem g_asg (h : te σ H fun x H1 => D.nx (σ.set i (some x)) H1) : tAsg te (gName i) D σ H := h
theorem g_cb (h : ta σ H fun x H1 => r [x] H1 Q) : tCB r (tCons ta tNil) σ H Q := h
theorem g_andV {tb : TE} (h : ta σ H fun x H1 => ∃ c, x = .bl c ∧ if c = true then tb σ H1 Q else Q (.bl false) H1) : tAndV ta tb σ H Q := h
theorem g_via {K : PySem.W.Frag} {d : PyData} (h : ∀ Q' : VK, (∀ vf H2, Same H H2 → Dp K H2 vf d → Q' vf H2) → te σ H Q') (rest : ∀ vf H2, Same H H2 → Dp K H2 vf d → Q vf H2) : te σ H Q := h Q rest
theorem g_arg {f : List V → Hp → Prop} (h : te σ H fun x H1 => f [x] H1) : tCons te tNil σ H f := h
theorem g_next (h : D.nx σ H) : tNext D σ H := h
theorem g_seq {t u : TS} (h : t { D with nx := u D } σ H) : tSeq t u D σ H := h
end
end K6

set_option Elab.async false
set_option linter.all false
set_option maxRecDepth 100000
set_option maxHeartbeats 4000000
namespace K6
open PySem PySem.Spec PyProof.Rows L2 Rw
variable {P : Program} {w : World} {K : PySem.W.Frag} {mg : Str → Option Value} {base : Heap} {A : Ad} {fd : Fds}
/-- the errors' classes; what each has -/
def xs (A : Ad) : List Addr := [A.x_InvalidSigns, A.x_InvalidArrows, A.x_InvalidEnds, A.x_InvalidRow, A.x_InvalidNumber, A.x_InvalidStand, A.x_InvalidSign, A.x_InvalidBook, A.x_InvalidPlan, A.x_InvalidSteps, A.x_InvalidWeights, A.x_InvalidOutputs, A.x_InvalidMarks, A.x_InvalidFormula, A.x_InvalidTold, A.x_InvalidText, A.x_InvalidName, A.x_InvalidClaim, A.x_InvalidIndex, A.x_InvalidLine, A.x_NotAReader, A.x_NotAGuesser, A.x_NotAWeigher, A.x_NotAWriter, A.x_NotAWatcher, A.x_InvalidDeeds, A.x_InvalidLog, A.x_UnknownName, A.x_InUse, A.x_UnlikeSigns, A.x_NotFull, A.x_TooMany, A.x_NothingToUndo, A.x_Broken]
def flds : List (Option (Str × V)) := [some (("given" : Str), V.str ("x" : Str)), some (("given" : Str), V.str ("x" : Str)), some (("given" : Str), V.str ("x" : Str)), some (("given" : Str), V.str ("x" : Str)), some (("given" : Str), V.str ("x" : Str)), some (("given" : Str), V.str ("x" : Str)), some (("given" : Str), V.str ("x" : Str)), some (("given" : Str), V.str ("x" : Str)), some (("given" : Str), V.str ("x" : Str)), some (("given" : Str), V.str ("x" : Str)), some (("given" : Str), V.str ("x" : Str)), some (("given" : Str), V.str ("x" : Str)), some (("given" : Str), V.str ("x" : Str)), some (("given" : Str), V.str ("x" : Str)), some (("given" : Str), V.str ("x" : Str)), some (("given" : Str), V.str ("x" : Str)), some (("given" : Str), V.str ("x" : Str)), some (("given" : Str), V.str ("x" : Str)), some (("given" : Str), V.str ("x" : Str)), some (("given" : Str), V.str ("x" : Str)), some (("given" : Str), V.str ("x" : Str)), some (("given" : Str), V.str ("x" : Str)), some (("given" : Str), V.str ("x" : Str)), some (("given" : Str), V.str ("x" : Str)), some (("given" : Str), V.str ("x" : Str)), some (("index" : Str), V.int 3), some (("index" : Str), V.non), some (("given" : Str), V.str ("n" : Str)), some (("index" : Str), V.int 0), none, none, some (("limit" : Str), V.int 12), none, some (("index" : Str), V.int 1)]
structure Ev (K : PySem.W.Frag) (A : Ad) (H : Hp) (i : Nat) (v : V) : Prop where
  ob : ∃ e C d, v = .ref e ∧ (xs A)[i]? = some C ∧ VAt K H e C d ∧ ∀ f y, flds[i]? = some (some (f, y)) → ∃ dd, d = some dd ∧ H dd = some (.xd [(f, y)])
theorem Ev.mono {H H' : Hp} {i : Nat} {v : V} (h : Ev K A H i v) (s : Same H H') : Ev K A H' i v := by
  obtain ⟨e, C, d, h1, h2, h3, h4⟩ := h.ob
  refine ⟨e, C, d, h1, h2, h3.mono s, fun f y q => ?_⟩
  obtain ⟨dd, a, b⟩ := h4 f y q
  exact ⟨dd, a, s _ _ b⟩
/-- errors from the i-th on -/
def Evs (K : PySem.W.Frag) (A : Ad) (H : Hp) (i : Nat) (vs : List V) : Prop := ∀ j v, vs[j]? = some v → Ev K A H (i + j) v
theorem Evs.mono {H H' : Hp} {i : Nat} {vs : List V} (h : Evs K A H i vs) (s : Same H H') : Evs K A H' i vs := fun j v e => (h j v e).mono s
theorem Evs.nil {H : Hp} {i : Nat} : Evs K A H i [] := fun j v e => by simp at e
theorem Evs.cons {H : Hp} {i : Nat} {v : V} {vs : List V} (h : Ev K A H i v) (t : Evs K A H (i + 1) vs) : Evs K A H i (v :: vs) := fun j u e => by
  cases j with
  | zero =>
    obtain rfl : v = u := by simpa using e
    exact h
  | succ j =>
    have := t j u (by simpa using e)
    rw [show i + 1 + j = i + (j + 1) by omega] at this
    exact this
theorem Evs.app {H : Hp} {i : Nat} {vs us : List V} (h : Evs K A H i vs) (t : Evs K A H (i + vs.length) us) : Evs K A H i (vs ++ us) := fun j u e => by
  by_cases c : j < vs.length
  · rw [List.getElem?_append_left c] at e
    exact h j u e
  · rw [List.getElem?_append_right (by omega)] at e
    have := t _ u e
    rw [show i + vs.length + (j - vs.length) = i + j by omega] at this
    exact this
theorem ev_new {H2 : Hp} {i : Nat} {e d C : Addr} {f : Str} {y : V} (hC : (xs A)[i]? = some C) (hx : XC K C) (hf : flds[i]? = some (some (f, y))) (h1 : H2 e = some (XV C (some d) e)) (h2 : H2 d = some (.xd [(f, y)])) : Ev K A H2 i (.ref e) := by
  refine ⟨e, C, some d, rfl, hC, ⟨hx, h1, fun dd q => ?_⟩, fun g z q => ?_⟩
  · cases q
    exact ⟨_, h2⟩
  · rw [hf] at q
    cases q
    exact ⟨d, rfl, h2⟩
theorem ev_none {H2 : Hp} {i : Nat} {e C : Addr} (hC : (xs A)[i]? = some C) (hx : XC K C) (hf : flds[i]? = some none) (h1 : H2 e = some (XV C none e)) : Ev K A H2 i (.ref e) := by
  refine ⟨e, C, none, rfl, hC, ⟨hx, h1, fun dd q => nomatch q⟩, fun g z q => ?_⟩
  rw [hf] at q
  cases q
section
variable {σ : L2.St} {H : Hp} {tr : TA} {Q : List V → Hp → Prop} {C : Addr} {f : Str} {y : V}
theorem g_mk (i : Nat) (hC : (xs A)[i]? = some C) (hx : XC K C) (hf : flds[i]? = some (some (f, y))) (h : ∀ e H2, Same H H2 → Ev K A H2 i (.ref e) → tr σ H2 fun vs H3 => Q (.ref e :: vs) H3) : tCons (tMkV f C (tCons (tC y) tNil)) tr σ H Q :=
  ⟨y, rfl, fun e d H2 _ _ s h1 h2 => h e H2 s (ev_new hC hx hf h1 h2)⟩
theorem g_mk0 (i : Nat) (hC : (xs A)[i]? = some C) (hx : XC K C) (hf : flds[i]? = some none) (h : ∀ e H2, Same H H2 → Ev K A H2 i (.ref e) → tr σ H2 fun vs H3 => Q (.ref e :: vs) H3) :
    tCons (fun _ H1 Q => ∀ e H2, H1 e = none → Same H1 H2 → H2 e = some (XV C none e) → Q (.ref e) H2) tr σ H Q :=
  fun e H2 _ s h1 => h e H2 s (ev_none hC hx hf h1)
end
theorem g_lst0 {ta : TA} {σ : L2.St} {H : Hp} {Q : VK} (h : ta σ H fun vs H2 => vs.length ≤ sizeLine ∧ ∀ p, H2 p = none → Q (.ref p) (upd H2 p (.lst vs))) : tLst ta σ H Q := h
theorem g_nx {f b c : L2.St → Hp → Prop} {r : VK} {σ : L2.St} {H : Hp} (h : f σ H) : ({ nx := f, rt := r, bk := b, ct := c } : Ends).nx σ H := h
theorem zip_at {α : Type} {l : List α} {i : Nat} {x : α} (h : l[i]? = some x) : (x, i) ∈ l.zipIdx := by
  rw [List.mem_zipIdx_iff_getElem?]
  exact h
theorem kk_at (T : Txt K mg A) {i j : Nat} {C D : Addr} (hi : (xs A)[i]? = some C) (hj : (xs A)[j]? = some D) : PySem.W.kitOne K (.ref C) (.ref D) = some (i == j) := by
  have h := T.kk
  unfold kkB at h
  rw [List.all_eq_true] at h
  have h2 := h (C, i) (zip_at hi)
  rw [List.all_eq_true] at h2
  exact beq_iff_eq.mp (h2 (D, j) (zip_at hj))
def bs (A : Ad) : List Value := [.ref A.x_WrongValue, .ref A.x_WrongName, .ref A.x_NoAnswer, .type "ValueError", .type "LookupError", .type "ArithmeticError"]
theorem kb_at (T : Txt K mg A) {i j : Nat} {C : Addr} {D : Value} (hi : (xs A)[i]? = some C) (hj : (bs A)[j]? = some D) : PySem.W.kitOne K (.ref C) D = some ((bas i).getD j false) := by
  have h := T.kb
  unfold kbB at h
  rw [List.all_eq_true] at h
  have h2 := h (C, i) (zip_at hi)
  rw [List.all_eq_true] at h2
  exact beq_iff_eq.mp (h2 (D, j) (zip_at hj))
section
variable {σ : L2.St} {H : Hp} {tr : TA} {Q : List V → Hp → Prop} {te : TE} {v c : V} {cv : Value} {i : Nat}
theorem g_is (T : Txt K mg A) (j : Nat) {D : Addr} (hv : Ev K A H i v) (h0 : ∀ R : VK, R v H → te σ H R) (hj : (xs A)[j]? = some D) (h : tr σ H fun us H3 => Q (.bl (i == j) :: us) H3) : tCons (tCB (rIsV K) (tCons te (tCons (tC (.ref D)) tNil))) tr σ H Q := by
  obtain ⟨e, C, d, rfl, hC, va, _⟩ := hv.ob
  exact h0 _ ⟨e, C, d, .ref D, .ref D, _, rfl, va, .own _, kk_at T hC hj, h⟩
theorem g_ib (T : Txt K mg A) (j : Nat) (hv : Ev K A H i v) (h0 : ∀ R : VK, R v H → te σ H R) (hc : ClsV c cv) (hj : (bs A)[j]? = some cv) (h : tr σ H fun us H3 => Q (.bl ((bas i).getD j false) :: us) H3) : tCons (tCB (rIsV K) (tCons te (tCons (tC c) tNil))) tr σ H Q := by
  obtain ⟨e, C, d, rfl, hC, va, _⟩ := hv.ob
  exact h0 _ ⟨e, C, d, c, cv, _, rfl, va, hc, kb_at T hC hj, h⟩
end
def spGiven (K : PySem.W.Frag) (A : Ad) : Sp := fun vs H Q _ => vs = [] ∧ ∀ q us H', H q = none → Same H H' → H' q = some (.lst us) → us.length = 25 → Evs K A H' 0 us → Q (.ref q) H'
theorem ok_l_given (T : Txt K mg A) (U : Funs K A fd) : FnOk P w K mg base CX0 1 A.l_given fd.l_given p_l_given (spGiven K A) := by
  refine U.F_l_given.ok sc_l_given (fun vs H Q E h => ?_) (fun cdv A0 outer s H vs Q E hr h => ?_)
  · obtain ⟨rfl, _⟩ := h
    rfl
  · have hu := hu_of hr
    obtain ⟨rfl, k⟩ := h
    refine ⟨_, (pss_cons (ps_set (i := 0) sc_l_given.nd rfl (Or.inl rfl) (pe_lst (pa_cons (pe_given T.x_InvalidSigns hr (pa_cons pe_str pa_nil)) (pa_cons (pe_givenK T.x_InvalidArrows hr (pk_cons pe_str pk_nil)) (pa_cons (pe_given T.x_InvalidEnds hr (pa_cons pe_str pa_nil)) (pa_cons (pe_givenK T.x_InvalidRow hr (pk_cons pe_str pk_nil)) pa_nil))))))
       (pss_cons (ps_set (i := 0) sc_l_given.nd rfl (Or.inl rfl) (pe_op op_cat (pv 0) (pe_lst (pa_cons (pe_given T.x_InvalidNumber hr (pa_cons pe_str pa_nil)) (pa_cons (pe_givenK T.x_InvalidStand hr (pk_cons pe_str pk_nil)) (pa_cons (pe_given T.x_InvalidSign hr (pa_cons pe_str pa_nil)) (pa_cons (pe_givenK T.x_InvalidBook hr (pk_cons pe_str pk_nil)) pa_nil)))))))
       (pss_cons (ps_set (i := 0) sc_l_given.nd rfl (Or.inl rfl) (pe_op op_cat (pv 0) (pe_lst (pa_cons (pe_given T.x_InvalidPlan hr (pa_cons pe_str pa_nil)) (pa_cons (pe_givenK T.x_InvalidSteps hr (pk_cons pe_str pk_nil)) (pa_cons (pe_given T.x_InvalidWeights hr (pa_cons pe_str pa_nil)) (pa_cons (pe_givenK T.x_InvalidOutputs hr (pk_cons pe_str pk_nil)) pa_nil)))))))
       (pss_cons (ps_set (i := 0) sc_l_given.nd rfl (Or.inl rfl) (pe_op op_cat (pv 0) (pe_lst (pa_cons (pe_given T.x_InvalidMarks hr (pa_cons pe_str pa_nil)) (pa_cons (pe_givenK T.x_InvalidFormula hr (pk_cons pe_str pk_nil)) (pa_cons (pe_given T.x_InvalidTold hr (pa_cons pe_str pa_nil)) (pa_cons (pe_givenK T.x_InvalidText hr (pk_cons pe_str pk_nil)) pa_nil)))))))
       (pss_cons (ps_set (i := 0) sc_l_given.nd rfl (Or.inl rfl) (pe_op op_cat (pv 0) (pe_lst (pa_cons (pe_given T.x_InvalidName hr (pa_cons pe_str pa_nil)) (pa_cons (pe_givenK T.x_InvalidClaim hr (pk_cons pe_str pk_nil)) (pa_cons (pe_given T.x_InvalidIndex hr (pa_cons pe_str pa_nil)) (pa_cons (pe_givenK T.x_InvalidLine hr (pk_cons pe_str pk_nil)) pa_nil)))))))
       (pss_cons (ps_set (i := 0) sc_l_given.nd rfl (Or.inl rfl) (pe_op op_cat (pv 0) (pe_lst (pa_cons (pe_given T.x_NotAReader hr (pa_cons pe_str pa_nil)) (pa_cons (pe_givenK T.x_NotAGuesser hr (pk_cons pe_str pk_nil)) (pa_cons (pe_given T.x_NotAWeigher hr (pa_cons pe_str pa_nil)) (pa_cons (pe_givenK T.x_NotAWriter hr (pk_cons pe_str pk_nil)) pa_nil)))))))
       (pss_cons (ps_set (i := 0) sc_l_given.nd rfl (Or.inl rfl) (pe_op op_cat (pv 0) (pe_lst (pa_cons (pe_given T.x_NotAWatcher hr (pa_cons pe_str pa_nil)) pa_nil))))
       (pss_one (ps_ret (pv 0)))))))))), ?_⟩
    refine g_seq (g_asg ?_)
    refine g_lst0 ?_
    refine g_mk 0 rfl T.x_InvalidSigns.xc' rfl fun e0 G0 s0 v0 => g_mk 1 rfl T.x_InvalidArrows.xc' rfl fun e1 G1 s1 v1 => g_mk 2 rfl T.x_InvalidEnds.xc' rfl fun e2 G2 s2 v2 => g_mk 3 rfl T.x_InvalidRow.xc' rfl fun e3 G3 s3 v3 => ?_
    refine ⟨by show 4 ≤ sizeLine; decide, fun q0 hq0 => ?_⟩
    have w0 : Evs K A G3 0 [V.ref e0, V.ref e1, V.ref e2, V.ref e3] := (.cons (((v0.mono s1).mono s2).mono s3) (.cons ((v1.mono s2).mono s3) (.cons (v2.mono s3) (.cons v3 .nil))))
    have sq0 := same_upd (o := .lst [V.ref e0, V.ref e1, V.ref e2, V.ref e3]) hq0
    have S0 : Same H (upd G3 q0 (.lst [V.ref e0, V.ref e1, V.ref e2, V.ref e3])) := (((s0.trans s1).trans s2).trans s3).trans sq0
    have W0 := w0.mono sq0
    have L0 : (upd G3 q0 (.lst [V.ref e0, V.ref e1, V.ref e2, V.ref e3])) q0 = some (.lst [V.ref e0, V.ref e1, V.ref e2, V.ref e3]) := upd_same
    have N0 : H q0 = none := Same.free (((s0.trans s1).trans s2).trans s3) hq0
    generalize upd G3 q0 (.lst [V.ref e0, V.ref e1, V.ref e2, V.ref e3]) = J0 at S0 W0 L0
    have Z0 : ([V.ref e0, V.ref e1, V.ref e2, V.ref e3] : List V).length = 4 := rfl
    generalize ([V.ref e0, V.ref e1, V.ref e2, V.ref e3] : List V) = u0 at W0 L0 Z0
    refine g_nx ?_
    refine g_seq (g_asg ?_)
    refine ⟨_, rfl, ?_⟩
    refine g_lst0 ?_
    refine g_mk 4 rfl T.x_InvalidNumber.xc' rfl fun e4 G4 s4 v4 => g_mk 5 rfl T.x_InvalidStand.xc' rfl fun e5 G5 s5 v5 => g_mk 6 rfl T.x_InvalidSign.xc' rfl fun e6 G6 s6 v6 => g_mk 7 rfl T.x_InvalidBook.xc' rfl fun e7 G7 s7 v7 => ?_
    refine ⟨by show 4 ≤ sizeLine; decide, fun q1 hq1 => ?_⟩
    have w1 : Evs K A G7 4 [V.ref e4, V.ref e5, V.ref e6, V.ref e7] := (.cons (((v4.mono s5).mono s6).mono s7) (.cons ((v5.mono s6).mono s7) (.cons (v6.mono s7) (.cons v7 .nil))))
    have sq1 := same_upd (o := .lst [V.ref e4, V.ref e5, V.ref e6, V.ref e7]) hq1
    refine ⟨q0, q1, u0, _, rfl, rfl, sq1 _ _ (((((s4.trans s5).trans s6).trans s7)) _ _ L0), upd_same, szl (by rw [Z0]; show 4 + 4 ≤ 100000; decide), fun r1 hr1 => ?_⟩
    have sr1 := same_upd (o := .lst (u0 ++ [V.ref e4, V.ref e5, V.ref e6, V.ref e7])) hr1
    have S1 : Same H (upd (upd G7 q1 (.lst [V.ref e4, V.ref e5, V.ref e6, V.ref e7])) r1 (.lst (u0 ++ [V.ref e4, V.ref e5, V.ref e6, V.ref e7]))) := ((S0.trans (((s4.trans s5).trans s6).trans s7)).trans sq1).trans sr1
    have W1 : Evs K A (upd (upd G7 q1 (.lst [V.ref e4, V.ref e5, V.ref e6, V.ref e7])) r1 (.lst (u0 ++ [V.ref e4, V.ref e5, V.ref e6, V.ref e7]))) 0 (u0 ++ [V.ref e4, V.ref e5, V.ref e6, V.ref e7]) := (((W0.mono (((s4.trans s5).trans s6).trans s7)).mono sq1).mono sr1).app (by rw [Z0]; exact (w1.mono sq1).mono sr1)
    have L1 : (upd (upd G7 q1 (.lst [V.ref e4, V.ref e5, V.ref e6, V.ref e7])) r1 (.lst (u0 ++ [V.ref e4, V.ref e5, V.ref e6, V.ref e7]))) r1 = some (.lst (u0 ++ [V.ref e4, V.ref e5, V.ref e6, V.ref e7])) := upd_same
    have N1 : H r1 = none := Same.free ((S0.trans (((s4.trans s5).trans s6).trans s7)).trans sq1) hr1
    have Z1 : (u0 ++ [V.ref e4, V.ref e5, V.ref e6, V.ref e7]).length = 8 := by rw [List.length_append, Z0] <;> rfl
    generalize upd (upd G7 q1 (.lst [V.ref e4, V.ref e5, V.ref e6, V.ref e7])) r1 (.lst (u0 ++ [V.ref e4, V.ref e5, V.ref e6, V.ref e7])) = J1 at S1 W1 L1
    generalize u0 ++ [V.ref e4, V.ref e5, V.ref e6, V.ref e7] = u1 at W1 L1 Z1
    refine g_nx ?_
    refine g_seq (g_asg ?_)
    refine ⟨_, rfl, ?_⟩
    refine g_lst0 ?_
    refine g_mk 8 rfl T.x_InvalidPlan.xc' rfl fun e8 G8 s8 v8 => g_mk 9 rfl T.x_InvalidSteps.xc' rfl fun e9 G9 s9 v9 => g_mk 10 rfl T.x_InvalidWeights.xc' rfl fun e10 G10 s10 v10 => g_mk 11 rfl T.x_InvalidOutputs.xc' rfl fun e11 G11 s11 v11 => ?_
    refine ⟨by show 4 ≤ sizeLine; decide, fun q2 hq2 => ?_⟩
    have w2 : Evs K A G11 8 [V.ref e8, V.ref e9, V.ref e10, V.ref e11] := (.cons (((v8.mono s9).mono s10).mono s11) (.cons ((v9.mono s10).mono s11) (.cons (v10.mono s11) (.cons v11 .nil))))
    have sq2 := same_upd (o := .lst [V.ref e8, V.ref e9, V.ref e10, V.ref e11]) hq2
    refine ⟨r1, q2, u1, _, rfl, rfl, sq2 _ _ (((((s8.trans s9).trans s10).trans s11)) _ _ L1), upd_same, szl (by rw [Z1]; show 8 + 4 ≤ 100000; decide), fun r2 hr2 => ?_⟩
    have sr2 := same_upd (o := .lst (u1 ++ [V.ref e8, V.ref e9, V.ref e10, V.ref e11])) hr2
    have S2 : Same H (upd (upd G11 q2 (.lst [V.ref e8, V.ref e9, V.ref e10, V.ref e11])) r2 (.lst (u1 ++ [V.ref e8, V.ref e9, V.ref e10, V.ref e11]))) := ((S1.trans (((s8.trans s9).trans s10).trans s11)).trans sq2).trans sr2
    have W2 : Evs K A (upd (upd G11 q2 (.lst [V.ref e8, V.ref e9, V.ref e10, V.ref e11])) r2 (.lst (u1 ++ [V.ref e8, V.ref e9, V.ref e10, V.ref e11]))) 0 (u1 ++ [V.ref e8, V.ref e9, V.ref e10, V.ref e11]) := (((W1.mono (((s8.trans s9).trans s10).trans s11)).mono sq2).mono sr2).app (by rw [Z1]; exact (w2.mono sq2).mono sr2)
    have L2 : (upd (upd G11 q2 (.lst [V.ref e8, V.ref e9, V.ref e10, V.ref e11])) r2 (.lst (u1 ++ [V.ref e8, V.ref e9, V.ref e10, V.ref e11]))) r2 = some (.lst (u1 ++ [V.ref e8, V.ref e9, V.ref e10, V.ref e11])) := upd_same
    have N2 : H r2 = none := Same.free ((S1.trans (((s8.trans s9).trans s10).trans s11)).trans sq2) hr2
    have Z2 : (u1 ++ [V.ref e8, V.ref e9, V.ref e10, V.ref e11]).length = 12 := by rw [List.length_append, Z1] <;> rfl
    generalize upd (upd G11 q2 (.lst [V.ref e8, V.ref e9, V.ref e10, V.ref e11])) r2 (.lst (u1 ++ [V.ref e8, V.ref e9, V.ref e10, V.ref e11])) = J2 at S2 W2 L2
    generalize u1 ++ [V.ref e8, V.ref e9, V.ref e10, V.ref e11] = u2 at W2 L2 Z2
    refine g_nx ?_
    refine g_seq (g_asg ?_)
    refine ⟨_, rfl, ?_⟩
    refine g_lst0 ?_
    refine g_mk 12 rfl T.x_InvalidMarks.xc' rfl fun e12 G12 s12 v12 => g_mk 13 rfl T.x_InvalidFormula.xc' rfl fun e13 G13 s13 v13 => g_mk 14 rfl T.x_InvalidTold.xc' rfl fun e14 G14 s14 v14 => g_mk 15 rfl T.x_InvalidText.xc' rfl fun e15 G15 s15 v15 => ?_
    refine ⟨by show 4 ≤ sizeLine; decide, fun q3 hq3 => ?_⟩
    have w3 : Evs K A G15 12 [V.ref e12, V.ref e13, V.ref e14, V.ref e15] := (.cons (((v12.mono s13).mono s14).mono s15) (.cons ((v13.mono s14).mono s15) (.cons (v14.mono s15) (.cons v15 .nil))))
    have sq3 := same_upd (o := .lst [V.ref e12, V.ref e13, V.ref e14, V.ref e15]) hq3
    refine ⟨r2, q3, u2, _, rfl, rfl, sq3 _ _ (((((s12.trans s13).trans s14).trans s15)) _ _ L2), upd_same, szl (by rw [Z2]; show 12 + 4 ≤ 100000; decide), fun r3 hr3 => ?_⟩
    have sr3 := same_upd (o := .lst (u2 ++ [V.ref e12, V.ref e13, V.ref e14, V.ref e15])) hr3
    have S3 : Same H (upd (upd G15 q3 (.lst [V.ref e12, V.ref e13, V.ref e14, V.ref e15])) r3 (.lst (u2 ++ [V.ref e12, V.ref e13, V.ref e14, V.ref e15]))) := ((S2.trans (((s12.trans s13).trans s14).trans s15)).trans sq3).trans sr3
    have W3 : Evs K A (upd (upd G15 q3 (.lst [V.ref e12, V.ref e13, V.ref e14, V.ref e15])) r3 (.lst (u2 ++ [V.ref e12, V.ref e13, V.ref e14, V.ref e15]))) 0 (u2 ++ [V.ref e12, V.ref e13, V.ref e14, V.ref e15]) := (((W2.mono (((s12.trans s13).trans s14).trans s15)).mono sq3).mono sr3).app (by rw [Z2]; exact (w3.mono sq3).mono sr3)
    have L3 : (upd (upd G15 q3 (.lst [V.ref e12, V.ref e13, V.ref e14, V.ref e15])) r3 (.lst (u2 ++ [V.ref e12, V.ref e13, V.ref e14, V.ref e15]))) r3 = some (.lst (u2 ++ [V.ref e12, V.ref e13, V.ref e14, V.ref e15])) := upd_same
    have N3 : H r3 = none := Same.free ((S2.trans (((s12.trans s13).trans s14).trans s15)).trans sq3) hr3
    have Z3 : (u2 ++ [V.ref e12, V.ref e13, V.ref e14, V.ref e15]).length = 16 := by rw [List.length_append, Z2] <;> rfl
    generalize upd (upd G15 q3 (.lst [V.ref e12, V.ref e13, V.ref e14, V.ref e15])) r3 (.lst (u2 ++ [V.ref e12, V.ref e13, V.ref e14, V.ref e15])) = J3 at S3 W3 L3
    generalize u2 ++ [V.ref e12, V.ref e13, V.ref e14, V.ref e15] = u3 at W3 L3 Z3
    refine g_nx ?_
    refine g_seq (g_asg ?_)
    refine ⟨_, rfl, ?_⟩
    refine g_lst0 ?_
    refine g_mk 16 rfl T.x_InvalidName.xc' rfl fun e16 G16 s16 v16 => g_mk 17 rfl T.x_InvalidClaim.xc' rfl fun e17 G17 s17 v17 => g_mk 18 rfl T.x_InvalidIndex.xc' rfl fun e18 G18 s18 v18 => g_mk 19 rfl T.x_InvalidLine.xc' rfl fun e19 G19 s19 v19 => ?_
    refine ⟨by show 4 ≤ sizeLine; decide, fun q4 hq4 => ?_⟩
    have w4 : Evs K A G19 16 [V.ref e16, V.ref e17, V.ref e18, V.ref e19] := (.cons (((v16.mono s17).mono s18).mono s19) (.cons ((v17.mono s18).mono s19) (.cons (v18.mono s19) (.cons v19 .nil))))
    have sq4 := same_upd (o := .lst [V.ref e16, V.ref e17, V.ref e18, V.ref e19]) hq4
    refine ⟨r3, q4, u3, _, rfl, rfl, sq4 _ _ (((((s16.trans s17).trans s18).trans s19)) _ _ L3), upd_same, szl (by rw [Z3]; show 16 + 4 ≤ 100000; decide), fun r4 hr4 => ?_⟩
    have sr4 := same_upd (o := .lst (u3 ++ [V.ref e16, V.ref e17, V.ref e18, V.ref e19])) hr4
    have S4 : Same H (upd (upd G19 q4 (.lst [V.ref e16, V.ref e17, V.ref e18, V.ref e19])) r4 (.lst (u3 ++ [V.ref e16, V.ref e17, V.ref e18, V.ref e19]))) := ((S3.trans (((s16.trans s17).trans s18).trans s19)).trans sq4).trans sr4
    have W4 : Evs K A (upd (upd G19 q4 (.lst [V.ref e16, V.ref e17, V.ref e18, V.ref e19])) r4 (.lst (u3 ++ [V.ref e16, V.ref e17, V.ref e18, V.ref e19]))) 0 (u3 ++ [V.ref e16, V.ref e17, V.ref e18, V.ref e19]) := (((W3.mono (((s16.trans s17).trans s18).trans s19)).mono sq4).mono sr4).app (by rw [Z3]; exact (w4.mono sq4).mono sr4)
    have L4 : (upd (upd G19 q4 (.lst [V.ref e16, V.ref e17, V.ref e18, V.ref e19])) r4 (.lst (u3 ++ [V.ref e16, V.ref e17, V.ref e18, V.ref e19]))) r4 = some (.lst (u3 ++ [V.ref e16, V.ref e17, V.ref e18, V.ref e19])) := upd_same
    have N4 : H r4 = none := Same.free ((S3.trans (((s16.trans s17).trans s18).trans s19)).trans sq4) hr4
    have Z4 : (u3 ++ [V.ref e16, V.ref e17, V.ref e18, V.ref e19]).length = 20 := by rw [List.length_append, Z3] <;> rfl
    generalize upd (upd G19 q4 (.lst [V.ref e16, V.ref e17, V.ref e18, V.ref e19])) r4 (.lst (u3 ++ [V.ref e16, V.ref e17, V.ref e18, V.ref e19])) = J4 at S4 W4 L4
    generalize u3 ++ [V.ref e16, V.ref e17, V.ref e18, V.ref e19] = u4 at W4 L4 Z4
    refine g_nx ?_
    refine g_seq (g_asg ?_)
    refine ⟨_, rfl, ?_⟩
    refine g_lst0 ?_
    refine g_mk 20 rfl T.x_NotAReader.xc' rfl fun e20 G20 s20 v20 => g_mk 21 rfl T.x_NotAGuesser.xc' rfl fun e21 G21 s21 v21 => g_mk 22 rfl T.x_NotAWeigher.xc' rfl fun e22 G22 s22 v22 => g_mk 23 rfl T.x_NotAWriter.xc' rfl fun e23 G23 s23 v23 => ?_
    refine ⟨by show 4 ≤ sizeLine; decide, fun q5 hq5 => ?_⟩
    have w5 : Evs K A G23 20 [V.ref e20, V.ref e21, V.ref e22, V.ref e23] := (.cons (((v20.mono s21).mono s22).mono s23) (.cons ((v21.mono s22).mono s23) (.cons (v22.mono s23) (.cons v23 .nil))))
    have sq5 := same_upd (o := .lst [V.ref e20, V.ref e21, V.ref e22, V.ref e23]) hq5
    refine ⟨r4, q5, u4, _, rfl, rfl, sq5 _ _ (((((s20.trans s21).trans s22).trans s23)) _ _ L4), upd_same, szl (by rw [Z4]; show 20 + 4 ≤ 100000; decide), fun r5 hr5 => ?_⟩
    have sr5 := same_upd (o := .lst (u4 ++ [V.ref e20, V.ref e21, V.ref e22, V.ref e23])) hr5
    have S5 : Same H (upd (upd G23 q5 (.lst [V.ref e20, V.ref e21, V.ref e22, V.ref e23])) r5 (.lst (u4 ++ [V.ref e20, V.ref e21, V.ref e22, V.ref e23]))) := ((S4.trans (((s20.trans s21).trans s22).trans s23)).trans sq5).trans sr5
    have W5 : Evs K A (upd (upd G23 q5 (.lst [V.ref e20, V.ref e21, V.ref e22, V.ref e23])) r5 (.lst (u4 ++ [V.ref e20, V.ref e21, V.ref e22, V.ref e23]))) 0 (u4 ++ [V.ref e20, V.ref e21, V.ref e22, V.ref e23]) := (((W4.mono (((s20.trans s21).trans s22).trans s23)).mono sq5).mono sr5).app (by rw [Z4]; exact (w5.mono sq5).mono sr5)
    have L5 : (upd (upd G23 q5 (.lst [V.ref e20, V.ref e21, V.ref e22, V.ref e23])) r5 (.lst (u4 ++ [V.ref e20, V.ref e21, V.ref e22, V.ref e23]))) r5 = some (.lst (u4 ++ [V.ref e20, V.ref e21, V.ref e22, V.ref e23])) := upd_same
    have N5 : H r5 = none := Same.free ((S4.trans (((s20.trans s21).trans s22).trans s23)).trans sq5) hr5
    have Z5 : (u4 ++ [V.ref e20, V.ref e21, V.ref e22, V.ref e23]).length = 24 := by rw [List.length_append, Z4] <;> rfl
    generalize upd (upd G23 q5 (.lst [V.ref e20, V.ref e21, V.ref e22, V.ref e23])) r5 (.lst (u4 ++ [V.ref e20, V.ref e21, V.ref e22, V.ref e23])) = J5 at S5 W5 L5
    generalize u4 ++ [V.ref e20, V.ref e21, V.ref e22, V.ref e23] = u5 at W5 L5 Z5
    refine g_nx ?_
    refine g_seq (g_asg ?_)
    refine ⟨_, rfl, ?_⟩
    refine g_lst0 ?_
    refine g_mk 24 rfl T.x_NotAWatcher.xc' rfl fun e24 G24 s24 v24 => ?_
    refine ⟨by show 1 ≤ sizeLine; decide, fun q6 hq6 => ?_⟩
    have w6 : Evs K A G24 24 [V.ref e24] := (.cons v24 .nil)
    have sq6 := same_upd (o := .lst [V.ref e24]) hq6
    refine ⟨r5, q6, u5, _, rfl, rfl, sq6 _ _ ((s24) _ _ L5), upd_same, szl (by rw [Z5]; show 24 + 1 ≤ 100000; decide), fun r6 hr6 => ?_⟩
    have sr6 := same_upd (o := .lst (u5 ++ [V.ref e24])) hr6
    have S6 : Same H (upd (upd G24 q6 (.lst [V.ref e24])) r6 (.lst (u5 ++ [V.ref e24]))) := ((S5.trans s24).trans sq6).trans sr6
    have W6 : Evs K A (upd (upd G24 q6 (.lst [V.ref e24])) r6 (.lst (u5 ++ [V.ref e24]))) 0 (u5 ++ [V.ref e24]) := (((W5.mono s24).mono sq6).mono sr6).app (by rw [Z5]; exact (w6.mono sq6).mono sr6)
    have L6 : (upd (upd G24 q6 (.lst [V.ref e24])) r6 (.lst (u5 ++ [V.ref e24]))) r6 = some (.lst (u5 ++ [V.ref e24])) := upd_same
    have N6 : H r6 = none := Same.free ((S5.trans s24).trans sq6) hr6
    have Z6 : (u5 ++ [V.ref e24]).length = 25 := by rw [List.length_append, Z5] <;> rfl
    generalize upd (upd G24 q6 (.lst [V.ref e24])) r6 (.lst (u5 ++ [V.ref e24])) = J6 at S6 W6 L6
    generalize u5 ++ [V.ref e24] = u6 at W6 L6 Z6
    exact ⟨_, rfl, k _ u6 J6 N6 S6 L6 Z6 W6⟩
end K6


set_option Elab.async false
set_option linter.all false
set_option maxRecDepth 100000
set_option maxHeartbeats 4000000
namespace K6
open PySem PySem.Spec PyProof.Rows L2 Rw
variable {P : Program} {w : World} {K : PySem.W.Frag} {mg : Str → Option Value} {base : Heap} {A : Ad} {fd : Fds}
theorem bas_list (i : Nat) : [V.bl ((bas i).getD 0 false), V.bl ((bas i).getD 1 false), V.bl ((bas i).getD 2 false)] ++ [V.bl ((bas i).getD 3 false), V.bl ((bas i).getD 4 false), V.bl ((bas i).getD 5 false)] = (bas i).map V.bl := by
  unfold bas
  split
  · rfl
  · split <;> rfl
def spBases (K : PySem.W.Frag) (A : Ad) : Sp := fun vs H Q _ => ∃ (v : V) (i : Nat), vs = [v] ∧ Ev K A H i v ∧ ∀ q H', H q = none → Same H H' → H' q = some (.lst ((bas i).map V.bl)) → Q (.ref q) H'
theorem ok_l_bases (T : Txt K mg A) (U : Funs K A fd) : FnOk P w K mg base CX0 1 A.l_bases fd.l_bases p_l_bases (spBases K A) := by
  refine U.F_l_bases.ok sc_l_bases (fun vs H Q E h => ?_) (fun cdv A0 outer s H vs Q E hr h => ?_)
  · obtain ⟨v, i, rfl, _⟩ := h
    rfl
  · have hu := hu_of hr
    obtain ⟨v, i, rfl, hv, k⟩ := h
    refine ⟨_, (pss_cons (ps_set (i := 1) sc_l_bases.nd rfl (Or.inl rfl) (pe_lst (pa_cons (pe_callB (w_isV (K := K)) (by rfl) T.b_isinstance (by decide +kernel) (pa_cons (pv 0) (pa_cons (pe_glob (v := .ref A.x_WrongValue) (by rfl) T.mx_WrongValue rfl) pa_nil))) (pa_cons (pe_callB (w_isV (K := K)) (by rfl) T.b_isinstance (by decide +kernel) (pa_cons (pv 0) (pa_cons (pe_glob (v := .ref A.x_WrongName) (by rfl) T.mx_WrongName rfl) pa_nil))) (pa_cons (pe_callB (w_isV (K := K)) (by rfl) T.b_isinstance (by decide +kernel) (pa_cons (pv 0) (pa_cons (pe_glob (v := .ref A.x_NoAnswer) (by rfl) T.mx_NoAnswer rfl) pa_nil))) pa_nil)))))
       (pss_one (ps_ret (pe_op op_cat (pv 1) (pe_lst (pa_cons (pe_callB (w_isV (K := K)) (by rfl) T.b_isinstance (by decide +kernel) (pa_cons (pv 0) (pa_cons (pe_bltn (v := .ty "ValueError") (u := .type "ValueError") (by rfl) T.b_ValueError (by decide +kernel) rfl) pa_nil))) (pa_cons (pe_callB (w_isV (K := K)) (by rfl) T.b_isinstance (by decide +kernel) (pa_cons (pv 0) (pa_cons (pe_bltn (v := .ty "LookupError") (u := .type "LookupError") (by rfl) T.b_LookupError (by decide +kernel) rfl) pa_nil))) (pa_cons (pe_callB (w_isV (K := K)) (by rfl) T.b_isinstance (by decide +kernel) (pa_cons (pv 0) (pa_cons (pe_bltn (v := .ty "ArithmeticError") (u := .type "ArithmeticError") (by rfl) T.b_ArithmeticError (by decide +kernel) rfl) pa_nil))) pa_nil)))))))), ?_⟩
    refine g_seq (g_asg ?_)
    refine g_lst0 ?_
    refine g_ib T 0 hv (fun R r => ⟨_, rfl, r⟩) (.own _) rfl (g_ib T 1 hv (fun R r => ⟨_, rfl, r⟩) (.own _) rfl (g_ib T 2 hv (fun R r => ⟨_, rfl, r⟩) (.own _) rfl ?_))
    refine ⟨by show 3 ≤ sizeLine; decide, fun q0 hq0 => ?_⟩
    have sq0 := same_upd (o := .lst [V.bl ((bas i).getD 0 false), V.bl ((bas i).getD 1 false), V.bl ((bas i).getD 2 false)]) hq0
    have hv1 := hv.mono sq0
    refine g_nx ?_
    refine g_ret ?_
    refine ⟨_, rfl, ?_⟩
    refine g_lst0 ?_
    refine g_ib T 3 hv1 (fun R r => ⟨_, rfl, r⟩) (.ty _) rfl (g_ib T 4 hv1 (fun R r => ⟨_, rfl, r⟩) (.ty _) rfl (g_ib T 5 hv1 (fun R r => ⟨_, rfl, r⟩) (.ty _) rfl ?_))
    refine ⟨by show 3 ≤ sizeLine; decide, fun q1 hq1 => ?_⟩
    have sq1 := same_upd (o := .lst [V.bl ((bas i).getD 3 false), V.bl ((bas i).getD 4 false), V.bl ((bas i).getD 5 false)]) hq1
    refine ⟨q0, q1, _, _, rfl, rfl, sq1 _ _ upd_same, upd_same, by show 6 ≤ sizeLine; decide, fun r hr => ?_⟩
    rw [bas_list]
    exact k r _ (Same.free (sq0.trans sq1) hr) ((sq0.trans sq1).trans (same_upd hr)) upd_same
/-! ### the one sort -/
def bl (i n : Nat) : List V := (List.range n).map fun j => V.bl (i == j)
theorem bl_len (i n : Nat) : (bl i n).length = n := by simp [bl]
theorem bl_at {i n j : Nat} (h : j < n) : (bl i n)[j]? = some (.bl (i == j)) := by simp [bl, h]
theorem bl1 (i a : Nat) : bl i a ++ [V.bl (i == a)] = bl i (a + 1) := by simp [bl, List.range_succ]
theorem bl3 (i a : Nat) : bl i a ++ [V.bl (i == a), V.bl (i == a + 1), V.bl (i == a + 2)] = bl i (a + 3) := by simp [bl, List.range_succ]
theorem pre_one {i : Nat} : ∀ n, pre (fun j => if (i == j) = true then [V.int (j : Int)] else []) n = if i < n then [V.int (i : Int)] else []
  | 0 => by simp [pre]
  | n + 1 => by
    rw [pre_succ, pre_one n]
    by_cases c : i < n
    · have e : (i == n) = false := by
        have : ¬ i = n := by omega
        simpa using this
      simp only [e, if_pos c, if_pos (show i < n + 1 by omega)]
      rfl
    · by_cases d : i = n
      · subst d
        simp
      · have e : (i == n) = false := by simpa using d
        simp only [e, if_neg c, if_neg (show ¬ i < n + 1 by omega)]
        rfl
def spSorts (K : PySem.W.Frag) (A : Ad) : Sp := fun vs H Q _ => ∃ (v : V) (i : Nat), vs = [v] ∧ Ev K A H i v ∧ i < 34 ∧ ∀ q H', H q = none → Same H H' → H' q = some (.lst [.int (i : Int)]) → Q (.ref q) H'
theorem ok_l_sorts (T : Txt K mg A) (U : Funs K A fd) : FnOk P w K mg base CX0 1 A.l_sorts fd.l_sorts p_l_sorts (spSorts K A) := by
  refine U.F_l_sorts.ok sc_l_sorts (fun vs H Q E h => ?_) (fun cdv A0 outer s H vs Q E hr h => ?_)
  · obtain ⟨v, i, rfl, _⟩ := h
    rfl
  · have hu := hu_of hr
    obtain ⟨v, i, rfl, hv0, hi, k⟩ := h
    refine ⟨_, (pss_cons (ps_set (i := 1) sc_l_sorts.nd rfl (Or.inr rfl) (pe_lst (pa_cons (pe_callB (w_isV (K := K)) (by rfl) T.b_isinstance (by decide +kernel) (pa_cons (pv 0) (pa_cons (pe_glob (v := .ref A.x_InvalidSigns) (by rfl) T.mx_InvalidSigns rfl) pa_nil))) (pa_cons (pe_callB (w_isV (K := K)) (by rfl) T.b_isinstance (by decide +kernel) (pa_cons (pv 0) (pa_cons (pe_glob (v := .ref A.x_InvalidArrows) (by rfl) T.mx_InvalidArrows rfl) pa_nil))) (pa_cons (pe_callB (w_isV (K := K)) (by rfl) T.b_isinstance (by decide +kernel) (pa_cons (pv 0) (pa_cons (pe_glob (v := .ref A.x_InvalidEnds) (by rfl) T.mx_InvalidEnds rfl) pa_nil))) pa_nil)))))
       (pss_cons (ps_set (i := 1) sc_l_sorts.nd rfl (Or.inr rfl) (pe_op op_cat (pv 1) (pe_lst (pa_cons (pe_callB (w_isV (K := K)) (by rfl) T.b_isinstance (by decide +kernel) (pa_cons (pv 0) (pa_cons (pe_glob (v := .ref A.x_InvalidRow) (by rfl) T.mx_InvalidRow rfl) pa_nil))) (pa_cons (pe_callB (w_isV (K := K)) (by rfl) T.b_isinstance (by decide +kernel) (pa_cons (pv 0) (pa_cons (pe_glob (v := .ref A.x_InvalidNumber) (by rfl) T.mx_InvalidNumber rfl) pa_nil))) (pa_cons (pe_callB (w_isV (K := K)) (by rfl) T.b_isinstance (by decide +kernel) (pa_cons (pv 0) (pa_cons (pe_glob (v := .ref A.x_InvalidStand) (by rfl) T.mx_InvalidStand rfl) pa_nil))) pa_nil))))))
       (pss_cons (ps_set (i := 1) sc_l_sorts.nd rfl (Or.inr rfl) (pe_op op_cat (pv 1) (pe_lst (pa_cons (pe_callB (w_isV (K := K)) (by rfl) T.b_isinstance (by decide +kernel) (pa_cons (pv 0) (pa_cons (pe_glob (v := .ref A.x_InvalidSign) (by rfl) T.mx_InvalidSign rfl) pa_nil))) (pa_cons (pe_callB (w_isV (K := K)) (by rfl) T.b_isinstance (by decide +kernel) (pa_cons (pv 0) (pa_cons (pe_glob (v := .ref A.x_InvalidBook) (by rfl) T.mx_InvalidBook rfl) pa_nil))) (pa_cons (pe_callB (w_isV (K := K)) (by rfl) T.b_isinstance (by decide +kernel) (pa_cons (pv 0) (pa_cons (pe_glob (v := .ref A.x_InvalidPlan) (by rfl) T.mx_InvalidPlan rfl) pa_nil))) pa_nil))))))
       (pss_cons (ps_set (i := 1) sc_l_sorts.nd rfl (Or.inr rfl) (pe_op op_cat (pv 1) (pe_lst (pa_cons (pe_callB (w_isV (K := K)) (by rfl) T.b_isinstance (by decide +kernel) (pa_cons (pv 0) (pa_cons (pe_glob (v := .ref A.x_InvalidSteps) (by rfl) T.mx_InvalidSteps rfl) pa_nil))) (pa_cons (pe_callB (w_isV (K := K)) (by rfl) T.b_isinstance (by decide +kernel) (pa_cons (pv 0) (pa_cons (pe_glob (v := .ref A.x_InvalidWeights) (by rfl) T.mx_InvalidWeights rfl) pa_nil))) (pa_cons (pe_callB (w_isV (K := K)) (by rfl) T.b_isinstance (by decide +kernel) (pa_cons (pv 0) (pa_cons (pe_glob (v := .ref A.x_InvalidOutputs) (by rfl) T.mx_InvalidOutputs rfl) pa_nil))) pa_nil))))))
       (pss_cons (ps_set (i := 1) sc_l_sorts.nd rfl (Or.inr rfl) (pe_op op_cat (pv 1) (pe_lst (pa_cons (pe_callB (w_isV (K := K)) (by rfl) T.b_isinstance (by decide +kernel) (pa_cons (pv 0) (pa_cons (pe_glob (v := .ref A.x_InvalidMarks) (by rfl) T.mx_InvalidMarks rfl) pa_nil))) (pa_cons (pe_callB (w_isV (K := K)) (by rfl) T.b_isinstance (by decide +kernel) (pa_cons (pv 0) (pa_cons (pe_glob (v := .ref A.x_InvalidFormula) (by rfl) T.mx_InvalidFormula rfl) pa_nil))) (pa_cons (pe_callB (w_isV (K := K)) (by rfl) T.b_isinstance (by decide +kernel) (pa_cons (pv 0) (pa_cons (pe_glob (v := .ref A.x_InvalidTold) (by rfl) T.mx_InvalidTold rfl) pa_nil))) pa_nil))))))
       (pss_cons (ps_set (i := 1) sc_l_sorts.nd rfl (Or.inr rfl) (pe_op op_cat (pv 1) (pe_lst (pa_cons (pe_callB (w_isV (K := K)) (by rfl) T.b_isinstance (by decide +kernel) (pa_cons (pv 0) (pa_cons (pe_glob (v := .ref A.x_InvalidText) (by rfl) T.mx_InvalidText rfl) pa_nil))) (pa_cons (pe_callB (w_isV (K := K)) (by rfl) T.b_isinstance (by decide +kernel) (pa_cons (pv 0) (pa_cons (pe_glob (v := .ref A.x_InvalidName) (by rfl) T.mx_InvalidName rfl) pa_nil))) (pa_cons (pe_callB (w_isV (K := K)) (by rfl) T.b_isinstance (by decide +kernel) (pa_cons (pv 0) (pa_cons (pe_glob (v := .ref A.x_InvalidClaim) (by rfl) T.mx_InvalidClaim rfl) pa_nil))) pa_nil))))))
       (pss_cons (ps_set (i := 1) sc_l_sorts.nd rfl (Or.inr rfl) (pe_op op_cat (pv 1) (pe_lst (pa_cons (pe_callB (w_isV (K := K)) (by rfl) T.b_isinstance (by decide +kernel) (pa_cons (pv 0) (pa_cons (pe_glob (v := .ref A.x_InvalidIndex) (by rfl) T.mx_InvalidIndex rfl) pa_nil))) (pa_cons (pe_callB (w_isV (K := K)) (by rfl) T.b_isinstance (by decide +kernel) (pa_cons (pv 0) (pa_cons (pe_glob (v := .ref A.x_InvalidLine) (by rfl) T.mx_InvalidLine rfl) pa_nil))) (pa_cons (pe_callB (w_isV (K := K)) (by rfl) T.b_isinstance (by decide +kernel) (pa_cons (pv 0) (pa_cons (pe_glob (v := .ref A.x_NotAReader) (by rfl) T.mx_NotAReader rfl) pa_nil))) pa_nil))))))
       (pss_cons (ps_set (i := 1) sc_l_sorts.nd rfl (Or.inr rfl) (pe_op op_cat (pv 1) (pe_lst (pa_cons (pe_callB (w_isV (K := K)) (by rfl) T.b_isinstance (by decide +kernel) (pa_cons (pv 0) (pa_cons (pe_glob (v := .ref A.x_NotAGuesser) (by rfl) T.mx_NotAGuesser rfl) pa_nil))) (pa_cons (pe_callB (w_isV (K := K)) (by rfl) T.b_isinstance (by decide +kernel) (pa_cons (pv 0) (pa_cons (pe_glob (v := .ref A.x_NotAWeigher) (by rfl) T.mx_NotAWeigher rfl) pa_nil))) (pa_cons (pe_callB (w_isV (K := K)) (by rfl) T.b_isinstance (by decide +kernel) (pa_cons (pv 0) (pa_cons (pe_glob (v := .ref A.x_NotAWriter) (by rfl) T.mx_NotAWriter rfl) pa_nil))) pa_nil))))))
       (pss_cons (ps_set (i := 1) sc_l_sorts.nd rfl (Or.inr rfl) (pe_op op_cat (pv 1) (pe_lst (pa_cons (pe_callB (w_isV (K := K)) (by rfl) T.b_isinstance (by decide +kernel) (pa_cons (pv 0) (pa_cons (pe_glob (v := .ref A.x_NotAWatcher) (by rfl) T.mx_NotAWatcher rfl) pa_nil))) (pa_cons (pe_callB (w_isV (K := K)) (by rfl) T.b_isinstance (by decide +kernel) (pa_cons (pv 0) (pa_cons (pe_glob (v := .ref A.x_InvalidDeeds) (by rfl) T.mx_InvalidDeeds rfl) pa_nil))) (pa_cons (pe_callB (w_isV (K := K)) (by rfl) T.b_isinstance (by decide +kernel) (pa_cons (pv 0) (pa_cons (pe_glob (v := .ref A.x_InvalidLog) (by rfl) T.mx_InvalidLog rfl) pa_nil))) pa_nil))))))
       (pss_cons (ps_set (i := 1) sc_l_sorts.nd rfl (Or.inr rfl) (pe_op op_cat (pv 1) (pe_lst (pa_cons (pe_callB (w_isV (K := K)) (by rfl) T.b_isinstance (by decide +kernel) (pa_cons (pv 0) (pa_cons (pe_glob (v := .ref A.x_UnknownName) (by rfl) T.mx_UnknownName rfl) pa_nil))) (pa_cons (pe_callB (w_isV (K := K)) (by rfl) T.b_isinstance (by decide +kernel) (pa_cons (pv 0) (pa_cons (pe_glob (v := .ref A.x_InUse) (by rfl) T.mx_InUse rfl) pa_nil))) (pa_cons (pe_callB (w_isV (K := K)) (by rfl) T.b_isinstance (by decide +kernel) (pa_cons (pv 0) (pa_cons (pe_glob (v := .ref A.x_UnlikeSigns) (by rfl) T.mx_UnlikeSigns rfl) pa_nil))) pa_nil))))))
       (pss_cons (ps_set (i := 1) sc_l_sorts.nd rfl (Or.inr rfl) (pe_op op_cat (pv 1) (pe_lst (pa_cons (pe_callB (w_isV (K := K)) (by rfl) T.b_isinstance (by decide +kernel) (pa_cons (pv 0) (pa_cons (pe_glob (v := .ref A.x_NotFull) (by rfl) T.mx_NotFull rfl) pa_nil))) (pa_cons (pe_callB (w_isV (K := K)) (by rfl) T.b_isinstance (by decide +kernel) (pa_cons (pv 0) (pa_cons (pe_glob (v := .ref A.x_TooMany) (by rfl) T.mx_TooMany rfl) pa_nil))) (pa_cons (pe_callB (w_isV (K := K)) (by rfl) T.b_isinstance (by decide +kernel) (pa_cons (pv 0) (pa_cons (pe_glob (v := .ref A.x_NothingToUndo) (by rfl) T.mx_NothingToUndo rfl) pa_nil))) pa_nil))))))
       (pss_cons (ps_set (i := 1) sc_l_sorts.nd rfl (Or.inr rfl) (pe_op op_cat (pv 1) (pe_lst (pa_cons (pe_callB (w_isV (K := K)) (by rfl) T.b_isinstance (by decide +kernel) (pa_cons (pv 0) (pa_cons (pe_glob (v := .ref A.x_Broken) (by rfl) T.mx_Broken rfl) pa_nil))) pa_nil))))
       (pss_one (ps_ret (pe_lc (own := [("_law_at", 2)]) (g := gName 2) (by rfl) sc_l_sorts.nd (pi_range1 (by rfl) T.b_range (pa_cons pe_int pa_nil)) (blkOk_by (own := [("_law_at", 2)]) (by rfl)) (fun _ _ _ _ _ => (pg_name (i := 2) sc_l_sorts.nd rfl (Or.inl rfl))) (fun _ _ _ _ _ => (pts_one (pt_val (pe_ix (w_ixL (K := K)) (pv 1) (pv 2) (fun _ _ => rfl))))) (fun _ _ _ _ _ => (pv 2))))))))))))))))), ?_⟩
    have S0 : Same H H := Same.refl _
    refine g_seq (g_asg ?_)
    refine g_lst0 ?_
    refine (g_is T 0 hv0 (fun R r => ⟨_, rfl, r⟩) rfl (g_is T 1 hv0 (fun R r => ⟨_, rfl, r⟩) rfl (g_is T 2 hv0 (fun R r => ⟨_, rfl, r⟩) rfl ?_)))
    refine ⟨by show 3 ≤ sizeLine; decide, fun q0 hq0 => ?_⟩
    have sq0 := same_upd (o := .lst [V.bl (i == 0), V.bl (i == 1), V.bl (i == 2)]) hq0
    have L0 : (upd H q0 (.lst [V.bl (i == 0), V.bl (i == 1), V.bl (i == 2)])) q0 = some (.lst (bl i 3)) := upd_same
    have S1 := S0.trans sq0
    have hv1 := hv0.mono S1
    generalize upd H q0 (.lst [V.bl (i == 0), V.bl (i == 1), V.bl (i == 2)]) = J0 at L0 S1 hv1
    let r0 := q0
    refine g_nx ?_
    refine g_seq (g_asg ?_)
    refine ⟨_, rfl, ?_⟩
    refine g_lst0 ?_
    refine (g_is T 3 hv1 (fun R r => ⟨_, rfl, r⟩) rfl (g_is T 4 hv1 (fun R r => ⟨_, rfl, r⟩) rfl (g_is T 5 hv1 (fun R r => ⟨_, rfl, r⟩) rfl ?_)))
    refine ⟨by show 3 ≤ sizeLine; decide, fun q1 hq1 => ?_⟩
    have sq1 := same_upd (o := .lst [V.bl (i == 3), V.bl (i == 4), V.bl (i == 5)]) hq1
    refine ⟨q0, q1, bl i 3, [V.bl (i == 3), V.bl (i == 4), V.bl (i == 5)], rfl, rfl, sq1 _ _ L0, upd_same, szl (by rw [bl_len]; show 3 + 3 ≤ 100000; decide), fun r1 hr1 => ?_⟩
    have sr1 := same_upd (o := .lst (bl i 3 ++ [V.bl (i == 3), V.bl (i == 4), V.bl (i == 5)])) hr1
    have L1 : (upd (upd J0 q1 (.lst [V.bl (i == 3), V.bl (i == 4), V.bl (i == 5)])) r1 (.lst (bl i 3 ++ [V.bl (i == 3), V.bl (i == 4), V.bl (i == 5)]))) r1 = some (.lst (bl i 6)) := upd_same.trans (congrArg (fun l => some (HO.lst l)) (bl3 i 3))
    have S2 := (S1.trans sq1).trans sr1
    have hv2 := hv0.mono S2
    generalize upd (upd J0 q1 (.lst [V.bl (i == 3), V.bl (i == 4), V.bl (i == 5)])) r1 (.lst (bl i 3 ++ [V.bl (i == 3), V.bl (i == 4), V.bl (i == 5)])) = J1 at L1 S2 hv2
    refine g_nx ?_
    refine g_seq (g_asg ?_)
    refine ⟨_, rfl, ?_⟩
    refine g_lst0 ?_
    refine (g_is T 6 hv2 (fun R r => ⟨_, rfl, r⟩) rfl (g_is T 7 hv2 (fun R r => ⟨_, rfl, r⟩) rfl (g_is T 8 hv2 (fun R r => ⟨_, rfl, r⟩) rfl ?_)))
    refine ⟨by show 3 ≤ sizeLine; decide, fun q2 hq2 => ?_⟩
    have sq2 := same_upd (o := .lst [V.bl (i == 6), V.bl (i == 7), V.bl (i == 8)]) hq2
    refine ⟨r1, q2, bl i 6, [V.bl (i == 6), V.bl (i == 7), V.bl (i == 8)], rfl, rfl, sq2 _ _ L1, upd_same, szl (by rw [bl_len]; show 6 + 3 ≤ 100000; decide), fun r2 hr2 => ?_⟩
    have sr2 := same_upd (o := .lst (bl i 6 ++ [V.bl (i == 6), V.bl (i == 7), V.bl (i == 8)])) hr2
    have L2 : (upd (upd J1 q2 (.lst [V.bl (i == 6), V.bl (i == 7), V.bl (i == 8)])) r2 (.lst (bl i 6 ++ [V.bl (i == 6), V.bl (i == 7), V.bl (i == 8)]))) r2 = some (.lst (bl i 9)) := upd_same.trans (congrArg (fun l => some (HO.lst l)) (bl3 i 6))
    have S3 := (S2.trans sq2).trans sr2
    have hv3 := hv0.mono S3
    generalize upd (upd J1 q2 (.lst [V.bl (i == 6), V.bl (i == 7), V.bl (i == 8)])) r2 (.lst (bl i 6 ++ [V.bl (i == 6), V.bl (i == 7), V.bl (i == 8)])) = J2 at L2 S3 hv3
    refine g_nx ?_
    refine g_seq (g_asg ?_)
    refine ⟨_, rfl, ?_⟩
    refine g_lst0 ?_
    refine (g_is T 9 hv3 (fun R r => ⟨_, rfl, r⟩) rfl (g_is T 10 hv3 (fun R r => ⟨_, rfl, r⟩) rfl (g_is T 11 hv3 (fun R r => ⟨_, rfl, r⟩) rfl ?_)))
    refine ⟨by show 3 ≤ sizeLine; decide, fun q3 hq3 => ?_⟩
    have sq3 := same_upd (o := .lst [V.bl (i == 9), V.bl (i == 10), V.bl (i == 11)]) hq3
    refine ⟨r2, q3, bl i 9, [V.bl (i == 9), V.bl (i == 10), V.bl (i == 11)], rfl, rfl, sq3 _ _ L2, upd_same, szl (by rw [bl_len]; show 9 + 3 ≤ 100000; decide), fun r3 hr3 => ?_⟩
    have sr3 := same_upd (o := .lst (bl i 9 ++ [V.bl (i == 9), V.bl (i == 10), V.bl (i == 11)])) hr3
    have L3 : (upd (upd J2 q3 (.lst [V.bl (i == 9), V.bl (i == 10), V.bl (i == 11)])) r3 (.lst (bl i 9 ++ [V.bl (i == 9), V.bl (i == 10), V.bl (i == 11)]))) r3 = some (.lst (bl i 12)) := upd_same.trans (congrArg (fun l => some (HO.lst l)) (bl3 i 9))
    have S4 := (S3.trans sq3).trans sr3
    have hv4 := hv0.mono S4
    generalize upd (upd J2 q3 (.lst [V.bl (i == 9), V.bl (i == 10), V.bl (i == 11)])) r3 (.lst (bl i 9 ++ [V.bl (i == 9), V.bl (i == 10), V.bl (i == 11)])) = J3 at L3 S4 hv4
    refine g_nx ?_
    refine g_seq (g_asg ?_)
    refine ⟨_, rfl, ?_⟩
    refine g_lst0 ?_
    refine (g_is T 12 hv4 (fun R r => ⟨_, rfl, r⟩) rfl (g_is T 13 hv4 (fun R r => ⟨_, rfl, r⟩) rfl (g_is T 14 hv4 (fun R r => ⟨_, rfl, r⟩) rfl ?_)))
    refine ⟨by show 3 ≤ sizeLine; decide, fun q4 hq4 => ?_⟩
    have sq4 := same_upd (o := .lst [V.bl (i == 12), V.bl (i == 13), V.bl (i == 14)]) hq4
    refine ⟨r3, q4, bl i 12, [V.bl (i == 12), V.bl (i == 13), V.bl (i == 14)], rfl, rfl, sq4 _ _ L3, upd_same, szl (by rw [bl_len]; show 12 + 3 ≤ 100000; decide), fun r4 hr4 => ?_⟩
    have sr4 := same_upd (o := .lst (bl i 12 ++ [V.bl (i == 12), V.bl (i == 13), V.bl (i == 14)])) hr4
    have L4 : (upd (upd J3 q4 (.lst [V.bl (i == 12), V.bl (i == 13), V.bl (i == 14)])) r4 (.lst (bl i 12 ++ [V.bl (i == 12), V.bl (i == 13), V.bl (i == 14)]))) r4 = some (.lst (bl i 15)) := upd_same.trans (congrArg (fun l => some (HO.lst l)) (bl3 i 12))
    have S5 := (S4.trans sq4).trans sr4
    have hv5 := hv0.mono S5
    generalize upd (upd J3 q4 (.lst [V.bl (i == 12), V.bl (i == 13), V.bl (i == 14)])) r4 (.lst (bl i 12 ++ [V.bl (i == 12), V.bl (i == 13), V.bl (i == 14)])) = J4 at L4 S5 hv5
    refine g_nx ?_
    refine g_seq (g_asg ?_)
    refine ⟨_, rfl, ?_⟩
    refine g_lst0 ?_
    refine (g_is T 15 hv5 (fun R r => ⟨_, rfl, r⟩) rfl (g_is T 16 hv5 (fun R r => ⟨_, rfl, r⟩) rfl (g_is T 17 hv5 (fun R r => ⟨_, rfl, r⟩) rfl ?_)))
    refine ⟨by show 3 ≤ sizeLine; decide, fun q5 hq5 => ?_⟩
    have sq5 := same_upd (o := .lst [V.bl (i == 15), V.bl (i == 16), V.bl (i == 17)]) hq5
    refine ⟨r4, q5, bl i 15, [V.bl (i == 15), V.bl (i == 16), V.bl (i == 17)], rfl, rfl, sq5 _ _ L4, upd_same, szl (by rw [bl_len]; show 15 + 3 ≤ 100000; decide), fun r5 hr5 => ?_⟩
    have sr5 := same_upd (o := .lst (bl i 15 ++ [V.bl (i == 15), V.bl (i == 16), V.bl (i == 17)])) hr5
    have L5 : (upd (upd J4 q5 (.lst [V.bl (i == 15), V.bl (i == 16), V.bl (i == 17)])) r5 (.lst (bl i 15 ++ [V.bl (i == 15), V.bl (i == 16), V.bl (i == 17)]))) r5 = some (.lst (bl i 18)) := upd_same.trans (congrArg (fun l => some (HO.lst l)) (bl3 i 15))
    have S6 := (S5.trans sq5).trans sr5
    have hv6 := hv0.mono S6
    generalize upd (upd J4 q5 (.lst [V.bl (i == 15), V.bl (i == 16), V.bl (i == 17)])) r5 (.lst (bl i 15 ++ [V.bl (i == 15), V.bl (i == 16), V.bl (i == 17)])) = J5 at L5 S6 hv6
    refine g_nx ?_
    refine g_seq (g_asg ?_)
    refine ⟨_, rfl, ?_⟩
    refine g_lst0 ?_
    refine (g_is T 18 hv6 (fun R r => ⟨_, rfl, r⟩) rfl (g_is T 19 hv6 (fun R r => ⟨_, rfl, r⟩) rfl (g_is T 20 hv6 (fun R r => ⟨_, rfl, r⟩) rfl ?_)))
    refine ⟨by show 3 ≤ sizeLine; decide, fun q6 hq6 => ?_⟩
    have sq6 := same_upd (o := .lst [V.bl (i == 18), V.bl (i == 19), V.bl (i == 20)]) hq6
    refine ⟨r5, q6, bl i 18, [V.bl (i == 18), V.bl (i == 19), V.bl (i == 20)], rfl, rfl, sq6 _ _ L5, upd_same, szl (by rw [bl_len]; show 18 + 3 ≤ 100000; decide), fun r6 hr6 => ?_⟩
    have sr6 := same_upd (o := .lst (bl i 18 ++ [V.bl (i == 18), V.bl (i == 19), V.bl (i == 20)])) hr6
    have L6 : (upd (upd J5 q6 (.lst [V.bl (i == 18), V.bl (i == 19), V.bl (i == 20)])) r6 (.lst (bl i 18 ++ [V.bl (i == 18), V.bl (i == 19), V.bl (i == 20)]))) r6 = some (.lst (bl i 21)) := upd_same.trans (congrArg (fun l => some (HO.lst l)) (bl3 i 18))
    have S7 := (S6.trans sq6).trans sr6
    have hv7 := hv0.mono S7
    generalize upd (upd J5 q6 (.lst [V.bl (i == 18), V.bl (i == 19), V.bl (i == 20)])) r6 (.lst (bl i 18 ++ [V.bl (i == 18), V.bl (i == 19), V.bl (i == 20)])) = J6 at L6 S7 hv7
    refine g_nx ?_
    refine g_seq (g_asg ?_)
    refine ⟨_, rfl, ?_⟩
    refine g_lst0 ?_
    refine (g_is T 21 hv7 (fun R r => ⟨_, rfl, r⟩) rfl (g_is T 22 hv7 (fun R r => ⟨_, rfl, r⟩) rfl (g_is T 23 hv7 (fun R r => ⟨_, rfl, r⟩) rfl ?_)))
    refine ⟨by show 3 ≤ sizeLine; decide, fun q7 hq7 => ?_⟩
    have sq7 := same_upd (o := .lst [V.bl (i == 21), V.bl (i == 22), V.bl (i == 23)]) hq7
    refine ⟨r6, q7, bl i 21, [V.bl (i == 21), V.bl (i == 22), V.bl (i == 23)], rfl, rfl, sq7 _ _ L6, upd_same, szl (by rw [bl_len]; show 21 + 3 ≤ 100000; decide), fun r7 hr7 => ?_⟩
    have sr7 := same_upd (o := .lst (bl i 21 ++ [V.bl (i == 21), V.bl (i == 22), V.bl (i == 23)])) hr7
    have L7 : (upd (upd J6 q7 (.lst [V.bl (i == 21), V.bl (i == 22), V.bl (i == 23)])) r7 (.lst (bl i 21 ++ [V.bl (i == 21), V.bl (i == 22), V.bl (i == 23)]))) r7 = some (.lst (bl i 24)) := upd_same.trans (congrArg (fun l => some (HO.lst l)) (bl3 i 21))
    have S8 := (S7.trans sq7).trans sr7
    have hv8 := hv0.mono S8
    generalize upd (upd J6 q7 (.lst [V.bl (i == 21), V.bl (i == 22), V.bl (i == 23)])) r7 (.lst (bl i 21 ++ [V.bl (i == 21), V.bl (i == 22), V.bl (i == 23)])) = J7 at L7 S8 hv8
    refine g_nx ?_
    refine g_seq (g_asg ?_)
    refine ⟨_, rfl, ?_⟩
    refine g_lst0 ?_
    refine (g_is T 24 hv8 (fun R r => ⟨_, rfl, r⟩) rfl (g_is T 25 hv8 (fun R r => ⟨_, rfl, r⟩) rfl (g_is T 26 hv8 (fun R r => ⟨_, rfl, r⟩) rfl ?_)))
    refine ⟨by show 3 ≤ sizeLine; decide, fun q8 hq8 => ?_⟩
    have sq8 := same_upd (o := .lst [V.bl (i == 24), V.bl (i == 25), V.bl (i == 26)]) hq8
    refine ⟨r7, q8, bl i 24, [V.bl (i == 24), V.bl (i == 25), V.bl (i == 26)], rfl, rfl, sq8 _ _ L7, upd_same, szl (by rw [bl_len]; show 24 + 3 ≤ 100000; decide), fun r8 hr8 => ?_⟩
    have sr8 := same_upd (o := .lst (bl i 24 ++ [V.bl (i == 24), V.bl (i == 25), V.bl (i == 26)])) hr8
    have L8 : (upd (upd J7 q8 (.lst [V.bl (i == 24), V.bl (i == 25), V.bl (i == 26)])) r8 (.lst (bl i 24 ++ [V.bl (i == 24), V.bl (i == 25), V.bl (i == 26)]))) r8 = some (.lst (bl i 27)) := upd_same.trans (congrArg (fun l => some (HO.lst l)) (bl3 i 24))
    have S9 := (S8.trans sq8).trans sr8
    have hv9 := hv0.mono S9
    generalize upd (upd J7 q8 (.lst [V.bl (i == 24), V.bl (i == 25), V.bl (i == 26)])) r8 (.lst (bl i 24 ++ [V.bl (i == 24), V.bl (i == 25), V.bl (i == 26)])) = J8 at L8 S9 hv9
    refine g_nx ?_
    refine g_seq (g_asg ?_)
    refine ⟨_, rfl, ?_⟩
    refine g_lst0 ?_
    refine (g_is T 27 hv9 (fun R r => ⟨_, rfl, r⟩) rfl (g_is T 28 hv9 (fun R r => ⟨_, rfl, r⟩) rfl (g_is T 29 hv9 (fun R r => ⟨_, rfl, r⟩) rfl ?_)))
    refine ⟨by show 3 ≤ sizeLine; decide, fun q9 hq9 => ?_⟩
    have sq9 := same_upd (o := .lst [V.bl (i == 27), V.bl (i == 28), V.bl (i == 29)]) hq9
    refine ⟨r8, q9, bl i 27, [V.bl (i == 27), V.bl (i == 28), V.bl (i == 29)], rfl, rfl, sq9 _ _ L8, upd_same, szl (by rw [bl_len]; show 27 + 3 ≤ 100000; decide), fun r9 hr9 => ?_⟩
    have sr9 := same_upd (o := .lst (bl i 27 ++ [V.bl (i == 27), V.bl (i == 28), V.bl (i == 29)])) hr9
    have L9 : (upd (upd J8 q9 (.lst [V.bl (i == 27), V.bl (i == 28), V.bl (i == 29)])) r9 (.lst (bl i 27 ++ [V.bl (i == 27), V.bl (i == 28), V.bl (i == 29)]))) r9 = some (.lst (bl i 30)) := upd_same.trans (congrArg (fun l => some (HO.lst l)) (bl3 i 27))
    have S10 := (S9.trans sq9).trans sr9
    have hv10 := hv0.mono S10
    generalize upd (upd J8 q9 (.lst [V.bl (i == 27), V.bl (i == 28), V.bl (i == 29)])) r9 (.lst (bl i 27 ++ [V.bl (i == 27), V.bl (i == 28), V.bl (i == 29)])) = J9 at L9 S10 hv10
    refine g_nx ?_
    refine g_seq (g_asg ?_)
    refine ⟨_, rfl, ?_⟩
    refine g_lst0 ?_
    refine (g_is T 30 hv10 (fun R r => ⟨_, rfl, r⟩) rfl (g_is T 31 hv10 (fun R r => ⟨_, rfl, r⟩) rfl (g_is T 32 hv10 (fun R r => ⟨_, rfl, r⟩) rfl ?_)))
    refine ⟨by show 3 ≤ sizeLine; decide, fun q10 hq10 => ?_⟩
    have sq10 := same_upd (o := .lst [V.bl (i == 30), V.bl (i == 31), V.bl (i == 32)]) hq10
    refine ⟨r9, q10, bl i 30, [V.bl (i == 30), V.bl (i == 31), V.bl (i == 32)], rfl, rfl, sq10 _ _ L9, upd_same, szl (by rw [bl_len]; show 30 + 3 ≤ 100000; decide), fun r10 hr10 => ?_⟩
    have sr10 := same_upd (o := .lst (bl i 30 ++ [V.bl (i == 30), V.bl (i == 31), V.bl (i == 32)])) hr10
    have L10 : (upd (upd J9 q10 (.lst [V.bl (i == 30), V.bl (i == 31), V.bl (i == 32)])) r10 (.lst (bl i 30 ++ [V.bl (i == 30), V.bl (i == 31), V.bl (i == 32)]))) r10 = some (.lst (bl i 33)) := upd_same.trans (congrArg (fun l => some (HO.lst l)) (bl3 i 30))
    have S11 := (S10.trans sq10).trans sr10
    have hv11 := hv0.mono S11
    generalize upd (upd J9 q10 (.lst [V.bl (i == 30), V.bl (i == 31), V.bl (i == 32)])) r10 (.lst (bl i 30 ++ [V.bl (i == 30), V.bl (i == 31), V.bl (i == 32)])) = J10 at L10 S11 hv11
    refine g_nx ?_
    refine g_seq (g_asg ?_)
    refine ⟨_, rfl, ?_⟩
    refine g_lst0 ?_
    refine (g_is T 33 hv11 (fun R r => ⟨_, rfl, r⟩) rfl ?_)
    refine ⟨by show 1 ≤ sizeLine; decide, fun q11 hq11 => ?_⟩
    have sq11 := same_upd (o := .lst [V.bl (i == 33)]) hq11
    refine ⟨r10, q11, bl i 33, [V.bl (i == 33)], rfl, rfl, sq11 _ _ L10, upd_same, szl (by rw [bl_len]; show 33 + 1 ≤ 100000; decide), fun r11 hr11 => ?_⟩
    have sr11 := same_upd (o := .lst (bl i 33 ++ [V.bl (i == 33)])) hr11
    have L11 : (upd (upd J10 q11 (.lst [V.bl (i == 33)])) r11 (.lst (bl i 33 ++ [V.bl (i == 33)]))) r11 = some (.lst (bl i 34)) := upd_same.trans (congrArg (fun l => some (HO.lst l)) (bl1 i 33))
    have S12 := (S11.trans sq11).trans sr11
    have hv12 := hv0.mono S12
    generalize upd (upd J10 q11 (.lst [V.bl (i == 33)])) r11 (.lst (bl i 33 ++ [V.bl (i == 33)])) = J11 at L11 S12 hv12
    refine g_nx ?_
    refine g_ret (cR (n := 34) (m := 34) (fun j => if (i == j) = true then [V.int (j : Int)] else []) rfl (by decide) (fun R r => r) (fun j => ?_) (by decide) (fun _ => rfl) (fun j hj => ?_) (fun D G hD sG hG => ?_))
    · split
      · exact Nat.le_refl 1
      · exact Nat.zero_le 1
    · intro G1 R N sG hy hn
      refine ⟨_, rfl, _, rfl, r11, _, _, _, rfl, rfl, lst_of (sG _ _ L11), atI_nat (bl_at hj), _, rfl, ?_⟩
      by_cases c : (i == j) = true
      · rw [c]
        refine iteT ⟨_, rfl, hy _ G1 (by rw [if_pos c]) (Same.refl _)⟩
      · rw [Bool.eq_false_iff.mpr c]
        exact iteF (hn G1 (by rw [if_neg c]) (Same.refl _))
    · rw [pre_one, if_pos hi] at hG
      exact k D G (Same.free S12 hD) (S12.trans sG) hG
end K6


set_option Elab.async false
set_option linter.all false
set_option maxRecDepth 100000
set_option maxHeartbeats 4000000
namespace K6
open PySem PySem.Spec PyProof.Rows L2 Rw
variable {P : Program} {w : World} {K : PySem.W.Frag} {mg : Str → Option Value} {base : Heap} {A : Ad} {fd : Fds}
theorem eqv_same {d : PyData} (h : SeqAt.shaped d = true) : PyData.eqv d d = true := SeqAt.eqv_refl d (SeqAt.canLay_of_shaped h)
theorem Hold.dps {H : Hp} {acc : List V} {n : Nat} {ys : Nat → List V} (h : Hold H acc n ys) {ds : Nat → List PyData} (hd : ∀ k, k < n → DpAll K H (ys k) (ds k)) : DpAll K H acc ((List.range n).map fun k => .list (ds k)) := by
  have key : ∀ m, m ≤ n → DpAll K H (acc.take m) ((List.range m).map fun k => .list (ds k)) := by
    intro m
    induction m with
    | zero => intro _; exact .nil
    | succ m ih =>
      intro hm
      obtain ⟨p, e, hp⟩ := h.2 m (by omega)
      rw [List.take_add_one, e, List.range_succ, List.map_append]
      exact dps_snoc (ih (by omega)) (.lst (lst_of hp) (hd m (by omega)))
  have := key n (Nat.le_refl _)
  rw [← h.1, List.take_length, h.1] at this
  exact this
theorem dps_take {H : Hp} : ∀ (n : Nat) {vs : List V} {ds : List PyData}, DpAll K H vs ds → DpAll K H (vs.take n) (ds.take n)
  | 0, _, _, _ => .nil
  | n + 1, [], [], _ => .nil
  | n + 1, _ :: _, _ :: _, .cons a b => .cons a (dps_take n b)
theorem dps_drop {H : Hp} : ∀ (n : Nat) {vs : List V} {ds : List PyData}, DpAll K H vs ds → DpAll K H (vs.drop n) (ds.drop n)
  | 0, _, _, h => h
  | n + 1, [], [], _ => .nil
  | n + 1, _ :: _, _ :: _, .cons _ b => dps_drop n b
def blD (l : List Bool) : List PyData := l.map PyData.bool
theorem bls_dps {H : Hp} : ∀ l : List Bool, DpAll K H (l.map V.bl) (blD l)
  | [] => .nil
  | b :: l => .cons (.bl b) (bls_dps l)
section
variable {H : Hp} {σ : L2.St} {tl te : TE} {ta : TA} {vs : List Nat} {j n : Nat} {Q : VK}
theorem cLN {a : Addr} {us : List V} (ys : Nat → List V) (htl : ∀ R : VK, R (.ref a) H → tl σ H R) (hx : SqL K H a us) (hn : us.length < 100000)
    (hw : ∀ x, wipe ((wipe σ vs).set j (some x)) vs = wipe σ vs) (turn : ∀ i x, us[i]? = some x → TurnN te ((wipe σ vs).set j (some x)) H (ys i))
    (fin : ∀ D acc H1, H D = none → Same H H1 → H1 D = some (.lst acc) → Hold (del D H1) acc us.length ys → Q (.ref D) H1) : tLc (iList K tl) (gName j) tYes te vs σ H Q := by
  refine htl _ ⟨a, rfl, ⟨us, hx⟩, ?_⟩
  refine lcN (Itl K a) us.length (fun i => us.getD i .non) ys hn (fun i H1 hi s => ?_) (fun H1 s => ?_) (fun i H1 x H' hi s hy => ?_) hw (fun i hi => ?_) fin
  · exact ⟨us, us[i], sqL_mono s hx, by simp [hi]⟩
  · exact ⟨us, sqL_mono s hx, Nat.le_refl _⟩
  · obtain ⟨e, y⟩ := hy
    exact ⟨e, (getD_of (y us (sqL_mono s hx))).symm⟩
  · have h : us[i]? = some (us.getD i .non) := by
      rw [List.getElem?_eq_getElem hi, List.getD_eq_getElem?_getD, List.getElem?_eq_getElem hi]
      rfl
    exact turn i _ h
theorem cRN (ys : Nat → List V) (hb : n < 100000) (hta : ∀ R : List V → Hp → Prop, R [.int (n : Int)] H → ta σ H R)
    (hw : ∀ x, wipe ((wipe σ vs).set j (some x)) vs = wipe σ vs) (turn : ∀ i : Nat, i < n → TurnN te ((wipe σ vs).set j (some (.int (i : Int)))) H (ys i))
    (fin : ∀ D acc H1, H D = none → Same H H1 → H1 D = some (.lst acc) → Hold (del D H1) acc n ys → Q (.ref D) H1) : tLc (iRng1 ta) (gName j) tYes te vs σ H Q := by
  refine hta _ ⟨(n : Int), rfl, by omega, by omega, ?_⟩
  rw [Int.toNat_natCast]
  refine lcN (Itr 0 n) n (fun i => .int (i : Int)) ys hb (fun i H1 hi s => hi) (fun H1 s => Nat.le_refl _) (fun i H1 x H' hi s hy => ?_) hw turn fin
  obtain ⟨e, y⟩ := hy
  refine ⟨e, ?_⟩
  rw [y, Int.zero_add]
end
theorem noG (T : Txt K mg A) : ∀ C ∈ (xs A).take 25, PySem.W.findIn K (.ref C) "given" = some none :=
  List.forall_mem_cons.mpr ⟨T.x_InvalidSigns.noN, List.forall_mem_cons.mpr ⟨T.x_InvalidArrows.noN, List.forall_mem_cons.mpr ⟨T.x_InvalidEnds.noN, List.forall_mem_cons.mpr ⟨T.x_InvalidRow.noN, List.forall_mem_cons.mpr ⟨T.x_InvalidNumber.noN, List.forall_mem_cons.mpr ⟨T.x_InvalidStand.noN, List.forall_mem_cons.mpr ⟨T.x_InvalidSign.noN, List.forall_mem_cons.mpr ⟨T.x_InvalidBook.noN, List.forall_mem_cons.mpr ⟨T.x_InvalidPlan.noN, List.forall_mem_cons.mpr ⟨T.x_InvalidSteps.noN, List.forall_mem_cons.mpr ⟨T.x_InvalidWeights.noN, List.forall_mem_cons.mpr ⟨T.x_InvalidOutputs.noN, List.forall_mem_cons.mpr ⟨T.x_InvalidMarks.noN, List.forall_mem_cons.mpr ⟨T.x_InvalidFormula.noN, List.forall_mem_cons.mpr ⟨T.x_InvalidTold.noN, List.forall_mem_cons.mpr ⟨T.x_InvalidText.noN, List.forall_mem_cons.mpr ⟨T.x_InvalidName.noN, List.forall_mem_cons.mpr ⟨T.x_InvalidClaim.noN, List.forall_mem_cons.mpr ⟨T.x_InvalidIndex.noN, List.forall_mem_cons.mpr ⟨T.x_InvalidLine.noN, List.forall_mem_cons.mpr ⟨T.x_NotAReader.noN, List.forall_mem_cons.mpr ⟨T.x_NotAGuesser.noN, List.forall_mem_cons.mpr ⟨T.x_NotAWeigher.noN, List.forall_mem_cons.mpr ⟨T.x_NotAWriter.noN, List.forall_mem_cons.mpr ⟨T.x_NotAWatcher.noN, fun C h => nomatch h⟩⟩⟩⟩⟩⟩⟩⟩⟩⟩⟩⟩⟩⟩⟩⟩⟩⟩⟩⟩⟩⟩⟩⟩⟩
theorem g_ifS {c : TT} {t u : TS} {D : Ends} {σ : L2.St} {H : Hp} (h : c σ H fun b H1 => if b = true then t D σ H1 else u D σ H1) : tIfS c t u D σ H := h
theorem g_test {te : TE} {σ : L2.St} {H : Hp} {Q : Bool → Hp → Prop} (h : te σ H fun x H1 => ∃ k, x = .bl k ∧ Q k H1) : tTest te σ H Q := h
theorem g_op {r : R2} {ta tb : TE} {σ : L2.St} {H : Hp} {Q : VK} (h : ta σ H fun x H1 => tb σ H1 fun y H2 => r x y H2 Q) : tOp r ta tb σ H Q := h
theorem cutV_of {vs : List V} (h : vs.length = 34) {lo hi : Option Int} (a b : Nat) (h1 : HT.sIx 34 0 lo = a) (h2 : HT.sIx 34 34 hi = b) : cutV vs lo hi = (vs.drop a).take (b - a) := by
  unfold cutV
  rw [h, h1, h2]
theorem rep_dps {H : Hp} (x : Str) : ∀ n, DpAll K H (List.replicate n (V.str x)) (List.replicate n (PyData.str x))
  | 0 => .nil
  | n + 1 => by
    rw [List.replicate_succ, List.replicate_succ]
    exact .cons (.str x) (rep_dps x n)
theorem rep_flat (v : V) : ∀ n, (List.replicate n [v]).flatten = List.replicate n v
  | 0 => rfl
  | n + 1 => by
    rw [List.replicate_succ, List.flatten_cons, rep_flat v n, List.replicate_succ]
    rfl
theorem flds_given : ∀ i, i < 25 → flds[i]? = some (some (("given" : Str), V.str ("x" : Str))) := by decide +kernel
theorem ev_fld {H : Hp} {i : Nat} {x y : V} {f : Str} {te : TE} {σ : L2.St} {R : VK} (ev : Ev K A H i x) (hf : flds[i]? = some (some (f, y))) (hno : ∀ C, (xs A)[i]? = some C → PySem.W.findIn K (.ref C) f = some none) (h0 : ∀ R : VK, R x H → te σ H R) (h : R y H) : tFldV K f te σ H R := by
  obtain ⟨e, C, d, rfl, hC, va, hd⟩ := ev.ob
  obtain ⟨dd, rfl, hx⟩ := hd f y hf
  exact h0 _ ⟨e, C, dd, _, y, rfl, va.xc, va.at_, hx, hno C hC, by simp [List.lookup], h⟩
theorem g_fld {H : Hp} (i : Nat) {x y : V} {f : Str} {te : TE} {tr : TA} {σ : L2.St} {Q : List V → Hp → Prop} (ev : Ev K A H i x) (hf : flds[i]? = some (some (f, y))) (hno : ∀ C, (xs A)[i]? = some C → PySem.W.findIn K (.ref C) f = some none) (h0 : ∀ R : VK, R x H → te σ H R) (h : tr σ H fun us H3 => Q (y :: us) H3) : tCons (tFldV K f te) tr σ H Q :=
  ev_fld ev hf hno h0 h
def told : List Int := [8, 200, 12, 200, 1000, 4, 500, 2000, 6, 36, 12, 8, 60]
def dTo : PyData := .list (told.map PyData.int)
def dSo : PyData := .list ((List.range 34).map fun (i : Nat) => .list [.int (i : Int)])
def dBa (i n : Nat) : PyData := .list ((List.range n).map fun _ => .list (blD (bas i)))
def spLaw (K : PySem.W.Frag) : Sp := fun vs H Q _ => ∃ (a : Addr) (ns : List Int), vs = [.ref a] ∧ SqL K H a (ns.map V.int) ∧ ns.length ≤ 63 ∧ ∀ H', Q (.bl true) H'
theorem ok_law (T : Txt K mg A) (U : Funs K A fd) : FnOk P w K mg base CX0 4 A.law fd.law p_law (spLaw K) := by
  have b_l_bases := U.b_l_bases
  have G_l_bases := ok_l_bases (P := P) (w := w) (base := base) T U
  have b_l_sorts := U.b_l_sorts
  have G_l_sorts := ok_l_sorts (P := P) (w := w) (base := base) T U
  have b_l_given := U.b_l_given
  have G_l_given := ok_l_given (P := P) (w := w) (base := base) T U
  refine U.F_law.ok sc_law (fun vs H Q E h => ?_) (fun cdv A0 outer s H vs Q E hr h => ?_)
  · obtain ⟨a, ns, rfl, _⟩ := h
    rfl
  · have hu := hu_of hr
    obtain ⟨a, ns, rfl, hS, hn, k⟩ := h
    refine ⟨_, (pss_cons (ps_set (i := 1) sc_law.nd rfl (Or.inl rfl) (pe_lst (pa_cons (pe_glob (v := .int 8) (by rfl) T.c_MOST_SIGNS.choose_spec ⟨_, rfl⟩) (pa_cons (pe_glob (v := .int 200) (by rfl) T.c_MOST_STANDS.choose_spec ⟨_, rfl⟩) (pa_cons (pe_glob (v := .int 12) (by rfl) T.c_MOST_GUESSED.choose_spec ⟨_, rfl⟩) (pa_cons (pe_glob (v := .int 200) (by rfl) T.c_MOST_ROW.choose_spec ⟨_, rfl⟩) (pa_cons (pe_glob (v := .int 1000) (by rfl) T.c_MOST_LISTED.choose_spec ⟨_, rfl⟩) (pa_cons (pe_glob (v := .int 4) (by rfl) T.c_MOST_WORD.choose_spec ⟨_, rfl⟩) (pa_cons (pe_glob (v := .int 500) (by rfl) T.c_MOST_DEEDS.choose_spec ⟨_, rfl⟩) (pa_cons (pe_glob (v := .int 2000) (by rfl) T.c_MOST_LOOKS.choose_spec ⟨_, rfl⟩) pa_nil))))))))))
       (pss_cons (ps_set (i := 1) sc_law.nd rfl (Or.inl rfl) (pe_op op_cat (pv 1) (pe_lst (pa_cons (pe_glob (v := .int 6) (by rfl) T.c_MOST_SIZE.choose_spec ⟨_, rfl⟩) (pa_cons (pe_glob (v := .int 36) (by rfl) T.c_MOST_WEIGHED.choose_spec ⟨_, rfl⟩) (pa_cons (pe_glob (v := .int 12) (by rfl) T.c_MOST_LED.choose_spec ⟨_, rfl⟩) (pa_cons (pe_glob (v := .int 8) (by rfl) T.c_MOST_PARTED.choose_spec ⟨_, rfl⟩) (pa_cons (pe_glob (v := .int 60) (by rfl) T.c_MOST_CHANGES.choose_spec ⟨_, rfl⟩) pa_nil))))))))
       (pss_cons (ps_if (pt_cmpR (w_neD (K := K) hr.units) (pv 1) (pe_lst (pa_cons pe_int (pa_cons pe_int (pa_cons pe_int (pa_cons pe_int (pa_cons pe_int (pa_cons pe_int (pa_cons pe_int (pa_cons pe_int (pa_cons pe_int (pa_cons pe_int (pa_cons pe_int (pa_cons pe_int (pa_cons pe_int pa_nil)))))))))))))) (nomark _)) (pss_one (ps_ret pe_bl)) pss_nil)
       (pss_cons (ps_set (i := 2) sc_law.nd rfl (Or.inl rfl) (pe_op op_cat (pe_call0 G_l_given (hr.mono (by decide)) (by rfl) T.m_l_given T.k_l_given b_l_given .nil pass0) (pe_lst (pa_cons (pe_index T.x_InvalidDeeds hr (pa_cons pe_int pa_nil)) (pa_cons (pe_indexK T.x_InvalidLog hr (pk_cons pe_non pk_nil)) (pa_cons (pe_given T.x_UnknownName hr (pa_cons pe_str pa_nil)) (pa_cons (pe_indexK T.x_InUse hr (pk_cons pe_int pk_nil)) (pa_cons (pe_none T.x_UnlikeSigns) pa_nil))))))))
       (pss_cons (ps_set (i := 2) sc_law.nd rfl (Or.inl rfl) (pe_op op_cat (pv 2) (pe_lst (pa_cons (pe_none T.x_NotFull) (pa_cons (pe_limitK T.x_TooMany hr (pk_cons pe_int pk_nil)) (pa_cons (pe_none T.x_NothingToUndo) (pa_cons (pe_index T.x_Broken hr (pa_cons pe_int pa_nil)) pa_nil)))))))
       (pss_cons (ps_if (pt_cmpR (w_neD (K := K) hr.units) (pe_lc (own := [("_law_e", 5)]) (g := gName 5) (tt := tYes) (by rfl) sc_law.nd (w_piL (K := K) (pv 2)) (blkOk_by (own := [("_law_e", 5)]) (by rfl)) (fun _ _ _ _ _ => (pg_name (i := 5) sc_law.nd rfl (Or.inl rfl))) (fun _ _ _ _ _ => pts_nil) (fun _ _ _ _ _ => (pe_call G_l_sorts (hr.mono (by decide)) (by rfl) T.m_l_sorts T.k_l_sorts b_l_sorts .nil pass0 (pa_cons (pv 5) pa_nil)))) (pe_lc (own := [("_law_at", 6)]) (g := gName 6) (tt := tYes) (by rfl) sc_law.nd (pi_range1 (by rfl) T.b_range (pa_cons pe_int pa_nil)) (blkOk_by (own := [("_law_at", 6)]) (by rfl)) (fun _ _ _ _ _ => (pg_name (i := 6) sc_law.nd rfl (Or.inl rfl))) (fun _ _ _ _ _ => pts_nil) (fun _ _ _ _ _ => (pe_lst (pa_cons (pv 6) pa_nil)))) (nomark _)) (pss_one (ps_ret pe_bl)) pss_nil)
       (pss_cons (ps_setLc (i := 3) (own := [("_law_e", 5)]) (g := gName 5) (tt := tYes) (by rfl) sc_law.nd rfl rfl (sw_true rfl rfl rfl (by decide +kernel)) (w_piL (K := K) (pv 2)) (blkOk_by (own := [("_law_e", 5)]) (by rfl)) (fun _ _ _ _ _ => (pg_name (i := 5) sc_law.nd rfl (Or.inl rfl))) (fun _ _ _ _ _ => pts_nil) (fun _ _ _ _ _ => (pe_call G_l_bases (hr.mono (by decide)) (by rfl) T.m_l_bases T.k_l_bases b_l_bases .nil pass0 (pa_cons (pv 5) pa_nil))))
       (pss_cons (ps_if (pt_cmpR (w_neD (K := K) hr.units) (pe_slice (w_slL (K := K)) (pv 3) po_none (po_some pe_int)) (pe_lc (own := [("_law_at", 6)]) (g := gName 6) (tt := tYes) (by rfl) sc_law.nd (pi_range1 (by rfl) T.b_range (pa_cons pe_int pa_nil)) (blkOk_by (own := [("_law_at", 6)]) (by rfl)) (fun _ _ _ _ _ => (pg_name (i := 6) sc_law.nd rfl (Or.inl rfl))) (fun _ _ _ _ _ => pts_nil) (fun _ _ _ _ _ => (pe_lst (pa_cons pe_bl (pa_cons pe_bl (pa_cons pe_bl (pa_cons pe_bl (pa_cons pe_bl (pa_cons pe_bl pa_nil))))))))) (nomark _)) (pss_one (ps_ret pe_bl)) pss_nil)
       (pss_cons (ps_if (pt_cmpR (w_neD (K := K) hr.units) (pe_slice (w_slL (K := K)) (pv 3) (po_some pe_int) (po_some pe_int)) (pe_lc (own := [("_law_at", 6)]) (g := gName 6) (tt := tYes) (by rfl) sc_law.nd (pi_range1 (by rfl) T.b_range (pa_cons pe_int pa_nil)) (blkOk_by (own := [("_law_at", 6)]) (by rfl)) (fun _ _ _ _ _ => (pg_name (i := 6) sc_law.nd rfl (Or.inl rfl))) (fun _ _ _ _ _ => pts_nil) (fun _ _ _ _ _ => (pe_lst (pa_cons pe_bl (pa_cons pe_bl (pa_cons pe_bl (pa_cons pe_bl (pa_cons pe_bl (pa_cons pe_bl pa_nil))))))))) (nomark _)) (pss_one (ps_ret pe_bl)) pss_nil)
       (pss_cons (ps_if (pt_cmpR (w_neD (K := K) hr.units) (pe_slice (w_slL (K := K)) (pv 3) (po_some pe_int) po_none) (pe_lc (own := [("_law_at", 6)]) (g := gName 6) (tt := tYes) (by rfl) sc_law.nd (pi_range1 (by rfl) T.b_range (pa_cons pe_int pa_nil)) (blkOk_by (own := [("_law_at", 6)]) (by rfl)) (fun _ _ _ _ _ => (pg_name (i := 6) sc_law.nd rfl (Or.inl rfl))) (fun _ _ _ _ _ => pts_nil) (fun _ _ _ _ _ => (pe_lst (pa_cons pe_bl (pa_cons pe_bl (pa_cons pe_bl (pa_cons pe_bl (pa_cons pe_bl (pa_cons pe_bl pa_nil))))))))) (nomark _)) (pss_one (ps_ret pe_bl)) pss_nil)
       (pss_cons (ps_if (pt_cmpR (w_neD (K := K) hr.units) (pe_lc (own := [("_law_e", 5)]) (g := gName 5) (tt := tYes) (by rfl) sc_law.nd (w_piL (K := K) (pe_slice (w_slL (K := K)) (pv 2) po_none (po_some pe_int))) (blkOk_by (own := [("_law_e", 5)]) (by rfl)) (fun _ _ _ _ _ => (pg_name (i := 5) sc_law.nd rfl (Or.inl rfl))) (fun _ _ _ _ _ => pts_nil) (fun _ _ _ _ _ => (pe_fldV (K := K) rfl (pv 5)))) (pe_op op_rep (pe_lst (pa_cons pe_str pa_nil)) pe_int) (nomark _)) (pss_one (ps_ret pe_bl)) pss_nil)
       (pss_cons (ps_set (i := 4) sc_law.nd rfl (Or.inl rfl) (pe_lst (pa_cons (pe_fldV (K := K) rfl (pe_ix (w_ixL (K := K)) (pv 2) pe_int (fun _ _ => rfl))) (pa_cons (pe_fldV (K := K) rfl (pe_ix (w_ixL (K := K)) (pv 2) pe_int (fun _ _ => rfl))) (pa_cons (pe_fldV (K := K) rfl (pe_ix (w_ixL (K := K)) (pv 2) pe_int (fun _ _ => rfl))) (pa_cons (pe_fldV (K := K) rfl (pe_ix (w_ixL (K := K)) (pv 2) pe_int (fun _ _ => rfl))) (pa_cons (pe_fldV (K := K) rfl (pe_ix (w_ixL (K := K)) (pv 2) pe_int (fun _ _ => rfl))) (pa_cons (pe_fldV (K := K) rfl (pe_ix (w_ixL (K := K)) (pv 2) pe_int (fun _ _ => rfl))) pa_nil))))))))
       (pss_one (ps_ret (pe_cmpR (w_eqD (K := K) hr.units) (pv 4) (pe_lst (pa_cons pe_int (pa_cons pe_non (pa_cons pe_str (pa_cons pe_int (pa_cons pe_int (pa_cons pe_int pa_nil))))))) (nomark _)))))))))))))))), ?_⟩
    refine g_seq (g_asg (g_lst0 ?_))
    refine ⟨by show 8 ≤ sizeLine; decide, fun q0 hq0 => ?_⟩
    refine g_nx ?_
    refine g_seq (g_asg ?_)
    refine ⟨_, rfl, ?_⟩
    refine g_lst0 ?_
    refine ⟨by show 5 ≤ sizeLine; decide, fun q1 hq1 => ?_⟩
    refine ⟨q0, q1, _, _, rfl, rfl, (same_upd hq1) _ _ upd_same, upd_same, by show 13 ≤ sizeLine; decide, fun q2 hq2 => ?_⟩
    generalize upd (upd H q0 _) q1 _ = H0 at hq2
    have t0 : (upd H0 q2 (.lst ([.int 8, .int 200, .int 12, .int 200, .int 1000, .int 4, .int 500, .int 2000] ++ [.int 6, .int 36, .int 12, .int 8, .int 60]))) q2 = some (.lst (told.map V.int)) := upd_same
    generalize upd H0 q2 _ = H1 at t0
    refine g_nx ?_
    refine g_seq (g_ifS (g_test (g_op ?_)))
    refine ⟨_, rfl, ?_⟩
    refine g_lst0 ?_
    refine ⟨by show 13 ≤ sizeLine; decide, fun q3 hq3 => ?_⟩
    have s3 := same_upd (o := .lst [.int 8, .int 200, .int 12, .int 200, .int 1000, .int 4, .int 500, .int 2000, .int 6, .int 36, .int 12, .int 8, .int 60]) hq3
    have t1 : (upd H1 q3 (.lst [.int 8, .int 200, .int 12, .int 200, .int 1000, .int 4, .int 500, .int 2000, .int 6, .int 36, .int 12, .int 8, .int 60])) q3 = some (.lst (told.map V.int)) := upd_same
    have t2 := s3 _ _ t0
    generalize upd H1 q3 _ = H2 at t1 t2
    have shT : SeqAt.shaped dTo = true := by decide +kernel
    refine ⟨dTo, dTo, .lst (lst_of t2) (ints_dps told), .lst (lst_of t1) (ints_dps told), shT, shT, _, rfl, ?_⟩
    rw [eqv_same shT]
    refine iteF (g_next ?_)
    refine g_nx ?_
    refine g_seq (g_asg ?_)
    refine ⟨rfl, fun qg ug Hg hqg sg hg lg Eg => ?_⟩
    refine g_lst0 ?_
    refine g_mk 25 rfl T.x_InvalidDeeds.xc' rfl fun e25 G25 s25 v25 => g_mk 26 rfl T.x_InvalidLog.xc' rfl fun e26 G26 s26 v26 => g_mk 27 rfl T.x_UnknownName.xc' rfl fun e27 G27 s27 v27 => g_mk 28 rfl T.x_InUse.xc' rfl fun e28 G28 s28 v28 => g_mk0 29 rfl T.x_UnlikeSigns.xc rfl fun e29 G29 s29 v29 => ?_
    refine ⟨by show 5 ≤ sizeLine; decide, fun qA hqA => ?_⟩
    have wA : Evs K A G29 25 [V.ref e25, V.ref e26, V.ref e27, V.ref e28, V.ref e29] := (.cons ((((v25.mono s26).mono s27).mono s28).mono s29) (.cons (((v26.mono s27).mono s28).mono s29) (.cons ((v27.mono s28).mono s29) (.cons (v28.mono s29) (.cons v29 .nil)))))
    have sqA := same_upd (o := .lst [V.ref e25, V.ref e26, V.ref e27, V.ref e28, V.ref e29]) hqA
    refine ⟨qg, qA, ug, _, rfl, rfl, sqA _ _ (((((s25.trans s26).trans s27).trans s28).trans s29) _ _ hg), upd_same, szl (by rw [lg]; show 25 + 5 ≤ 100000; decide), fun rA hrA => ?_⟩
    have srA := same_upd (o := .lst (ug ++ [V.ref e25, V.ref e26, V.ref e27, V.ref e28, V.ref e29])) hrA
    have WA : Evs K A (upd (upd G29 qA (.lst [V.ref e25, V.ref e26, V.ref e27, V.ref e28, V.ref e29])) rA (.lst (ug ++ [V.ref e25, V.ref e26, V.ref e27, V.ref e28, V.ref e29]))) 0 (ug ++ [V.ref e25, V.ref e26, V.ref e27, V.ref e28, V.ref e29]) := (((Eg.mono ((((s25.trans s26).trans s27).trans s28).trans s29)).mono sqA).mono srA).app (by rw [lg]; exact (wA.mono sqA).mono srA)
    have LA : (upd (upd G29 qA (.lst [V.ref e25, V.ref e26, V.ref e27, V.ref e28, V.ref e29])) rA (.lst (ug ++ [V.ref e25, V.ref e26, V.ref e27, V.ref e28, V.ref e29]))) rA = some (.lst (ug ++ [V.ref e25, V.ref e26, V.ref e27, V.ref e28, V.ref e29])) := upd_same
    have ZA : (ug ++ [V.ref e25, V.ref e26, V.ref e27, V.ref e28, V.ref e29]).length = 30 := by rw [List.length_append, lg] <;> rfl
    generalize upd (upd G29 qA (.lst [V.ref e25, V.ref e26, V.ref e27, V.ref e28, V.ref e29])) rA (.lst (ug ++ [V.ref e25, V.ref e26, V.ref e27, V.ref e28, V.ref e29])) = JA at WA LA
    generalize ug ++ [V.ref e25, V.ref e26, V.ref e27, V.ref e28, V.ref e29] = uA at WA LA ZA
    refine g_nx ?_
    refine g_seq (g_asg ?_)
    refine ⟨_, rfl, ?_⟩
    refine g_lst0 ?_
    refine g_mk0 30 rfl T.x_NotFull.xc rfl fun e30 G30 s30 v30 => g_mk 31 rfl T.x_TooMany.xc' rfl fun e31 G31 s31 v31 => g_mk0 32 rfl T.x_NothingToUndo.xc rfl fun e32 G32 s32 v32 => g_mk 33 rfl T.x_Broken.xc' rfl fun e33 G33 s33 v33 => ?_
    refine ⟨by show 4 ≤ sizeLine; decide, fun qB hqB => ?_⟩
    have wB : Evs K A G33 30 [V.ref e30, V.ref e31, V.ref e32, V.ref e33] := (.cons (((v30.mono s31).mono s32).mono s33) (.cons ((v31.mono s32).mono s33) (.cons (v32.mono s33) (.cons v33 .nil))))
    have sqB := same_upd (o := .lst [V.ref e30, V.ref e31, V.ref e32, V.ref e33]) hqB
    refine ⟨rA, qB, uA, _, rfl, rfl, sqB _ _ ((((s30.trans s31).trans s32).trans s33) _ _ LA), upd_same, szl (by rw [ZA]; show 30 + 4 ≤ 100000; decide), fun rB hrB => ?_⟩
    have srB := same_upd (o := .lst (uA ++ [V.ref e30, V.ref e31, V.ref e32, V.ref e33])) hrB
    have WB : Evs K A (upd (upd G33 qB (.lst [V.ref e30, V.ref e31, V.ref e32, V.ref e33])) rB (.lst (uA ++ [V.ref e30, V.ref e31, V.ref e32, V.ref e33]))) 0 (uA ++ [V.ref e30, V.ref e31, V.ref e32, V.ref e33]) := (((WA.mono (((s30.trans s31).trans s32).trans s33)).mono sqB).mono srB).app (by rw [ZA]; exact (wB.mono sqB).mono srB)
    have LB : (upd (upd G33 qB (.lst [V.ref e30, V.ref e31, V.ref e32, V.ref e33])) rB (.lst (uA ++ [V.ref e30, V.ref e31, V.ref e32, V.ref e33]))) rB = some (.lst (uA ++ [V.ref e30, V.ref e31, V.ref e32, V.ref e33])) := upd_same
    have ZB : (uA ++ [V.ref e30, V.ref e31, V.ref e32, V.ref e33]).length = 34 := by rw [List.length_append, ZA] <;> rfl
    generalize upd (upd G33 qB (.lst [V.ref e30, V.ref e31, V.ref e32, V.ref e33])) rB (.lst (uA ++ [V.ref e30, V.ref e31, V.ref e32, V.ref e33])) = JB at WB LB
    generalize uA ++ [V.ref e30, V.ref e31, V.ref e32, V.ref e33] = uB at WB LB ZB
    have evB : ∀ {H' : Hp}, Same JB H' → ∀ {i : Nat} {x : V}, uB[i]? = some x → i < 34 ∧ Ev K A H' i x := fun {H'} s' {i x} e => by
      have h1 := lt_of_get e
      have h2 := WB i x e
      rw [Nat.zero_add] at h2
      exact ⟨by omega, h2.mono s'⟩
    refine g_nx ?_
    refine g_seq (g_ifS (g_test (g_op ?_)))
    refine cLN (us := uB) (fun i => [.int (i : Int)]) (fun R r => ⟨_, rfl, r⟩) (lst_of LB) (by omega) (fun _ => rfl) (fun i x hi H' R s' r => ?_) (fun D1 acc1 H3 hD1 s3_ h3 hold1 => ?_)
    · obtain ⟨hi34, ev⟩ := evB s' hi
      exact ⟨_, rfl, x, i, rfl, ev, hi34, fun q H'' hq sq hq2 => r q H'' hq sq hq2⟩
    refine cRN (n := 34) (fun i => [.int (i : Int)]) (by decide) (fun R r => r) (fun _ => rfl) (fun i hi H' R s' r => ?_) (fun D2 acc2 H4 hD2 s4_ h4 hold2 => ?_)
    · exact ⟨_, rfl, by show 1 ≤ sizeLine; decide, fun q hq => r q _ hq (same_upd hq) upd_same⟩
    have shS : SeqAt.shaped dSo = true := by decide +kernel
    have dS1 : Dp K H4 (.ref D1) dSo := .lst (lst_of (s4_ _ _ h3)) (by
      have := hold1.dps (K := K) (ds := fun i => [.int (i : Int)]) fun i _ => .cons (.int _) .nil
      rw [ZB] at this
      exact dps_mono ((del_same D1).trans s4_) _ _ this)
    have dS2 : Dp K H4 (.ref D2) dSo := .lst (lst_of h4) (dps_mono (del_same D2) _ _ (hold2.dps (K := K) (ds := fun i => [.int (i : Int)]) fun i _ => .cons (.int _) .nil))
    refine ⟨dSo, dSo, dS1, dS2, shS, shS, _, rfl, ?_⟩
    rw [eqv_same shS]
    refine iteF (g_next ?_)
    have s34 := s3_.trans s4_
    refine g_nx ?_
    refine g_seq (g_asg (cLN (us := uB) (fun i => (bas i).map V.bl) (fun R r => ⟨_, rfl, r⟩) (lst_of (s34 _ _ LB)) (by omega) (fun _ => rfl) (fun i x hi H' R s' r => ?_) (fun D3 acc3 H5 hD3 s5_ h5 hold3 => ?_)))
    · obtain ⟨hi34, ev⟩ := evB (s34.trans s') hi
      exact ⟨_, rfl, x, i, rfl, ev, fun q H'' hq sq hq2 => r q H'' hq sq hq2⟩
    have dB : DpAll K H5 acc3 ((List.range 34).map fun i => .list (blD (bas i))) := by
      have := hold3.dps (K := K) (ds := fun i => blD (bas i)) fun i _ => bls_dps (bas i)
      rw [ZB] at this
      exact dps_mono (del_same D3) _ _ this
    have len3 : acc3.length = 34 := hold3.1.trans ZB
    refine g_nx ?_
    refine g_seq (g_ifS (g_test (g_op ?_)))
    refine ⟨_, rfl, 27, rfl, D3, acc3, rfl, lst_of ((Same.refl _) _ _ h5), fun p0 hp0 => ?_⟩
    rw [cutV_of (lo := none) (hi := (some 27)) len3 0 27 rfl rfl]
    have sp0 := same_upd (o := .lst ((acc3.drop 0).take (27 - 0))) hp0
    refine cRN (n := 27) (fun _ => (bas 0).map V.bl) (by decide) (fun R r => r) (fun _ => rfl) (fun i hi H' R s' r => ⟨by show 6 ≤ sizeLine; decide, fun q hq => r q _ hq (same_upd hq) upd_same⟩) (fun E0 ac0 Hd0 hE0 sd0 hd0 hold_0 => ?_)
    have sh0 : SeqAt.shaped (dBa 0 27) = true := by decide +kernel
    have ee0 : (((List.range 34).map fun i => PyData.list (blD (bas i))).drop 0).take (27 - 0) = (List.range 27).map fun _ => PyData.list (blD (bas 0)) := by kernel_rfl
    have da0 : Dp K Hd0 (.ref p0) (dBa 0 27) := .lst (lst_of (sd0 _ _ upd_same)) (by
      have := dps_take (27 - 0) (dps_drop 0 (dps_mono (((Same.refl _).trans sp0).trans sd0) _ _ dB))
      rw [ee0] at this
      exact this)
    have db0 : Dp K Hd0 (.ref E0) (dBa 0 27) := .lst (lst_of hd0) (dps_mono (del_same E0) _ _ (hold_0.dps (K := K) (ds := fun _ => blD (bas 0)) fun i _ => bls_dps (bas 0)))
    refine ⟨_, _, da0, db0, sh0, sh0, _, rfl, ?_⟩
    rw [eqv_same sh0]
    refine iteF (g_next ?_)
    have sc0 : Same H5 Hd0 := ((Same.refl _).trans sp0).trans sd0
    refine g_nx ?_
    refine g_seq (g_ifS (g_test (g_op ?_)))
    refine ⟨_, rfl, 27, rfl, 29, rfl, D3, acc3, rfl, lst_of (sc0 _ _ h5), fun p1 hp1 => ?_⟩
    rw [cutV_of (lo := (some 27)) (hi := (some 29)) len3 27 29 rfl rfl]
    have sp1 := same_upd (o := .lst ((acc3.drop 27).take (29 - 27))) hp1
    refine cRN (n := 2) (fun _ => (bas 27).map V.bl) (by decide) (fun R r => r) (fun _ => rfl) (fun i hi H' R s' r => ⟨by show 6 ≤ sizeLine; decide, fun q hq => r q _ hq (same_upd hq) upd_same⟩) (fun E1 ac1 Hd1 hE1 sd1 hd1 hold_1 => ?_)
    have sh1 : SeqAt.shaped (dBa 27 2) = true := by decide +kernel
    have ee1 : (((List.range 34).map fun i => PyData.list (blD (bas i))).drop 27).take (29 - 27) = (List.range 2).map fun _ => PyData.list (blD (bas 27)) := by kernel_rfl
    have da1 : Dp K Hd1 (.ref p1) (dBa 27 2) := .lst (lst_of (sd1 _ _ upd_same)) (by
      have := dps_take (29 - 27) (dps_drop 27 (dps_mono ((sc0.trans sp1).trans sd1) _ _ dB))
      rw [ee1] at this
      exact this)
    have db1 : Dp K Hd1 (.ref E1) (dBa 27 2) := .lst (lst_of hd1) (dps_mono (del_same E1) _ _ (hold_1.dps (K := K) (ds := fun _ => blD (bas 27)) fun i _ => bls_dps (bas 27)))
    refine ⟨_, _, da1, db1, sh1, sh1, _, rfl, ?_⟩
    rw [eqv_same sh1]
    refine iteF (g_next ?_)
    have sc1 : Same H5 Hd1 := (sc0.trans sp1).trans sd1
    refine g_nx ?_
    refine g_seq (g_ifS (g_test (g_op ?_)))
    refine ⟨_, rfl, 29, rfl, D3, acc3, rfl, lst_of (sc1 _ _ h5), fun p2 hp2 => ?_⟩
    rw [cutV_of (lo := (some 29)) (hi := none) len3 29 34 rfl rfl]
    have sp2 := same_upd (o := .lst ((acc3.drop 29).take (34 - 29))) hp2
    refine cRN (n := 5) (fun _ => (bas 29).map V.bl) (by decide) (fun R r => r) (fun _ => rfl) (fun i hi H' R s' r => ⟨by show 6 ≤ sizeLine; decide, fun q hq => r q _ hq (same_upd hq) upd_same⟩) (fun E2 ac2 Hd2 hE2 sd2 hd2 hold_2 => ?_)
    have sh2 : SeqAt.shaped (dBa 29 5) = true := by decide +kernel
    have ee2 : (((List.range 34).map fun i => PyData.list (blD (bas i))).drop 29).take (34 - 29) = (List.range 5).map fun _ => PyData.list (blD (bas 29)) := by kernel_rfl
    have da2 : Dp K Hd2 (.ref p2) (dBa 29 5) := .lst (lst_of (sd2 _ _ upd_same)) (by
      have := dps_take (34 - 29) (dps_drop 29 (dps_mono ((sc1.trans sp2).trans sd2) _ _ dB))
      rw [ee2] at this
      exact this)
    have db2 : Dp K Hd2 (.ref E2) (dBa 29 5) := .lst (lst_of hd2) (dps_mono (del_same E2) _ _ (hold_2.dps (K := K) (ds := fun _ => blD (bas 29)) fun i _ => bls_dps (bas 29)))
    refine ⟨_, _, da2, db2, sh2, sh2, _, rfl, ?_⟩
    rw [eqv_same sh2]
    refine iteF (g_next ?_)
    have sc2 : Same H5 Hd2 := (sc1.trans sp2).trans sd2
    have sZ : Same JB Hd2 := (s34.trans s5_).trans sc2
    refine g_nx ?_
    refine g_seq (g_ifS (g_test (g_op ?_)))
    refine ⟨_, rfl, 25, rfl, rB, uB, rfl, lst_of (sZ _ _ LB), fun p3 hp3 => ?_⟩
    have ecut : cutV uB none (some 25) = uB.take 25 := by
      rw [cutV_of (lo := none) (hi := some 25) ZB 0 25 rfl rfl]
      rfl
    rw [ecut]
    have sp3 := same_upd (o := .lst (uB.take 25)) hp3
    have lt : (uB.take 25).length = 25 := by rw [List.length_take, ZB] <;> rfl
    refine ⟨p3, rfl, ⟨_, lst_of upd_same⟩, ?_⟩
    refine lL (xs := uB.take 25) (fun _ => [V.str ("x" : Str)]) (lst_of upd_same) (fun _ => Nat.le_refl 1) (by omega) (fun _ => rfl) (fun i x hi => turn_yes fun H' R s' r => ?_) (fun D4 H6 hD4 s6_ h6 => ?_)
    · have i25 : i < 25 := by
        have := lt_of_get hi
        omega
      rw [List.getElem?_take_of_lt i25] at hi
      obtain ⟨hi34, ev⟩ := evB ((sZ.trans sp3).trans s') hi
      exact ev_fld ev (flds_given i i25) (fun C e => noG T C (List.mem_of_getElem? (i := i) (by rw [List.getElem?_take_of_lt i25]; exact e))) (fun R r => ⟨_, rfl, r⟩) (r _ (Same.refl _))
    rw [lt, replicate_pre] at h6
    refine ⟨by show 1 ≤ sizeLine; decide, fun p4 hp4 => ?_⟩
    have sp4 := same_upd (o := .lst [.str ("x" : Str)]) hp4
    refine ⟨p4, 25, _, rfl, rfl, upd_same, by decide, by decide, szl (by decide), fun p5 hp5 => ?_⟩
    rw [show (25 : Int).toNat = 25 from rfl, rep_flat]
    have sp5 := same_upd (o := .lst (List.replicate 25 (V.str ("x" : Str)))) hp5
    have shX : SeqAt.shaped (.list (List.replicate 25 (PyData.str ("x" : Str)))) = true := by decide +kernel
    refine ⟨_, _, .lst (lst_of ((sp4.trans sp5) _ _ h6)) (rep_dps _ 25), .lst (lst_of upd_same) (rep_dps _ 25), shX, shX, _, rfl, ?_⟩
    rw [eqv_same shX]
    refine iteF (g_next ?_)
    have sY := (((sZ.trans sp3).trans s6_).trans sp4).trans sp5
    refine g_nx ?_
    refine g_seq (g_asg (g_lst0 ?_))
    have at_ : ∀ j, j < 34 → ∃ x, uB[j]? = some x := fun j hj => ⟨uB[j]'(by omega), List.getElem?_eq_getElem (by omega)⟩
    have LY := sY _ _ LB
    obtain ⟨x25, ex25⟩ := at_ 25 (by decide)
    obtain ⟨x26, ex26⟩ := at_ 26 (by decide)
    obtain ⟨x27, ex27⟩ := at_ 27 (by decide)
    obtain ⟨x28, ex28⟩ := at_ 28 (by decide)
    obtain ⟨x31, ex31⟩ := at_ 31 (by decide)
    obtain ⟨x33, ex33⟩ := at_ 33 (by decide)
    refine g_fld 25 (evB sY ex25).2 (f := "index") (y := .int 3) rfl (fun C e => by obtain rfl := Option.some.inj (show some A.x_InvalidDeeds = some C from e); exact T.x_InvalidDeeds.noN) (fun R r => ⟨_, rfl, _, _, _, _, rfl, rfl, lst_of LY, atI_nat ex25, r⟩) <| g_fld 26 (evB sY ex26).2 (f := "index") (y := .non) rfl (fun C e => by obtain rfl := Option.some.inj (show some A.x_InvalidLog = some C from e); exact T.x_InvalidLog.noN) (fun R r => ⟨_, rfl, _, _, _, _, rfl, rfl, lst_of LY, atI_nat ex26, r⟩) <| g_fld 27 (evB sY ex27).2 (f := "given") (y := .str ("n" : Str)) rfl (fun C e => by obtain rfl := Option.some.inj (show some A.x_UnknownName = some C from e); exact T.x_UnknownName.noN) (fun R r => ⟨_, rfl, _, _, _, _, rfl, rfl, lst_of LY, atI_nat ex27, r⟩) <| g_fld 28 (evB sY ex28).2 (f := "index") (y := .int 0) rfl (fun C e => by obtain rfl := Option.some.inj (show some A.x_InUse = some C from e); exact T.x_InUse.noN) (fun R r => ⟨_, rfl, _, _, _, _, rfl, rfl, lst_of LY, atI_nat ex28, r⟩) <| g_fld 31 (evB sY ex31).2 (f := "limit") (y := .int 12) rfl (fun C e => by obtain rfl := Option.some.inj (show some A.x_TooMany = some C from e); exact T.x_TooMany.noN) (fun R r => ⟨_, rfl, _, _, _, _, rfl, rfl, lst_of LY, atI_nat ex31, r⟩) <| g_fld 33 (evB sY ex33).2 (f := "index") (y := .int 1) rfl (fun C e => by obtain rfl := Option.some.inj (show some A.x_Broken = some C from e); exact T.x_Broken.noN) (fun R r => ⟨_, rfl, _, _, _, _, rfl, rfl, lst_of LY, atI_nat ex33, r⟩) <| ?_
    refine ⟨by show 6 ≤ sizeLine; decide, fun p6 hp6 => ?_⟩
    refine g_nx ?_
    refine g_ret (g_op ?_)
    refine ⟨_, rfl, ?_⟩
    refine g_lst0 ?_
    refine ⟨by show 6 ≤ sizeLine; decide, fun p7 hp7 => ?_⟩
    have sp7 := same_upd (o := .lst [.int 3, .non, .str ("n" : Str), .int 0, .int 12, .int 1]) hp7
    have shK : SeqAt.shaped (.list [.int 3, .none, .str ("n" : Str), .int 0, .int 12, .int 1]) = true := by decide +kernel
    have dK : ∀ {G : Hp}, DpAll K G [.int 3, .non, .str ("n" : Str), .int 0, .int 12, .int 1] [.int 3, .none, .str ("n" : Str), .int 0, .int 12, .int 1] := fun {G} => .cons (.int _) (.cons .non (.cons (.str _) (.cons (.int _) (.cons (.int _) (.cons (.int _) .nil)))))
    refine ⟨_, _, .lst (lst_of (sp7 _ _ upd_same)) dK, .lst (lst_of upd_same) dK, shK, shK, ?_⟩
    rw [eqv_same shK]
    exact k _
end K6


set_option Elab.async false
set_option linter.all false
set_option maxRecDepth 100000
set_option maxHeartbeats 4000000
namespace K6
open PySem PySem.Spec PyProof.Rows L2 Rw
/-! ### what the top has written -/
theorem FnOkG.of {P : Program} {w : World} {K : PySem.W.Frag} {mg : Str → Option Value} {base : Heap} {k : Nat} {f : Addr} {fd : FuncData} {ps : List Str} {sp : Sp} (h : FnOk P w K mg base CX0 k f fd ps sp) : FnOkG P w K mg base k f fd ps sp :=
  ⟨h.len, fun A outer s H args us vs Q E _ hr e0 hb r q => h.run A outer s H args us vs Q E hr e0 hb r q⟩
def txB (K : PySem.W.Frag) (bm : List Value) (newId : String) (f : Str) (C fI : Addr) : Bool := PySem.W.excInitIn K C bm newId && (PySem.W.excOver K C bm && (decide (PySem.W.takerIn K C f = some none) && (decide (PySem.W.findIn K (.ref C) "__setattr__" = some (some (.builtin "object.__setattr__"))) &&
  (decide (PySem.W.findIn K (.ref C) "__getattribute__" = some (some (.builtin "BaseException.__getattribute__"))) && (decide (PySem.W.findIn K (.ref C) "__getattr__" = some none) && (decide (PySem.W.findIn K (.ref C) f = some none) && (decide (PySem.W.typeIn K (.ref fI) = some (.type "function")) &&
  (PySem.W.keepIn K (.ref C) && (decide (PySem.W.subIn K (.ref C) (.type "BaseException") = some true) && (decide (PySem.W.typeIn K (.ref C) = some (.type "type")) && (PySem.W.hasDictIn K C && (decide (PySem.W.findIn K (.ref C) "__class__" = some (some (.builtin "object.__class__"))) && decide (PySem.W.mroIn K C (.type "object") = some true)))))))))))))
theorem txB_ok {K : PySem.W.Frag} {bm : List Value} {newId : String} {f : Str} {C fI : Addr} (h : txB K bm newId f C fI = true) : PySem.W.excInitIn K C bm newId = true ∧ PySem.W.excOver K C bm = true ∧ PySem.W.takerIn K C f = some none ∧ PySem.W.findIn K (.ref C) "__setattr__" = some (some (.builtin "object.__setattr__")) ∧
    PySem.W.findIn K (.ref C) "__getattribute__" = some (some (.builtin "BaseException.__getattribute__")) ∧ PySem.W.findIn K (.ref C) "__getattr__" = some none ∧ PySem.W.findIn K (.ref C) f = some none ∧ PySem.W.typeIn K (.ref fI) = some (.type "function") ∧
    PySem.W.keepIn K (.ref C) = true ∧ PySem.W.subIn K (.ref C) (.type "BaseException") = some true ∧ PySem.W.typeIn K (.ref C) = some (.type "type") ∧ PySem.W.hasDictIn K C = true ∧ PySem.W.findIn K (.ref C) "__class__" = some (some (.builtin "object.__class__")) ∧ PySem.W.mroIn K C (.type "object") = some true := by
  simpa only [txB, Bool.and_eq_true, decide_eq_true_eq] using h
def ty0 (K : PySem.W.Frag) (bm : List Value) (newId : String) (C : Addr) : Bool := PySem.W.excIn K C bm newId && (decide (PySem.W.findIn K (.ref C) "__getattribute__" = some (some (.builtin "BaseException.__getattribute__"))) && (decide (PySem.W.findIn K (.ref C) "__getattr__" = some none) &&
  (PySem.W.keepIn K (.ref C) && (decide (PySem.W.subIn K (.ref C) (.type "BaseException") = some true) && (PySem.W.hasDictIn K C && (decide (PySem.W.findIn K (.ref C) "__class__" = some (some (.builtin "object.__class__"))) && decide (PySem.W.mroIn K C (.type "object") = some true)))))))
theorem ty0_ok {K : PySem.W.Frag} {bm : List Value} {newId : String} {C : Addr} (h : ty0 K bm newId C = true) : PySem.W.excIn K C bm newId = true ∧ PySem.W.findIn K (.ref C) "__getattribute__" = some (some (.builtin "BaseException.__getattribute__")) ∧ PySem.W.findIn K (.ref C) "__getattr__" = some none ∧
    PySem.W.keepIn K (.ref C) = true ∧ PySem.W.subIn K (.ref C) (.type "BaseException") = some true ∧ PySem.W.hasDictIn K C = true ∧ PySem.W.findIn K (.ref C) "__class__" = some (some (.builtin "object.__class__")) ∧ PySem.W.mroIn K C (.type "object") = some true := by
  simpa only [ty0, Bool.and_eq_true, decide_eq_true_eq] using h
theorem all_at {α : Type} {p : α → Bool} {l : List α} (h : l.all p = true) {i : Nat} {x : α} (e : l[i]? = some x) : p x = true := List.all_eq_true.mp h x (List.mem_of_getElem? e)
theorem all_mk {P : Program} {w : World} {K : PySem.W.Frag} {h : Heap} {mg : Str → Option Value} {fa e_Broken e_InUse e_InvalidArrows e_InvalidBook e_InvalidClaim e_InvalidDeeds e_InvalidEnds e_InvalidFormula e_InvalidIndex e_InvalidLine e_InvalidLog e_InvalidMarks e_InvalidName e_InvalidNumber e_InvalidOutputs e_InvalidPlan e_InvalidRow e_InvalidSign e_InvalidSigns e_InvalidStand e_InvalidSteps e_InvalidText e_InvalidTold e_InvalidWeights e_NoAnswer e_NotAGuesser e_NotAReader e_NotAWatcher e_NotAWeigher e_NotAWriter e_NotFull e_NothingToUndo e_TooMany e_UnknownName e_UnlikeSigns e_WrongName e_WrongValue g_l_bases g_l_given g_l_sorts g_law i_Broken i_InUse i_InvalidArrows i_InvalidBook i_InvalidClaim i_InvalidDeeds i_InvalidEnds i_InvalidFormula i_InvalidIndex i_InvalidLine i_InvalidLog i_InvalidMarks i_InvalidName i_InvalidNumber i_InvalidOutputs i_InvalidPlan i_InvalidRow i_InvalidSign i_InvalidSigns i_InvalidStand i_InvalidSteps i_InvalidText i_InvalidTold i_InvalidWeights i_NotAGuesser i_NotAReader i_NotAWatcher i_NotAWeigher i_NotAWriter i_TooMany i_UnknownName : Addr} (X : K.In h) (G : h.Ns mainGlobals mg) (hfa : mg "law" = some (.ref fa))
    {od0 an0 : Option Addr} {sl0 : Array (Option Value)} {oc0 kV0 dc0 pm0 cd0 ct0 : Value}
    {od1 an1 : Option Addr} {sl1 : Array (Option Value)} {oc1 kV1 dc1 pm1 cd1 ct1 : Value}
    {od2 an2 : Option Addr} {sl2 : Array (Option Value)} {oc2 kV2 dc2 pm2 cd2 ct2 : Value}
    {od3 an3 : Option Addr} {sl3 : Array (Option Value)} {oc3 kV3 dc3 pm3 cd3 ct3 : Value}
    {zInvalidSigns_q : Str} {zInvalidSigns_oc : Value} {zInvalidSigns_od : Option Addr} {zInvalidSigns_doc zInvalidSigns_pm : Value} {zInvalidSigns_an : Option Addr} {zInvalidSigns_cdv zInvalidSigns_ct : Value} {zInvalidSigns_osl : Array (Option Value)} {zInvalidSigns_p1 zInvalidSigns_p2 zInvalidSigns_q1 zInvalidSigns_q2 zInvalidSigns_q3 zInvalidSigns_q4 : Pos}
    {zInvalidArrows_q : Str} {zInvalidArrows_oc : Value} {zInvalidArrows_od : Option Addr} {zInvalidArrows_doc zInvalidArrows_pm : Value} {zInvalidArrows_an : Option Addr} {zInvalidArrows_cdv zInvalidArrows_ct : Value} {zInvalidArrows_osl : Array (Option Value)} {zInvalidArrows_p1 zInvalidArrows_p2 zInvalidArrows_q1 zInvalidArrows_q2 zInvalidArrows_q3 zInvalidArrows_q4 : Pos}
    {zInvalidEnds_q : Str} {zInvalidEnds_oc : Value} {zInvalidEnds_od : Option Addr} {zInvalidEnds_doc zInvalidEnds_pm : Value} {zInvalidEnds_an : Option Addr} {zInvalidEnds_cdv zInvalidEnds_ct : Value} {zInvalidEnds_osl : Array (Option Value)} {zInvalidEnds_p1 zInvalidEnds_p2 zInvalidEnds_q1 zInvalidEnds_q2 zInvalidEnds_q3 zInvalidEnds_q4 : Pos}
    {zInvalidRow_q : Str} {zInvalidRow_oc : Value} {zInvalidRow_od : Option Addr} {zInvalidRow_doc zInvalidRow_pm : Value} {zInvalidRow_an : Option Addr} {zInvalidRow_cdv zInvalidRow_ct : Value} {zInvalidRow_osl : Array (Option Value)} {zInvalidRow_p1 zInvalidRow_p2 zInvalidRow_q1 zInvalidRow_q2 zInvalidRow_q3 zInvalidRow_q4 : Pos}
    {zInvalidNumber_q : Str} {zInvalidNumber_oc : Value} {zInvalidNumber_od : Option Addr} {zInvalidNumber_doc zInvalidNumber_pm : Value} {zInvalidNumber_an : Option Addr} {zInvalidNumber_cdv zInvalidNumber_ct : Value} {zInvalidNumber_osl : Array (Option Value)} {zInvalidNumber_p1 zInvalidNumber_p2 zInvalidNumber_q1 zInvalidNumber_q2 zInvalidNumber_q3 zInvalidNumber_q4 : Pos}
    {zInvalidStand_q : Str} {zInvalidStand_oc : Value} {zInvalidStand_od : Option Addr} {zInvalidStand_doc zInvalidStand_pm : Value} {zInvalidStand_an : Option Addr} {zInvalidStand_cdv zInvalidStand_ct : Value} {zInvalidStand_osl : Array (Option Value)} {zInvalidStand_p1 zInvalidStand_p2 zInvalidStand_q1 zInvalidStand_q2 zInvalidStand_q3 zInvalidStand_q4 : Pos}
    {zInvalidSign_q : Str} {zInvalidSign_oc : Value} {zInvalidSign_od : Option Addr} {zInvalidSign_doc zInvalidSign_pm : Value} {zInvalidSign_an : Option Addr} {zInvalidSign_cdv zInvalidSign_ct : Value} {zInvalidSign_osl : Array (Option Value)} {zInvalidSign_p1 zInvalidSign_p2 zInvalidSign_q1 zInvalidSign_q2 zInvalidSign_q3 zInvalidSign_q4 : Pos}
    {zInvalidBook_q : Str} {zInvalidBook_oc : Value} {zInvalidBook_od : Option Addr} {zInvalidBook_doc zInvalidBook_pm : Value} {zInvalidBook_an : Option Addr} {zInvalidBook_cdv zInvalidBook_ct : Value} {zInvalidBook_osl : Array (Option Value)} {zInvalidBook_p1 zInvalidBook_p2 zInvalidBook_q1 zInvalidBook_q2 zInvalidBook_q3 zInvalidBook_q4 : Pos}
    {zInvalidPlan_q : Str} {zInvalidPlan_oc : Value} {zInvalidPlan_od : Option Addr} {zInvalidPlan_doc zInvalidPlan_pm : Value} {zInvalidPlan_an : Option Addr} {zInvalidPlan_cdv zInvalidPlan_ct : Value} {zInvalidPlan_osl : Array (Option Value)} {zInvalidPlan_p1 zInvalidPlan_p2 zInvalidPlan_q1 zInvalidPlan_q2 zInvalidPlan_q3 zInvalidPlan_q4 : Pos}
    {zInvalidSteps_q : Str} {zInvalidSteps_oc : Value} {zInvalidSteps_od : Option Addr} {zInvalidSteps_doc zInvalidSteps_pm : Value} {zInvalidSteps_an : Option Addr} {zInvalidSteps_cdv zInvalidSteps_ct : Value} {zInvalidSteps_osl : Array (Option Value)} {zInvalidSteps_p1 zInvalidSteps_p2 zInvalidSteps_q1 zInvalidSteps_q2 zInvalidSteps_q3 zInvalidSteps_q4 : Pos}
    {zInvalidWeights_q : Str} {zInvalidWeights_oc : Value} {zInvalidWeights_od : Option Addr} {zInvalidWeights_doc zInvalidWeights_pm : Value} {zInvalidWeights_an : Option Addr} {zInvalidWeights_cdv zInvalidWeights_ct : Value} {zInvalidWeights_osl : Array (Option Value)} {zInvalidWeights_p1 zInvalidWeights_p2 zInvalidWeights_q1 zInvalidWeights_q2 zInvalidWeights_q3 zInvalidWeights_q4 : Pos}
    {zInvalidOutputs_q : Str} {zInvalidOutputs_oc : Value} {zInvalidOutputs_od : Option Addr} {zInvalidOutputs_doc zInvalidOutputs_pm : Value} {zInvalidOutputs_an : Option Addr} {zInvalidOutputs_cdv zInvalidOutputs_ct : Value} {zInvalidOutputs_osl : Array (Option Value)} {zInvalidOutputs_p1 zInvalidOutputs_p2 zInvalidOutputs_q1 zInvalidOutputs_q2 zInvalidOutputs_q3 zInvalidOutputs_q4 : Pos}
    {zInvalidMarks_q : Str} {zInvalidMarks_oc : Value} {zInvalidMarks_od : Option Addr} {zInvalidMarks_doc zInvalidMarks_pm : Value} {zInvalidMarks_an : Option Addr} {zInvalidMarks_cdv zInvalidMarks_ct : Value} {zInvalidMarks_osl : Array (Option Value)} {zInvalidMarks_p1 zInvalidMarks_p2 zInvalidMarks_q1 zInvalidMarks_q2 zInvalidMarks_q3 zInvalidMarks_q4 : Pos}
    {zInvalidFormula_q : Str} {zInvalidFormula_oc : Value} {zInvalidFormula_od : Option Addr} {zInvalidFormula_doc zInvalidFormula_pm : Value} {zInvalidFormula_an : Option Addr} {zInvalidFormula_cdv zInvalidFormula_ct : Value} {zInvalidFormula_osl : Array (Option Value)} {zInvalidFormula_p1 zInvalidFormula_p2 zInvalidFormula_q1 zInvalidFormula_q2 zInvalidFormula_q3 zInvalidFormula_q4 : Pos}
    {zInvalidTold_q : Str} {zInvalidTold_oc : Value} {zInvalidTold_od : Option Addr} {zInvalidTold_doc zInvalidTold_pm : Value} {zInvalidTold_an : Option Addr} {zInvalidTold_cdv zInvalidTold_ct : Value} {zInvalidTold_osl : Array (Option Value)} {zInvalidTold_p1 zInvalidTold_p2 zInvalidTold_q1 zInvalidTold_q2 zInvalidTold_q3 zInvalidTold_q4 : Pos}
    {zInvalidText_q : Str} {zInvalidText_oc : Value} {zInvalidText_od : Option Addr} {zInvalidText_doc zInvalidText_pm : Value} {zInvalidText_an : Option Addr} {zInvalidText_cdv zInvalidText_ct : Value} {zInvalidText_osl : Array (Option Value)} {zInvalidText_p1 zInvalidText_p2 zInvalidText_q1 zInvalidText_q2 zInvalidText_q3 zInvalidText_q4 : Pos}
    {zInvalidName_q : Str} {zInvalidName_oc : Value} {zInvalidName_od : Option Addr} {zInvalidName_doc zInvalidName_pm : Value} {zInvalidName_an : Option Addr} {zInvalidName_cdv zInvalidName_ct : Value} {zInvalidName_osl : Array (Option Value)} {zInvalidName_p1 zInvalidName_p2 zInvalidName_q1 zInvalidName_q2 zInvalidName_q3 zInvalidName_q4 : Pos}
    {zInvalidClaim_q : Str} {zInvalidClaim_oc : Value} {zInvalidClaim_od : Option Addr} {zInvalidClaim_doc zInvalidClaim_pm : Value} {zInvalidClaim_an : Option Addr} {zInvalidClaim_cdv zInvalidClaim_ct : Value} {zInvalidClaim_osl : Array (Option Value)} {zInvalidClaim_p1 zInvalidClaim_p2 zInvalidClaim_q1 zInvalidClaim_q2 zInvalidClaim_q3 zInvalidClaim_q4 : Pos}
    {zInvalidIndex_q : Str} {zInvalidIndex_oc : Value} {zInvalidIndex_od : Option Addr} {zInvalidIndex_doc zInvalidIndex_pm : Value} {zInvalidIndex_an : Option Addr} {zInvalidIndex_cdv zInvalidIndex_ct : Value} {zInvalidIndex_osl : Array (Option Value)} {zInvalidIndex_p1 zInvalidIndex_p2 zInvalidIndex_q1 zInvalidIndex_q2 zInvalidIndex_q3 zInvalidIndex_q4 : Pos}
    {zInvalidLine_q : Str} {zInvalidLine_oc : Value} {zInvalidLine_od : Option Addr} {zInvalidLine_doc zInvalidLine_pm : Value} {zInvalidLine_an : Option Addr} {zInvalidLine_cdv zInvalidLine_ct : Value} {zInvalidLine_osl : Array (Option Value)} {zInvalidLine_p1 zInvalidLine_p2 zInvalidLine_q1 zInvalidLine_q2 zInvalidLine_q3 zInvalidLine_q4 : Pos}
    {zNotAReader_q : Str} {zNotAReader_oc : Value} {zNotAReader_od : Option Addr} {zNotAReader_doc zNotAReader_pm : Value} {zNotAReader_an : Option Addr} {zNotAReader_cdv zNotAReader_ct : Value} {zNotAReader_osl : Array (Option Value)} {zNotAReader_p1 zNotAReader_p2 zNotAReader_q1 zNotAReader_q2 zNotAReader_q3 zNotAReader_q4 : Pos}
    {zNotAGuesser_q : Str} {zNotAGuesser_oc : Value} {zNotAGuesser_od : Option Addr} {zNotAGuesser_doc zNotAGuesser_pm : Value} {zNotAGuesser_an : Option Addr} {zNotAGuesser_cdv zNotAGuesser_ct : Value} {zNotAGuesser_osl : Array (Option Value)} {zNotAGuesser_p1 zNotAGuesser_p2 zNotAGuesser_q1 zNotAGuesser_q2 zNotAGuesser_q3 zNotAGuesser_q4 : Pos}
    {zNotAWeigher_q : Str} {zNotAWeigher_oc : Value} {zNotAWeigher_od : Option Addr} {zNotAWeigher_doc zNotAWeigher_pm : Value} {zNotAWeigher_an : Option Addr} {zNotAWeigher_cdv zNotAWeigher_ct : Value} {zNotAWeigher_osl : Array (Option Value)} {zNotAWeigher_p1 zNotAWeigher_p2 zNotAWeigher_q1 zNotAWeigher_q2 zNotAWeigher_q3 zNotAWeigher_q4 : Pos}
    {zNotAWriter_q : Str} {zNotAWriter_oc : Value} {zNotAWriter_od : Option Addr} {zNotAWriter_doc zNotAWriter_pm : Value} {zNotAWriter_an : Option Addr} {zNotAWriter_cdv zNotAWriter_ct : Value} {zNotAWriter_osl : Array (Option Value)} {zNotAWriter_p1 zNotAWriter_p2 zNotAWriter_q1 zNotAWriter_q2 zNotAWriter_q3 zNotAWriter_q4 : Pos}
    {zNotAWatcher_q : Str} {zNotAWatcher_oc : Value} {zNotAWatcher_od : Option Addr} {zNotAWatcher_doc zNotAWatcher_pm : Value} {zNotAWatcher_an : Option Addr} {zNotAWatcher_cdv zNotAWatcher_ct : Value} {zNotAWatcher_osl : Array (Option Value)} {zNotAWatcher_p1 zNotAWatcher_p2 zNotAWatcher_q1 zNotAWatcher_q2 zNotAWatcher_q3 zNotAWatcher_q4 : Pos}
    {zInvalidDeeds_q : Str} {zInvalidDeeds_oc : Value} {zInvalidDeeds_od : Option Addr} {zInvalidDeeds_doc zInvalidDeeds_pm : Value} {zInvalidDeeds_an : Option Addr} {zInvalidDeeds_cdv zInvalidDeeds_ct : Value} {zInvalidDeeds_osl : Array (Option Value)} {zInvalidDeeds_p1 zInvalidDeeds_p2 zInvalidDeeds_q1 zInvalidDeeds_q2 zInvalidDeeds_q3 zInvalidDeeds_q4 : Pos}
    {zInvalidLog_q : Str} {zInvalidLog_oc : Value} {zInvalidLog_od : Option Addr} {zInvalidLog_doc zInvalidLog_pm : Value} {zInvalidLog_an : Option Addr} {zInvalidLog_cdv zInvalidLog_ct : Value} {zInvalidLog_osl : Array (Option Value)} {zInvalidLog_p1 zInvalidLog_p2 zInvalidLog_q1 zInvalidLog_q2 zInvalidLog_q3 zInvalidLog_q4 : Pos}
    {zUnknownName_q : Str} {zUnknownName_oc : Value} {zUnknownName_od : Option Addr} {zUnknownName_doc zUnknownName_pm : Value} {zUnknownName_an : Option Addr} {zUnknownName_cdv zUnknownName_ct : Value} {zUnknownName_osl : Array (Option Value)} {zUnknownName_p1 zUnknownName_p2 zUnknownName_q1 zUnknownName_q2 zUnknownName_q3 zUnknownName_q4 : Pos}
    {zInUse_q : Str} {zInUse_oc : Value} {zInUse_od : Option Addr} {zInUse_doc zInUse_pm : Value} {zInUse_an : Option Addr} {zInUse_cdv zInUse_ct : Value} {zInUse_osl : Array (Option Value)} {zInUse_p1 zInUse_p2 zInUse_q1 zInUse_q2 zInUse_q3 zInUse_q4 : Pos}
    {zTooMany_q : Str} {zTooMany_oc : Value} {zTooMany_od : Option Addr} {zTooMany_doc zTooMany_pm : Value} {zTooMany_an : Option Addr} {zTooMany_cdv zTooMany_ct : Value} {zTooMany_osl : Array (Option Value)} {zTooMany_p1 zTooMany_p2 zTooMany_q1 zTooMany_q2 zTooMany_q3 zTooMany_q4 : Pos}
    {zBroken_q : Str} {zBroken_oc : Value} {zBroken_od : Option Addr} {zBroken_doc zBroken_pm : Value} {zBroken_an : Option Addr} {zBroken_cdv zBroken_ct : Value} {zBroken_osl : Array (Option Value)} {zBroken_p1 zBroken_p2 zBroken_q1 zBroken_q2 zBroken_q3 zBroken_q4 : Pos}
    {tc_MOST_CHANGES tc_MOST_DEEDS tc_MOST_GUESSED tc_MOST_LED tc_MOST_LISTED tc_MOST_LOOKS tc_MOST_PARTED tc_MOST_ROW tc_MOST_SIGNS tc_MOST_SIZE tc_MOST_STANDS tc_MOST_WEIGHED tc_MOST_WORD : Tok}
    (zt_hn : PySem.W.specialIn K (.builtin "object.__class__") "__get__" = some (some (.builtin "getset_descriptor.__get__")))
    (zt_tk : PySem.W.takesIn K (.builtin "object.__class__") = some true)
    (a_l_given : PySem.W.nsIn K mainGlobals "_law_given" = some (some (.ref g_l_given)))
    (a_l_bases : PySem.W.nsIn K mainGlobals "_law_bases" = some (some (.ref g_l_bases)))
    (a_l_sorts : PySem.W.nsIn K mainGlobals "_law_sorts" = some (some (.ref g_l_sorts)))
    (a_law : PySem.W.nsIn K mainGlobals "law" = some (some (.ref g_law)))
    (l_l_given : K.lookup g_l_given = some ⟨oc0, od0, .func (PySem.W.fnOf "_law_given" "_law_given" (defArgs s_l_given) (defBody s_l_given) (defScope s_l_given) .none kV0 dc0 pm0 an0 cd0 ct0), sl0⟩)
    (c_l_given : PySem.W.codeIn K cd0 "_law_given" = true)
    (k_l_given : PySem.W.keepIn K (.ref g_l_given) = true)
    (l_l_bases : K.lookup g_l_bases = some ⟨oc1, od1, .func (PySem.W.fnOf "_law_bases" "_law_bases" (defArgs s_l_bases) (defBody s_l_bases) (defScope s_l_bases) .none kV1 dc1 pm1 an1 cd1 ct1), sl1⟩)
    (c_l_bases : PySem.W.codeIn K cd1 "_law_bases" = true)
    (k_l_bases : PySem.W.keepIn K (.ref g_l_bases) = true)
    (l_l_sorts : K.lookup g_l_sorts = some ⟨oc2, od2, .func (PySem.W.fnOf "_law_sorts" "_law_sorts" (defArgs s_l_sorts) (defBody s_l_sorts) (defScope s_l_sorts) .none kV2 dc2 pm2 an2 cd2 ct2), sl2⟩)
    (c_l_sorts : PySem.W.codeIn K cd2 "_law_sorts" = true)
    (k_l_sorts : PySem.W.keepIn K (.ref g_l_sorts) = true)
    (l_law : K.lookup g_law = some ⟨oc3, od3, .func (PySem.W.fnOf "law" "law" (defArgs s_law) (defBody s_law) (defScope s_law) .none kV3 dc3 pm3 an3 cd3 ct3), sl3⟩)
    (c_law : PySem.W.codeIn K cd3 "law" = true)
    (k_law : PySem.W.keepIn K (.ref g_law) = true)
    (yb_ArithmeticError : PySem.W.nsIn K mainGlobals "ArithmeticError" = some none)
    (yb_LookupError : PySem.W.nsIn K mainGlobals "LookupError" = some none)
    (yb_ValueError : PySem.W.nsIn K mainGlobals "ValueError" = some none)
    (yb_isinstance : PySem.W.nsIn K mainGlobals "isinstance" = some none)
    (yb_range : PySem.W.nsIn K mainGlobals "range" = some none)
    (yc_MOST_CHANGES : PySem.W.nsIn K mainGlobals "MOST_CHANGES" = some (some (.int 60 tc_MOST_CHANGES)))
    (yc_MOST_DEEDS : PySem.W.nsIn K mainGlobals "MOST_DEEDS" = some (some (.int 500 tc_MOST_DEEDS)))
    (yc_MOST_GUESSED : PySem.W.nsIn K mainGlobals "MOST_GUESSED" = some (some (.int 12 tc_MOST_GUESSED)))
    (yc_MOST_LED : PySem.W.nsIn K mainGlobals "MOST_LED" = some (some (.int 12 tc_MOST_LED)))
    (yc_MOST_LISTED : PySem.W.nsIn K mainGlobals "MOST_LISTED" = some (some (.int 1000 tc_MOST_LISTED)))
    (yc_MOST_LOOKS : PySem.W.nsIn K mainGlobals "MOST_LOOKS" = some (some (.int 2000 tc_MOST_LOOKS)))
    (yc_MOST_PARTED : PySem.W.nsIn K mainGlobals "MOST_PARTED" = some (some (.int 8 tc_MOST_PARTED)))
    (yc_MOST_ROW : PySem.W.nsIn K mainGlobals "MOST_ROW" = some (some (.int 200 tc_MOST_ROW)))
    (yc_MOST_SIGNS : PySem.W.nsIn K mainGlobals "MOST_SIGNS" = some (some (.int 8 tc_MOST_SIGNS)))
    (yc_MOST_SIZE : PySem.W.nsIn K mainGlobals "MOST_SIZE" = some (some (.int 6 tc_MOST_SIZE)))
    (yc_MOST_STANDS : PySem.W.nsIn K mainGlobals "MOST_STANDS" = some (some (.int 200 tc_MOST_STANDS)))
    (yc_MOST_WEIGHED : PySem.W.nsIn K mainGlobals "MOST_WEIGHED" = some (some (.int 36 tc_MOST_WEIGHED)))
    (yc_MOST_WORD : PySem.W.nsIn K mainGlobals "MOST_WORD" = some (some (.int 4 tc_MOST_WORD)))
    (ymx_WrongValue : PySem.W.nsIn K mainGlobals "WrongValue" = some (some (.ref e_WrongValue)))
    (ymx_WrongName : PySem.W.nsIn K mainGlobals "WrongName" = some (some (.ref e_WrongName)))
    (ymx_NoAnswer : PySem.W.nsIn K mainGlobals "NoAnswer" = some (some (.ref e_NoAnswer)))
    (ymx_InvalidSigns : PySem.W.nsIn K mainGlobals "InvalidSigns" = some (some (.ref e_InvalidSigns)))
    (ymx_InvalidArrows : PySem.W.nsIn K mainGlobals "InvalidArrows" = some (some (.ref e_InvalidArrows)))
    (ymx_InvalidEnds : PySem.W.nsIn K mainGlobals "InvalidEnds" = some (some (.ref e_InvalidEnds)))
    (ymx_InvalidRow : PySem.W.nsIn K mainGlobals "InvalidRow" = some (some (.ref e_InvalidRow)))
    (ymx_InvalidNumber : PySem.W.nsIn K mainGlobals "InvalidNumber" = some (some (.ref e_InvalidNumber)))
    (ymx_InvalidStand : PySem.W.nsIn K mainGlobals "InvalidStand" = some (some (.ref e_InvalidStand)))
    (ymx_InvalidSign : PySem.W.nsIn K mainGlobals "InvalidSign" = some (some (.ref e_InvalidSign)))
    (ymx_InvalidBook : PySem.W.nsIn K mainGlobals "InvalidBook" = some (some (.ref e_InvalidBook)))
    (ymx_InvalidPlan : PySem.W.nsIn K mainGlobals "InvalidPlan" = some (some (.ref e_InvalidPlan)))
    (ymx_InvalidSteps : PySem.W.nsIn K mainGlobals "InvalidSteps" = some (some (.ref e_InvalidSteps)))
    (ymx_InvalidWeights : PySem.W.nsIn K mainGlobals "InvalidWeights" = some (some (.ref e_InvalidWeights)))
    (ymx_InvalidOutputs : PySem.W.nsIn K mainGlobals "InvalidOutputs" = some (some (.ref e_InvalidOutputs)))
    (ymx_InvalidMarks : PySem.W.nsIn K mainGlobals "InvalidMarks" = some (some (.ref e_InvalidMarks)))
    (ymx_InvalidFormula : PySem.W.nsIn K mainGlobals "InvalidFormula" = some (some (.ref e_InvalidFormula)))
    (ymx_InvalidTold : PySem.W.nsIn K mainGlobals "InvalidTold" = some (some (.ref e_InvalidTold)))
    (ymx_InvalidText : PySem.W.nsIn K mainGlobals "InvalidText" = some (some (.ref e_InvalidText)))
    (ymx_InvalidName : PySem.W.nsIn K mainGlobals "InvalidName" = some (some (.ref e_InvalidName)))
    (ymx_InvalidClaim : PySem.W.nsIn K mainGlobals "InvalidClaim" = some (some (.ref e_InvalidClaim)))
    (ymx_InvalidIndex : PySem.W.nsIn K mainGlobals "InvalidIndex" = some (some (.ref e_InvalidIndex)))
    (ymx_InvalidLine : PySem.W.nsIn K mainGlobals "InvalidLine" = some (some (.ref e_InvalidLine)))
    (ymx_NotAReader : PySem.W.nsIn K mainGlobals "NotAReader" = some (some (.ref e_NotAReader)))
    (ymx_NotAGuesser : PySem.W.nsIn K mainGlobals "NotAGuesser" = some (some (.ref e_NotAGuesser)))
    (ymx_NotAWeigher : PySem.W.nsIn K mainGlobals "NotAWeigher" = some (some (.ref e_NotAWeigher)))
    (ymx_NotAWriter : PySem.W.nsIn K mainGlobals "NotAWriter" = some (some (.ref e_NotAWriter)))
    (ymx_NotAWatcher : PySem.W.nsIn K mainGlobals "NotAWatcher" = some (some (.ref e_NotAWatcher)))
    (ymx_InvalidDeeds : PySem.W.nsIn K mainGlobals "InvalidDeeds" = some (some (.ref e_InvalidDeeds)))
    (ymx_InvalidLog : PySem.W.nsIn K mainGlobals "InvalidLog" = some (some (.ref e_InvalidLog)))
    (ymx_UnknownName : PySem.W.nsIn K mainGlobals "UnknownName" = some (some (.ref e_UnknownName)))
    (ymx_InUse : PySem.W.nsIn K mainGlobals "InUse" = some (some (.ref e_InUse)))
    (ymx_UnlikeSigns : PySem.W.nsIn K mainGlobals "UnlikeSigns" = some (some (.ref e_UnlikeSigns)))
    (ymx_NotFull : PySem.W.nsIn K mainGlobals "NotFull" = some (some (.ref e_NotFull)))
    (ymx_TooMany : PySem.W.nsIn K mainGlobals "TooMany" = some (some (.ref e_TooMany)))
    (ymx_NothingToUndo : PySem.W.nsIn K mainGlobals "NothingToUndo" = some (some (.ref e_NothingToUndo)))
    (ymx_Broken : PySem.W.nsIn K mainGlobals "Broken" = some (some (.ref e_Broken)))
    (zInvalidSigns_iC : PySem.W.findIn K (.ref e_InvalidSigns) "__init__" = some (some (.ref i_InvalidSigns)))
    (zInvalidSigns_lk : K.lookup i_InvalidSigns = some ⟨zInvalidSigns_oc, zInvalidSigns_od, .func (PySem.W.fnOf "__init__" zInvalidSigns_q (Ex_given.iA zInvalidSigns_p1 zInvalidSigns_p2) (Ex_given.iB zInvalidSigns_q1 zInvalidSigns_q2 zInvalidSigns_q3 zInvalidSigns_q4) Ex_given.iS .none .none zInvalidSigns_doc zInvalidSigns_pm zInvalidSigns_an zInvalidSigns_cdv zInvalidSigns_ct), zInvalidSigns_osl⟩)
    (zInvalidSigns_cd : PySem.W.codeIn K zInvalidSigns_cdv zInvalidSigns_q = true)
    (zInvalidArrows_iC : PySem.W.findIn K (.ref e_InvalidArrows) "__init__" = some (some (.ref i_InvalidArrows)))
    (zInvalidArrows_lk : K.lookup i_InvalidArrows = some ⟨zInvalidArrows_oc, zInvalidArrows_od, .func (PySem.W.fnOf "__init__" zInvalidArrows_q (Ex_given.iA zInvalidArrows_p1 zInvalidArrows_p2) (Ex_given.iB zInvalidArrows_q1 zInvalidArrows_q2 zInvalidArrows_q3 zInvalidArrows_q4) Ex_given.iS .none .none zInvalidArrows_doc zInvalidArrows_pm zInvalidArrows_an zInvalidArrows_cdv zInvalidArrows_ct), zInvalidArrows_osl⟩)
    (zInvalidArrows_cd : PySem.W.codeIn K zInvalidArrows_cdv zInvalidArrows_q = true)
    (zInvalidEnds_iC : PySem.W.findIn K (.ref e_InvalidEnds) "__init__" = some (some (.ref i_InvalidEnds)))
    (zInvalidEnds_lk : K.lookup i_InvalidEnds = some ⟨zInvalidEnds_oc, zInvalidEnds_od, .func (PySem.W.fnOf "__init__" zInvalidEnds_q (Ex_given.iA zInvalidEnds_p1 zInvalidEnds_p2) (Ex_given.iB zInvalidEnds_q1 zInvalidEnds_q2 zInvalidEnds_q3 zInvalidEnds_q4) Ex_given.iS .none .none zInvalidEnds_doc zInvalidEnds_pm zInvalidEnds_an zInvalidEnds_cdv zInvalidEnds_ct), zInvalidEnds_osl⟩)
    (zInvalidEnds_cd : PySem.W.codeIn K zInvalidEnds_cdv zInvalidEnds_q = true)
    (zInvalidRow_iC : PySem.W.findIn K (.ref e_InvalidRow) "__init__" = some (some (.ref i_InvalidRow)))
    (zInvalidRow_lk : K.lookup i_InvalidRow = some ⟨zInvalidRow_oc, zInvalidRow_od, .func (PySem.W.fnOf "__init__" zInvalidRow_q (Ex_given.iA zInvalidRow_p1 zInvalidRow_p2) (Ex_given.iB zInvalidRow_q1 zInvalidRow_q2 zInvalidRow_q3 zInvalidRow_q4) Ex_given.iS .none .none zInvalidRow_doc zInvalidRow_pm zInvalidRow_an zInvalidRow_cdv zInvalidRow_ct), zInvalidRow_osl⟩)
    (zInvalidRow_cd : PySem.W.codeIn K zInvalidRow_cdv zInvalidRow_q = true)
    (zInvalidNumber_iC : PySem.W.findIn K (.ref e_InvalidNumber) "__init__" = some (some (.ref i_InvalidNumber)))
    (zInvalidNumber_lk : K.lookup i_InvalidNumber = some ⟨zInvalidNumber_oc, zInvalidNumber_od, .func (PySem.W.fnOf "__init__" zInvalidNumber_q (Ex_given.iA zInvalidNumber_p1 zInvalidNumber_p2) (Ex_given.iB zInvalidNumber_q1 zInvalidNumber_q2 zInvalidNumber_q3 zInvalidNumber_q4) Ex_given.iS .none .none zInvalidNumber_doc zInvalidNumber_pm zInvalidNumber_an zInvalidNumber_cdv zInvalidNumber_ct), zInvalidNumber_osl⟩)
    (zInvalidNumber_cd : PySem.W.codeIn K zInvalidNumber_cdv zInvalidNumber_q = true)
    (zInvalidStand_iC : PySem.W.findIn K (.ref e_InvalidStand) "__init__" = some (some (.ref i_InvalidStand)))
    (zInvalidStand_lk : K.lookup i_InvalidStand = some ⟨zInvalidStand_oc, zInvalidStand_od, .func (PySem.W.fnOf "__init__" zInvalidStand_q (Ex_given.iA zInvalidStand_p1 zInvalidStand_p2) (Ex_given.iB zInvalidStand_q1 zInvalidStand_q2 zInvalidStand_q3 zInvalidStand_q4) Ex_given.iS .none .none zInvalidStand_doc zInvalidStand_pm zInvalidStand_an zInvalidStand_cdv zInvalidStand_ct), zInvalidStand_osl⟩)
    (zInvalidStand_cd : PySem.W.codeIn K zInvalidStand_cdv zInvalidStand_q = true)
    (zInvalidSign_iC : PySem.W.findIn K (.ref e_InvalidSign) "__init__" = some (some (.ref i_InvalidSign)))
    (zInvalidSign_lk : K.lookup i_InvalidSign = some ⟨zInvalidSign_oc, zInvalidSign_od, .func (PySem.W.fnOf "__init__" zInvalidSign_q (Ex_given.iA zInvalidSign_p1 zInvalidSign_p2) (Ex_given.iB zInvalidSign_q1 zInvalidSign_q2 zInvalidSign_q3 zInvalidSign_q4) Ex_given.iS .none .none zInvalidSign_doc zInvalidSign_pm zInvalidSign_an zInvalidSign_cdv zInvalidSign_ct), zInvalidSign_osl⟩)
    (zInvalidSign_cd : PySem.W.codeIn K zInvalidSign_cdv zInvalidSign_q = true)
    (zInvalidBook_iC : PySem.W.findIn K (.ref e_InvalidBook) "__init__" = some (some (.ref i_InvalidBook)))
    (zInvalidBook_lk : K.lookup i_InvalidBook = some ⟨zInvalidBook_oc, zInvalidBook_od, .func (PySem.W.fnOf "__init__" zInvalidBook_q (Ex_given.iA zInvalidBook_p1 zInvalidBook_p2) (Ex_given.iB zInvalidBook_q1 zInvalidBook_q2 zInvalidBook_q3 zInvalidBook_q4) Ex_given.iS .none .none zInvalidBook_doc zInvalidBook_pm zInvalidBook_an zInvalidBook_cdv zInvalidBook_ct), zInvalidBook_osl⟩)
    (zInvalidBook_cd : PySem.W.codeIn K zInvalidBook_cdv zInvalidBook_q = true)
    (zInvalidPlan_iC : PySem.W.findIn K (.ref e_InvalidPlan) "__init__" = some (some (.ref i_InvalidPlan)))
    (zInvalidPlan_lk : K.lookup i_InvalidPlan = some ⟨zInvalidPlan_oc, zInvalidPlan_od, .func (PySem.W.fnOf "__init__" zInvalidPlan_q (Ex_given.iA zInvalidPlan_p1 zInvalidPlan_p2) (Ex_given.iB zInvalidPlan_q1 zInvalidPlan_q2 zInvalidPlan_q3 zInvalidPlan_q4) Ex_given.iS .none .none zInvalidPlan_doc zInvalidPlan_pm zInvalidPlan_an zInvalidPlan_cdv zInvalidPlan_ct), zInvalidPlan_osl⟩)
    (zInvalidPlan_cd : PySem.W.codeIn K zInvalidPlan_cdv zInvalidPlan_q = true)
    (zInvalidSteps_iC : PySem.W.findIn K (.ref e_InvalidSteps) "__init__" = some (some (.ref i_InvalidSteps)))
    (zInvalidSteps_lk : K.lookup i_InvalidSteps = some ⟨zInvalidSteps_oc, zInvalidSteps_od, .func (PySem.W.fnOf "__init__" zInvalidSteps_q (Ex_given.iA zInvalidSteps_p1 zInvalidSteps_p2) (Ex_given.iB zInvalidSteps_q1 zInvalidSteps_q2 zInvalidSteps_q3 zInvalidSteps_q4) Ex_given.iS .none .none zInvalidSteps_doc zInvalidSteps_pm zInvalidSteps_an zInvalidSteps_cdv zInvalidSteps_ct), zInvalidSteps_osl⟩)
    (zInvalidSteps_cd : PySem.W.codeIn K zInvalidSteps_cdv zInvalidSteps_q = true)
    (zInvalidWeights_iC : PySem.W.findIn K (.ref e_InvalidWeights) "__init__" = some (some (.ref i_InvalidWeights)))
    (zInvalidWeights_lk : K.lookup i_InvalidWeights = some ⟨zInvalidWeights_oc, zInvalidWeights_od, .func (PySem.W.fnOf "__init__" zInvalidWeights_q (Ex_given.iA zInvalidWeights_p1 zInvalidWeights_p2) (Ex_given.iB zInvalidWeights_q1 zInvalidWeights_q2 zInvalidWeights_q3 zInvalidWeights_q4) Ex_given.iS .none .none zInvalidWeights_doc zInvalidWeights_pm zInvalidWeights_an zInvalidWeights_cdv zInvalidWeights_ct), zInvalidWeights_osl⟩)
    (zInvalidWeights_cd : PySem.W.codeIn K zInvalidWeights_cdv zInvalidWeights_q = true)
    (zInvalidOutputs_iC : PySem.W.findIn K (.ref e_InvalidOutputs) "__init__" = some (some (.ref i_InvalidOutputs)))
    (zInvalidOutputs_lk : K.lookup i_InvalidOutputs = some ⟨zInvalidOutputs_oc, zInvalidOutputs_od, .func (PySem.W.fnOf "__init__" zInvalidOutputs_q (Ex_given.iA zInvalidOutputs_p1 zInvalidOutputs_p2) (Ex_given.iB zInvalidOutputs_q1 zInvalidOutputs_q2 zInvalidOutputs_q3 zInvalidOutputs_q4) Ex_given.iS .none .none zInvalidOutputs_doc zInvalidOutputs_pm zInvalidOutputs_an zInvalidOutputs_cdv zInvalidOutputs_ct), zInvalidOutputs_osl⟩)
    (zInvalidOutputs_cd : PySem.W.codeIn K zInvalidOutputs_cdv zInvalidOutputs_q = true)
    (zInvalidMarks_iC : PySem.W.findIn K (.ref e_InvalidMarks) "__init__" = some (some (.ref i_InvalidMarks)))
    (zInvalidMarks_lk : K.lookup i_InvalidMarks = some ⟨zInvalidMarks_oc, zInvalidMarks_od, .func (PySem.W.fnOf "__init__" zInvalidMarks_q (Ex_given.iA zInvalidMarks_p1 zInvalidMarks_p2) (Ex_given.iB zInvalidMarks_q1 zInvalidMarks_q2 zInvalidMarks_q3 zInvalidMarks_q4) Ex_given.iS .none .none zInvalidMarks_doc zInvalidMarks_pm zInvalidMarks_an zInvalidMarks_cdv zInvalidMarks_ct), zInvalidMarks_osl⟩)
    (zInvalidMarks_cd : PySem.W.codeIn K zInvalidMarks_cdv zInvalidMarks_q = true)
    (zInvalidFormula_iC : PySem.W.findIn K (.ref e_InvalidFormula) "__init__" = some (some (.ref i_InvalidFormula)))
    (zInvalidFormula_lk : K.lookup i_InvalidFormula = some ⟨zInvalidFormula_oc, zInvalidFormula_od, .func (PySem.W.fnOf "__init__" zInvalidFormula_q (Ex_given.iA zInvalidFormula_p1 zInvalidFormula_p2) (Ex_given.iB zInvalidFormula_q1 zInvalidFormula_q2 zInvalidFormula_q3 zInvalidFormula_q4) Ex_given.iS .none .none zInvalidFormula_doc zInvalidFormula_pm zInvalidFormula_an zInvalidFormula_cdv zInvalidFormula_ct), zInvalidFormula_osl⟩)
    (zInvalidFormula_cd : PySem.W.codeIn K zInvalidFormula_cdv zInvalidFormula_q = true)
    (zInvalidTold_iC : PySem.W.findIn K (.ref e_InvalidTold) "__init__" = some (some (.ref i_InvalidTold)))
    (zInvalidTold_lk : K.lookup i_InvalidTold = some ⟨zInvalidTold_oc, zInvalidTold_od, .func (PySem.W.fnOf "__init__" zInvalidTold_q (Ex_given.iA zInvalidTold_p1 zInvalidTold_p2) (Ex_given.iB zInvalidTold_q1 zInvalidTold_q2 zInvalidTold_q3 zInvalidTold_q4) Ex_given.iS .none .none zInvalidTold_doc zInvalidTold_pm zInvalidTold_an zInvalidTold_cdv zInvalidTold_ct), zInvalidTold_osl⟩)
    (zInvalidTold_cd : PySem.W.codeIn K zInvalidTold_cdv zInvalidTold_q = true)
    (zInvalidText_iC : PySem.W.findIn K (.ref e_InvalidText) "__init__" = some (some (.ref i_InvalidText)))
    (zInvalidText_lk : K.lookup i_InvalidText = some ⟨zInvalidText_oc, zInvalidText_od, .func (PySem.W.fnOf "__init__" zInvalidText_q (Ex_given.iA zInvalidText_p1 zInvalidText_p2) (Ex_given.iB zInvalidText_q1 zInvalidText_q2 zInvalidText_q3 zInvalidText_q4) Ex_given.iS .none .none zInvalidText_doc zInvalidText_pm zInvalidText_an zInvalidText_cdv zInvalidText_ct), zInvalidText_osl⟩)
    (zInvalidText_cd : PySem.W.codeIn K zInvalidText_cdv zInvalidText_q = true)
    (zInvalidName_iC : PySem.W.findIn K (.ref e_InvalidName) "__init__" = some (some (.ref i_InvalidName)))
    (zInvalidName_lk : K.lookup i_InvalidName = some ⟨zInvalidName_oc, zInvalidName_od, .func (PySem.W.fnOf "__init__" zInvalidName_q (Ex_given.iA zInvalidName_p1 zInvalidName_p2) (Ex_given.iB zInvalidName_q1 zInvalidName_q2 zInvalidName_q3 zInvalidName_q4) Ex_given.iS .none .none zInvalidName_doc zInvalidName_pm zInvalidName_an zInvalidName_cdv zInvalidName_ct), zInvalidName_osl⟩)
    (zInvalidName_cd : PySem.W.codeIn K zInvalidName_cdv zInvalidName_q = true)
    (zInvalidClaim_iC : PySem.W.findIn K (.ref e_InvalidClaim) "__init__" = some (some (.ref i_InvalidClaim)))
    (zInvalidClaim_lk : K.lookup i_InvalidClaim = some ⟨zInvalidClaim_oc, zInvalidClaim_od, .func (PySem.W.fnOf "__init__" zInvalidClaim_q (Ex_given.iA zInvalidClaim_p1 zInvalidClaim_p2) (Ex_given.iB zInvalidClaim_q1 zInvalidClaim_q2 zInvalidClaim_q3 zInvalidClaim_q4) Ex_given.iS .none .none zInvalidClaim_doc zInvalidClaim_pm zInvalidClaim_an zInvalidClaim_cdv zInvalidClaim_ct), zInvalidClaim_osl⟩)
    (zInvalidClaim_cd : PySem.W.codeIn K zInvalidClaim_cdv zInvalidClaim_q = true)
    (zInvalidIndex_iC : PySem.W.findIn K (.ref e_InvalidIndex) "__init__" = some (some (.ref i_InvalidIndex)))
    (zInvalidIndex_lk : K.lookup i_InvalidIndex = some ⟨zInvalidIndex_oc, zInvalidIndex_od, .func (PySem.W.fnOf "__init__" zInvalidIndex_q (Ex_given.iA zInvalidIndex_p1 zInvalidIndex_p2) (Ex_given.iB zInvalidIndex_q1 zInvalidIndex_q2 zInvalidIndex_q3 zInvalidIndex_q4) Ex_given.iS .none .none zInvalidIndex_doc zInvalidIndex_pm zInvalidIndex_an zInvalidIndex_cdv zInvalidIndex_ct), zInvalidIndex_osl⟩)
    (zInvalidIndex_cd : PySem.W.codeIn K zInvalidIndex_cdv zInvalidIndex_q = true)
    (zInvalidLine_iC : PySem.W.findIn K (.ref e_InvalidLine) "__init__" = some (some (.ref i_InvalidLine)))
    (zInvalidLine_lk : K.lookup i_InvalidLine = some ⟨zInvalidLine_oc, zInvalidLine_od, .func (PySem.W.fnOf "__init__" zInvalidLine_q (Ex_given.iA zInvalidLine_p1 zInvalidLine_p2) (Ex_given.iB zInvalidLine_q1 zInvalidLine_q2 zInvalidLine_q3 zInvalidLine_q4) Ex_given.iS .none .none zInvalidLine_doc zInvalidLine_pm zInvalidLine_an zInvalidLine_cdv zInvalidLine_ct), zInvalidLine_osl⟩)
    (zInvalidLine_cd : PySem.W.codeIn K zInvalidLine_cdv zInvalidLine_q = true)
    (zNotAReader_iC : PySem.W.findIn K (.ref e_NotAReader) "__init__" = some (some (.ref i_NotAReader)))
    (zNotAReader_lk : K.lookup i_NotAReader = some ⟨zNotAReader_oc, zNotAReader_od, .func (PySem.W.fnOf "__init__" zNotAReader_q (Ex_given.iA zNotAReader_p1 zNotAReader_p2) (Ex_given.iB zNotAReader_q1 zNotAReader_q2 zNotAReader_q3 zNotAReader_q4) Ex_given.iS .none .none zNotAReader_doc zNotAReader_pm zNotAReader_an zNotAReader_cdv zNotAReader_ct), zNotAReader_osl⟩)
    (zNotAReader_cd : PySem.W.codeIn K zNotAReader_cdv zNotAReader_q = true)
    (zNotAGuesser_iC : PySem.W.findIn K (.ref e_NotAGuesser) "__init__" = some (some (.ref i_NotAGuesser)))
    (zNotAGuesser_lk : K.lookup i_NotAGuesser = some ⟨zNotAGuesser_oc, zNotAGuesser_od, .func (PySem.W.fnOf "__init__" zNotAGuesser_q (Ex_given.iA zNotAGuesser_p1 zNotAGuesser_p2) (Ex_given.iB zNotAGuesser_q1 zNotAGuesser_q2 zNotAGuesser_q3 zNotAGuesser_q4) Ex_given.iS .none .none zNotAGuesser_doc zNotAGuesser_pm zNotAGuesser_an zNotAGuesser_cdv zNotAGuesser_ct), zNotAGuesser_osl⟩)
    (zNotAGuesser_cd : PySem.W.codeIn K zNotAGuesser_cdv zNotAGuesser_q = true)
    (zNotAWeigher_iC : PySem.W.findIn K (.ref e_NotAWeigher) "__init__" = some (some (.ref i_NotAWeigher)))
    (zNotAWeigher_lk : K.lookup i_NotAWeigher = some ⟨zNotAWeigher_oc, zNotAWeigher_od, .func (PySem.W.fnOf "__init__" zNotAWeigher_q (Ex_given.iA zNotAWeigher_p1 zNotAWeigher_p2) (Ex_given.iB zNotAWeigher_q1 zNotAWeigher_q2 zNotAWeigher_q3 zNotAWeigher_q4) Ex_given.iS .none .none zNotAWeigher_doc zNotAWeigher_pm zNotAWeigher_an zNotAWeigher_cdv zNotAWeigher_ct), zNotAWeigher_osl⟩)
    (zNotAWeigher_cd : PySem.W.codeIn K zNotAWeigher_cdv zNotAWeigher_q = true)
    (zNotAWriter_iC : PySem.W.findIn K (.ref e_NotAWriter) "__init__" = some (some (.ref i_NotAWriter)))
    (zNotAWriter_lk : K.lookup i_NotAWriter = some ⟨zNotAWriter_oc, zNotAWriter_od, .func (PySem.W.fnOf "__init__" zNotAWriter_q (Ex_given.iA zNotAWriter_p1 zNotAWriter_p2) (Ex_given.iB zNotAWriter_q1 zNotAWriter_q2 zNotAWriter_q3 zNotAWriter_q4) Ex_given.iS .none .none zNotAWriter_doc zNotAWriter_pm zNotAWriter_an zNotAWriter_cdv zNotAWriter_ct), zNotAWriter_osl⟩)
    (zNotAWriter_cd : PySem.W.codeIn K zNotAWriter_cdv zNotAWriter_q = true)
    (zNotAWatcher_iC : PySem.W.findIn K (.ref e_NotAWatcher) "__init__" = some (some (.ref i_NotAWatcher)))
    (zNotAWatcher_lk : K.lookup i_NotAWatcher = some ⟨zNotAWatcher_oc, zNotAWatcher_od, .func (PySem.W.fnOf "__init__" zNotAWatcher_q (Ex_given.iA zNotAWatcher_p1 zNotAWatcher_p2) (Ex_given.iB zNotAWatcher_q1 zNotAWatcher_q2 zNotAWatcher_q3 zNotAWatcher_q4) Ex_given.iS .none .none zNotAWatcher_doc zNotAWatcher_pm zNotAWatcher_an zNotAWatcher_cdv zNotAWatcher_ct), zNotAWatcher_osl⟩)
    (zNotAWatcher_cd : PySem.W.codeIn K zNotAWatcher_cdv zNotAWatcher_q = true)
    (zInvalidDeeds_iC : PySem.W.findIn K (.ref e_InvalidDeeds) "__init__" = some (some (.ref i_InvalidDeeds)))
    (zInvalidDeeds_lk : K.lookup i_InvalidDeeds = some ⟨zInvalidDeeds_oc, zInvalidDeeds_od, .func (PySem.W.fnOf "__init__" zInvalidDeeds_q (Ex_index.iA zInvalidDeeds_p1 zInvalidDeeds_p2) (Ex_index.iB zInvalidDeeds_q1 zInvalidDeeds_q2 zInvalidDeeds_q3 zInvalidDeeds_q4) Ex_index.iS .none .none zInvalidDeeds_doc zInvalidDeeds_pm zInvalidDeeds_an zInvalidDeeds_cdv zInvalidDeeds_ct), zInvalidDeeds_osl⟩)
    (zInvalidDeeds_cd : PySem.W.codeIn K zInvalidDeeds_cdv zInvalidDeeds_q = true)
    (zInvalidLog_iC : PySem.W.findIn K (.ref e_InvalidLog) "__init__" = some (some (.ref i_InvalidLog)))
    (zInvalidLog_lk : K.lookup i_InvalidLog = some ⟨zInvalidLog_oc, zInvalidLog_od, .func (PySem.W.fnOf "__init__" zInvalidLog_q (Ex_index.iA zInvalidLog_p1 zInvalidLog_p2) (Ex_index.iB zInvalidLog_q1 zInvalidLog_q2 zInvalidLog_q3 zInvalidLog_q4) Ex_index.iS .none .none zInvalidLog_doc zInvalidLog_pm zInvalidLog_an zInvalidLog_cdv zInvalidLog_ct), zInvalidLog_osl⟩)
    (zInvalidLog_cd : PySem.W.codeIn K zInvalidLog_cdv zInvalidLog_q = true)
    (zUnknownName_iC : PySem.W.findIn K (.ref e_UnknownName) "__init__" = some (some (.ref i_UnknownName)))
    (zUnknownName_lk : K.lookup i_UnknownName = some ⟨zUnknownName_oc, zUnknownName_od, .func (PySem.W.fnOf "__init__" zUnknownName_q (Ex_given.iA zUnknownName_p1 zUnknownName_p2) (Ex_given.iB zUnknownName_q1 zUnknownName_q2 zUnknownName_q3 zUnknownName_q4) Ex_given.iS .none .none zUnknownName_doc zUnknownName_pm zUnknownName_an zUnknownName_cdv zUnknownName_ct), zUnknownName_osl⟩)
    (zUnknownName_cd : PySem.W.codeIn K zUnknownName_cdv zUnknownName_q = true)
    (zInUse_iC : PySem.W.findIn K (.ref e_InUse) "__init__" = some (some (.ref i_InUse)))
    (zInUse_lk : K.lookup i_InUse = some ⟨zInUse_oc, zInUse_od, .func (PySem.W.fnOf "__init__" zInUse_q (Ex_index.iA zInUse_p1 zInUse_p2) (Ex_index.iB zInUse_q1 zInUse_q2 zInUse_q3 zInUse_q4) Ex_index.iS .none .none zInUse_doc zInUse_pm zInUse_an zInUse_cdv zInUse_ct), zInUse_osl⟩)
    (zInUse_cd : PySem.W.codeIn K zInUse_cdv zInUse_q = true)
    (zTooMany_iC : PySem.W.findIn K (.ref e_TooMany) "__init__" = some (some (.ref i_TooMany)))
    (zTooMany_lk : K.lookup i_TooMany = some ⟨zTooMany_oc, zTooMany_od, .func (PySem.W.fnOf "__init__" zTooMany_q (Ex_limit.iA zTooMany_p1 zTooMany_p2) (Ex_limit.iB zTooMany_q1 zTooMany_q2 zTooMany_q3 zTooMany_q4) Ex_limit.iS .none .none zTooMany_doc zTooMany_pm zTooMany_an zTooMany_cdv zTooMany_ct), zTooMany_osl⟩)
    (zTooMany_cd : PySem.W.codeIn K zTooMany_cdv zTooMany_q = true)
    (zBroken_iC : PySem.W.findIn K (.ref e_Broken) "__init__" = some (some (.ref i_Broken)))
    (zBroken_lk : K.lookup i_Broken = some ⟨zBroken_oc, zBroken_od, .func (PySem.W.fnOf "__init__" zBroken_q (Ex_index.iA zBroken_p1 zBroken_p2) (Ex_index.iB zBroken_q1 zBroken_q2 zBroken_q3 zBroken_q4) Ex_index.iS .none .none zBroken_doc zBroken_pm zBroken_an zBroken_cdv zBroken_ct), zBroken_osl⟩)
    (zBroken_cd : PySem.W.codeIn K zBroken_cdv zBroken_q = true)
    (zkk : kkB K [e_InvalidSigns, e_InvalidArrows, e_InvalidEnds, e_InvalidRow, e_InvalidNumber, e_InvalidStand, e_InvalidSign, e_InvalidBook, e_InvalidPlan, e_InvalidSteps, e_InvalidWeights, e_InvalidOutputs, e_InvalidMarks, e_InvalidFormula, e_InvalidTold, e_InvalidText, e_InvalidName, e_InvalidClaim, e_InvalidIndex, e_InvalidLine, e_NotAReader, e_NotAGuesser, e_NotAWeigher, e_NotAWriter, e_NotAWatcher, e_InvalidDeeds, e_InvalidLog, e_UnknownName, e_InUse, e_UnlikeSigns, e_NotFull, e_TooMany, e_NothingToUndo, e_Broken] = true)
    (zkb : kbB K [e_InvalidSigns, e_InvalidArrows, e_InvalidEnds, e_InvalidRow, e_InvalidNumber, e_InvalidStand, e_InvalidSign, e_InvalidBook, e_InvalidPlan, e_InvalidSteps, e_InvalidWeights, e_InvalidOutputs, e_InvalidMarks, e_InvalidFormula, e_InvalidTold, e_InvalidText, e_InvalidName, e_InvalidClaim, e_InvalidIndex, e_InvalidLine, e_NotAReader, e_NotAGuesser, e_NotAWeigher, e_NotAWriter, e_NotAWatcher, e_InvalidDeeds, e_InvalidLog, e_UnknownName, e_InUse, e_UnlikeSigns, e_NotFull, e_TooMany, e_NothingToUndo, e_Broken] [.ref e_WrongValue, .ref e_WrongName, .ref e_NoAnswer, .type "ValueError", .type "LookupError", .type "ArithmeticError"] = true)
    (zz0 : ([(e_InvalidSigns, i_InvalidSigns), (e_InvalidArrows, i_InvalidArrows), (e_InvalidEnds, i_InvalidEnds), (e_InvalidRow, i_InvalidRow), (e_InvalidNumber, i_InvalidNumber), (e_InvalidStand, i_InvalidStand), (e_InvalidSign, i_InvalidSign), (e_InvalidBook, i_InvalidBook), (e_InvalidPlan, i_InvalidPlan), (e_InvalidSteps, i_InvalidSteps), (e_InvalidWeights, i_InvalidWeights), (e_InvalidOutputs, i_InvalidOutputs), (e_InvalidMarks, i_InvalidMarks), (e_InvalidFormula, i_InvalidFormula), (e_InvalidTold, i_InvalidTold), (e_InvalidText, i_InvalidText), (e_InvalidName, i_InvalidName), (e_InvalidClaim, i_InvalidClaim), (e_InvalidIndex, i_InvalidIndex), (e_InvalidLine, i_InvalidLine), (e_NotAReader, i_NotAReader), (e_NotAGuesser, i_NotAGuesser), (e_NotAWeigher, i_NotAWeigher), (e_NotAWriter, i_NotAWriter), (e_NotAWatcher, i_NotAWatcher)].all fun p : Addr × Addr => txB K [.type "ValueError", .type "Exception", .type "BaseException", .type "object"] "ValueError.__new__" "given" p.1 p.2) = true)
    (zz1 : ([(e_InvalidDeeds, i_InvalidDeeds), (e_InvalidLog, i_InvalidLog)].all fun p : Addr × Addr => txB K [.type "ValueError", .type "Exception", .type "BaseException", .type "object"] "ValueError.__new__" "index" p.1 p.2) = true)
    (zz2 : ([(e_UnknownName, i_UnknownName)].all fun p : Addr × Addr => txB K [.type "LookupError", .type "Exception", .type "BaseException", .type "object"] "LookupError.__new__" "given" p.1 p.2) = true)
    (zz3 : ([(e_InUse, i_InUse)].all fun p : Addr × Addr => txB K [.type "LookupError", .type "Exception", .type "BaseException", .type "object"] "LookupError.__new__" "index" p.1 p.2) = true)
    (zz4 : ([(e_TooMany, i_TooMany)].all fun p : Addr × Addr => txB K [.type "ArithmeticError", .type "Exception", .type "BaseException", .type "object"] "ArithmeticError.__new__" "limit" p.1 p.2) = true)
    (zz5 : ([(e_Broken, i_Broken)].all fun p : Addr × Addr => txB K [.type "ArithmeticError", .type "Exception", .type "BaseException", .type "object"] "ArithmeticError.__new__" "index" p.1 p.2) = true)
    (yy0 : ([e_UnlikeSigns, e_NotFull, e_NothingToUndo].all fun C : Addr => ty0 K [.type "ArithmeticError", .type "Exception", .type "BaseException", .type "object"] "ArithmeticError.__new__" C) = true)
    : ∃ fd : FuncData, (∀ (s : Shared) (u : Value), BindsTo s fd ⟨[u], []⟩ [("_law_script", u)]) ∧ ∀ base : Heap, K.In base → base.Ns mainGlobals mg → FnOkG P w K mg base 4 fa fd ["_law_script"] (spLaw K) := by
  have e := hfa.symm.trans (PySem.W.mg_of X G a_law)
  cases e
  let A : Ad := { l_given := g_l_given, l_bases := g_l_bases, l_sorts := g_l_sorts, law := fa, x_WrongValue := e_WrongValue, x_WrongName := e_WrongName, x_NoAnswer := e_NoAnswer, x_InvalidSigns := e_InvalidSigns, x_InvalidArrows := e_InvalidArrows, x_InvalidEnds := e_InvalidEnds, x_InvalidRow := e_InvalidRow, x_InvalidNumber := e_InvalidNumber, x_InvalidStand := e_InvalidStand, x_InvalidSign := e_InvalidSign, x_InvalidBook := e_InvalidBook, x_InvalidPlan := e_InvalidPlan, x_InvalidSteps := e_InvalidSteps, x_InvalidWeights := e_InvalidWeights, x_InvalidOutputs := e_InvalidOutputs, x_InvalidMarks := e_InvalidMarks, x_InvalidFormula := e_InvalidFormula, x_InvalidTold := e_InvalidTold, x_InvalidText := e_InvalidText, x_InvalidName := e_InvalidName, x_InvalidClaim := e_InvalidClaim, x_InvalidIndex := e_InvalidIndex, x_InvalidLine := e_InvalidLine, x_NotAReader := e_NotAReader, x_NotAGuesser := e_NotAGuesser, x_NotAWeigher := e_NotAWeigher, x_NotAWriter := e_NotAWriter, x_NotAWatcher := e_NotAWatcher, x_InvalidDeeds := e_InvalidDeeds, x_InvalidLog := e_InvalidLog, x_UnknownName := e_UnknownName, x_InUse := e_InUse, x_UnlikeSigns := e_UnlikeSigns, x_NotFull := e_NotFull, x_TooMany := e_TooMany, x_NothingToUndo := e_NothingToUndo, x_Broken := e_Broken, xi_InvalidSigns := i_InvalidSigns, xi_InvalidArrows := i_InvalidArrows, xi_InvalidEnds := i_InvalidEnds, xi_InvalidRow := i_InvalidRow, xi_InvalidNumber := i_InvalidNumber, xi_InvalidStand := i_InvalidStand, xi_InvalidSign := i_InvalidSign, xi_InvalidBook := i_InvalidBook, xi_InvalidPlan := i_InvalidPlan, xi_InvalidSteps := i_InvalidSteps, xi_InvalidWeights := i_InvalidWeights, xi_InvalidOutputs := i_InvalidOutputs, xi_InvalidMarks := i_InvalidMarks, xi_InvalidFormula := i_InvalidFormula, xi_InvalidTold := i_InvalidTold, xi_InvalidText := i_InvalidText, xi_InvalidName := i_InvalidName, xi_InvalidClaim := i_InvalidClaim, xi_InvalidIndex := i_InvalidIndex, xi_InvalidLine := i_InvalidLine, xi_NotAReader := i_NotAReader, xi_NotAGuesser := i_NotAGuesser, xi_NotAWeigher := i_NotAWeigher, xi_NotAWriter := i_NotAWriter, xi_NotAWatcher := i_NotAWatcher, xi_InvalidDeeds := i_InvalidDeeds, xi_InvalidLog := i_InvalidLog, xi_UnknownName := i_UnknownName, xi_InUse := i_InUse, xi_TooMany := i_TooMany, xi_Broken := i_Broken }
  let fd : Fds := { l_given := PySem.W.fnOf "_law_given" "_law_given" (defArgs s_l_given) (defBody s_l_given) (defScope s_l_given) .none kV0 dc0 pm0 an0 cd0 ct0, l_bases := PySem.W.fnOf "_law_bases" "_law_bases" (defArgs s_l_bases) (defBody s_l_bases) (defScope s_l_bases) .none kV1 dc1 pm1 an1 cd1 ct1, l_sorts := PySem.W.fnOf "_law_sorts" "_law_sorts" (defArgs s_l_sorts) (defBody s_l_sorts) (defScope s_l_sorts) .none kV2 dc2 pm2 an2 cd2 ct2, law := PySem.W.fnOf "law" "law" (defArgs s_law) (defBody s_law) (defScope s_law) .none kV3 dc3 pm3 an3 cd3 ct3 }
  have T : Txt K mg A := {
    b_ArithmeticError := PySem.W.mg_none_of X G yb_ArithmeticError,
    b_LookupError := PySem.W.mg_none_of X G yb_LookupError,
    b_ValueError := PySem.W.mg_none_of X G yb_ValueError,
    b_isinstance := PySem.W.mg_none_of X G yb_isinstance,
    b_range := PySem.W.mg_none_of X G yb_range,
    c_MOST_CHANGES := ⟨_, PySem.W.mg_of X G yc_MOST_CHANGES⟩,
    c_MOST_DEEDS := ⟨_, PySem.W.mg_of X G yc_MOST_DEEDS⟩,
    c_MOST_GUESSED := ⟨_, PySem.W.mg_of X G yc_MOST_GUESSED⟩,
    c_MOST_LED := ⟨_, PySem.W.mg_of X G yc_MOST_LED⟩,
    c_MOST_LISTED := ⟨_, PySem.W.mg_of X G yc_MOST_LISTED⟩,
    c_MOST_LOOKS := ⟨_, PySem.W.mg_of X G yc_MOST_LOOKS⟩,
    c_MOST_PARTED := ⟨_, PySem.W.mg_of X G yc_MOST_PARTED⟩,
    c_MOST_ROW := ⟨_, PySem.W.mg_of X G yc_MOST_ROW⟩,
    c_MOST_SIGNS := ⟨_, PySem.W.mg_of X G yc_MOST_SIGNS⟩,
    c_MOST_SIZE := ⟨_, PySem.W.mg_of X G yc_MOST_SIZE⟩,
    c_MOST_STANDS := ⟨_, PySem.W.mg_of X G yc_MOST_STANDS⟩,
    c_MOST_WEIGHED := ⟨_, PySem.W.mg_of X G yc_MOST_WEIGHED⟩,
    c_MOST_WORD := ⟨_, PySem.W.mg_of X G yc_MOST_WORD⟩,
    m_l_given := PySem.W.mg_of X G a_l_given,
    k_l_given := k_l_given,
    m_l_bases := PySem.W.mg_of X G a_l_bases,
    k_l_bases := k_l_bases,
    m_l_sorts := PySem.W.mg_of X G a_l_sorts,
    k_l_sorts := k_l_sorts,
    m_law := PySem.W.mg_of X G a_law,
    k_law := k_law,
    t_hn := zt_hn,
    t_tk := zt_tk,
    mx_WrongValue := PySem.W.mg_of X G ymx_WrongValue,
    mx_WrongName := PySem.W.mg_of X G ymx_WrongName,
    mx_NoAnswer := PySem.W.mg_of X G ymx_NoAnswer,
    mx_InvalidSigns := PySem.W.mg_of X G ymx_InvalidSigns,
    mx_InvalidArrows := PySem.W.mg_of X G ymx_InvalidArrows,
    mx_InvalidEnds := PySem.W.mg_of X G ymx_InvalidEnds,
    mx_InvalidRow := PySem.W.mg_of X G ymx_InvalidRow,
    mx_InvalidNumber := PySem.W.mg_of X G ymx_InvalidNumber,
    mx_InvalidStand := PySem.W.mg_of X G ymx_InvalidStand,
    mx_InvalidSign := PySem.W.mg_of X G ymx_InvalidSign,
    mx_InvalidBook := PySem.W.mg_of X G ymx_InvalidBook,
    mx_InvalidPlan := PySem.W.mg_of X G ymx_InvalidPlan,
    mx_InvalidSteps := PySem.W.mg_of X G ymx_InvalidSteps,
    mx_InvalidWeights := PySem.W.mg_of X G ymx_InvalidWeights,
    mx_InvalidOutputs := PySem.W.mg_of X G ymx_InvalidOutputs,
    mx_InvalidMarks := PySem.W.mg_of X G ymx_InvalidMarks,
    mx_InvalidFormula := PySem.W.mg_of X G ymx_InvalidFormula,
    mx_InvalidTold := PySem.W.mg_of X G ymx_InvalidTold,
    mx_InvalidText := PySem.W.mg_of X G ymx_InvalidText,
    mx_InvalidName := PySem.W.mg_of X G ymx_InvalidName,
    mx_InvalidClaim := PySem.W.mg_of X G ymx_InvalidClaim,
    mx_InvalidIndex := PySem.W.mg_of X G ymx_InvalidIndex,
    mx_InvalidLine := PySem.W.mg_of X G ymx_InvalidLine,
    mx_NotAReader := PySem.W.mg_of X G ymx_NotAReader,
    mx_NotAGuesser := PySem.W.mg_of X G ymx_NotAGuesser,
    mx_NotAWeigher := PySem.W.mg_of X G ymx_NotAWeigher,
    mx_NotAWriter := PySem.W.mg_of X G ymx_NotAWriter,
    mx_NotAWatcher := PySem.W.mg_of X G ymx_NotAWatcher,
    mx_InvalidDeeds := PySem.W.mg_of X G ymx_InvalidDeeds,
    mx_InvalidLog := PySem.W.mg_of X G ymx_InvalidLog,
    mx_UnknownName := PySem.W.mg_of X G ymx_UnknownName,
    mx_InUse := PySem.W.mg_of X G ymx_InUse,
    mx_UnlikeSigns := PySem.W.mg_of X G ymx_UnlikeSigns,
    mx_NotFull := PySem.W.mg_of X G ymx_NotFull,
    mx_TooMany := PySem.W.mg_of X G ymx_TooMany,
    mx_NothingToUndo := PySem.W.mg_of X G ymx_NothingToUndo,
    mx_Broken := PySem.W.mg_of X G ymx_Broken,
    x_InvalidSigns := by
      obtain ⟨h1, h2, h3, h4, h5, h6, h7, h8, h9, h10, h11, h12, h13, h14⟩ := txB_ok (all_at zz0 (i := 0) rfl)
      exact { gC := PySem.W.mg_of X G ymx_InvalidSigns, base := PySem.F.excBase_ValueError, stor := PySem.F.store_ValueError, ini := h1, ovr := h2, tkr := h3, sa := h4, ga := h5, gg := h6, noN := h7, iC := zInvalidSigns_iC, tC := h8, kC := h9, exC := h10, tyC := h11, hdC := h12, cls := h13, clm := h14, cln := zt_hn, clt := zt_tk, fn := ⟨_, _, _, _, _, _, _, _, _, _, _, _, _, _, _, zInvalidSigns_lk, zInvalidSigns_cd⟩ },
    x_InvalidArrows := by
      obtain ⟨h1, h2, h3, h4, h5, h6, h7, h8, h9, h10, h11, h12, h13, h14⟩ := txB_ok (all_at zz0 (i := 1) rfl)
      exact { gC := PySem.W.mg_of X G ymx_InvalidArrows, base := PySem.F.excBase_ValueError, stor := PySem.F.store_ValueError, ini := h1, ovr := h2, tkr := h3, sa := h4, ga := h5, gg := h6, noN := h7, iC := zInvalidArrows_iC, tC := h8, kC := h9, exC := h10, tyC := h11, hdC := h12, cls := h13, clm := h14, cln := zt_hn, clt := zt_tk, fn := ⟨_, _, _, _, _, _, _, _, _, _, _, _, _, _, _, zInvalidArrows_lk, zInvalidArrows_cd⟩ },
    x_InvalidEnds := by
      obtain ⟨h1, h2, h3, h4, h5, h6, h7, h8, h9, h10, h11, h12, h13, h14⟩ := txB_ok (all_at zz0 (i := 2) rfl)
      exact { gC := PySem.W.mg_of X G ymx_InvalidEnds, base := PySem.F.excBase_ValueError, stor := PySem.F.store_ValueError, ini := h1, ovr := h2, tkr := h3, sa := h4, ga := h5, gg := h6, noN := h7, iC := zInvalidEnds_iC, tC := h8, kC := h9, exC := h10, tyC := h11, hdC := h12, cls := h13, clm := h14, cln := zt_hn, clt := zt_tk, fn := ⟨_, _, _, _, _, _, _, _, _, _, _, _, _, _, _, zInvalidEnds_lk, zInvalidEnds_cd⟩ },
    x_InvalidRow := by
      obtain ⟨h1, h2, h3, h4, h5, h6, h7, h8, h9, h10, h11, h12, h13, h14⟩ := txB_ok (all_at zz0 (i := 3) rfl)
      exact { gC := PySem.W.mg_of X G ymx_InvalidRow, base := PySem.F.excBase_ValueError, stor := PySem.F.store_ValueError, ini := h1, ovr := h2, tkr := h3, sa := h4, ga := h5, gg := h6, noN := h7, iC := zInvalidRow_iC, tC := h8, kC := h9, exC := h10, tyC := h11, hdC := h12, cls := h13, clm := h14, cln := zt_hn, clt := zt_tk, fn := ⟨_, _, _, _, _, _, _, _, _, _, _, _, _, _, _, zInvalidRow_lk, zInvalidRow_cd⟩ },
    x_InvalidNumber := by
      obtain ⟨h1, h2, h3, h4, h5, h6, h7, h8, h9, h10, h11, h12, h13, h14⟩ := txB_ok (all_at zz0 (i := 4) rfl)
      exact { gC := PySem.W.mg_of X G ymx_InvalidNumber, base := PySem.F.excBase_ValueError, stor := PySem.F.store_ValueError, ini := h1, ovr := h2, tkr := h3, sa := h4, ga := h5, gg := h6, noN := h7, iC := zInvalidNumber_iC, tC := h8, kC := h9, exC := h10, tyC := h11, hdC := h12, cls := h13, clm := h14, cln := zt_hn, clt := zt_tk, fn := ⟨_, _, _, _, _, _, _, _, _, _, _, _, _, _, _, zInvalidNumber_lk, zInvalidNumber_cd⟩ },
    x_InvalidStand := by
      obtain ⟨h1, h2, h3, h4, h5, h6, h7, h8, h9, h10, h11, h12, h13, h14⟩ := txB_ok (all_at zz0 (i := 5) rfl)
      exact { gC := PySem.W.mg_of X G ymx_InvalidStand, base := PySem.F.excBase_ValueError, stor := PySem.F.store_ValueError, ini := h1, ovr := h2, tkr := h3, sa := h4, ga := h5, gg := h6, noN := h7, iC := zInvalidStand_iC, tC := h8, kC := h9, exC := h10, tyC := h11, hdC := h12, cls := h13, clm := h14, cln := zt_hn, clt := zt_tk, fn := ⟨_, _, _, _, _, _, _, _, _, _, _, _, _, _, _, zInvalidStand_lk, zInvalidStand_cd⟩ },
    x_InvalidSign := by
      obtain ⟨h1, h2, h3, h4, h5, h6, h7, h8, h9, h10, h11, h12, h13, h14⟩ := txB_ok (all_at zz0 (i := 6) rfl)
      exact { gC := PySem.W.mg_of X G ymx_InvalidSign, base := PySem.F.excBase_ValueError, stor := PySem.F.store_ValueError, ini := h1, ovr := h2, tkr := h3, sa := h4, ga := h5, gg := h6, noN := h7, iC := zInvalidSign_iC, tC := h8, kC := h9, exC := h10, tyC := h11, hdC := h12, cls := h13, clm := h14, cln := zt_hn, clt := zt_tk, fn := ⟨_, _, _, _, _, _, _, _, _, _, _, _, _, _, _, zInvalidSign_lk, zInvalidSign_cd⟩ },
    x_InvalidBook := by
      obtain ⟨h1, h2, h3, h4, h5, h6, h7, h8, h9, h10, h11, h12, h13, h14⟩ := txB_ok (all_at zz0 (i := 7) rfl)
      exact { gC := PySem.W.mg_of X G ymx_InvalidBook, base := PySem.F.excBase_ValueError, stor := PySem.F.store_ValueError, ini := h1, ovr := h2, tkr := h3, sa := h4, ga := h5, gg := h6, noN := h7, iC := zInvalidBook_iC, tC := h8, kC := h9, exC := h10, tyC := h11, hdC := h12, cls := h13, clm := h14, cln := zt_hn, clt := zt_tk, fn := ⟨_, _, _, _, _, _, _, _, _, _, _, _, _, _, _, zInvalidBook_lk, zInvalidBook_cd⟩ },
    x_InvalidPlan := by
      obtain ⟨h1, h2, h3, h4, h5, h6, h7, h8, h9, h10, h11, h12, h13, h14⟩ := txB_ok (all_at zz0 (i := 8) rfl)
      exact { gC := PySem.W.mg_of X G ymx_InvalidPlan, base := PySem.F.excBase_ValueError, stor := PySem.F.store_ValueError, ini := h1, ovr := h2, tkr := h3, sa := h4, ga := h5, gg := h6, noN := h7, iC := zInvalidPlan_iC, tC := h8, kC := h9, exC := h10, tyC := h11, hdC := h12, cls := h13, clm := h14, cln := zt_hn, clt := zt_tk, fn := ⟨_, _, _, _, _, _, _, _, _, _, _, _, _, _, _, zInvalidPlan_lk, zInvalidPlan_cd⟩ },
    x_InvalidSteps := by
      obtain ⟨h1, h2, h3, h4, h5, h6, h7, h8, h9, h10, h11, h12, h13, h14⟩ := txB_ok (all_at zz0 (i := 9) rfl)
      exact { gC := PySem.W.mg_of X G ymx_InvalidSteps, base := PySem.F.excBase_ValueError, stor := PySem.F.store_ValueError, ini := h1, ovr := h2, tkr := h3, sa := h4, ga := h5, gg := h6, noN := h7, iC := zInvalidSteps_iC, tC := h8, kC := h9, exC := h10, tyC := h11, hdC := h12, cls := h13, clm := h14, cln := zt_hn, clt := zt_tk, fn := ⟨_, _, _, _, _, _, _, _, _, _, _, _, _, _, _, zInvalidSteps_lk, zInvalidSteps_cd⟩ },
    x_InvalidWeights := by
      obtain ⟨h1, h2, h3, h4, h5, h6, h7, h8, h9, h10, h11, h12, h13, h14⟩ := txB_ok (all_at zz0 (i := 10) rfl)
      exact { gC := PySem.W.mg_of X G ymx_InvalidWeights, base := PySem.F.excBase_ValueError, stor := PySem.F.store_ValueError, ini := h1, ovr := h2, tkr := h3, sa := h4, ga := h5, gg := h6, noN := h7, iC := zInvalidWeights_iC, tC := h8, kC := h9, exC := h10, tyC := h11, hdC := h12, cls := h13, clm := h14, cln := zt_hn, clt := zt_tk, fn := ⟨_, _, _, _, _, _, _, _, _, _, _, _, _, _, _, zInvalidWeights_lk, zInvalidWeights_cd⟩ },
    x_InvalidOutputs := by
      obtain ⟨h1, h2, h3, h4, h5, h6, h7, h8, h9, h10, h11, h12, h13, h14⟩ := txB_ok (all_at zz0 (i := 11) rfl)
      exact { gC := PySem.W.mg_of X G ymx_InvalidOutputs, base := PySem.F.excBase_ValueError, stor := PySem.F.store_ValueError, ini := h1, ovr := h2, tkr := h3, sa := h4, ga := h5, gg := h6, noN := h7, iC := zInvalidOutputs_iC, tC := h8, kC := h9, exC := h10, tyC := h11, hdC := h12, cls := h13, clm := h14, cln := zt_hn, clt := zt_tk, fn := ⟨_, _, _, _, _, _, _, _, _, _, _, _, _, _, _, zInvalidOutputs_lk, zInvalidOutputs_cd⟩ },
    x_InvalidMarks := by
      obtain ⟨h1, h2, h3, h4, h5, h6, h7, h8, h9, h10, h11, h12, h13, h14⟩ := txB_ok (all_at zz0 (i := 12) rfl)
      exact { gC := PySem.W.mg_of X G ymx_InvalidMarks, base := PySem.F.excBase_ValueError, stor := PySem.F.store_ValueError, ini := h1, ovr := h2, tkr := h3, sa := h4, ga := h5, gg := h6, noN := h7, iC := zInvalidMarks_iC, tC := h8, kC := h9, exC := h10, tyC := h11, hdC := h12, cls := h13, clm := h14, cln := zt_hn, clt := zt_tk, fn := ⟨_, _, _, _, _, _, _, _, _, _, _, _, _, _, _, zInvalidMarks_lk, zInvalidMarks_cd⟩ },
    x_InvalidFormula := by
      obtain ⟨h1, h2, h3, h4, h5, h6, h7, h8, h9, h10, h11, h12, h13, h14⟩ := txB_ok (all_at zz0 (i := 13) rfl)
      exact { gC := PySem.W.mg_of X G ymx_InvalidFormula, base := PySem.F.excBase_ValueError, stor := PySem.F.store_ValueError, ini := h1, ovr := h2, tkr := h3, sa := h4, ga := h5, gg := h6, noN := h7, iC := zInvalidFormula_iC, tC := h8, kC := h9, exC := h10, tyC := h11, hdC := h12, cls := h13, clm := h14, cln := zt_hn, clt := zt_tk, fn := ⟨_, _, _, _, _, _, _, _, _, _, _, _, _, _, _, zInvalidFormula_lk, zInvalidFormula_cd⟩ },
    x_InvalidTold := by
      obtain ⟨h1, h2, h3, h4, h5, h6, h7, h8, h9, h10, h11, h12, h13, h14⟩ := txB_ok (all_at zz0 (i := 14) rfl)
      exact { gC := PySem.W.mg_of X G ymx_InvalidTold, base := PySem.F.excBase_ValueError, stor := PySem.F.store_ValueError, ini := h1, ovr := h2, tkr := h3, sa := h4, ga := h5, gg := h6, noN := h7, iC := zInvalidTold_iC, tC := h8, kC := h9, exC := h10, tyC := h11, hdC := h12, cls := h13, clm := h14, cln := zt_hn, clt := zt_tk, fn := ⟨_, _, _, _, _, _, _, _, _, _, _, _, _, _, _, zInvalidTold_lk, zInvalidTold_cd⟩ },
    x_InvalidText := by
      obtain ⟨h1, h2, h3, h4, h5, h6, h7, h8, h9, h10, h11, h12, h13, h14⟩ := txB_ok (all_at zz0 (i := 15) rfl)
      exact { gC := PySem.W.mg_of X G ymx_InvalidText, base := PySem.F.excBase_ValueError, stor := PySem.F.store_ValueError, ini := h1, ovr := h2, tkr := h3, sa := h4, ga := h5, gg := h6, noN := h7, iC := zInvalidText_iC, tC := h8, kC := h9, exC := h10, tyC := h11, hdC := h12, cls := h13, clm := h14, cln := zt_hn, clt := zt_tk, fn := ⟨_, _, _, _, _, _, _, _, _, _, _, _, _, _, _, zInvalidText_lk, zInvalidText_cd⟩ },
    x_InvalidName := by
      obtain ⟨h1, h2, h3, h4, h5, h6, h7, h8, h9, h10, h11, h12, h13, h14⟩ := txB_ok (all_at zz0 (i := 16) rfl)
      exact { gC := PySem.W.mg_of X G ymx_InvalidName, base := PySem.F.excBase_ValueError, stor := PySem.F.store_ValueError, ini := h1, ovr := h2, tkr := h3, sa := h4, ga := h5, gg := h6, noN := h7, iC := zInvalidName_iC, tC := h8, kC := h9, exC := h10, tyC := h11, hdC := h12, cls := h13, clm := h14, cln := zt_hn, clt := zt_tk, fn := ⟨_, _, _, _, _, _, _, _, _, _, _, _, _, _, _, zInvalidName_lk, zInvalidName_cd⟩ },
    x_InvalidClaim := by
      obtain ⟨h1, h2, h3, h4, h5, h6, h7, h8, h9, h10, h11, h12, h13, h14⟩ := txB_ok (all_at zz0 (i := 17) rfl)
      exact { gC := PySem.W.mg_of X G ymx_InvalidClaim, base := PySem.F.excBase_ValueError, stor := PySem.F.store_ValueError, ini := h1, ovr := h2, tkr := h3, sa := h4, ga := h5, gg := h6, noN := h7, iC := zInvalidClaim_iC, tC := h8, kC := h9, exC := h10, tyC := h11, hdC := h12, cls := h13, clm := h14, cln := zt_hn, clt := zt_tk, fn := ⟨_, _, _, _, _, _, _, _, _, _, _, _, _, _, _, zInvalidClaim_lk, zInvalidClaim_cd⟩ },
    x_InvalidIndex := by
      obtain ⟨h1, h2, h3, h4, h5, h6, h7, h8, h9, h10, h11, h12, h13, h14⟩ := txB_ok (all_at zz0 (i := 18) rfl)
      exact { gC := PySem.W.mg_of X G ymx_InvalidIndex, base := PySem.F.excBase_ValueError, stor := PySem.F.store_ValueError, ini := h1, ovr := h2, tkr := h3, sa := h4, ga := h5, gg := h6, noN := h7, iC := zInvalidIndex_iC, tC := h8, kC := h9, exC := h10, tyC := h11, hdC := h12, cls := h13, clm := h14, cln := zt_hn, clt := zt_tk, fn := ⟨_, _, _, _, _, _, _, _, _, _, _, _, _, _, _, zInvalidIndex_lk, zInvalidIndex_cd⟩ },
    x_InvalidLine := by
      obtain ⟨h1, h2, h3, h4, h5, h6, h7, h8, h9, h10, h11, h12, h13, h14⟩ := txB_ok (all_at zz0 (i := 19) rfl)
      exact { gC := PySem.W.mg_of X G ymx_InvalidLine, base := PySem.F.excBase_ValueError, stor := PySem.F.store_ValueError, ini := h1, ovr := h2, tkr := h3, sa := h4, ga := h5, gg := h6, noN := h7, iC := zInvalidLine_iC, tC := h8, kC := h9, exC := h10, tyC := h11, hdC := h12, cls := h13, clm := h14, cln := zt_hn, clt := zt_tk, fn := ⟨_, _, _, _, _, _, _, _, _, _, _, _, _, _, _, zInvalidLine_lk, zInvalidLine_cd⟩ },
    x_NotAReader := by
      obtain ⟨h1, h2, h3, h4, h5, h6, h7, h8, h9, h10, h11, h12, h13, h14⟩ := txB_ok (all_at zz0 (i := 20) rfl)
      exact { gC := PySem.W.mg_of X G ymx_NotAReader, base := PySem.F.excBase_ValueError, stor := PySem.F.store_ValueError, ini := h1, ovr := h2, tkr := h3, sa := h4, ga := h5, gg := h6, noN := h7, iC := zNotAReader_iC, tC := h8, kC := h9, exC := h10, tyC := h11, hdC := h12, cls := h13, clm := h14, cln := zt_hn, clt := zt_tk, fn := ⟨_, _, _, _, _, _, _, _, _, _, _, _, _, _, _, zNotAReader_lk, zNotAReader_cd⟩ },
    x_NotAGuesser := by
      obtain ⟨h1, h2, h3, h4, h5, h6, h7, h8, h9, h10, h11, h12, h13, h14⟩ := txB_ok (all_at zz0 (i := 21) rfl)
      exact { gC := PySem.W.mg_of X G ymx_NotAGuesser, base := PySem.F.excBase_ValueError, stor := PySem.F.store_ValueError, ini := h1, ovr := h2, tkr := h3, sa := h4, ga := h5, gg := h6, noN := h7, iC := zNotAGuesser_iC, tC := h8, kC := h9, exC := h10, tyC := h11, hdC := h12, cls := h13, clm := h14, cln := zt_hn, clt := zt_tk, fn := ⟨_, _, _, _, _, _, _, _, _, _, _, _, _, _, _, zNotAGuesser_lk, zNotAGuesser_cd⟩ },
    x_NotAWeigher := by
      obtain ⟨h1, h2, h3, h4, h5, h6, h7, h8, h9, h10, h11, h12, h13, h14⟩ := txB_ok (all_at zz0 (i := 22) rfl)
      exact { gC := PySem.W.mg_of X G ymx_NotAWeigher, base := PySem.F.excBase_ValueError, stor := PySem.F.store_ValueError, ini := h1, ovr := h2, tkr := h3, sa := h4, ga := h5, gg := h6, noN := h7, iC := zNotAWeigher_iC, tC := h8, kC := h9, exC := h10, tyC := h11, hdC := h12, cls := h13, clm := h14, cln := zt_hn, clt := zt_tk, fn := ⟨_, _, _, _, _, _, _, _, _, _, _, _, _, _, _, zNotAWeigher_lk, zNotAWeigher_cd⟩ },
    x_NotAWriter := by
      obtain ⟨h1, h2, h3, h4, h5, h6, h7, h8, h9, h10, h11, h12, h13, h14⟩ := txB_ok (all_at zz0 (i := 23) rfl)
      exact { gC := PySem.W.mg_of X G ymx_NotAWriter, base := PySem.F.excBase_ValueError, stor := PySem.F.store_ValueError, ini := h1, ovr := h2, tkr := h3, sa := h4, ga := h5, gg := h6, noN := h7, iC := zNotAWriter_iC, tC := h8, kC := h9, exC := h10, tyC := h11, hdC := h12, cls := h13, clm := h14, cln := zt_hn, clt := zt_tk, fn := ⟨_, _, _, _, _, _, _, _, _, _, _, _, _, _, _, zNotAWriter_lk, zNotAWriter_cd⟩ },
    x_NotAWatcher := by
      obtain ⟨h1, h2, h3, h4, h5, h6, h7, h8, h9, h10, h11, h12, h13, h14⟩ := txB_ok (all_at zz0 (i := 24) rfl)
      exact { gC := PySem.W.mg_of X G ymx_NotAWatcher, base := PySem.F.excBase_ValueError, stor := PySem.F.store_ValueError, ini := h1, ovr := h2, tkr := h3, sa := h4, ga := h5, gg := h6, noN := h7, iC := zNotAWatcher_iC, tC := h8, kC := h9, exC := h10, tyC := h11, hdC := h12, cls := h13, clm := h14, cln := zt_hn, clt := zt_tk, fn := ⟨_, _, _, _, _, _, _, _, _, _, _, _, _, _, _, zNotAWatcher_lk, zNotAWatcher_cd⟩ },
    x_InvalidDeeds := by
      obtain ⟨h1, h2, h3, h4, h5, h6, h7, h8, h9, h10, h11, h12, h13, h14⟩ := txB_ok (all_at zz1 (i := 0) rfl)
      exact { gC := PySem.W.mg_of X G ymx_InvalidDeeds, base := PySem.F.excBase_ValueError, stor := PySem.F.store_ValueError, ini := h1, ovr := h2, tkr := h3, sa := h4, ga := h5, gg := h6, noN := h7, iC := zInvalidDeeds_iC, tC := h8, kC := h9, exC := h10, tyC := h11, hdC := h12, cls := h13, clm := h14, cln := zt_hn, clt := zt_tk, fn := ⟨_, _, _, _, _, _, _, _, _, _, _, _, _, _, _, zInvalidDeeds_lk, zInvalidDeeds_cd⟩ },
    x_InvalidLog := by
      obtain ⟨h1, h2, h3, h4, h5, h6, h7, h8, h9, h10, h11, h12, h13, h14⟩ := txB_ok (all_at zz1 (i := 1) rfl)
      exact { gC := PySem.W.mg_of X G ymx_InvalidLog, base := PySem.F.excBase_ValueError, stor := PySem.F.store_ValueError, ini := h1, ovr := h2, tkr := h3, sa := h4, ga := h5, gg := h6, noN := h7, iC := zInvalidLog_iC, tC := h8, kC := h9, exC := h10, tyC := h11, hdC := h12, cls := h13, clm := h14, cln := zt_hn, clt := zt_tk, fn := ⟨_, _, _, _, _, _, _, _, _, _, _, _, _, _, _, zInvalidLog_lk, zInvalidLog_cd⟩ },
    x_UnknownName := by
      obtain ⟨h1, h2, h3, h4, h5, h6, h7, h8, h9, h10, h11, h12, h13, h14⟩ := txB_ok (all_at zz2 (i := 0) rfl)
      exact { gC := PySem.W.mg_of X G ymx_UnknownName, base := PySem.F.excBase_LookupError, stor := PySem.F.store_LookupError, ini := h1, ovr := h2, tkr := h3, sa := h4, ga := h5, gg := h6, noN := h7, iC := zUnknownName_iC, tC := h8, kC := h9, exC := h10, tyC := h11, hdC := h12, cls := h13, clm := h14, cln := zt_hn, clt := zt_tk, fn := ⟨_, _, _, _, _, _, _, _, _, _, _, _, _, _, _, zUnknownName_lk, zUnknownName_cd⟩ },
    x_InUse := by
      obtain ⟨h1, h2, h3, h4, h5, h6, h7, h8, h9, h10, h11, h12, h13, h14⟩ := txB_ok (all_at zz3 (i := 0) rfl)
      exact { gC := PySem.W.mg_of X G ymx_InUse, base := PySem.F.excBase_LookupError, stor := PySem.F.store_LookupError, ini := h1, ovr := h2, tkr := h3, sa := h4, ga := h5, gg := h6, noN := h7, iC := zInUse_iC, tC := h8, kC := h9, exC := h10, tyC := h11, hdC := h12, cls := h13, clm := h14, cln := zt_hn, clt := zt_tk, fn := ⟨_, _, _, _, _, _, _, _, _, _, _, _, _, _, _, zInUse_lk, zInUse_cd⟩ },
    x_UnlikeSigns := by
      obtain ⟨h1, h2, h3, h4, h5, h6, h7, h8⟩ := ty0_ok (all_at yy0 (i := 0) rfl)
      exact { gC := PySem.W.mg_of X G ymx_UnlikeSigns, base := PySem.F.excBase_ArithmeticError, ini := h1, ga := h2, gg := h3, kC := h4, exC := h5, hdC := h6, cls := h7, clm := h8, cln := zt_hn, clt := zt_tk },
    x_NotFull := by
      obtain ⟨h1, h2, h3, h4, h5, h6, h7, h8⟩ := ty0_ok (all_at yy0 (i := 1) rfl)
      exact { gC := PySem.W.mg_of X G ymx_NotFull, base := PySem.F.excBase_ArithmeticError, ini := h1, ga := h2, gg := h3, kC := h4, exC := h5, hdC := h6, cls := h7, clm := h8, cln := zt_hn, clt := zt_tk },
    x_TooMany := by
      obtain ⟨h1, h2, h3, h4, h5, h6, h7, h8, h9, h10, h11, h12, h13, h14⟩ := txB_ok (all_at zz4 (i := 0) rfl)
      exact { gC := PySem.W.mg_of X G ymx_TooMany, base := PySem.F.excBase_ArithmeticError, stor := PySem.F.store_ArithmeticError, ini := h1, ovr := h2, tkr := h3, sa := h4, ga := h5, gg := h6, noN := h7, iC := zTooMany_iC, tC := h8, kC := h9, exC := h10, tyC := h11, hdC := h12, cls := h13, clm := h14, cln := zt_hn, clt := zt_tk, fn := ⟨_, _, _, _, _, _, _, _, _, _, _, _, _, _, _, zTooMany_lk, zTooMany_cd⟩ },
    x_NothingToUndo := by
      obtain ⟨h1, h2, h3, h4, h5, h6, h7, h8⟩ := ty0_ok (all_at yy0 (i := 2) rfl)
      exact { gC := PySem.W.mg_of X G ymx_NothingToUndo, base := PySem.F.excBase_ArithmeticError, ini := h1, ga := h2, gg := h3, kC := h4, exC := h5, hdC := h6, cls := h7, clm := h8, cln := zt_hn, clt := zt_tk },
    x_Broken := by
      obtain ⟨h1, h2, h3, h4, h5, h6, h7, h8, h9, h10, h11, h12, h13, h14⟩ := txB_ok (all_at zz5 (i := 0) rfl)
      exact { gC := PySem.W.mg_of X G ymx_Broken, base := PySem.F.excBase_ArithmeticError, stor := PySem.F.store_ArithmeticError, ini := h1, ovr := h2, tkr := h3, sa := h4, ga := h5, gg := h6, noN := h7, iC := zBroken_iC, tC := h8, kC := h9, exC := h10, tyC := h11, hdC := h12, cls := h13, clm := h14, cln := zt_hn, clt := zt_tk, fn := ⟨_, _, _, _, _, _, _, _, _, _, _, _, _, _, _, zBroken_lk, zBroken_cd⟩ },
    kk := zkk,
    kb := zkb }
  have F_l_given := fun_mk (st := s_l_given) l_l_given c_l_given k_l_given
  have B_l_given := F_l_given.binds (ps := p_l_given) fun _ _ _ _ _ _ us hl => match us, hl with | [], _ => rfl
  have F_l_bases := fun_mk (st := s_l_bases) l_l_bases c_l_bases k_l_bases
  have B_l_bases := F_l_bases.binds (ps := p_l_bases) fun _ _ _ _ _ _ us hl => match us, hl with | [_], _ => rfl
  have F_l_sorts := fun_mk (st := s_l_sorts) l_l_sorts c_l_sorts k_l_sorts
  have B_l_sorts := F_l_sorts.binds (ps := p_l_sorts) fun _ _ _ _ _ _ us hl => match us, hl with | [_], _ => rfl
  have F_law := fun_mk (st := s_law) l_law c_law k_law
  have B_law := F_law.binds (ps := p_law) fun _ _ _ _ _ _ us hl => match us, hl with | [_], _ => rfl
  have U : Funs K A fd := {
    F_l_given := F_l_given, b_l_given := B_l_given,
    F_l_bases := F_l_bases, b_l_bases := B_l_bases,
    F_l_sorts := F_l_sorts, b_l_sorts := B_l_sorts,
    F_law := F_law, b_law := B_law }
  exact ⟨PySem.W.fnOf "law" "law" (defArgs s_law) (defBody s_law) (defScope s_law) .none kV3 dc3 pm3 an3 cd3 ct3, fun s u => .of_eq rfl, fun base _ _ => FnOkG.of (ok_law T U)⟩
end K6
open PySem PySem.W PyProof.Rows
set_option maxRecDepth 100000 in
set_option maxHeartbeats 0 in
theorem PySem.Challenge.cw_rowreaders_k01_constants_and_errors_holds : PySem.Challenge.rw_rowreaders_k01_constants_and_errors.Holds := by
  w_on; o_law; k_headLK; (case hw => w_witness2)
  k_fill
  refine Rw.walkG (l := PySem.Challenge.rw_rowreaders_k01_constants_and_errors) (n := 63) (k := 4) (x := "_law_script") (sp := K6.spLaw) rfl (by decide) rfl ⟨rfl, by decide, by decide⟩ (fun w h Y => PySem.W.kIn_of Y) ?F (fun K H a ns hl _ hS => ⟨a, ns, rfl, hS, hl, fun _ => rfl⟩)
  case F =>
    intro w mg fa h KX G hmg
    refine' K6.all_mk KX G hmg ?zt_hn ?zt_tk ?a_l_given ?a_l_bases ?a_l_sorts ?a_law ?l_l_given ?c_l_given ?k_l_given ?l_l_bases ?c_l_bases ?k_l_bases ?l_l_sorts ?c_l_sorts ?k_l_sorts ?l_law ?c_law ?k_law ?yb_ArithmeticError ?yb_LookupError ?yb_ValueError ?yb_isinstance ?yb_range ?yc_MOST_CHANGES ?yc_MOST_DEEDS ?yc_MOST_GUESSED ?yc_MOST_LED ?yc_MOST_LISTED ?yc_MOST_LOOKS ?yc_MOST_PARTED ?yc_MOST_ROW ?yc_MOST_SIGNS ?yc_MOST_SIZE ?yc_MOST_STANDS ?yc_MOST_WEIGHED ?yc_MOST_WORD ?ymx_WrongValue ?ymx_WrongName ?ymx_NoAnswer ?ymx_InvalidSigns ?ymx_InvalidArrows ?ymx_InvalidEnds ?ymx_InvalidRow ?ymx_InvalidNumber ?ymx_InvalidStand ?ymx_InvalidSign ?ymx_InvalidBook ?ymx_InvalidPlan ?ymx_InvalidSteps ?ymx_InvalidWeights ?ymx_InvalidOutputs ?ymx_InvalidMarks ?ymx_InvalidFormula ?ymx_InvalidTold ?ymx_InvalidText ?ymx_InvalidName ?ymx_InvalidClaim ?ymx_InvalidIndex ?ymx_InvalidLine ?ymx_NotAReader ?ymx_NotAGuesser ?ymx_NotAWeigher ?ymx_NotAWriter ?ymx_NotAWatcher ?ymx_InvalidDeeds ?ymx_InvalidLog ?ymx_UnknownName ?ymx_InUse ?ymx_UnlikeSigns ?ymx_NotFull ?ymx_TooMany ?ymx_NothingToUndo ?ymx_Broken ?zInvalidSigns_iC ?zInvalidSigns_lk ?zInvalidSigns_cd ?zInvalidArrows_iC ?zInvalidArrows_lk ?zInvalidArrows_cd ?zInvalidEnds_iC ?zInvalidEnds_lk ?zInvalidEnds_cd ?zInvalidRow_iC ?zInvalidRow_lk ?zInvalidRow_cd ?zInvalidNumber_iC ?zInvalidNumber_lk ?zInvalidNumber_cd ?zInvalidStand_iC ?zInvalidStand_lk ?zInvalidStand_cd ?zInvalidSign_iC ?zInvalidSign_lk ?zInvalidSign_cd ?zInvalidBook_iC ?zInvalidBook_lk ?zInvalidBook_cd ?zInvalidPlan_iC ?zInvalidPlan_lk ?zInvalidPlan_cd ?zInvalidSteps_iC ?zInvalidSteps_lk ?zInvalidSteps_cd ?zInvalidWeights_iC ?zInvalidWeights_lk ?zInvalidWeights_cd ?zInvalidOutputs_iC ?zInvalidOutputs_lk ?zInvalidOutputs_cd ?zInvalidMarks_iC ?zInvalidMarks_lk ?zInvalidMarks_cd ?zInvalidFormula_iC ?zInvalidFormula_lk ?zInvalidFormula_cd ?zInvalidTold_iC ?zInvalidTold_lk ?zInvalidTold_cd ?zInvalidText_iC ?zInvalidText_lk ?zInvalidText_cd ?zInvalidName_iC ?zInvalidName_lk ?zInvalidName_cd ?zInvalidClaim_iC ?zInvalidClaim_lk ?zInvalidClaim_cd ?zInvalidIndex_iC ?zInvalidIndex_lk ?zInvalidIndex_cd ?zInvalidLine_iC ?zInvalidLine_lk ?zInvalidLine_cd ?zNotAReader_iC ?zNotAReader_lk ?zNotAReader_cd ?zNotAGuesser_iC ?zNotAGuesser_lk ?zNotAGuesser_cd ?zNotAWeigher_iC ?zNotAWeigher_lk ?zNotAWeigher_cd ?zNotAWriter_iC ?zNotAWriter_lk ?zNotAWriter_cd ?zNotAWatcher_iC ?zNotAWatcher_lk ?zNotAWatcher_cd ?zInvalidDeeds_iC ?zInvalidDeeds_lk ?zInvalidDeeds_cd ?zInvalidLog_iC ?zInvalidLog_lk ?zInvalidLog_cd ?zUnknownName_iC ?zUnknownName_lk ?zUnknownName_cd ?zInUse_iC ?zInUse_lk ?zInUse_cd ?zTooMany_iC ?zTooMany_lk ?zTooMany_cd ?zBroken_iC ?zBroken_lk ?zBroken_cd ?zkk ?zkb ?zz0 ?zz1 ?zz2 ?zz3 ?zz4 ?zz5 ?yy0
    (case zt_hn => k_is)
    (case zt_tk => k_is)
    (case a_l_given => k_is)
    (case a_l_bases => k_is)
    (case a_l_sorts => k_is)
    (case a_law => k_is)
    (case l_l_given => k_is)
    (case c_l_given => k_is)
    (case k_l_given => k_is)
    (case l_l_bases => k_is)
    (case c_l_bases => k_is)
    (case k_l_bases => k_is)
    (case l_l_sorts => k_is)
    (case c_l_sorts => k_is)
    (case k_l_sorts => k_is)
    (case l_law => k_is)
    (case c_law => k_is)
    (case k_law => k_is)
    (case yb_ArithmeticError => k_is)
    (case yb_LookupError => k_is)
    (case yb_ValueError => k_is)
    (case yb_isinstance => k_is)
    (case yb_range => k_is)
    (case yc_MOST_CHANGES => k_is)
    (case yc_MOST_DEEDS => k_is)
    (case yc_MOST_GUESSED => k_is)
    (case yc_MOST_LED => k_is)
    (case yc_MOST_LISTED => k_is)
    (case yc_MOST_LOOKS => k_is)
    (case yc_MOST_PARTED => k_is)
    (case yc_MOST_ROW => k_is)
    (case yc_MOST_SIGNS => k_is)
    (case yc_MOST_SIZE => k_is)
    (case yc_MOST_STANDS => k_is)
    (case yc_MOST_WEIGHED => k_is)
    (case yc_MOST_WORD => k_is)
    (case ymx_WrongValue => k_is)
    (case ymx_WrongName => k_is)
    (case ymx_NoAnswer => k_is)
    (case ymx_InvalidSigns => k_is)
    (case ymx_InvalidArrows => k_is)
    (case ymx_InvalidEnds => k_is)
    (case ymx_InvalidRow => k_is)
    (case ymx_InvalidNumber => k_is)
    (case ymx_InvalidStand => k_is)
    (case ymx_InvalidSign => k_is)
    (case ymx_InvalidBook => k_is)
    (case ymx_InvalidPlan => k_is)
    (case ymx_InvalidSteps => k_is)
    (case ymx_InvalidWeights => k_is)
    (case ymx_InvalidOutputs => k_is)
    (case ymx_InvalidMarks => k_is)
    (case ymx_InvalidFormula => k_is)
    (case ymx_InvalidTold => k_is)
    (case ymx_InvalidText => k_is)
    (case ymx_InvalidName => k_is)
    (case ymx_InvalidClaim => k_is)
    (case ymx_InvalidIndex => k_is)
    (case ymx_InvalidLine => k_is)
    (case ymx_NotAReader => k_is)
    (case ymx_NotAGuesser => k_is)
    (case ymx_NotAWeigher => k_is)
    (case ymx_NotAWriter => k_is)
    (case ymx_NotAWatcher => k_is)
    (case ymx_InvalidDeeds => k_is)
    (case ymx_InvalidLog => k_is)
    (case ymx_UnknownName => k_is)
    (case ymx_InUse => k_is)
    (case ymx_UnlikeSigns => k_is)
    (case ymx_NotFull => k_is)
    (case ymx_TooMany => k_is)
    (case ymx_NothingToUndo => k_is)
    (case ymx_Broken => k_is)
    (case zInvalidSigns_iC => k_is)
    (case zInvalidSigns_lk => k_is)
    (case zInvalidSigns_cd => k_is)
    (case zInvalidArrows_iC => k_is)
    (case zInvalidArrows_lk => k_is)
    (case zInvalidArrows_cd => k_is)
    (case zInvalidEnds_iC => k_is)
    (case zInvalidEnds_lk => k_is)
    (case zInvalidEnds_cd => k_is)
    (case zInvalidRow_iC => k_is)
    (case zInvalidRow_lk => k_is)
    (case zInvalidRow_cd => k_is)
    (case zInvalidNumber_iC => k_is)
    (case zInvalidNumber_lk => k_is)
    (case zInvalidNumber_cd => k_is)
    (case zInvalidStand_iC => k_is)
    (case zInvalidStand_lk => k_is)
    (case zInvalidStand_cd => k_is)
    (case zInvalidSign_iC => k_is)
    (case zInvalidSign_lk => k_is)
    (case zInvalidSign_cd => k_is)
    (case zInvalidBook_iC => k_is)
    (case zInvalidBook_lk => k_is)
    (case zInvalidBook_cd => k_is)
    (case zInvalidPlan_iC => k_is)
    (case zInvalidPlan_lk => k_is)
    (case zInvalidPlan_cd => k_is)
    (case zInvalidSteps_iC => k_is)
    (case zInvalidSteps_lk => k_is)
    (case zInvalidSteps_cd => k_is)
    (case zInvalidWeights_iC => k_is)
    (case zInvalidWeights_lk => k_is)
    (case zInvalidWeights_cd => k_is)
    (case zInvalidOutputs_iC => k_is)
    (case zInvalidOutputs_lk => k_is)
    (case zInvalidOutputs_cd => k_is)
    (case zInvalidMarks_iC => k_is)
    (case zInvalidMarks_lk => k_is)
    (case zInvalidMarks_cd => k_is)
    (case zInvalidFormula_iC => k_is)
    (case zInvalidFormula_lk => k_is)
    (case zInvalidFormula_cd => k_is)
    (case zInvalidTold_iC => k_is)
    (case zInvalidTold_lk => k_is)
    (case zInvalidTold_cd => k_is)
    (case zInvalidText_iC => k_is)
    (case zInvalidText_lk => k_is)
    (case zInvalidText_cd => k_is)
    (case zInvalidName_iC => k_is)
    (case zInvalidName_lk => k_is)
    (case zInvalidName_cd => k_is)
    (case zInvalidClaim_iC => k_is)
    (case zInvalidClaim_lk => k_is)
    (case zInvalidClaim_cd => k_is)
    (case zInvalidIndex_iC => k_is)
    (case zInvalidIndex_lk => k_is)
    (case zInvalidIndex_cd => k_is)
    (case zInvalidLine_iC => k_is)
    (case zInvalidLine_lk => k_is)
    (case zInvalidLine_cd => k_is)
    (case zNotAReader_iC => k_is)
    (case zNotAReader_lk => k_is)
    (case zNotAReader_cd => k_is)
    (case zNotAGuesser_iC => k_is)
    (case zNotAGuesser_lk => k_is)
    (case zNotAGuesser_cd => k_is)
    (case zNotAWeigher_iC => k_is)
    (case zNotAWeigher_lk => k_is)
    (case zNotAWeigher_cd => k_is)
    (case zNotAWriter_iC => k_is)
    (case zNotAWriter_lk => k_is)
    (case zNotAWriter_cd => k_is)
    (case zNotAWatcher_iC => k_is)
    (case zNotAWatcher_lk => k_is)
    (case zNotAWatcher_cd => k_is)
    (case zInvalidDeeds_iC => k_is)
    (case zInvalidDeeds_lk => k_is)
    (case zInvalidDeeds_cd => k_is)
    (case zInvalidLog_iC => k_is)
    (case zInvalidLog_lk => k_is)
    (case zInvalidLog_cd => k_is)
    (case zUnknownName_iC => k_is)
    (case zUnknownName_lk => k_is)
    (case zUnknownName_cd => k_is)
    (case zInUse_iC => k_is)
    (case zInUse_lk => k_is)
    (case zInUse_cd => k_is)
    (case zTooMany_iC => k_is)
    (case zTooMany_lk => k_is)
    (case zTooMany_cd => k_is)
    (case zBroken_iC => k_is)
    (case zBroken_lk => k_is)
    (case zBroken_cd => k_is)
    (case zkk => first | kernel_rfl | k_is)
    (case zkb => first | kernel_rfl | k_is)
    (case zz0 => first | kernel_rfl | k_is)
    (case zz1 => first | kernel_rfl | k_is)
    (case zz2 => first | kernel_rfl | k_is)
    (case zz3 => first | kernel_rfl | k_is)
    (case zz4 => first | kernel_rfl | k_is)
    (case zz5 => first | kernel_rfl | k_is)
    (case yy0 => first | kernel_rfl | k_is)


import PyProof.Rows.All
import Wide.All
import OpenK.AllK
import Wide.FinOn
import PyProof.EqAt
import PyProof.EqKinds
import PyProof.TupleCall
import HandS.ForMost
import HandS.Property
import HandS.IsInst
import HandS.Replace
import HandS.Evl
import HandS.FStrTup
import PyProof.ListStr
import HandS.Codes
import HandS.Conv
import HandS.Deep
import PyProof.StrBlock2
import PyProof.StrBlockL
import PyProof.Rows.StrStep
import HandS.Text
import PySem.Challenge.RW_rowreaders_k30_whole_plans
set_option Elab.async false
set_option linter.all false
set_option maxRecDepth 100000
set_option maxHeartbeats 2000000
/-! rules of our own beside the hand layer's: calls by keywords alone, len of an own instance, repr of data, defs that are entered where no repr is under way -/
namespace Rw
open PySem PySem.Spec PyProof.Rows L2
section
variable {X : Cx} {CX : CXT} {k : Nat} {f C : Addr} {fd : FuncData} {ps ks : List Str} {sp : Sp} {E : XK} {x : Str} {p pos : Pos} {kws : List Keyword} {tk : TA} {ta : TE} {e : Expr}
  {g : List Value → List Value → List Value} {gV : List V → List V → List V}

theorem pe_callK0 (F : FnOk X.prog X.w X.K X.mg X.base CX k f fd ps sp) (room : Room k X.A) (glob : Gl X x) (known : X.mg x = some (.ref f))
    (keep : PySem.W.keepIn X.K (.ref f) = true) (kb : KBinds X.K fd ps ks g gV) (pass : Passes CX X E) (hkw : PK X kws tk)
    (hall : (backToKw pos (keywordEach kws X.env)).all (·.1.isSome) = true := by rfl)
    (hks : (backToKw pos (keywordEach kws X.env)).filterMap (·.1) = ks := by rfl)
    (hdb : (x == ("__debug__" : Str)) = false := by decide)
    (hpl : ((backTo pos (starEach [] X.env)).any (·.1) || (backToKw pos (keywordEach kws X.env)).any (·.1.isNone)) = false := by rfl) :
    PE X (.Call (.Name x p) [] kws pos) (tCallK sp gV E tNil tk) := by
  constructor
  intro pins s σ H Q I h
  refine wpAny_Call_Name_kw (ld_glob I glob known ?_ hdb)
  refine PySem.W.callWith_KW0 (h₀ := X.base) I.ok.mod.kin keep hall
    (thn (hkw.run pos pins s σ H _ I h) fun ws s2 hh => ?_) hpl
  obtain ⟨zs, H2, I2, rz, q2⟩ := hh
  refine ⟨I2.kIn, ?_⟩
  rw [hks]
  exact run_fnk (us := []) F room kb pass I2 .nil rz q2

/-- len(o), o an instance of the class at C whose __len__ is the def at f -/
def rLenO (C : Addr) (sp : Sp) (E : XK) : List V → Hp → VK → Prop := fun vs H Q => ∃ a dx fs, vs = [.ref a] ∧ H a = some (.ins C dx fs) ∧
  sp [.ref a] H (fun v H2 => ∃ n : Nat, v = .int (n : Int) ∧ (n : Int) < 2 ^ 63 ∧ Q (.int (n : Int)) H2) E
theorem call_lenO (F : FnOk X.prog X.w X.K X.mg X.base CX k f fd ps sp) (room : Room (k + 1) X.A)
    (own : PySem.W.findIn X.K (.ref C) "__len__" = some (some (.ref f))) (isf : PySem.W.isFn X.K (.ref f) = true)
    (b : L2.Binds X.K fd ps []) (pass : Passes CX X E) : CallR X (.builtin "len") (rLenO C sp E) := by
  intro pins s σ H xs us Q I r h
  obtain ⟨a, dx, fs, rfl, ha, hsp⟩ := h
  obtain ⟨u, rfl⟩ : ∃ u, us = [u] := by
    cases r with
    | cons p q => cases q; exact ⟨_, rfl⟩
  have ru : u = Value.ref a := by
    cases r with
    | cons p q => exact p
  subst ru
  obtain ⟨mA, O, _, _, _, _⟩ := ins_get I.hok ha
  obtain ⟨od, J, _⟩ := O.look
  obtain ⟨m, hF⟩ := I.fr
  refine PySem.W.len_K hF I.ok.mod.kin J own isf ?_
  have hl := F.len _ _ _ _ hsp
  refine wpAny_call (codeAny_mono (F.run X.A.in1 X.stack s H ⟨[.ref a], []⟩ [.ref a] [.ref a] _ E room.in1 I.env0.in1 (by
    have := b s [.ref a] I.kIn (by simpa using hl)
    simpa using this) (.cons rfl .nil) hsp) fun r s' hq => ?_)
  cases r with
  | error e => exact pass pins σ H s e s' I hq
  | ok fl =>
    cases fl with
    | ret w =>
      obtain ⟨z, H', I', rz, n, ez, hn, hQ⟩ := I.after hq
      subst ez
      obtain ⟨t, rfl⟩ := rz
      refine ⟨⟨Int.natCast_nonneg n, hn⟩, ?_⟩
      exact ⟨.int n, H', I'.tok _, ⟨_, rfl⟩, hQ⟩
    | next => exact False.elim hq
    | brk => exact False.elim hq
    | cont => exact False.elim hq

mutual
theorem noDict {K : PySem.W.Frag} {H : Hp} : ∀ (d : PyData) (v : V), Dp K H v d → d.hasDict = false
  | .none, _, _ => by simp only [PyData.hasDict]
  | .bool _, _, _ => by simp only [PyData.hasDict]
  | .int _, _, _ => by simp only [PyData.hasDict]
  | .str _, _, _ => by simp only [PyData.hasDict]
  | .list ds, _, h => by
    cases h with
    | lst _ a => simp only [PyData.hasDict]; exact noDicts ds _ a
  | .tuple ds, _, h => by
    cases h with
    | tup _ a => simp only [PyData.hasDict]; exact noDicts ds _ a
  | .dict _, _, h => by cases h
theorem noDicts {K : PySem.W.Frag} {H : Hp} : ∀ (ds : List PyData) (vs : List V), DpAll K H vs ds → PyData.hasDictAll ds = false
  | [], _, _ => by simp only [PyData.hasDictAll]
  | d :: ds, _, h => by
    cases h with
    | cons a b => simp only [PyData.hasDictAll, noDict d _ a, noDicts ds _ b, Bool.or_false]
end

/-- repr(x), x a list or a tuple of data, where no repr is under way -/
def rReprD (K : PySem.W.Frag) : List V → Hp → VK → Prop := fun vs H Q => ∃ a d, vs = [.ref a] ∧ Dp K H (.ref a) d ∧ d.showable = true ∧ d.depth ≤ 10 ∧ d.shown.length ≤ sizeLine ∧ Q (.str d.shown) H
theorem call_reprD (hg : X.A.guards = some []) (hr : Room k X.A) : CallR X (.builtin "repr") (rReprD X.K) := by
  intro pins s σ H xs us Q I r h
  obtain ⟨a, d, rfl, hd, hs, hdep, hsz, hQ⟩ := h
  obtain ⟨u, rfl⟩ : ∃ u, us = [u] := by
    cases r with
    | cons p q => cases q; exact ⟨_, rfl⟩
  have ru : u = Value.ref a := by
    cases r with
    | cons p q => exact p
  subst ru
  obtain ⟨as, R⟩ := Dp.reads I d _ _ hd rfl
  have hu := hr.units
  refine repr_of_reads' R hs (PyData.noDict_hsm (noDict d _ hd)) hg (by omega) (fun b o e => e) (fun h' u tk hk => ?_) hsz
  exact ⟨.str d.shown, H, I.kept hk, ⟨_, rfl⟩, hQ⟩
end

/-! ### the layer's rules with the written part named -/
section
variable {X : Cx} {K : PySem.W.Frag} {tg l a : Expr} {tl ta : TE} {pos : Pos}
theorem w_ixL (h : X.K = K := by rfl) : IxR X (rIxL K) := by subst h; exact ix_list
theorem w_ixT (h : X.K = K := by rfl) : IxR X (rIxT K) := by subst h; exact ix_tup
def rLenK (K : PySem.W.Frag) : List V → Hp → VK → Prop := fun xs H Q => ∃ x n, xs = [x] ∧ LenV K x H n ∧ Q (.int n) H
theorem w_len (h : X.K = K := by rfl) : CallR X (.builtin "len") (rLenK K) := by subst h; exact call_len
theorem w_in (h : X.K = K := by rfl) : OpR X (compareOp .In) (rIn K false) := by subst h; exact op_in_seq
theorem w_notIn (h : X.K = K := by rfl) : OpR X (compareOp .NotIn) (rIn K true) := by subst h; exact op_notIn_seq
theorem w_sum (hc : X.calm = true) (h : X.K = K := by rfl) : CallR X (.builtin "sum") (rSum K) := by subst h; exact cr_sum hc
theorem w_all (hc : X.calm = true) (h : X.K = K := by rfl) : CallR X (.builtin "all") (rAll K) := by subst h; exact cr_all hc
theorem w_any (hc : X.calm = true) (h : X.K = K := by rfl) : CallR X (.builtin "any") (rAny K) := by subst h; exact cr_any hc
def rListK (K : PySem.W.Frag) : List V → Hp → VK → Prop := fun xs H Q => ∃ p ys, xs = [.ref p] ∧ (SqL K H p ys ∨ SqT K H p ys) ∧ ∀ l, H l = none → Q (.ref l) (upd H l (.lst ys))
theorem w_list (h : X.K = K := by rfl) : CallR X (.type "list") (rListK K) := by subst h; exact call_list_of
def rTupK (K : PySem.W.Frag) : List V → Hp → VK → Prop := fun xs H Q => ∃ p ys, xs = [.ref p] ∧ ((SqL K H p ys ∧ ∀ l, H l = none → Q (.ref l) (upd H l (.tup ys))) ∨ (SqT K H p ys ∧ Q (.ref p) H))
theorem w_tuple (h : X.K = K := by rfl) : CallR X (.type "tuple") (rTupK K) := by subst h; exact call_tuple_of
theorem w_isi (h : X.K = K := by rfl) : CallR X (.builtin "isinstance") (rIsi K) := by subst h; exact call_isi
theorem w_slL (h : X.K = K := by rfl) : SlR X (rSlL K) := by subst h; exact sl_list
theorem w_slT (h : X.K = K := by rfl) : SlR X (rSlT K) := by subst h; exact sl_tup
theorem w_piL (hl : PE X l tl) (h : X.K = K := by rfl) : PI X tg l (iList K tl) := by subst h; exact pi_list hl
theorem w_piT (hl : PE X l tl) (h : X.K = K := by rfl) : PI X tg l (iTup K tl) := by subst h; exact pi_tup hl
theorem w_tup {es : List Expr} {k : Nat} {t : TGs} {n : Nat} (hc : X.calm = true) (hs : PGs X es t) (h : X.K = K := by rfl)
    (hn : (assignEach es X.env).length = n := by rfl) (hst : (assignEach es X.env).findIdx? (·.1) = none := by rfl) : PG X (.Tuple es k pos) (gTup K n t) := by subst h; exact pg_tup hc hs hn hst
def tTruK (K : PySem.W.Frag) (ta : TE) : TT := fun σ H Q => ta σ H fun x H' => ∃ k, TruV K x H' k ∧ Q k H'
theorem w_truth (ha : PE X a ta) (he : ∀ whole, isTrue a X.env whole = (do let v ← whole; standAt a.pos; holding [v] (truthy v))) (h : X.K = K := by rfl) : PT X a (tTruK K ta) := by subst h; exact pt_truth ha he
theorem w_eqD (hu : X.A.units + 64 < cLine) (h : X.K = K := by rfl) : OpR X (compareOp .Eq) (rEqD K) := by subst h; exact op_eqD hu
theorem w_neD (hu : X.A.units + 64 < cLine) (h : X.K = K := by rfl) : OpR X (compareOp .NotEq) (rNeD K) := by subst h; exact op_neD hu
theorem w_reprD {k : Nat} (hg : X.A.guards = some []) (hr : Room k X.A) (h : X.K = K := by rfl) : CallR X (.builtin "repr") (rReprD K) := by subst h; exact call_reprD hg hr
end
/-! ### a def that is entered where no repr is under way -/
structure FnOkG (P : Program) (w : World) (K : PySem.W.Frag) (mg : Str → Option Value) (base : Heap) (k : Nat) (f : Addr) (fd : FuncData) (ps : List Str) (sp : Sp) : Prop where
  len : ∀ vs H Q E, sp vs H Q E → vs.length = ps.length
  run : ∀ (A : Around) (outer : List Env) (s : Shared) (H : Hp) (args : Args) (us : List Value) (vs : List V) (Q : VK) (E : XK), A.guards = some [] → Room k A →
    Env0 P w K mg base A outer s H → BindsTo s fd args (ps.zip us) → Vals vs us → sp vs H Q E → codeAny (model P w) A (.call (.ref f) args) (CR CX0 outer P w H s Q E) s
section
variable {P : Program} {w : World} {K : PySem.W.Frag} {mg : Str → Option Value} {base : Heap} {f : Addr} {fd : FuncData} {N ps : List Str} {k : Nat} {sp : Sp} {x qual : Str} {st : Stmt}
theorem okG (F : Fun K x qual st f fd) (S : FnScope N ps (defScope st)) (len : ∀ vs H Q E, sp vs H Q E → vs.length = ps.length)
    (hbody : ∀ (cdv : Value) (A : Around) (outer : List Env) (s : Shared) (H : Hp) (vs : List V) (Q : VK) (E : XK), A.guards = some [] →
      Room k (A.deeper (envOfC qual (defScope st) s.heap.objs.size f cdv)) → sp vs H Q E →
      ∃ t, PSs (cxOf CX0 P w K mg base N qual (defScope st) f cdv A outer s H E).nox (defBody st) t ∧ t { nx := fun _ H' => Q .non H', rt := Q } (start N vs) H) :
    FnOkG P w K mg base (k + 1) f fd ps sp := by
  obtain ⟨oc, od, kV, doc, pm, an, cdv, ct, osl, rfl, lk, hcd⟩ := F.ex
  refine ⟨len, fun A outer s H args us vs Q E hg hr e0 hb r hsp => ?_⟩
  have hl := len _ _ _ _ hsp
  have inn : K.In s.heap := e0.mod.kin.keeps (fun b o e => (e0.bs b o e).1)
  have nolim : s.heap.NoLimit := e0.mod.nolimit.keeps (fun b o e => (e0.bs b o e).1)
  have kinds : ∀ y ∈ ps.zip us, (defScope st).names.lookup y.1 = some .local ∨
      ((defScope st).names.lookup y.1 = some .cell ∧ ((cellsFrom (s.heap.objs.size + 1) (defScope st).names []).lookup y.1).isSome = true) := by
    rintro ⟨n, v⟩ hy
    rcases S.par n (List.of_mem_zip hy).1 with q | q
    · exact .inl q
    · exact .inr ⟨q, PySem.W.cellsFrom_some _ _ _ (.inl q)⟩
  refine codeAny_call_function hr.depth (inn _ _ lk) rfl S.co S.gen rfl (PySem.W.codeRec_of inn hcd) (hb _ _ _ _ ?_)
  refine wpAny_newFunctionEnv_cells S.kind kinds (fun env he s1 x => ?_)
  subst he
  refine ⟨nolim.keeps x.toInCall.keep, codeAny_func ?_⟩
  obtain ⟨t, ht, hq⟩ := hbody cdv A outer s H vs Q E hg (hr.deeper _) hsp
  have I := inv_start (CX := CX0) (P := P) (w := w) (K := K) (mg := mg) (base := base) (qual := qual) (f := f) (cd := cdv) (E := E) S hr.hd e0 hl r x
  refine wpAny_mono (ht.nox.run [] s1 (start N vs) H _ I hq) (fun fl s' hs => ?_) (fun e s' hs => hs)
  cases fl with
  | ret u =>
    obtain ⟨v, σ', H', J, rv, q⟩ := hs
    exact ⟨v, H', J.os, J.bare, J.base, J.hok, rv, q⟩
  | next =>
    obtain ⟨σ', H', J, q⟩ := hs
    exact ⟨V.non, H', J.os, J.bare, J.base, J.hok, rfl, q⟩
  | brk =>
    obtain ⟨_, _, _, q⟩ := hs
    exact False.elim q
  | cont =>
    obtain ⟨_, _, _, q⟩ := hs
    exact False.elim q
end
section
variable {X : Cx} {k : Nat} {f : Addr} {fd : FuncData} {ps : List Str} {sp : Sp} {x : Str} {p pos : Pos} {e : Expr} {es : List Expr} {t : TA}
theorem pe_callG (F : FnOkG X.prog X.w X.K X.mg X.base k f fd ps sp) (hgd : X.A.guards = some []) (room : Room k X.A) (glob : Gl X x) (known : X.mg x = some (.ref f))
    (keep : PySem.W.keepIn X.K (.ref f) = true) (b : L2.Binds X.K fd ps []) (ha : PA X (e :: es) t)
    (hdb : (x == ("__debug__" : Str)) = false := by decide) (he : starEach (e :: es) X.env = (false, eval e X.env) :: starEach es X.env := by rfl)
    (hpl : (backTo pos (starEach es X.env)).any (·.1) = false := by rfl) : PE X (.Call (.Name x p) (e :: es) [] pos) (tCall sp [] E0 t) := by
  constructor
  intro pins s σ H Q I h
  refine wpAny_Call_Name_kw (ld_glob I glob known ?_ hdb)
  refine PySem.W.callWith_K (h₀ := X.base) I.ok.mod.kin keep (thn (ha.run pos pins s σ H _ I h) fun us s1 hh => ?_) he hpl
  obtain ⟨vs, H1, I1, r, q⟩ := hh
  refine ⟨I1.kIn, ?_⟩
  have q : sp (vs ++ []) H1 Q E0 := q
  rw [List.append_nil] at q
  have hl : us.length = ps.length := by rw [← r.length]; exact F.len _ _ _ _ q
  refine wpAny_call (codeAny_mono (F.run X.A X.stack s1 H1 ⟨us, []⟩ us vs Q E0 hgd room I1.env0 (by
    have := b s1 us I1.kIn (by simpa using hl)
    simpa using this) r q) fun r s' hq => ?_)
  cases r with
  | error e => exact False.elim hq
  | ok fl =>
    cases fl with
    | ret u => exact I1.after hq
    | next => exact False.elim hq
    | brk => exact False.elim hq
    | cont => exact False.elim hq
end

/-! ### the law's call from above, for such a def -/
section
variable {P : Program} {w : World} {K : PySem.W.Frag} {mg mb : Str → Option Value} {k : Nat} {fa a : Addr} {fd : FuncData} {x : Str} {sp : Sp} {s1 : Shared} {vs : List Value} {ns : List Int}
abbrev Fin1 (s1 : Shared) (r : Result) (s' : Shared) : Prop := r = .ok (.ret (.bool true)) ∧ PySem.OldK s1.heap s'.heap ∧ s'.os = s1.os ∧ AllBare s'.gens
theorem callG_core (KX : K.In s1.heap) (nsg : s1.heap.Ns mainGlobals mg) (nsb : s1.heap.Ns builtinsNs mb) (boot : ∀ x : Str, x ≠ "__name__" → mb x = bootBuiltins x)
    (lim : s1.heap.NoLimit) (noGens : s1.gens = #[]) (obj : s1.heap.get? a = some { cls := .type "list", data := .seq vs.toArray }) (room : Room k callerA)
    (F : ∀ base : Heap, K.In base → base.Ns mainGlobals mg → FnOkG P w K mg base k fa fd [x] sp) (bind : ∀ (s : Shared) (u : Value), BindsTo s fd ⟨[u], []⟩ [(x, u)])
    (H : Hp) (only : Only H) (hsp : sp [.ref a] H (fun v _ => v = .bl true) fun _ _ _ => False) (ok : HOk P w H s1.heap) (onlyA : ∀ b, H b ≠ none → b = a) (outK : H a ≠ none → K.lookup a = none) :
    codeAny (model P w) callerA (.call (.ref fa) ⟨[.ref a], []⟩) (Fin1 s1) s1 := by
  have keepsB : ∀ {b : Addr} {o : Obj}, s1.heap.get? b = some o → H b = none → (hidT s1.heap H).get? b = some o := fun e n => hidT_get e n
  have isA : ∀ {b : Addr} {u : HO}, H b = some u → b = a := fun {b u} q => onlyA b (by rw [q]; simp)
  have dictNo : ∀ {b : Addr} {o : Obj} {es : Array DictEntry} {ep : Nat}, s1.heap.get? b = some o → o.data = .dict es ep → H b = none := by
    intro b o es ep e d
    cases q : H b with
    | none => rfl
    | some u =>
      have z := isA q
      subst z
      rw [obj] at e
      cases e
      exact absurd (show Data.seq vs.toArray _ = Data.dict es ep from d) (by intro y; cases y)
  have nsK : ∀ {b : Addr} {m : Str → Option Value}, s1.heap.Ns b m → (hidT s1.heap H).Ns b m := by
    rintro b m ⟨o, es, ep, e, d, r⟩
    exact ⟨o, es, ep, keepsB e (dictNo e d), d, r⟩
  have inB : K.In (hidT s1.heap H) := by
    intro b o e
    refine keepsB (KX b o e) ?_
    cases q : H b with
    | none => rfl
    | some u =>
      have z := isA q
      subst z
      rw [outK (by rw [q]; simp)] at e
      cases e
  have md : Mod K mg (hidT s1.heap H) := by
    obtain ⟨mc, h1, h2⟩ := lim
    exact ⟨inB, nsK nsg, ⟨mb, nsK nsb, boot⟩, ⟨mc, nsK h1, h2⟩⟩
  have e0 : Env0 P w K mg (hidT s1.heap H) callerA [] s1 H := by
    refine ⟨rfl, md, fun b o e => of_hidT e, Nat.le_of_eq (hidT_size _ _), trivial, ?_, ok, .of_eq noGens⟩
    intro b hb
    exact absurd (show b ∈ ([] : List Addr) from hb) (by simp)
  refine codeAny_mono ((F _ inB (nsK nsg)).run callerA [] s1 H ⟨[.ref a], []⟩ [.ref a] [.ref a] _ _ rfl room e0 (bind s1 (.ref a)) (.cons rfl .nil) hsp) ?_
  intro r s' h
  cases r with
  | error e => exact False.elim h
  | ok fl =>
    cases fl with
    | next => exact False.elim h
    | brk => exact False.elim h
    | cont => exact False.elim h
    | ret u =>
      obtain ⟨v, H', os, bare, un, ok', rv, q⟩ := h
      have q : v = .bl true := q
      subst q
      have ru : u = Value.bool true := rv
      subst ru
      refine ⟨rfl, PySem.OldK.of_keep (fun b o e => ?_), os, bare⟩
      cases q : H b with
      | none => exact un.keep b o e q (fun z => absurd (show b ∈ ([] : List Addr) from z) (by simp)) (by simp)
      | some u =>
        rcases only b with z | ⟨ob, xs, z⟩
        · rw [q] at z
          cases z
        · obtain ⟨e1, _⟩ := ok b _ z
          obtain ⟨e2, _⟩ := ok' b _ (un.frzs b ob _ z)
          rw [e] at e1
          cases e1
          exact e2
theorem callG (KX : K.In s1.heap) (nsg : s1.heap.Ns mainGlobals mg) (nsb : s1.heap.Ns builtinsNs mb) (boot : ∀ x : Str, x ≠ "__name__" → mb x = bootBuiltins x)
    (lim : s1.heap.NoLimit) (noGens : s1.gens = #[]) (obj : s1.heap.get? a = some { cls := .type "list", data := .seq vs.toArray }) (hi : IntsAre vs ns) (hl : ns.length ≤ sizeLine) (room : Room k callerA)
    (F : ∀ base : Heap, K.In base → base.Ns mainGlobals mg → FnOkG P w K mg base k fa fd [x] sp) (bind : ∀ (s : Shared) (u : Value), BindsTo s fd ⟨[u], []⟩ [(x, u)])
    (hsp : ∀ H : Hp, Only H → SqL K H a (ns.map V.int) → sp [.ref a] H (fun v _ => v = .bl true) fun _ _ _ => False) :
    codeAny (model P w) callerA (.call (.ref fa) ⟨[.ref a], []⟩) (Fin1 s1) s1 := by
  have rv := vals_ints hi
  have lenV := hi.length
  cases hk : K.lookup a with
  | some o =>
    have e := KX a o hk
    rw [obj] at e
    cases e
    have only : Only (fun _ => none) := fun _ => .inl rfl
    refine callG_core KX nsg nsb boot lim noGens obj room F bind (fun _ => none) only (hsp _ only ?_) (fun b u z => ?_) (fun b z => absurd rfl z) (fun z => absurd rfl z)
    · exact .inr ⟨_, vs.toArray, _, hk, rfl, rfl, rfl, by rw [List.size_toArray, lenV]; exact hl, by simpa using rv⟩
    · have z : (none : Option HO) = some u := z
      cases z
  | none =>
    have only : Only (fun b => if b = a then some (.frz { cls := .type "list", data := .seq vs.toArray } (.lst (ns.map V.int))) else none) := by
      intro b
      by_cases hb : b = a
      · exact .inr ⟨_, _, if_pos hb⟩
      · exact .inl (if_neg hb)
    refine callG_core KX nsg nsb boot lim noGens obj room F bind _ only (hsp _ only ?_) (fun b u z => ?_) (fun b z => ?_) (fun _ => hk)
    · exact .inl (.inr ⟨{ cls := .type "list", data := .seq vs.toArray }, if_pos rfl⟩)
    · by_cases hb : b = a
      · have z' := (if_pos hb).symm.trans z
        cases z'
        subst hb
        exact ⟨obj, by rw [List.length_map]; exact hl, vs, _, rv, obj⟩
      · have z' := (if_neg hb).symm.trans z
        cases z'
    · by_cases hb : b = a
      · exact hb
      · exact absurd (if_neg hb) z
theorem walkG {l : PySem.W.OpenLaw} {n k : Nat} {q : Program} {loose : List Str} {XP : (Str → Option Value) → Heap → Prop} {YP : World → Heap → Prop} {d : DefRec} {K : Params → PySem.W.Frag} {sp : PySem.W.Frag → Sp} {x : Str}
    (hn : l.most = some n) (hn2 : n ≤ sizeLine) (hdf : d.params.defaults = []) (room : Room k callerA) (hY : ∀ (w : World) (h : Heap), YP w h → (K w.params).In h)
    (F : ∀ (w : World) (mg : Str → Option Value) (fa : Addr) (h : Heap), (K w.params).In h → h.Ns mainGlobals mg → mg d.name = some (.ref fa) →
      ∃ fd : FuncData, (∀ (s : Shared) (u : Value), BindsTo s fd ⟨[u], []⟩ [(x, u)]) ∧
        ∀ base : Heap, (K w.params).In base → base.Ns mainGlobals mg → FnOkG l.prog w (K w.params) mg base k fa fd [x] (sp (K w.params)))
    (hsp : ∀ (K : PySem.W.Frag) (H : Hp) (a : Addr) (ns : List Int), ns.length ≤ n → Only H → SqL K H a (ns.map V.int) → sp K [.ref a] H (fun v _ => v = .bl true) fun _ _ _ => False) :
    PySem.W.WalkO q loose XP YP l.row.toRowW d [] (fun f vs => PySem.call f vs) := by
  refine Att.attach_call hn hdf (fun w s0 s1 mg mb fa o pm cd doc a vs ns G Y ho hd hcd hmg hobj hints hlen hg => ?_)
  have KX := hY w _ Y
  obtain ⟨fd, hb, hF⟩ := F w mg fa _ KX G.T.g hmg
  exact callG KX G.T.g G.T.b G.T.builtins G.T.nolimit hg hobj hints (Nat.le_trans hlen hn2) room hF hb (fun H hO hS => hsp (K w.params) H a ns hlen hO hS)
end
end Rw

set_option Elab.async false
set_option linter.all false
namespace Rw
open PySem PySem.Spec PyProof.Rows L2
section
variable {X : Cx} {K : PySem.W.Frag}
/-- an item read of a list, by a place that counts from its beginning -/
def rGetL (K : PySem.W.Frag) : V → V → Hp → VK → Prop := fun x y H Q => ∃ p xs i v, x = .ref p ∧ y = .int i ∧ SqL K H p xs ∧ 0 ≤ i ∧ atI xs i = some v ∧ Q v H
theorem w_getL (h : X.K = K := by rfl) : PGet X (rGetL K) := by
  subst h
  intro pins s σ H x y v u Q I rx ry h
  obtain ⟨p, xs, i, z, rfl, rfl, hq, h0, he, q⟩ := h
  cases rx
  obtain ⟨t, rfl⟩ := ry
  obtain ⟨its, r, pl, hz⟩ := I.list hq
  obtain ⟨j, h1, h2, h3, h4, h5⟩ := atI_get he
  obtain ⟨w, ew, rw'⟩ := r.get h2
  have hl := r.length
  have hn := line63
  have hj : i.toNat = j := by
    rw [seqIndex_of h0 h5] at h1
    exact Option.some.inj h1
  exact wpAny_getItem_list pl.isList h0 (by omega) (by rw [hj]; simpa using ew) ⟨z, H, I, rw', q⟩
/-- a walk along a list or a tuple -/
def iSeq (K : PySem.W.Frag) (tl : TE) : TI := fun σ H R => iList K tl σ H R ∨ iTup K tl σ H R
theorem w_piS {tg l : Expr} {tl : TE} (hl : PE X l tl) (h : X.K = K := by rfl) : PI X tg l (iSeq K tl) := by
  subst h
  refine ⟨fun pins s σ H R I q => ?_⟩
  rcases q with q | q
  · exact (pi_list hl).run pins s σ H R I q
  · exact (pi_tup hl).run pins s σ H R I q
end
end Rw

set_option Elab.async false
set_option linter.all false
set_option maxRecDepth 100000
set_option maxHeartbeats 2000000
namespace Rw
open PySem PySem.Spec PyProof.Rows L2
section
variable {X : Cx} {K : PySem.W.Frag}
def signV (z : Str) : List V := z.cps.toList.map fun c => V.str ⟨#[c]⟩
theorem vals_signs {z : Str} {acc : Array Value} (h : ItemsOf (SignAt z) acc z.cps.size) : Vals (signV z) acc.toList := by
  refine vals_of_at (by unfold signV; rw [List.length_map, Array.length_toList, Array.length_toList]; exact h.1.symm) fun j x u h1 h2 => ?_
  unfold signV at h1
  rw [List.getElem?_map] at h1
  rw [Array.getElem?_toList] at h2 h1
  obtain ⟨c, t, e, rfl⟩ := h.2 j u h2
  rw [e] at h1
  obtain rfl := Option.some.inj h1
  exact ⟨t, rfl⟩
/-- list(a text) -/
theorem call_listS (hc : X.calm = true) : CallR X (.type "list") (fun xs H Q => ∃ z : Str, xs = [.str z] ∧ z.length ≤ sizeLine ∧ ∀ p, H p = none → Q (.ref p) (upd H p (.lst (signV z)))) := by
  intro pins s σ H xs us Q I r h
  obtain ⟨z, rfl, hz, q⟩ := h
  obtain ⟨u, rfl⟩ : ∃ u, us = [u] := by
    cases r with
    | cons p q => cases q; exact ⟨_, rfl⟩
  obtain ⟨t, rfl⟩ : ∃ t, u = .str z t := by
    cases r with
    | cons p q => exact p
  refine PySem.call_list_str (I.ok.hd hc) z t (fun h' tk acc c' hk e' hi => ?_) hz
  refine ⟨.ref s.heap.objs.size, upd H s.heap.objs.size (.lst (signV z)), I.laid hk (Nat.le_refl _) (show ObjOk X.prog X.w _ _ _ (.lst (signV z)) from ⟨?_, acc.toList, c', vals_signs hi, ?_⟩), rfl, q _ (I.hok.fresh (Nat.le_refl _))⟩
  · unfold signV
    rw [List.length_map, Array.length_toList]
    exact hz
  · rw [Array.toArray_toList]; exact e'
theorem w_bm {o : Expr} {name : Str} {apos cpos : Pos} {e : Expr} {es : List Expr} {T id : String} {r : V → List V → Hp → VK → Prop} {to : TE} {t : TA} (pa : PlainAttrs T) (slot : Slot T name id) (hty : typeOf (.builtin id) = pure (.type "method_descriptor")) (hm : MtR X id r)
    (ho : PE X o to) (ha : PA X (e :: es) t) (h : X.K = K := by rfl)
    (hbase : attributeBase o name X.env (eval o X.env) = eval o X.env := by rfl)
    (hfew : ((backTo cpos (starEach (e :: es) X.env)).all (fun x => !x.1) && (backToKw cpos (keywordEach [] X.env)).all (fun x => x.1.isSome)
      && decide ((e :: es).length + ([] : List Keyword).length + (if ([] : List Keyword).isEmpty then 0 else 1) < 30)) = true := by rfl)
    (hline : (apos.endLine == cpos.line) = true := by rfl) (hs : starEach (e :: es) X.env = (false, eval e X.env) :: starEach es X.env := by rfl) (hplain : (backTo cpos (starEach es X.env)).any (·.1) = false := by rfl) :
    PE X (.Call (.Attribute o name apos) (e :: es) [] cpos) (tBM K T r to t) := by subst h; exact pe_bm pa slot hty hm ho ha hbase hfew hline hs hplain
theorem w_ixA (h : X.K = K := by rfl) : IxR X (rIx K) := by subst h; exact ix_seq
theorem w_maxL (hc : X.calm = true) (h : X.K = K := by rfl) : CallR X (.builtin "max") (rMax K) := by subst h; exact cr_max hc
end
end Rw

set_option Elab.async false
set_option linter.all false
set_option maxRecDepth 100000
set_option maxHeartbeats 4000000
namespace K6
open PySem PySem.Spec PyProof.Rows L2 Rw
/-! ### the text by places, the names of each def -/
def topS (i : Nat) : Stmt := PySem.Challenge.pw_rowreaders_k30_whole_plans.main.body.getD i (.Pass ⟨0, 0, 0, 0⟩)

abbrev s_is_integer : Stmt := topS 11
abbrev n_is_integer : List Str := ["value"]
abbrev p_is_integer : List Str := ["value"]
theorem sc_is_integer : FnScope n_is_integer p_is_integer (defScope s_is_integer) := ⟨rfl, rfl, rfl, by decide +kernel, rfl, by decide +kernel, by decide +kernel⟩
abbrev s_is_between : Stmt := topS 12
abbrev n_is_between : List Str := ["value", "low", "high"]
abbrev p_is_between : List Str := ["value", "low", "high"]
theorem sc_is_between : FnScope n_is_between p_is_between (defScope s_is_between) := ⟨rfl, rfl, rfl, by decide +kernel, rfl, by decide +kernel, by decide +kernel⟩
abbrev s_is_row : Stmt := topS 13
abbrev n_is_row : List Str := ["value", "signs", "most", "letters", "sign"]
abbrev p_is_row : List Str := ["value", "signs", "most"]
theorem sc_is_row : FnScope n_is_row p_is_row (defScope s_is_row) := ⟨rfl, rfl, rfl, by decide +kernel, rfl, by decide +kernel, by decide +kernel⟩
abbrev s_is_ascending : Stmt := topS 14
abbrev n_is_ascending : List Str := ["values", "at"]
abbrev p_is_ascending : List Str := ["values"]
theorem sc_is_ascending : FnScope n_is_ascending p_is_ascending (defScope s_is_ascending) := ⟨rfl, rfl, rfl, by decide +kernel, rfl, by decide +kernel, by decide +kernel⟩
abbrev s_is_stands : Stmt := topS 15
abbrev n_is_stands : List Str := ["value", "size", "stand"]
abbrev p_is_stands : List Str := ["value", "size"]
theorem sc_is_stands : FnScope n_is_stands p_is_stands (defScope s_is_stands) := ⟨rfl, rfl, rfl, by decide +kernel, rfl, by decide +kernel, by decide +kernel⟩
abbrev s_is_arrows : Stmt := topS 16
abbrev n_is_arrows : List Str := ["value", "signs", "goals"]
abbrev p_is_arrows : List Str := ["value", "signs"]
theorem sc_is_arrows : FnScope n_is_arrows p_is_arrows (defScope s_is_arrows) := ⟨rfl, rfl, rfl, by decide +kernel, rfl, by decide +kernel, by decide +kernel⟩
abbrev s_is_goals : Stmt := topS 17
abbrev n_is_goals : List Str := ["value", "signs", "size", "goal"]
abbrev p_is_goals : List Str := ["value", "signs", "size"]
theorem sc_is_goals : FnScope n_is_goals p_is_goals (defScope s_is_goals) := ⟨rfl, rfl, rfl, by decide +kernel, rfl, by decide +kernel, by decide +kernel⟩
abbrev s_is_lot : Stmt := topS 18
abbrev n_is_lot : List Str := ["value", "signs"]
abbrev p_is_lot : List Str := ["value", "signs"]
theorem sc_is_lot : FnScope n_is_lot p_is_lot (defScope s_is_lot) := ⟨rfl, rfl, rfl, by decide +kernel, rfl, by decide +kernel, by decide +kernel⟩
abbrev s_check_signs : Stmt := topS 19
abbrev n_check_signs : List Str := ["signs"]
abbrev p_check_signs : List Str := ["signs"]
theorem sc_check_signs : FnScope n_check_signs p_check_signs (defScope s_check_signs) := ⟨rfl, rfl, rfl, by decide +kernel, rfl, by decide +kernel, by decide +kernel⟩
abbrev s_flags_of : Stmt := topS 21
abbrev n_flags_of : List Str := ["size", "stands", "flags", "stand"]
abbrev p_flags_of : List Str := ["size", "stands"]
theorem sc_flags_of : FnScope n_flags_of p_flags_of (defScope s_flags_of) := ⟨rfl, rfl, rfl, by decide +kernel, rfl, by decide +kernel, by decide +kernel⟩
abbrev s_Reader_init : Stmt := inClass (topS 23) 0
abbrev n_Reader_init : List Str := ["self", "signs", "arrows", "ends"]
abbrev p_Reader_init : List Str := ["self", "signs", "arrows", "ends"]
theorem sc_Reader_init : FnScope n_Reader_init p_Reader_init (defScope s_Reader_init) := ⟨rfl, rfl, rfl, by decide +kernel, rfl, by decide +kernel, by decide +kernel⟩
abbrev s_Reader_signs : Stmt := inClass (topS 23) 1
abbrev n_Reader_signs : List Str := ["self"]
abbrev p_Reader_signs : List Str := ["self"]
theorem sc_Reader_signs : FnScope n_Reader_signs p_Reader_signs (defScope s_Reader_signs) := ⟨rfl, rfl, rfl, by decide +kernel, rfl, by decide +kernel, by decide +kernel⟩
abbrev s_Reader_arrows : Stmt := inClass (topS 23) 2
abbrev n_Reader_arrows : List Str := ["self"]
abbrev p_Reader_arrows : List Str := ["self"]
theorem sc_Reader_arrows : FnScope n_Reader_arrows p_Reader_arrows (defScope s_Reader_arrows) := ⟨rfl, rfl, rfl, by decide +kernel, rfl, by decide +kernel, by decide +kernel⟩
abbrev s_Reader_ends : Stmt := inClass (topS 23) 3
abbrev n_Reader_ends : List Str := ["self"]
abbrev p_Reader_ends : List Str := ["self"]
theorem sc_Reader_ends : FnScope n_Reader_ends p_Reader_ends (defScope s_Reader_ends) := ⟨rfl, rfl, rfl, by decide +kernel, rfl, by decide +kernel, by decide +kernel⟩
abbrev s_Reader_len : Stmt := inClass (topS 23) 4
abbrev n_Reader_len : List Str := ["self"]
abbrev p_Reader_len : List Str := ["self"]
theorem sc_Reader_len : FnScope n_Reader_len p_Reader_len (defScope s_Reader_len) := ⟨rfl, rfl, rfl, by decide +kernel, rfl, by decide +kernel, by decide +kernel⟩
abbrev s_check_reader : Stmt := topS 24
abbrev n_check_reader : List Str := ["reader"]
abbrev p_check_reader : List Str := ["reader"]
theorem sc_check_reader : FnScope n_check_reader p_check_reader (defScope s_check_reader) := ⟨rfl, rfl, rfl, by decide +kernel, rfl, by decide +kernel, by decide +kernel⟩
abbrev s_end_flags : Stmt := topS 25
abbrev n_end_flags : List Str := ["reader"]
abbrev p_end_flags : List Str := ["reader"]
theorem sc_end_flags : FnScope n_end_flags p_end_flags (defScope s_end_flags) := ⟨rfl, rfl, rfl, by decide +kernel, rfl, by decide +kernel, by decide +kernel⟩
abbrev s_check_duel : Stmt := topS 27
abbrev n_check_duel : List Str := ["reader", "first", "second", "lot"]
abbrev p_check_duel : List Str := ["reader", "first", "second"]
theorem sc_check_duel : FnScope n_check_duel p_check_duel (defScope s_check_duel) := ⟨rfl, rfl, rfl, by decide +kernel, rfl, by decide +kernel, by decide +kernel⟩
abbrev s_goals_by : Stmt := topS 28
abbrev n_goals_by : List Str := ["reader", "lot", "signs", "sign", "goals"]
abbrev p_goals_by : List Str := ["reader", "lot"]
theorem sc_goals_by : FnScope n_goals_by p_goals_by (defScope s_goals_by) := ⟨rfl, rfl, rfl, by decide +kernel, rfl, by decide +kernel, by decide +kernel⟩
abbrev s_has_some : Stmt := topS 29
abbrev n_has_some : List Str := ["flags", "goals", "goal"]
abbrev p_has_some : List Str := ["flags", "goals"]
theorem sc_has_some : FnScope n_has_some p_has_some (defScope s_has_some) := ⟨rfl, rfl, rfl, by decide +kernel, rfl, by decide +kernel, by decide +kernel⟩
abbrev s_has_all : Stmt := topS 30
abbrev n_has_all : List Str := ["flags", "goals", "goal"]
abbrev p_has_all : List Str := ["flags", "goals"]
theorem sc_has_all : FnScope n_has_all p_has_all (defScope s_has_all) := ⟨rfl, rfl, rfl, by decide +kernel, rfl, by decide +kernel, by decide +kernel⟩
abbrev s_signs_left : Stmt := topS 31
abbrev n_signs_left : List Str := ["reader", "mine", "others", "choose", "here", "there", "count", "found", "known_here", "known_there", "new_here", "new_there", "stand", "end", "left", "at"]
abbrev p_signs_left : List Str := ["reader", "mine", "others", "choose"]
theorem sc_signs_left : FnScope n_signs_left p_signs_left (defScope s_signs_left) := ⟨rfl, rfl, rfl, by decide +kernel, rfl, by decide +kernel, by decide +kernel⟩
abbrev s_least_left : Stmt := topS 32
abbrev n_least_left : List Str := ["reader", "first", "second"]
abbrev p_least_left : List Str := ["reader", "first", "second"]
theorem sc_least_left : FnScope n_least_left p_least_left (defScope s_least_left) := ⟨rfl, rfl, rfl, by decide +kernel, rfl, by decide +kernel, by decide +kernel⟩
abbrev s_least_turns : Stmt := topS 33
abbrev n_least_turns : List Str := ["reader", "first", "second"]
abbrev p_least_turns : List Str := ["reader", "first", "second"]
theorem sc_least_turns : FnScope n_least_turns p_least_turns (defScope s_least_turns) := ⟨rfl, rfl, rfl, by decide +kernel, rfl, by decide +kernel, by decide +kernel⟩
abbrev s_plan : Stmt := topS 34
abbrev n_plan : List Str := ["reader", "first", "second", "here", "there", "signs", "stand", "goals", "fit", "sign"]
abbrev p_plan : List Str := ["reader", "first", "second"]
theorem sc_plan : FnScope n_plan p_plan (defScope s_plan) := ⟨rfl, rfl, rfl, by decide +kernel, rfl, by decide +kernel, by decide +kernel⟩
abbrev s_leaves : Stmt := topS 35
abbrev n_leaves : List Str := ["left", "goal", "most"]
abbrev p_leaves : List Str := ["left", "goal", "most"]
theorem sc_leaves : FnScope n_leaves p_leaves (defScope s_leaves) := ⟨rfl, rfl, rfl, by decide +kernel, rfl, by decide +kernel, by decide +kernel⟩
abbrev s_barring : Stmt := topS 36
abbrev n_barring : List Str := ["reader", "first", "second", "here", "there", "signs", "stand", "goals", "fit", "sign"]
abbrev p_barring : List Str := ["reader", "first", "second"]
theorem sc_barring : FnScope n_barring p_barring (defScope s_barring) := ⟨rfl, rfl, rfl, by decide +kernel, rfl, by decide +kernel, by decide +kernel⟩
abbrev s_bars : Stmt := topS 37
abbrev n_bars : List Str := ["left", "goal"]
abbrev p_bars : List Str := ["left", "goal"]
theorem sc_bars : FnScope n_bars p_bars (defScope s_bars) := ⟨rfl, rfl, rfl, by decide +kernel, rfl, by decide +kernel, by decide +kernel⟩
abbrev s_turns_of : Stmt := topS 38
abbrev n_turns_of : List Str := ["reader", "first", "second", "plan"]
abbrev p_turns_of : List Str := ["reader", "first", "second", "plan"]
theorem sc_turns_of : FnScope n_turns_of p_turns_of (defScope s_turns_of) := ⟨rfl, rfl, rfl, by decide +kernel, rfl, by decide +kernel, by decide +kernel⟩
abbrev s_goals_by_plan : Stmt := topS 39
abbrev n_goals_by_plan : List Str := ["reader", "lot", "plan", "every", "at"]
abbrev p_goals_by_plan : List Str := ["reader", "lot", "plan"]
theorem sc_goals_by_plan : FnScope n_goals_by_plan p_goals_by_plan (defScope s_goals_by_plan) := ⟨rfl, rfl, rfl, by decide +kernel, rfl, by decide +kernel, by decide +kernel⟩
abbrev s_is_plan : Stmt := topS 40
abbrev n_is_plan : List Str := ["value", "size", "lot", "sign"]
abbrev p_is_plan : List Str := ["value", "size", "lot"]
theorem sc_is_plan : FnScope n_is_plan p_is_plan (defScope s_is_plan) := ⟨rfl, rfl, rfl, by decide +kernel, rfl, by decide +kernel, by decide +kernel⟩
abbrev s_l_cask : Stmt := topS 42
abbrev n_l_cask : List Str := ["_law_cells", "_law_k", "_law_cell", "_law_mixed", "_law_each", "_law_digits"]
abbrev p_l_cask : List Str := ["_law_cells", "_law_k"]
theorem sc_l_cask : FnScope n_l_cask p_l_cask (defScope s_l_cask) := ⟨rfl, rfl, rfl, by decide +kernel, rfl, by decide +kernel, by decide +kernel⟩
abbrev s_l_pull : Stmt := topS 43
abbrev n_l_pull : List Str := ["_law_cask_here", "_law_top", "_law_figure", "_law_base"]
abbrev p_l_pull : List Str := ["_law_cask_here", "_law_top"]
theorem sc_l_pull : FnScope n_l_pull p_l_pull (defScope s_l_pull) := ⟨rfl, rfl, rfl, by decide +kernel, rfl, by decide +kernel, by decide +kernel⟩
abbrev s_l_one_of : Stmt := topS 44
abbrev n_l_one_of : List Str := ["_law_cask_here", "_law_some"]
abbrev p_l_one_of : List Str := ["_law_cask_here", "_law_some"]
theorem sc_l_one_of : FnScope n_l_one_of p_l_one_of (defScope s_l_one_of) := ⟨rfl, rfl, rfl, by decide +kernel, rfl, by decide +kernel, by decide +kernel⟩
abbrev s_l_trio : Stmt := topS 45
abbrev n_l_trio : List Str := ["_law_cask_here", "_law_many", "_law_most", "_law_size", "_law_rows", "_law_marks", "_law_k", "_law_sign"]
abbrev p_l_trio : List Str := ["_law_cask_here", "_law_many", "_law_most"]
theorem sc_l_trio : FnScope n_l_trio p_l_trio (defScope s_l_trio) := ⟨rfl, rfl, rfl, by decide +kernel, rfl, by decide +kernel, by decide +kernel⟩
abbrev s_l_lots : Stmt := topS 46
abbrev n_l_lots : List Str := ["_law_cask_here", "_law_many", "_law_found", "_law_turn", "_law_marks", "_law_lot", "_law_k"]
abbrev p_l_lots : List Str := ["_law_cask_here", "_law_many"]
theorem sc_l_lots : FnScope n_l_lots p_l_lots (defScope s_l_lots) := ⟨rfl, rfl, rfl, by decide +kernel, rfl, by decide +kernel, by decide +kernel⟩
abbrev s_l_near : Stmt := topS 47
abbrev n_l_near : List Str := ["_law_trio_here", "_law_stand", "_law_lot", "_law_sign"]
abbrev p_l_near : List Str := ["_law_trio_here", "_law_stand", "_law_lot"]
theorem sc_l_near : FnScope n_l_near p_l_near (defScope s_l_near) := ⟨rfl, rfl, rfl, by decide +kernel, rfl, by decide +kernel, by decide +kernel⟩
abbrev s_l_layers : Stmt := topS 48
abbrev n_l_layers : List Str := ["_law_trio_here", "_law_lots_here", "_law_pairs_here", "_law_layers_here", "_law_turn", "_law_later", "_law_k", "_law_side", "_law_told", "_law_pair", "_law_goal"]
abbrev p_l_layers : List Str := ["_law_trio_here", "_law_lots_here"]
theorem sc_l_layers : FnScope n_l_layers p_l_layers (defScope s_l_layers) := ⟨rfl, rfl, rfl, by decide +kernel, rfl, by decide +kernel, by decide +kernel⟩
abbrev s_l_is_scheme : Stmt := topS 49
abbrev n_l_is_scheme : List Str := ["_law_scheme", "_law_trio_here", "_law_lot", "_law_sign"]
abbrev p_l_is_scheme : List Str := ["_law_scheme", "_law_trio_here", "_law_lot"]
theorem sc_l_is_scheme : FnScope n_l_is_scheme p_l_is_scheme (defScope s_l_is_scheme) := ⟨rfl, rfl, rfl, by decide +kernel, rfl, by decide +kernel, by decide +kernel⟩
abbrev s_l_longest : Stmt := topS 50
abbrev n_l_longest : List Str := ["_law_trio_here", "_law_lots_here", "_law_scheme", "_law_stand", "_law_side", "_law_left", "_law_lot", "_law_told", "_law_goal"]
abbrev p_l_longest : List Str := ["_law_trio_here", "_law_lots_here", "_law_scheme", "_law_stand", "_law_side", "_law_left"]
theorem sc_l_longest : FnScope n_l_longest p_l_longest (defScope s_l_longest) := ⟨rfl, rfl, rfl, by decide +kernel, rfl, by decide +kernel, by decide +kernel⟩
abbrev s_l_never : Stmt := topS 51
abbrev n_l_never : List Str := ["_law_trio_here", "_law_lots_here", "_law_scheme", "_law_stand", "_law_side", "_law_left", "_law_lot", "_law_told", "_law_goal"]
abbrev p_l_never : List Str := ["_law_trio_here", "_law_lots_here", "_law_scheme", "_law_stand", "_law_side", "_law_left"]
theorem sc_l_never : FnScope n_l_never p_l_never (defScope s_l_never) := ⟨rfl, rfl, rfl, by decide +kernel, rfl, by decide +kernel, by decide +kernel⟩
abbrev s_l_told_right : Stmt := topS 52
abbrev n_l_told_right : List Str := ["_law_trio_here", "_law_x", "_law_lots_here", "_law_far", "_law_fewest", "_law_told", "_law_bars_here", "_law_scheme", "_law_k", "_law_layer"]
abbrev p_l_told_right : List Str := ["_law_trio_here", "_law_x", "_law_lots_here"]
theorem sc_l_told_right : FnScope n_l_told_right p_l_told_right (defScope s_l_told_right) := ⟨rfl, rfl, rfl, by decide +kernel, rfl, by decide +kernel, by decide +kernel⟩
abbrev s_l_right : Stmt := topS 53
abbrev n_l_right : List Str := ["_law_cask_here", "_law_turn", "_law_many", "_law_trio_here", "_law_x", "_law_lots_here", "_law_again", "_law_scheme", "_law_due", "_law_told", "_law_k"]
abbrev p_l_right : List Str := ["_law_cask_here"]
theorem sc_l_right : FnScope n_l_right p_l_right (defScope s_l_right) := ⟨rfl, rfl, rfl, by decide +kernel, rfl, by decide +kernel, by decide +kernel⟩
abbrev s_law : Stmt := topS 54
abbrev n_law : List Str := ["_law_cells", "_law_k"]
abbrev p_law : List Str := ["_law_cells"]
theorem sc_law : FnScope n_law p_law (defScope s_law) := ⟨rfl, rfl, rfl, by decide +kernel, rfl, by decide +kernel, by decide +kernel⟩
/-! ### where the defs stand -/
structure Ad where
  is_integer : Addr
  is_between : Addr
  is_row : Addr
  is_ascending : Addr
  is_stands : Addr
  is_arrows : Addr
  is_goals : Addr
  is_lot : Addr
  check_signs : Addr
  flags_of : Addr
  Reader_init : Addr
  Reader_signs : Addr
  Reader_arrows : Addr
  Reader_ends : Addr
  Reader_len : Addr
  check_reader : Addr
  end_flags : Addr
  check_duel : Addr
  goals_by : Addr
  has_some : Addr
  has_all : Addr
  signs_left : Addr
  least_left : Addr
  least_turns : Addr
  plan : Addr
  leaves : Addr
  barring : Addr
  bars : Addr
  turns_of : Addr
  goals_by_plan : Addr
  is_plan : Addr
  l_cask : Addr
  l_pull : Addr
  l_one_of : Addr
  l_trio : Addr
  l_lots : Addr
  l_near : Addr
  l_layers : Addr
  l_is_scheme : Addr
  l_longest : Addr
  l_never : Addr
  l_told_right : Addr
  l_right : Addr
  law : Addr
  C : Addr
  pr_signs : Addr
  pr_arrows : Addr
  pr_ends : Addr
structure Txt (K : PySem.W.Frag) (mg : Str → Option Value) (A : Ad) : Prop where
  b_abs : mg "abs" = none
  b_all : mg "all" = none
  b_any : mg "any" = none
  b_bool : mg "bool" = none
  b_enumerate : mg "enumerate" = none
  b_int : mg "int" = none
  b_isinstance : mg "isinstance" = none
  b_len : mg "len" = none
  b_list : mg "list" = none
  b_max : mg "max" = none
  b_min : mg "min" = none
  b_range : mg "range" = none
  b_str : mg "str" = none
  b_tuple : mg "tuple" = none
  c_ALPHABET : ∃ t, mg "ALPHABET" = some (.str "abcdefgh" t)
  c_MOST_SIGNS : ∃ t, mg "MOST_SIGNS" = some (.int 8 t)
  c_MOST_STANDS : ∃ t, mg "MOST_STANDS" = some (.int 200 t)
  m_is_integer : mg "is_integer" = some (.ref A.is_integer)
  k_is_integer : PySem.W.keepIn K (.ref A.is_integer) = true
  m_is_between : mg "is_between" = some (.ref A.is_between)
  k_is_between : PySem.W.keepIn K (.ref A.is_between) = true
  m_is_row : mg "is_row" = some (.ref A.is_row)
  k_is_row : PySem.W.keepIn K (.ref A.is_row) = true
  m_is_ascending : mg "is_ascending" = some (.ref A.is_ascending)
  k_is_ascending : PySem.W.keepIn K (.ref A.is_ascending) = true
  m_is_stands : mg "is_stands" = some (.ref A.is_stands)
  k_is_stands : PySem.W.keepIn K (.ref A.is_stands) = true
  m_is_arrows : mg "is_arrows" = some (.ref A.is_arrows)
  k_is_arrows : PySem.W.keepIn K (.ref A.is_arrows) = true
  m_is_goals : mg "is_goals" = some (.ref A.is_goals)
  k_is_goals : PySem.W.keepIn K (.ref A.is_goals) = true
  m_is_lot : mg "is_lot" = some (.ref A.is_lot)
  k_is_lot : PySem.W.keepIn K (.ref A.is_lot) = true
  m_check_signs : mg "check_signs" = some (.ref A.check_signs)
  k_check_signs : PySem.W.keepIn K (.ref A.check_signs) = true
  m_flags_of : mg "flags_of" = some (.ref A.flags_of)
  k_flags_of : PySem.W.keepIn K (.ref A.flags_of) = true
  m_check_reader : mg "check_reader" = some (.ref A.check_reader)
  k_check_reader : PySem.W.keepIn K (.ref A.check_reader) = true
  m_end_flags : mg "end_flags" = some (.ref A.end_flags)
  k_end_flags : PySem.W.keepIn K (.ref A.end_flags) = true
  m_check_duel : mg "check_duel" = some (.ref A.check_duel)
  k_check_duel : PySem.W.keepIn K (.ref A.check_duel) = true
  m_goals_by : mg "goals_by" = some (.ref A.goals_by)
  k_goals_by : PySem.W.keepIn K (.ref A.goals_by) = true
  m_has_some : mg "has_some" = some (.ref A.has_some)
  k_has_some : PySem.W.keepIn K (.ref A.has_some) = true
  m_has_all : mg "has_all" = some (.ref A.has_all)
  k_has_all : PySem.W.keepIn K (.ref A.has_all) = true
  m_signs_left : mg "signs_left" = some (.ref A.signs_left)
  k_signs_left : PySem.W.keepIn K (.ref A.signs_left) = true
  m_least_left : mg "least_left" = some (.ref A.least_left)
  k_least_left : PySem.W.keepIn K (.ref A.least_left) = true
  m_least_turns : mg "least_turns" = some (.ref A.least_turns)
  k_least_turns : PySem.W.keepIn K (.ref A.least_turns) = true
  m_plan : mg "plan" = some (.ref A.plan)
  k_plan : PySem.W.keepIn K (.ref A.plan) = true
  m_leaves : mg "leaves" = some (.ref A.leaves)
  k_leaves : PySem.W.keepIn K (.ref A.leaves) = true
  m_barring : mg "barring" = some (.ref A.barring)
  k_barring : PySem.W.keepIn K (.ref A.barring) = true
  m_bars : mg "bars" = some (.ref A.bars)
  k_bars : PySem.W.keepIn K (.ref A.bars) = true
  m_turns_of : mg "turns_of" = some (.ref A.turns_of)
  k_turns_of : PySem.W.keepIn K (.ref A.turns_of) = true
  m_goals_by_plan : mg "goals_by_plan" = some (.ref A.goals_by_plan)
  k_goals_by_plan : PySem.W.keepIn K (.ref A.goals_by_plan) = true
  m_is_plan : mg "is_plan" = some (.ref A.is_plan)
  k_is_plan : PySem.W.keepIn K (.ref A.is_plan) = true
  m_l_cask : mg "_law_cask" = some (.ref A.l_cask)
  k_l_cask : PySem.W.keepIn K (.ref A.l_cask) = true
  m_l_pull : mg "_law_pull" = some (.ref A.l_pull)
  k_l_pull : PySem.W.keepIn K (.ref A.l_pull) = true
  m_l_one_of : mg "_law_one_of" = some (.ref A.l_one_of)
  k_l_one_of : PySem.W.keepIn K (.ref A.l_one_of) = true
  m_l_trio : mg "_law_trio" = some (.ref A.l_trio)
  k_l_trio : PySem.W.keepIn K (.ref A.l_trio) = true
  m_l_lots : mg "_law_lots" = some (.ref A.l_lots)
  k_l_lots : PySem.W.keepIn K (.ref A.l_lots) = true
  m_l_near : mg "_law_near" = some (.ref A.l_near)
  k_l_near : PySem.W.keepIn K (.ref A.l_near) = true
  m_l_layers : mg "_law_layers" = some (.ref A.l_layers)
  k_l_layers : PySem.W.keepIn K (.ref A.l_layers) = true
  m_l_is_scheme : mg "_law_is_scheme" = some (.ref A.l_is_scheme)
  k_l_is_scheme : PySem.W.keepIn K (.ref A.l_is_scheme) = true
  m_l_longest : mg "_law_longest" = some (.ref A.l_longest)
  k_l_longest : PySem.W.keepIn K (.ref A.l_longest) = true
  m_l_never : mg "_law_never" = some (.ref A.l_never)
  k_l_never : PySem.W.keepIn K (.ref A.l_never) = true
  m_l_told_right : mg "_law_told_right" = some (.ref A.l_told_right)
  k_l_told_right : PySem.W.keepIn K (.ref A.l_told_right) = true
  m_l_right : mg "_law_right" = some (.ref A.l_right)
  k_l_right : PySem.W.keepIn K (.ref A.l_right) = true
  m_law : mg "law" = some (.ref A.law)
  k_law : PySem.W.keepIn K (.ref A.law) = true
  m_Reader : mg "Reader" = some (.ref A.C)
  cl : Cls K A.C
  mk_Reader : Mk K A.C A.Reader_init
  na_signs : NoAttr K A.C "_signs"
  na_arrows : NoAttr K A.C "_arrows"
  na_ends : NoAttr K A.C "_ends"
  p_Reader_signs : PropOf K A.C "signs" A.pr_signs A.Reader_signs
  p_Reader_arrows : PropOf K A.C "arrows" A.pr_arrows A.Reader_arrows
  p_Reader_ends : PropOf K A.C "ends" A.pr_ends A.Reader_ends
  own_len : PySem.W.findIn K (.ref A.C) "__len__" = some (some (.ref A.Reader_len))
  isf_len : PySem.W.isFn K (.ref A.Reader_len) = true
  t_ha : PySem.W.findIn K (.ref A.C) "__class__" = some (some (.builtin "object.__class__"))
  t_hn : PySem.W.specialIn K (.builtin "object.__class__") "__get__" = some (some (.builtin "getset_descriptor.__get__"))
  t_tk : PySem.W.takesIn K (.builtin "object.__class__") = some true
  t_mo : PySem.W.mroIn K A.C (.type "object") = some true
/-! ### the defs themselves -/
structure Fds where
  is_integer : FuncData
  is_between : FuncData
  is_row : FuncData
  is_ascending : FuncData
  is_stands : FuncData
  is_arrows : FuncData
  is_goals : FuncData
  is_lot : FuncData
  check_signs : FuncData
  flags_of : FuncData
  Reader_init : FuncData
  Reader_signs : FuncData
  Reader_arrows : FuncData
  Reader_ends : FuncData
  Reader_len : FuncData
  check_reader : FuncData
  end_flags : FuncData
  check_duel : FuncData
  goals_by : FuncData
  has_some : FuncData
  has_all : FuncData
  signs_left : FuncData
  least_left : FuncData
  least_turns : FuncData
  plan : FuncData
  leaves : FuncData
  barring : FuncData
  bars : FuncData
  turns_of : FuncData
  goals_by_plan : FuncData
  is_plan : FuncData
  l_cask : FuncData
  l_pull : FuncData
  l_one_of : FuncData
  l_trio : FuncData
  l_lots : FuncData
  l_near : FuncData
  l_layers : FuncData
  l_is_scheme : FuncData
  l_longest : FuncData
  l_never : FuncData
  l_told_right : FuncData
  l_right : FuncData
  law : FuncData
structure Funs (K : PySem.W.Frag) (A : Ad) (fd : Fds) : Prop where
  F_is_integer : Fun K "is_integer" "is_integer" s_is_integer A.is_integer fd.is_integer
  b_is_integer : L2.Binds K fd.is_integer p_is_integer []
  F_is_between : Fun K "is_between" "is_between" s_is_between A.is_between fd.is_between
  b_is_between : L2.Binds K fd.is_between p_is_between []
  F_is_row : Fun K "is_row" "is_row" s_is_row A.is_row fd.is_row
  b_is_row : L2.Binds K fd.is_row p_is_row []
  F_is_ascending : Fun K "is_ascending" "is_ascending" s_is_ascending A.is_ascending fd.is_ascending
  b_is_ascending : L2.Binds K fd.is_ascending p_is_ascending []
  F_is_stands : Fun K "is_stands" "is_stands" s_is_stands A.is_stands fd.is_stands
  b_is_stands : L2.Binds K fd.is_stands p_is_stands []
  F_is_arrows : Fun K "is_arrows" "is_arrows" s_is_arrows A.is_arrows fd.is_arrows
  b_is_arrows : L2.Binds K fd.is_arrows p_is_arrows []
  F_is_goals : Fun K "is_goals" "is_goals" s_is_goals A.is_goals fd.is_goals
  b_is_goals : L2.Binds K fd.is_goals p_is_goals []
  F_is_lot : Fun K "is_lot" "is_lot" s_is_lot A.is_lot fd.is_lot
  b_is_lot : L2.Binds K fd.is_lot p_is_lot []
  F_check_signs : Fun K "check_signs" "check_signs" s_check_signs A.check_signs fd.check_signs
  b_check_signs : L2.Binds K fd.check_signs p_check_signs []
  F_flags_of : Fun K "flags_of" "flags_of" s_flags_of A.flags_of fd.flags_of
  b_flags_of : L2.Binds K fd.flags_of p_flags_of []
  F_Reader_init : Fun K "__init__" "Reader.__init__" s_Reader_init A.Reader_init fd.Reader_init
  b_Reader_init : L2.Binds K fd.Reader_init p_Reader_init []
  F_Reader_signs : Fun K "signs" "Reader.signs" s_Reader_signs A.Reader_signs fd.Reader_signs
  b_Reader_signs : L2.Binds K fd.Reader_signs p_Reader_signs []
  F_Reader_arrows : Fun K "arrows" "Reader.arrows" s_Reader_arrows A.Reader_arrows fd.Reader_arrows
  b_Reader_arrows : L2.Binds K fd.Reader_arrows p_Reader_arrows []
  F_Reader_ends : Fun K "ends" "Reader.ends" s_Reader_ends A.Reader_ends fd.Reader_ends
  b_Reader_ends : L2.Binds K fd.Reader_ends p_Reader_ends []
  F_Reader_len : Fun K "__len__" "Reader.__len__" s_Reader_len A.Reader_len fd.Reader_len
  b_Reader_len : L2.Binds K fd.Reader_len p_Reader_len []
  F_check_reader : Fun K "check_reader" "check_reader" s_check_reader A.check_reader fd.check_reader
  b_check_reader : L2.Binds K fd.check_reader p_check_reader []
  F_end_flags : Fun K "end_flags" "end_flags" s_end_flags A.end_flags fd.end_flags
  b_end_flags : L2.Binds K fd.end_flags p_end_flags []
  F_check_duel : Fun K "check_duel" "check_duel" s_check_duel A.check_duel fd.check_duel
  b_check_duel : L2.Binds K fd.check_duel p_check_duel []
  F_goals_by : Fun K "goals_by" "goals_by" s_goals_by A.goals_by fd.goals_by
  b_goals_by : L2.Binds K fd.goals_by p_goals_by []
  F_has_some : Fun K "has_some" "has_some" s_has_some A.has_some fd.has_some
  b_has_some : L2.Binds K fd.has_some p_has_some []
  F_has_all : Fun K "has_all" "has_all" s_has_all A.has_all fd.has_all
  b_has_all : L2.Binds K fd.has_all p_has_all []
  F_signs_left : Fun K "signs_left" "signs_left" s_signs_left A.signs_left fd.signs_left
  b_signs_left : L2.Binds K fd.signs_left p_signs_left []
  F_least_left : Fun K "least_left" "least_left" s_least_left A.least_left fd.least_left
  b_least_left : L2.Binds K fd.least_left p_least_left []
  F_least_turns : Fun K "least_turns" "least_turns" s_least_turns A.least_turns fd.least_turns
  b_least_turns : L2.Binds K fd.least_turns p_least_turns []
  F_plan : Fun K "plan" "plan" s_plan A.plan fd.plan
  b_plan : L2.Binds K fd.plan p_plan []
  F_leaves : Fun K "leaves" "leaves" s_leaves A.leaves fd.leaves
  b_leaves : L2.Binds K fd.leaves p_leaves []
  F_barring : Fun K "barring" "barring" s_barring A.barring fd.barring
  b_barring : L2.Binds K fd.barring p_barring []
  F_bars : Fun K "bars" "bars" s_bars A.bars fd.bars
  b_bars : L2.Binds K fd.bars p_bars []
  F_turns_of : Fun K "turns_of" "turns_of" s_turns_of A.turns_of fd.turns_of
  b_turns_of : L2.Binds K fd.turns_of p_turns_of []
  F_goals_by_plan : Fun K "goals_by_plan" "goals_by_plan" s_goals_by_plan A.goals_by_plan fd.goals_by_plan
  b_goals_by_plan : L2.Binds K fd.goals_by_plan p_goals_by_plan []
  F_is_plan : Fun K "is_plan" "is_plan" s_is_plan A.is_plan fd.is_plan
  b_is_plan : L2.Binds K fd.is_plan p_is_plan []
  F_l_cask : Fun K "_law_cask" "_law_cask" s_l_cask A.l_cask fd.l_cask
  b_l_cask : L2.Binds K fd.l_cask p_l_cask []
  F_l_pull : Fun K "_law_pull" "_law_pull" s_l_pull A.l_pull fd.l_pull
  b_l_pull : L2.Binds K fd.l_pull p_l_pull []
  F_l_one_of : Fun K "_law_one_of" "_law_one_of" s_l_one_of A.l_one_of fd.l_one_of
  b_l_one_of : L2.Binds K fd.l_one_of p_l_one_of []
  F_l_trio : Fun K "_law_trio" "_law_trio" s_l_trio A.l_trio fd.l_trio
  b_l_trio : L2.Binds K fd.l_trio p_l_trio []
  F_l_lots : Fun K "_law_lots" "_law_lots" s_l_lots A.l_lots fd.l_lots
  b_l_lots : L2.Binds K fd.l_lots p_l_lots []
  F_l_near : Fun K "_law_near" "_law_near" s_l_near A.l_near fd.l_near
  b_l_near : L2.Binds K fd.l_near p_l_near []
  F_l_layers : Fun K "_law_layers" "_law_layers" s_l_layers A.l_layers fd.l_layers
  b_l_layers : L2.Binds K fd.l_layers p_l_layers []
  F_l_is_scheme : Fun K "_law_is_scheme" "_law_is_scheme" s_l_is_scheme A.l_is_scheme fd.l_is_scheme
  b_l_is_scheme : L2.Binds K fd.l_is_scheme p_l_is_scheme []
  F_l_longest : Fun K "_law_longest" "_law_longest" s_l_longest A.l_longest fd.l_longest
  b_l_longest : L2.Binds K fd.l_longest p_l_longest []
  F_l_never : Fun K "_law_never" "_law_never" s_l_never A.l_never fd.l_never
  b_l_never : L2.Binds K fd.l_never p_l_never []
  F_l_told_right : Fun K "_law_told_right" "_law_told_right" s_l_told_right A.l_told_right fd.l_told_right
  b_l_told_right : L2.Binds K fd.l_told_right p_l_told_right []
  F_l_right : Fun K "_law_right" "_law_right" s_l_right A.l_right fd.l_right
  b_l_right : L2.Binds K fd.l_right p_l_right []
  F_law : Fun K "law" "law" s_law A.law fd.law
  b_law : L2.Binds K fd.law p_law []
end K6

set_option Elab.async false
set_option linter.all false
set_option maxRecDepth 100000
set_option maxHeartbeats 4000000
namespace K6
open PySem PySem.Spec PyProof.Rows L2 Rw
/-! ### data that stands in the heap -/
section
variable {K : PySem.W.Frag} {H H' H1 : Hp}
theorem sqL_mono (s : Same H H') {a : Addr} {xs : List V} (h : SqL K H a xs) : SqL K H' a xs := s.seq h
theorem sqT_mono (s : Same H H') {a : Addr} {xs : List V} (h : SqT K H a xs) : SqT K H' a xs := by
  rcases h with (h | ⟨o, h⟩) | h
  · exact .inl (.inl (s _ _ h))
  · exact .inl (.inr ⟨o, s _ _ h⟩)
  · exact .inr h
mutual
theorem dp_mono (s : Same H H') : ∀ (d : PyData) (v : V), Dp K H v d → Dp K H' v d
  | .none, _, h => by cases h; exact .non
  | .bool b, _, h => by cases h; exact .bl b
  | .int i, _, h => by cases h; exact .int i
  | .str x, _, h => by cases h; exact .str x
  | .list ds, _, h => by
    cases h with
    | lst a b => exact .lst (sqL_mono s a) (dps_mono s ds _ b)
  | .tuple ds, _, h => by
    cases h with
    | tup a b => exact .tup (sqT_mono s a) (dps_mono s ds _ b)
  | .dict _, _, h => by cases h
theorem dps_mono (s : Same H H') : ∀ (ds : List PyData) (vs : List V), DpAll K H vs ds → DpAll K H' vs ds
  | [], _, h => by cases h; exact .nil
  | d :: ds, _, h => by
    cases h with
    | cons a b => exact .cons (dp_mono s d _ a) (dps_mono s ds _ b)
end
theorem dps_len : ∀ {vs : List V} {ds : List PyData}, DpAll K H vs ds → vs.length = ds.length
  | _, _, .nil => rfl
  | _, _, .cons _ b => by
    show _ + 1 = _ + 1
    rw [dps_len b]
theorem dps_get : ∀ {vs : List V} {ds : List PyData} {i : Nat} {d : PyData}, DpAll K H vs ds → ds[i]? = some d → ∃ v, vs[i]? = some v ∧ Dp K H v d
  | _, _, _, _, .nil, h => by simp at h
  | _, _, 0, _, .cons a b, h => by
    have e := Option.some.inj h
    subst e
    exact ⟨_, rfl, a⟩
  | _, _, i + 1, _, .cons a b, h => dps_get (i := i) b h
theorem dps_getV : ∀ {vs : List V} {ds : List PyData} {i : Nat} {v : V}, DpAll K H vs ds → vs[i]? = some v → ∃ d, ds[i]? = some d ∧ Dp K H v d
  | _, _, _, _, .nil, h => by simp at h
  | _, _, 0, _, .cons a b, h => by
    have e := Option.some.inj h
    subst e
    exact ⟨_, rfl, a⟩
  | _, _, i + 1, _, .cons a b, h => dps_getV (i := i) b h
theorem dps_snoc : ∀ {vs : List V} {ds : List PyData} {v : V} {d : PyData}, DpAll K H vs ds → Dp K H v d → DpAll K H (vs ++ [v]) (ds ++ [d])
  | _, _, _, _, .nil, h => .cons h .nil
  | _, _, _, _, .cons a b, h => .cons a (dps_snoc b h)
theorem dps_app : ∀ {vs us : List V} {ds es : List PyData}, DpAll K H vs ds → DpAll K H us es → DpAll K H (vs ++ us) (ds ++ es)
  | _, _, _, _, .nil, h => h
  | _, _, _, _, .cons a b, h => .cons a (dps_app b h)
theorem dps_ints : ∀ {vs : List V} {ns : List Int}, DpAll K H vs (ns.map PyData.int) → vs = ns.map V.int
  | _, [], h => by cases h; rfl
  | _, n :: ns, h => by
    cases h with
    | cons a b =>
      cases a
      rw [dps_ints b]
      rfl
theorem ints_dps : ∀ (ns : List Int), DpAll K H (ns.map V.int) (ns.map PyData.int)
  | [] => .nil
  | n :: ns => .cons (.int n) (ints_dps ns)
theorem dps_strs : ∀ {vs : List V} {ns : List Str}, DpAll K H vs (ns.map PyData.str) → vs = ns.map V.str
  | _, [], h => by cases h; rfl
  | _, n :: ns, h => by
    cases h with
    | cons a b =>
      cases a
      rw [dps_strs b]
      rfl
theorem strs_dps : ∀ (ns : List Str), DpAll K H (ns.map V.str) (ns.map PyData.str)
  | [] => .nil
  | n :: ns => .cons (.str n) (strs_dps ns)
def vO : Option Nat → V
  | none => .non
  | some n => .int (n : Int)
def dO : Option Nat → PyData
  | none => .none
  | some n => .int (n : Int)
theorem dps_opts : ∀ {vs : List V} {ns : List (Option Nat)}, DpAll K H vs (ns.map dO) → vs = ns.map vO
  | _, [], h => by cases h; rfl
  | _, none :: ns, h => by
    cases h with
    | cons a b =>
      cases a
      rw [dps_opts b]
      rfl
  | _, some n :: ns, h => by
    cases h with
    | cons a b =>
      cases a
      rw [dps_opts b]
      rfl
theorem opts_dps : ∀ (ns : List (Option Nat)), DpAll K H (ns.map vO) (ns.map dO)
  | [] => .nil
  | none :: ns => .cons .non (opts_dps ns)
  | some n :: ns => .cons (.int n) (opts_dps ns)
theorem dp_tup {v : V} {ds : List PyData} (h : Dp K H v (.tuple ds)) : ∃ a xs, v = .ref a ∧ SqT K H a xs ∧ DpAll K H xs ds := by
  cases h with
  | tup a b => exact ⟨_, _, rfl, a, b⟩
theorem dp_lst {v : V} {ds : List PyData} (h : Dp K H v (.list ds)) : ∃ a xs, v = .ref a ∧ SqL K H a xs ∧ DpAll K H xs ds := by
  cases h with
  | lst a b => exact ⟨_, _, rfl, a, b⟩
/-! ### heaps -/
theorem same_upd {p : Addr} {o : HO} (h : H p = none) : Same H (upd H p o) := fun b x e => by
  rw [upd_ne (ne_of_none e h)]
  exact e
/-- a new object, changed later -/
theorem same_put {p : Addr} {o : HO} (s : Same H H1) (h : H p = none) : Same H (upd H1 p o) := fun b x e => by
  rw [upd_ne (ne_of_none e h)]
  exact s b x e
theorem lst_of {p : Addr} {xs : List V} (h : H p = some (.lst xs)) : SqL K H p xs := .inl (.inl h)
theorem tup_of {p : Addr} {xs : List V} (h : H p = some (.tup xs)) : SqT K H p xs := .inl (.inl h)
theorem szl {n : Nat} (h : n ≤ 100000) : n ≤ sizeLine := Nat.le_trans h (by decide)
theorem szt {n : Nat} (h : n < 100000) : n < sizeLine := Nat.lt_of_lt_of_le h (by decide)
/-- the heap without one object -/
def del (b : Addr) (H : Hp) : Hp := fun x => if x = b then none else H x
theorem del_same (b : Addr) : Same (del b H) H := fun x o e => by
  unfold del at e
  by_cases h : x = b
  · rw [if_pos h] at e
    cases e
  · rw [if_neg h] at e
    exact e
theorem del_ne {b x : Addr} (h : x ≠ b) : del b H x = H x := if_neg h
theorem del_mono {b : Addr} (s : Same H H') : Same (del b H) (del b H') := fun x o e => by
  unfold del at e ⊢
  by_cases h : x = b
  · rw [if_pos h] at e
    cases e
  · rw [if_neg h] at e ⊢
    exact s x o e
/-- what a draw may change: the barrel alone -/
def Keep (b : Addr) (H H' : Hp) : Prop := Same (del b H) (del b H')
theorem Keep.refl (b : Addr) (H : Hp) : Keep b H H := Same.refl _
theorem Keep.trans {b : Addr} {H2 : Hp} (a : Keep b H H1) (c : Keep b H1 H2) : Keep b H H2 := Same.trans a c
theorem Keep.of {b : Addr} (s : Same H H') : Keep b H H' := del_mono s
theorem keep_upd {b : Addr} {o : HO} : Keep b H (upd H b o) := fun x u e => by
  have hx : x ≠ b := by
    intro z
    unfold del at e
    rw [if_pos z] at e
    cases e
  rw [del_ne hx] at e ⊢
  rw [upd_ne hx]
  exact e
theorem del_none {b : Addr} : del b H b = none := if_pos rfl
/-- an object that is new is no barrel, and is not told ahead -/
theorem Keep.get {b x : Addr} {o : HO} (k : Keep b H H') (h : x ≠ b) (e : H x = some o) : H' x = some o := by
  have z := k x o (by rw [del_ne h]; exact e)
  rw [del_ne h] at z
  exact z
end
end K6

set_option Elab.async false
set_option linter.all false
set_option maxRecDepth 100000
set_option maxHeartbeats 4000000
namespace K6
open PySem PySem.Spec PyProof.Rows L2 Rw
/-! ### comprehensions: what a turn adds, and the whole -/
section
variable {K : PySem.W.Frag} {H : Hp} {σ : L2.St} {tt : TT} {te : TE} {vs : List Nat} {j : Nat} {Q : VK}
def pre (st : Nat → List V) (n : Nat) : List V := (List.range n).flatMap st
theorem pre_succ (st : Nat → List V) (n : Nat) : pre st (n + 1) = pre st n ++ st n := by
  unfold pre
  rw [List.range_succ, List.flatMap_append]
  simp
theorem pre_len {st : Nat → List V} (h : ∀ i, (st i).length ≤ 1) : ∀ n, (pre st n).length ≤ n
  | 0 => Nat.le_refl 0
  | n + 1 => by
    rw [pre_succ, List.length_append]
    have a := pre_len h n
    have b := h n
    omega
theorem pre_map {f : Nat → V} (n : Nat) : pre (fun i => [f i]) n = (List.range n).map f := by
  unfold pre
  induction n with
  | zero => rfl
  | succ n ih => rw [List.range_succ, List.flatMap_append, List.map_append, ih]; rfl
/-- a turn: what is added is [y], or nothing -/
def Turn1 (tt : TT) (te : TE) (σ : L2.St) (H : Hp) (s : List V) : Prop := ∀ H1 (R : V → Hp → Prop) (N : Hp → Prop), Same H H1 → (∀ y H2, s = [y] → Same H1 H2 → R y H2) → (∀ H2, s = [] → Same H1 H2 → N H2) →
  tt σ H1 (fun b H2 => if b = true then te σ H2 R else N H2)
theorem lcG (J : It) (n : Nat) (xs : Nat → V) (st : Nat → List V) (hst : ∀ i, (st i).length ≤ 1) (hn : n < 100000)
    (hgo : ∀ i H1, i < n → Same H H1 → J.go i H1) (hstop : ∀ H1, Same H H1 → J.stop n H1) (hyld : ∀ i H1 x H', i < n → Same H H1 → J.yld i H1 x H' → H' = H1 ∧ x = xs i)
    (hw : ∀ x, wipe ((wipe σ vs).set j (some x)) vs = wipe σ vs) (turn : ∀ i, i < n → Turn1 tt te ((wipe σ vs).set j (some (xs i))) H (st i))
    (fin : ∀ D H1, H D = none → Same H H1 → H1 D = some (.lst (pre st n)) → Q (.ref D) H1) :
    ∀ D, H D = none → ∃ W : Nat → Nat → Hp → Prop, (∃ m, W 0 m (upd H D (.lst []))) ∧ ∀ i m H, W i m H →
      (J.stop i H ∧ Q (.ref D) H) ∨ (J.go i H ∧ ∃ Nx : Hp → Prop, (∀ H', Nx H' → ∃ m', m' < m ∧ W (i + 1) m' H') ∧ ∀ x H', J.yld i H x H' → gName j x (wipe σ vs) H' fun σ2 H2 => wipe σ2 vs = wipe σ vs ∧ tt σ2 H2 fun b H3 =>
        if b = true then te σ2 H3 fun y H4 => ∃ acc, H4 D = some (.lst acc) ∧ acc.length < sizeLine ∧ Nx (upd H4 D (.lst (acc ++ [y]))) else Nx H3) := by
  intro D hD
  refine ⟨fun i m H1 => m = n - i ∧ i ≤ n ∧ Same H H1 ∧ H1 D = some (.lst (pre st i)), ⟨n, rfl, Nat.zero_le _, same_upd hD, upd_same⟩, ?_⟩
  rintro i m H1 ⟨rfl, hi, s1, h1⟩
  by_cases c : i < n
  · refine .inr ⟨hgo i H1 c s1, fun H2 => Same H H2 ∧ H2 D = some (.lst (pre st (i + 1))), fun H2 h2 => ⟨n - (i + 1), by omega, rfl, c, h2.1, h2.2⟩, fun x H' hy => ?_⟩
    obtain ⟨rfl, rfl⟩ := hyld i H1 x H' c s1 hy
    refine ⟨hw _, ?_⟩
    refine turn i c H' _ _ s1 (fun y H2 hs s2 => ?_) (fun H2 hs s2 => ?_)
    · refine ⟨pre st i, s2 D _ h1, szt (by have := pre_len hst i; omega), ?_, ?_⟩
      · exact same_put (s1.trans s2) hD
      · rw [pre_succ, hs]
        exact upd_same
    · refine ⟨s1.trans s2, ?_⟩
      rw [pre_succ, hs, List.append_nil]
      exact s2 D _ h1
  · have e : i = n := by omega
    subst e
    exact .inl ⟨hstop H1 s1, fin D H1 hD s1 h1⟩
theorem getD_of {xs : List V} {i : Nat} {x : V} (h : xs[i]? = some x) : xs.getD i .non = x := by
  rw [List.getD_eq_getElem?_getD, h]
  rfl
theorem lt_of_get {α : Type} {xs : List α} {i : Nat} {x : α} (h : xs[i]? = some x) : i < xs.length := (List.getElem?_eq_some_iff.mp h).1
/-- over a tuple -/
theorem cT {tl : TE} {a : Addr} {xs : List V} (st : Nat → List V) (htl : ∀ R : VK, R (.ref a) H → tl σ H R) (hx : SqT K H a xs) (hst : ∀ i, (st i).length ≤ 1) (hn : xs.length < 100000)
    (hw : ∀ x, wipe ((wipe σ vs).set j (some x)) vs = wipe σ vs) (turn : ∀ i x, xs[i]? = some x → Turn1 tt te ((wipe σ vs).set j (some x)) H (st i))
    (fin : ∀ D H1, H D = none → Same H H1 → H1 D = some (.lst (pre st xs.length)) → Q (.ref D) H1) : tLc (iTup K tl) (gName j) tt te vs σ H Q := by
  refine htl _ ⟨a, rfl, ⟨xs, hx⟩, ?_⟩
  refine lcG (Itt K a) xs.length (fun i => xs.getD i .non) st hst hn (fun i H1 hi s => ?_) (fun H1 s => ?_) (fun i H1 x H' hi s hy => ?_) hw (fun i hi => ?_) fin
  · exact ⟨xs, xs[i], sqT_mono s hx, by simp [hi]⟩
  · exact ⟨xs, sqT_mono s hx, Nat.le_refl _⟩
  · obtain ⟨e, y⟩ := hy
    exact ⟨e, (getD_of (y xs (sqT_mono s hx))).symm⟩
  · have h : xs[i]? = some (xs.getD i .non) := by
      rw [List.getElem?_eq_getElem hi, List.getD_eq_getElem?_getD, List.getElem?_eq_getElem hi]
      rfl
    exact turn i _ h
/-- over a list that a call has handed back -/
theorem lL {Qd : Addr → Hp → Prop} {a : Addr} {xs : List V} (st : Nat → List V) (hx : SqL K H a xs) (hst : ∀ i, (st i).length ≤ 1) (hn : xs.length < 100000)
    (hw : ∀ x, wipe ((wipe σ vs).set j (some x)) vs = wipe σ vs) (turn : ∀ i x, xs[i]? = some x → Turn1 tt te ((wipe σ vs).set j (some x)) H (st i))
    (fin : ∀ D H1, H D = none → Same H H1 → H1 D = some (.lst (pre st xs.length)) → Qd D H1) :
    ∀ D, H D = none → ∃ W : Nat → Nat → Hp → Prop, (∃ m, W 0 m (upd H D (.lst []))) ∧ ∀ i m H, W i m H →
      ((Itl K a).stop i H ∧ Qd D H) ∨ ((Itl K a).go i H ∧ ∃ Nx : Hp → Prop, (∀ H', Nx H' → ∃ m', m' < m ∧ W (i + 1) m' H') ∧ ∀ x H', (Itl K a).yld i H x H' → gName j x (wipe σ vs) H' fun σ2 H2 => wipe σ2 vs = wipe σ vs ∧ tt σ2 H2 fun b H3 =>
        if b = true then te σ2 H3 fun y H4 => ∃ acc, H4 D = some (.lst acc) ∧ acc.length < sizeLine ∧ Nx (upd H4 D (.lst (acc ++ [y]))) else Nx H3) := by
  refine lcG (Q := fun v H => match v with | .ref D => Qd D H | _ => False) (Itl K a) xs.length (fun i => xs.getD i .non) st hst hn (fun i H1 hi s => ?_) (fun H1 s => ?_) (fun i H1 x H' hi s hy => ?_) hw (fun i hi => ?_) fin
  · exact ⟨xs, xs[i], sqL_mono s hx, by simp [hi]⟩
  · exact ⟨xs, sqL_mono s hx, Nat.le_refl _⟩
  · obtain ⟨e, y⟩ := hy
    exact ⟨e, (getD_of (y xs (sqL_mono s hx))).symm⟩
  · have h : xs[i]? = some (xs.getD i .non) := by
      rw [List.getElem?_eq_getElem hi, List.getD_eq_getElem?_getD, List.getElem?_eq_getElem hi]
      rfl
    exact turn i _ h
/-- over a list -/
theorem cL {tl : TE} {a : Addr} {xs : List V} (st : Nat → List V) (htl : ∀ R : VK, R (.ref a) H → tl σ H R) (hx : SqL K H a xs) (hst : ∀ i, (st i).length ≤ 1) (hn : xs.length < 100000)
    (hw : ∀ x, wipe ((wipe σ vs).set j (some x)) vs = wipe σ vs) (turn : ∀ i x, xs[i]? = some x → Turn1 tt te ((wipe σ vs).set j (some x)) H (st i))
    (fin : ∀ D H1, H D = none → Same H H1 → H1 D = some (.lst (pre st xs.length)) → Q (.ref D) H1) : tLc (iList K tl) (gName j) tt te vs σ H Q := by
  refine htl _ ⟨a, rfl, ⟨xs, hx⟩, ?_⟩
  refine lcG (Itl K a) xs.length (fun i => xs.getD i .non) st hst hn (fun i H1 hi s => ?_) (fun H1 s => ?_) (fun i H1 x H' hi s hy => ?_) hw (fun i hi => ?_) fin
  · exact ⟨xs, xs[i], sqL_mono s hx, by simp [hi]⟩
  · exact ⟨xs, sqL_mono s hx, Nat.le_refl _⟩
  · obtain ⟨e, y⟩ := hy
    exact ⟨e, (getD_of (y xs (sqL_mono s hx))).symm⟩
  · have h : xs[i]? = some (xs.getD i .non) := by
      rw [List.getElem?_eq_getElem hi, List.getD_eq_getElem?_getD, List.getElem?_eq_getElem hi]
      rfl
    exact turn i _ h
/-- over range(n) -/
theorem cR {ta : TA} {n : Nat} {m : Int} (st : Nat → List V) (hm : m.toNat = n) (hb : -1000 ≤ m) (hta : ∀ R : List V → Hp → Prop, R [.int m] H → ta σ H R) (hst : ∀ i, (st i).length ≤ 1) (hn : n < 100000)
    (hw : ∀ x, wipe ((wipe σ vs).set j (some x)) vs = wipe σ vs) (turn : ∀ i : Nat, i < n → Turn1 tt te ((wipe σ vs).set j (some (.int (i : Int)))) H (st i))
    (fin : ∀ D H1, H D = none → Same H H1 → H1 D = some (.lst (pre st n)) → Q (.ref D) H1) : tLc (iRng1 ta) (gName j) tt te vs σ H Q := by
  refine hta _ ⟨m, rfl, by omega, by omega, ?_⟩
  rw [hm]
  refine lcG (Itr 0 n) n (fun i => .int (i : Int)) st hst hn (fun i H1 hi s => hi) (fun H1 s => Nat.le_refl _) (fun i H1 x H' hi s hy => ?_) hw turn fin
  obtain ⟨e, y⟩ := hy
  refine ⟨e, ?_⟩
  rw [y, Int.zero_add]
/-- over a text -/
theorem cS {tl : TE} {z : Str} (st : Nat → List V) (htl : ∀ R : VK, R (.str z) H → tl σ H R) (hst : ∀ i, (st i).length ≤ 1) (hn : z.cps.size < 100000)
    (hw : ∀ x, wipe ((wipe σ vs).set j (some x)) vs = wipe σ vs) (turn : ∀ i c, z.cps[i]? = some c → Turn1 tt te ((wipe σ vs).set j (some (.str ⟨#[c]⟩))) H (st i))
    (fin : ∀ D H1, H D = none → Same H H1 → H1 D = some (.lst (pre st z.cps.size)) → Q (.ref D) H1) : tLc (iStr tl) (gName j) tt te vs σ H Q := by
  refine htl _ ⟨z, rfl, ?_⟩
  refine lcG (Its z) z.cps.size (fun i => .str ⟨#[z.cps.getD i 0]⟩) st hst hn (fun i H1 hi s => hi) (fun H1 s => Nat.le_refl _) (fun i H1 x H' hi s hy => ?_) hw (fun i hi => ?_) fin
  · obtain ⟨e, c, hc, rfl⟩ := hy
    refine ⟨e, ?_⟩
    simp [Array.getD_eq_getD_getElem?, hc]
  · have h : z.cps[i]? = some (z.cps.getD i 0) := by
      simp [Array.getD_eq_getD_getElem?, hi]
    exact turn i _ h
/-- no test -/
theorem turn_yes {y : V} (h : ∀ H1 (R : V → Hp → Prop), Same H H1 → (∀ H2, Same H1 H2 → R y H2) → te σ H1 R) : Turn1 tYes te σ H [y] := by
  intro H1 R N s hy hn
  show (if true = true then te σ H1 R else N H1)
  rw [if_pos rfl]
  exact h H1 R s fun H2 s2 => hy y H2 rfl s2
theorem replicate_pre (n : Nat) (v : V) : pre (fun _ => [v]) n = List.replicate n v := by
  rw [pre_map]
  induction n with
  | zero => rfl
  | succ n ih => rw [List.range_succ, List.map_append, ih, List.replicate_succ']; rfl
theorem all_true (n : Nat) : (List.replicate n true).all id = true := by simp
theorem bls (n : Nat) : List.replicate n (V.bl true) = (List.replicate n true).map V.bl := by simp
end
/-! ### comprehensions whose items are new lists -/
section
variable {K : PySem.W.Frag} {H : Hp} {σ : L2.St} {te : TE} {vs : List Nat} {j : Nat} {Q : VK}
/-- lists that stand at the items of a list: what is at each place -/
def Hold (H : Hp) (acc : List V) (n : Nat) (ys : Nat → List V) : Prop := acc.length = n ∧ ∀ k, k < n → ∃ p, acc[k]? = some (.ref p) ∧ H p = some (.lst (ys k))
theorem Hold.mono {H H' : Hp} {acc : List V} {n : Nat} {ys : Nat → List V} (h : Hold H acc n ys) (s : Same H H') : Hold H' acc n ys :=
  ⟨h.1, fun k hk => let ⟨p, e, hp⟩ := h.2 k hk; ⟨p, e, s _ _ hp⟩⟩
theorem Hold.snoc {acc : List V} {n : Nat} {ys : Nat → List V} {p : Addr} (h : Hold H acc n ys) (hp : H p = some (.lst (ys n))) : Hold H (acc ++ [.ref p]) (n + 1) ys := by
  refine ⟨by rw [List.length_append, h.1]; rfl, fun k hk => ?_⟩
  by_cases c : k < n
  · obtain ⟨q, e, hq⟩ := h.2 k c
    exact ⟨q, by rw [List.getElem?_append_left (by rw [h.1]; exact c)]; exact e, hq⟩
  · have e : k = n := by omega
    subst e
    refine ⟨p, ?_, hp⟩
    rw [List.getElem?_append_right (by rw [h.1]; exact Nat.le_refl _), h.1, Nat.sub_self]
    rfl
theorem yes_go {σ : L2.St} {H : Hp} {f g : Hp → Prop} (h : f H) : tYes σ H (fun b H2 => if b = true then f H2 else g H2) := by
  show (if true = true then f H else g H)
  rw [if_pos rfl]
  exact h
def TurnN (te : TE) (σ : L2.St) (H : Hp) (ys : List V) : Prop := ∀ H1 (R : V → Hp → Prop), Same H H1 → (∀ p H2, H1 p = none → Same H1 H2 → H2 p = some (.lst ys) → R (.ref p) H2) → te σ H1 R
theorem lcN (J : It) (n : Nat) (xs : Nat → V) (ys : Nat → List V) (hn : n < 100000)
    (hgo : ∀ i H1, i < n → Same H H1 → J.go i H1) (hstop : ∀ H1, Same H H1 → J.stop n H1) (hyld : ∀ i H1 x H', i < n → Same H H1 → J.yld i H1 x H' → H' = H1 ∧ x = xs i)
    (hw : ∀ x, wipe ((wipe σ vs).set j (some x)) vs = wipe σ vs) (turn : ∀ i, i < n → TurnN te ((wipe σ vs).set j (some (xs i))) H (ys i))
    (fin : ∀ D acc H1, H D = none → Same H H1 → H1 D = some (.lst acc) → Hold (del D H1) acc n ys → Q (.ref D) H1) :
    ∀ D, H D = none → ∃ W : Nat → Nat → Hp → Prop, (∃ m, W 0 m (upd H D (.lst []))) ∧ ∀ i m H, W i m H →
      (J.stop i H ∧ Q (.ref D) H) ∨ (J.go i H ∧ ∃ Nx : Hp → Prop, (∀ H', Nx H' → ∃ m', m' < m ∧ W (i + 1) m' H') ∧ ∀ x H', J.yld i H x H' → gName j x (wipe σ vs) H' fun σ2 H2 => wipe σ2 vs = wipe σ vs ∧ tYes σ2 H2 fun b H3 =>
        if b = true then te σ2 H3 fun y H4 => ∃ acc, H4 D = some (.lst acc) ∧ acc.length < sizeLine ∧ Nx (upd H4 D (.lst (acc ++ [y]))) else Nx H3) := by
  intro D hD
  refine ⟨fun i m H1 => m = n - i ∧ i ≤ n ∧ Same H H1 ∧ ∃ acc, H1 D = some (.lst acc) ∧ Hold (del D H1) acc i ys, ⟨n, rfl, Nat.zero_le _, same_upd hD, [], upd_same, rfl, fun k hk => absurd hk (Nat.not_lt_zero k)⟩, ?_⟩
  rintro i m H1 ⟨rfl, hi, s1, acc, h1, hold⟩
  by_cases c : i < n
  · refine .inr ⟨hgo i H1 c s1, fun H2 => Same H H2 ∧ ∃ acc, H2 D = some (.lst acc) ∧ Hold (del D H2) acc (i + 1) ys, fun H2 h2 => ⟨n - (i + 1), by omega, rfl, c, h2.1, h2.2⟩, fun x H' hy => ?_⟩
    obtain ⟨rfl, rfl⟩ := hyld i H1 x H' c s1 hy
    refine ⟨hw _, ?_⟩
    refine yes_go ?_
    refine turn i c H' _ s1 (fun p H2 np s2 hp => ?_)
    refine ⟨acc, s2 D _ h1, szt (by rw [hold.1]; omega), same_put (s1.trans s2) hD, acc ++ [.ref p], upd_same, ?_⟩
    have ne : p ≠ D := fun e => by
      rw [e, h1] at np
      cases np
    have hdel : Same (del D H2) (del D (upd H2 D (.lst (acc ++ [.ref p])))) := keep_upd
    refine ((hold.mono (del_mono s2)).snoc ?_).mono hdel
    rw [del_ne ne]
    exact hp
  · have e : i = n := by omega
    subst e
    exact .inl ⟨hstop H1 s1, fin D acc H1 hD s1 h1 hold⟩
theorem cTN {tl : TE} {a : Addr} {xs : List V} (ys : Nat → List V) (htl : ∀ R : VK, R (.ref a) H → tl σ H R) (hx : SqT K H a xs) (hn : xs.length < 100000)
    (hw : ∀ x, wipe ((wipe σ vs).set j (some x)) vs = wipe σ vs) (turn : ∀ i x, xs[i]? = some x → TurnN te ((wipe σ vs).set j (some x)) H (ys i))
    (fin : ∀ D acc H1, H D = none → Same H H1 → H1 D = some (.lst acc) → Hold (del D H1) acc xs.length ys → Q (.ref D) H1) : tLc (iTup K tl) (gName j) tYes te vs σ H Q := by
  refine htl _ ⟨a, rfl, ⟨xs, hx⟩, ?_⟩
  refine lcN (Itt K a) xs.length (fun i => xs.getD i .non) ys hn (fun i H1 hi s => ?_) (fun H1 s => ?_) (fun i H1 x H' hi s hy => ?_) hw (fun i hi => ?_) fin
  · exact ⟨xs, xs[i], sqT_mono s hx, by simp [hi]⟩
  · exact ⟨xs, sqT_mono s hx, Nat.le_refl _⟩
  · obtain ⟨e, y⟩ := hy
    exact ⟨e, (getD_of (y xs (sqT_mono s hx))).symm⟩
  · have h : xs[i]? = some (xs.getD i .non) := by
      rw [List.getElem?_eq_getElem hi, List.getD_eq_getElem?_getD, List.getElem?_eq_getElem hi]
      rfl
    exact turn i _ h
end
/-! ### openers -/
section
variable {te ta : TE} {D : Ends} {σ : L2.St} {H : Hp} {Q : VK} {r : List V → Hp → VK → Prop} {i : Nat}
theorem g_ret (h : te σ H D.rt) : tRet te D σ H := h
theorem g_asg (h : te σ H fun x H1 => D.nx (σ.set i (some x)) H1) : tAsg te (gName i) D σ H := h
theorem g_cb (h : ta σ H fun x H1 => r [x] H1 Q) : tCB r (tCons ta tNil) σ H Q := h
theorem g_andV {tb : TE} (h : ta σ H fun x H1 => ∃ c, x = .bl c ∧ if c = true then tb σ H1 Q else Q (.bl false) H1) : tAndV ta tb σ H Q := h
theorem g_via {K : PySem.W.Frag} {d : PyData} (h : ∀ Q' : VK, (∀ vf H2, Same H H2 → Dp K H2 vf d → Q' vf H2) → te σ H Q') (rest : ∀ vf H2, Same H H2 → Dp K H2 vf d → Q vf H2) : te σ H Q := h Q rest
theorem g_arg {f : List V → Hp → Prop} (h : te σ H fun x H1 => f [x] H1) : tCons te tNil σ H f := h
theorem g_next (h : D.nx σ H) : tNext D σ H := h
theorem g_seq {t u : TS} (h : t { D with nx := u D } σ H) : tSeq t u D σ H := h
end
end K6

set_option linter.all false
set_option maxRecDepth 100000
namespace K6
open PySem
def rowS (l : List Nat) : Str := ⟨(l.map (97 + ·)).toArray⟩
def sgn (g : Nat) : Str := ⟨#[97 + g]⟩
theorem rowS_snoc (l : List Nat) (g : Nat) : rowS l ++ sgn g = rowS (l ++ [g]) := by
  show (⟨(l.map (97 + ·)).toArray ++ #[97 + g]⟩ : Str) = ⟨((l ++ [g]).map (97 + ·)).toArray⟩
  rw [List.map_append]
  simp
theorem rowS_app (l m : List Nat) : rowS l ++ rowS m = rowS (l ++ m) := by
  show (⟨(l.map (97 + ·)).toArray ++ (m.map (97 + ·)).toArray⟩ : Str) = ⟨((l ++ m).map (97 + ·)).toArray⟩
  rw [List.map_append]
  simp
theorem rowS_len (l : List Nat) : (rowS l).length = l.length := by
  show ((l.map (97 + ·)).toArray).size = _
  simp
theorem rowS_inj {l m : List Nat} (h : rowS l = rowS m) : l = m := by
  unfold rowS at h
  injection h with h
  have h2 := congrArg Array.toList h
  simp only [List.toList_toArray] at h2
  exact (List.map_inj_right (fun x y e => by omega)).mp h2
/-- the number of a row on a track -/
def num (t : Nat) : List Nat → Nat
  | [] => 0
  | k :: r => k / 2 ^ t % 2 + 2 * num t r
def nums (w : Nat) (l : List Nat) : List Nat := (List.range w).map fun t => num t l
def strip : List Nat → List Nat
  | [] => []
  | k :: r => if k = 0 ∧ strip r = [] then [] else k :: strip r
/-- the sign with these lowest figures -/
def sg (ns : List Nat) : Nat := ((List.range ns.length).map fun i => ns.getD i 0 % 2 * 2 ^ i).sum
def srt : Nat → List Nat → List Nat
  | 0, _ => []
  | f + 1, ns => if ∀ n ∈ ns, n = 0 then [] else sg ns :: srt f (ns.map (· / 2))
theorem num_zero (t : Nat) : ∀ m, num t (List.replicate m 0) = 0
  | 0 => rfl
  | m + 1 => by
    rw [List.replicate_succ]
    unfold num
    rw [num_zero t m]
    simp
theorem num_app (t m : Nat) : ∀ l : List Nat, num t (l ++ List.replicate m 0) = num t l
  | [] => by rw [List.nil_append, num_zero]; rfl
  | k :: r => by
    rw [List.cons_append]
    unfold num
    rw [num_app t m r]
theorem nums_app (w m : Nat) (l : List Nat) : nums w (l ++ List.replicate m 0) = nums w l := by
  unfold nums
  exact List.map_congr_left fun t _ => num_app t m l
theorem num_strip (t : Nat) : ∀ l : List Nat, num t (strip l) = num t l
  | [] => rfl
  | k :: r => by
    have ih := num_strip t r
    unfold strip
    by_cases c : k = 0 ∧ strip r = []
    · rw [if_pos c]
      obtain ⟨rfl, c2⟩ := c
      rw [c2] at ih
      have z : num t r = 0 := ih.symm
      show num t [] = 0 / 2 ^ t % 2 + 2 * num t r
      rw [z]
      simp [num]
    · rw [if_neg c]
      show k / 2 ^ t % 2 + 2 * num t (strip r) = k / 2 ^ t % 2 + 2 * num t r
      rw [ih]
theorem nums_strip (w : Nat) (l : List Nat) : nums w (strip l) = nums w l := by
  unfold nums
  exact List.map_congr_left fun t _ => num_strip t l
theorem num_lt (t : Nat) : ∀ l : List Nat, num t l < 2 ^ l.length
  | [] => by show 0 < 2 ^ 0; decide
  | k :: r => by
    have ih := num_lt t r
    have e : 2 ^ (k :: r).length = 2 * 2 ^ r.length := by rw [List.length_cons, Nat.pow_succ, Nat.mul_comm]
    rw [e]
    unfold num
    have : k / 2 ^ t % 2 < 2 := Nat.mod_lt _ (by decide)
    omega
theorem strip_len : ∀ l : List Nat, (strip l).length ≤ l.length
  | [] => Nat.le_refl _
  | k :: r => by
    have ih := strip_len r
    unfold strip
    split
    · exact Nat.zero_le _
    · rw [List.length_cons, List.length_cons]
      omega
theorem strip_mem : ∀ {l : List Nat} {x : Nat}, x ∈ strip l → x ∈ l
  | [], _, h => h
  | k :: r, x, h => by
    unfold strip at h
    split at h
    · simp at h
    · rcases List.mem_cons.mp h with h | h
      · exact List.mem_cons.mpr (.inl h)
      · exact List.mem_cons.mpr (.inr (strip_mem h))
/-- up to three numbers -/
theorem three {ns : List Nat} (h : ns.length ≤ 3) : ns = [] ∨ (∃ a, ns = [a]) ∨ (∃ a b, ns = [a, b]) ∨ ∃ a b c, ns = [a, b, c] := by
  match ns, h with
  | [], _ => exact .inl rfl
  | [a], _ => exact .inr (.inl ⟨a, rfl⟩)
  | [a, b], _ => exact .inr (.inr (.inl ⟨a, b, rfl⟩))
  | [a, b, c], _ => exact .inr (.inr (.inr ⟨a, b, c, rfl⟩))
  | _ :: _ :: _ :: _ :: _, h => simp at h
theorem sg1 (a : Nat) : sg [a] = a % 2 := by simp [sg, List.range_succ]
theorem sg2 (a b : Nat) : sg [a, b] = a % 2 + b % 2 * 2 := by simp [sg, List.range_succ]
theorem sg3 (a b c : Nat) : sg [a, b, c] = a % 2 + b % 2 * 2 + c % 2 * 4 := by simp [sg, List.range_succ]; omega
theorem sg_lt {ns : List Nat} (h : ns.length ≤ 3) : sg ns < 2 ^ ns.length := by
  rcases three h with rfl | ⟨a, rfl⟩ | ⟨a, b, rfl⟩ | ⟨a, b, c, rfl⟩
  · decide
  · rw [sg1]; show a % 2 < 2 ^ 1; omega
  · rw [sg2]; show a % 2 + b % 2 * 2 < 2 ^ 2; omega
  · rw [sg3]; show a % 2 + b % 2 * 2 + c % 2 * 4 < 2 ^ 3; omega
theorem sg_bit {ns : List Nat} (h : ns.length ≤ 3) {t : Nat} (ht : t < ns.length) : sg ns / 2 ^ t % 2 = ns[t] % 2 := by
  rcases three h with rfl | ⟨a, rfl⟩ | ⟨a, b, rfl⟩ | ⟨a, b, c, rfl⟩
  · simp at ht
  · rw [sg1]
    match t, ht with
    | 0, _ => show a % 2 / 1 % 2 = a % 2; omega
  · rw [sg2]
    match t, ht with
    | 0, _ => show (a % 2 + b % 2 * 2) / 1 % 2 = a % 2; omega
    | 1, _ => show (a % 2 + b % 2 * 2) / 2 % 2 = b % 2; omega
  · rw [sg3]
    match t, ht with
    | 0, _ => show (a % 2 + b % 2 * 2 + c % 2 * 4) / 1 % 2 = a % 2; omega
    | 1, _ => show (a % 2 + b % 2 * 2 + c % 2 * 4) / 2 % 2 = b % 2; omega
    | 2, _ => show (a % 2 + b % 2 * 2 + c % 2 * 4) / 4 % 2 = c % 2; omega
theorem num_srt : ∀ (f : Nat) (ns : List Nat), ns.length ≤ 3 → (∀ n ∈ ns, n < 2 ^ f) → ∀ t (ht : t < ns.length), num t (srt f ns) = ns[t]
  | 0, ns, _, h, t, ht => by
    have := h ns[t] (List.getElem_mem ht)
    show 0 = ns[t]
    simp at this
    exact this.symm
  | f + 1, ns, h3, h, t, ht => by
    unfold srt
    by_cases c : ∀ n ∈ ns, n = 0
    · rw [if_pos c]
      exact (c ns[t] (List.getElem_mem ht)).symm
    · rw [if_neg c]
      have ih := num_srt f (ns.map (· / 2)) (by rw [List.length_map]; exact h3) (fun n hn => by
        obtain ⟨m, hm, rfl⟩ := List.mem_map.mp hn
        have := h m hm
        rw [Nat.pow_succ] at this
        omega) t (by rw [List.length_map]; exact ht)
      show sg ns / 2 ^ t % 2 + 2 * num t (srt f (ns.map (· / 2))) = ns[t]
      rw [ih, sg_bit h3 ht, List.getElem_map]
      omega
theorem nums_srt {f : Nat} {ns : List Nat} (h3 : ns.length ≤ 3) (h : ∀ n ∈ ns, n < 2 ^ f) : nums ns.length (srt f ns) = ns := by
  unfold nums
  apply List.ext_getElem
  · simp
  · intro i h1 h2
    simp only [List.getElem_map, List.getElem_range]
    exact num_srt f ns h3 h i h2
theorem srt_len : ∀ (f : Nat) (ns : List Nat), (srt f ns).length ≤ f
  | 0, _ => Nat.le_refl _
  | f + 1, ns => by
    unfold srt
    split
    · exact Nat.zero_le _
    · rw [List.length_cons]
      have := srt_len f (ns.map (· / 2))
      omega
theorem srt_lt : ∀ (f : Nat) (ns : List Nat), ns.length ≤ 3 → ∀ k ∈ srt f ns, k < 2 ^ ns.length
  | 0, _, _, k, h => by simp [srt] at h
  | f + 1, ns, h3, k, h => by
    unfold srt at h
    split at h
    · simp at h
    · rcases List.mem_cons.mp h with rfl | h
      · exact sg_lt h3
      · have := srt_lt f (ns.map (· / 2)) (by rw [List.length_map]; exact h3) k h
        rw [List.length_map] at this
        exact this
theorem srt_nil {f : Nat} {ns : List Nat} (h : ∀ n ∈ ns, n < 2 ^ f) (e : srt f ns = []) : ∀ n ∈ ns, n = 0 := by
  cases f with
  | zero =>
    intro n hn
    have := h n hn
    simp at this
    exact this
  | succ f =>
    unfold srt at e
    split at e
    · assumption
    · cases e
theorem srt_zero {f : Nat} {ns : List Nat} (h : ∀ n ∈ ns, n = 0) : srt f ns = [] := by
  cases f with
  | zero => rfl
  | succ f => unfold srt; rw [if_pos h]
theorem half_lt {f : Nat} {ns : List Nat} (h : ∀ n ∈ ns, n < 2 ^ (f + 1)) : ∀ n ∈ ns.map (· / 2), n < 2 ^ f := by
  intro n hn
  obtain ⟨m, hm, rfl⟩ := List.mem_map.mp hn
  have := h m hm
  rw [Nat.pow_succ] at this
  omega
theorem sg_zero {ns : List Nat} (h3 : ns.length ≤ 3) (h : ∀ n ∈ ns, n < 2) (e : sg ns = 0) : ∀ n ∈ ns, n = 0 := by
  intro n hn
  obtain ⟨t, ht, rfl⟩ := List.getElem_of_mem hn
  have := sg_bit h3 ht
  rw [e] at this
  have b := h ns[t] (List.getElem_mem ht)
  simp at this
  omega
/-- a shortest row does not end with 0 -/
theorem srt_last : ∀ (f : Nat) (ns : List Nat), ns.length ≤ 3 → (∀ n ∈ ns, n < 2 ^ f) → (srt f ns).getLast? ≠ some 0
  | 0, _, _, _ => by simp [srt]
  | f + 1, ns, h3, h => by
    unfold srt
    by_cases c : ∀ n ∈ ns, n = 0
    · rw [if_pos c]
      simp
    · rw [if_neg c]
      have hh := half_lt h
      have ih := srt_last f (ns.map (· / 2)) (by rw [List.length_map]; exact h3) hh
      by_cases e : srt f (ns.map (· / 2)) = []
      · rw [e]
        have z := srt_nil hh e
        intro w
        have w : some (sg ns) = some 0 := w
        refine c (sg_zero h3 (fun n hn => ?_) (Option.some.inj w))
        have := z (n / 2) (List.mem_map.mpr ⟨n, hn, rfl⟩)
        omega
      · obtain ⟨x, r, er⟩ := List.exists_cons_of_ne_nil e
        rw [er] at ih ⊢
        rw [List.getLast?_cons_cons]
        exact ih
theorem nums_zero {w : Nat} {l : List Nat} (e : strip l = []) : ∀ n ∈ nums w l, n = 0 := by
  intro n hn
  obtain ⟨t, _, rfl⟩ := List.mem_map.mp hn
  rw [← num_strip t l, e]
  rfl
theorem bits_zero {w k : Nat} (hw : w ≤ 3) (hk : k < 2 ^ w) (h : ∀ t, t < w → k / 2 ^ t % 2 = 0) : k = 0 := by
  match w, hw with
  | 0, _ => simp at hk; exact hk
  | 1, _ => have := h 0 (by decide); simp at this hk; omega
  | 2, _ => have a := h 0 (by decide); have b := h 1 (by decide); simp at a b hk; omega
  | 3, _ => have a := h 0 (by decide); have b := h 1 (by decide); have c := h 2 (by decide); simp at a b c hk; omega
theorem sg_nums {w k : Nat} (hw : w ≤ 3) (hk : k < 2 ^ w) (r : List Nat) : sg (nums w (k :: r)) = k := by
  match w, hw with
  | 0, _ => simp at hk; subst hk; rfl
  | 1, _ =>
    show sg [num 0 (k :: r)] = k
    rw [sg1]
    simp [num] at hk ⊢
    omega
  | 2, _ =>
    show sg [num 0 (k :: r), num 1 (k :: r)] = k
    rw [sg2]
    simp [num] at hk ⊢
    omega
  | 3, _ =>
    show sg [num 0 (k :: r), num 1 (k :: r), num 2 (k :: r)] = k
    rw [sg3]
    simp [num] at hk ⊢
    omega
theorem half_nums (w k : Nat) (r : List Nat) : (nums w (k :: r)).map (· / 2) = nums w r := by
  unfold nums
  rw [List.map_map]
  refine List.map_congr_left fun t _ => ?_
  show (k / 2 ^ t % 2 + 2 * num t r) / 2 = num t r
  have : k / 2 ^ t % 2 < 2 := Nat.mod_lt _ (by decide)
  omega
theorem srt_nums {w : Nat} (hw : w ≤ 3) : ∀ (f : Nat) (l : List Nat), (∀ k ∈ l, k < 2 ^ w) → l.length ≤ f → srt f (nums w l) = strip l
  | f, [], _, _ => srt_zero (nums_zero rfl)
  | 0, k :: r, _, h => by simp at h
  | f + 1, k :: r, hl, h => by
    have hk := hl k (List.mem_cons_self ..)
    have hr : ∀ x ∈ r, x < 2 ^ w := fun x hx => hl x (List.mem_cons_of_mem _ hx)
    have hf : r.length ≤ f := by rw [List.length_cons] at h; omega
    have ih := srt_nums hw f r hr hf
    unfold srt
    by_cases c : k = 0 ∧ strip r = []
    · have e : strip (k :: r) = [] := by unfold strip; rw [if_pos c]
      rw [if_pos (nums_zero e), e]
    · have e : strip (k :: r) = k :: strip r := by
        show (if k = 0 ∧ strip r = [] then [] else k :: strip r) = _
        rw [if_neg c]
      have nz : ¬ ∀ n ∈ nums w (k :: r), n = 0 := by
        intro z
        apply c
        have zt : ∀ t, t < w → k / 2 ^ t % 2 = 0 ∧ num t r = 0 := by
          intro t ht
          have := z (num t (k :: r)) (List.mem_map.mpr ⟨t, List.mem_range.mpr ht, rfl⟩)
          unfold num at this
          omega
        refine ⟨bits_zero hw hk fun t ht => (zt t ht).1, ?_⟩
        rw [← ih]
        refine srt_zero fun n hn => ?_
        obtain ⟨t, ht, rfl⟩ := List.mem_map.mp hn
        exact (zt t (List.mem_range.mp ht)).2
      rw [if_neg nz, e, sg_nums hw hk, half_nums, ih]
/-! ### the shortest row, sign by sign -/
def mx (ns : List Nat) : Nat := ns.foldr max 0
theorem mx_le : ∀ {ns : List Nat} {n : Nat}, n ∈ ns → n ≤ mx ns
  | m :: r, n, h => by
    show n ≤ max m (mx r)
    rcases List.mem_cons.mp h with rfl | h
    · exact Nat.le_max_left _ _
    · exact Nat.le_trans (mx_le h) (Nat.le_max_right _ _)
theorem mx_half : ∀ ns : List Nat, mx (ns.map (· / 2)) = mx ns / 2
  | [] => rfl
  | n :: r => by
    show max (n / 2) (mx (r.map (· / 2))) = max n (mx r) / 2
    rw [mx_half r]
    omega
theorem mx_zero {ns : List Nat} : (∀ n ∈ ns, n = 0) ↔ mx ns = 0 := by
  constructor
  · intro h
    induction ns with
    | nil => rfl
    | cons n r ih =>
      show max n (mx r) = 0
      rw [h n (List.mem_cons_self ..), ih fun m hm => h m (List.mem_cons_of_mem _ hm)]
      rfl
  · intro h n hn
    have := mx_le hn
    omega
theorem mx_mem : ∀ {ns : List Nat}, ns ≠ [] → mx ns ∈ ns
  | [], h => absurd rfl h
  | [n], _ => by show max n 0 ∈ _; simp
  | n :: m :: r, _ => by
    have ih := mx_mem (ns := m :: r) (by simp)
    show max n (mx (m :: r)) ∈ _
    by_cases c : n ≤ mx (m :: r)
    · rw [Nat.max_eq_right c]
      exact List.mem_cons_of_mem _ ih
    · rw [Nat.max_eq_left (by omega)]
      exact List.mem_cons_self ..
def bits (n : Nat) : Nat := if n = 0 then 0 else n.log2 + 1
theorem bits_half {n : Nat} (h : n ≠ 0) : bits n = bits (n / 2) + 1 := by
  unfold bits
  rw [if_neg h]
  by_cases c : n / 2 = 0
  · have : n = 1 := by omega
    subst this
    rw [if_pos c]
    decide
  · rw [if_neg c, Nat.log2_def n, if_pos (by omega)]
theorem shift (ns : List Nat) (p : Nat) : (ns.map (· / 2)).map (· / 2 ^ p) = ns.map (· / 2 ^ (p + 1)) := by
  rw [List.map_map]
  refine List.map_congr_left fun n _ => ?_
  show n / 2 / 2 ^ p = n / 2 ^ (p + 1)
  rw [Nat.div_div_eq_div_mul, Nat.pow_succ, Nat.mul_comm]
theorem srt_range : ∀ (f : Nat) (ns : List Nat), (∀ n ∈ ns, n < 2 ^ f) → srt f ns = (List.range (bits (mx ns))).map fun p => sg (ns.map (· / 2 ^ p))
  | 0, ns, h => by
    have z : mx ns = 0 := mx_zero.mp fun n hn => by have := h n hn; simp at this; exact this
    rw [z]
    rfl
  | f + 1, ns, h => by
    unfold srt
    by_cases c : ∀ n ∈ ns, n = 0
    · rw [if_pos c, mx_zero.mp c]
      rfl
    · rw [if_neg c, srt_range f _ (half_lt h), mx_half, bits_half (fun e => c (mx_zero.mpr e)), List.range_succ_eq_map, List.map_cons, List.map_map]
      congr 1
      · congr 1
        simp
      · refine List.map_congr_left fun p _ => ?_
        show sg ((ns.map (· / 2)).map (· / 2 ^ p)) = sg (ns.map (· / 2 ^ (p + 1)))
        rw [shift]
/-! ### texts -/
theorem filterMap_all {α β : Type} {f : α → Option β} {g : α → β} : ∀ {l : List α}, (∀ x ∈ l, f x = some (g x)) → l.filterMap f = l.map g
  | [], _ => rfl
  | x :: r, h => by
    rw [List.filterMap_cons, h x (List.mem_cons_self ..), List.map_cons, filterMap_all fun y hy => h y (List.mem_cons_of_mem _ hy)]
theorem rev_row (l : List Nat) {u : Tok} : Txt.sliceBy (rowS l) none none (-1, u) = rowS l.reverse := by
  unfold Txt.sliceBy slicePicked Builtin.Str.strSliceIndices
  rw [if_neg (by simp)]
  simp only [Option.map_none, Option.map_some, Option.getD_some]
  rw [show (if (-1 : Int) > 0 then (0 : Int) else ((rowS l).length : Int) - 1) = ((rowS l).length : Int) - 1 from if_neg (by decide), show (if (-1 : Int) > 0 then ((rowS l).length : Int) else -1) = -1 from if_neg (by decide), rowS_len]
  unfold sliceRange
  have ec : (if (-1 : Int) > 0 then (if ((l.length : Int) - 1) < -1 then (-1 - ((l.length : Int) - 1) + -1 - 1) / -1 else 0) else (if ((l.length : Int) - 1) > -1 then ((l.length : Int) - 1 - -1 - -1 - 1) / (- -1) else 0)) = (l.length : Int) := by
    rw [if_neg (by decide)]
    split
    · have : (- -1 : Int) = 1 := by decide
      rw [this, Int.ediv_one]
      omega
    · omega
  simp only [ec, Int.toNat_natCast]
  have e2 : (List.map (fun (k : Nat) => ((l.length : Int) - 1 + -1 * (k : Int)).toNat) (List.range l.length)).filterMap ((rowS l).cps[·]?) = l.reverse.map (97 + ·) := by
    rw [List.filterMap_map]
    rw [filterMap_all (g := fun k => (l.reverse.map (97 + ·)).getD k 0) fun k hk => ?_]
    · apply List.ext_getElem
      · simp
      · intro i h1 h2
        simp at h1 h2
        simp [List.getD_eq_getElem?_getD, h2]
    · have hk := List.mem_range.mp hk
      show ((l.map (97 + ·)).toArray)[(((l.length : Int) - 1) + -1 * (k : Int)).toNat]? = _
      rw [show (((l.length : Int) - 1) + -1 * (k : Int)).toNat = l.length - 1 - k by omega]
      rw [List.getElem?_toArray, List.getElem?_map, List.getD_eq_getElem?_getD, List.getElem?_map, List.getElem?_reverse hk, List.getElem?_eq_getElem (show l.length - 1 - k < l.length by omega)]
      rfl
  show (⟨(List.filterMap ((rowS l).cps[·]?) _).toArray⟩ : Str) = ⟨(l.reverse.map (97 + ·)).toArray⟩
  rw [e2]
theorem mul_a (n : Nat) : Txt.mul ("a" : Str) (n : Int) = rowS (List.replicate n 0) := by
  unfold Txt.mul
  by_cases h : (n : Int) < 1
  · rw [if_pos h, show n = 0 by omega]
    rfl
  · rw [if_neg h]
    have fl : ∀ (m : Nat) (acc : Array Nat), (List.replicate m (("a" : Str).cps)).foldl (· ++ ·) acc = acc ++ (List.replicate m 97).toArray := by
      intro m
      induction m with
      | zero => intro acc; simp
      | succ m ih =>
        intro acc
        rw [List.replicate_succ, List.foldl_cons, ih]
        have : ("a" : Str).cps = #[97] := rfl
        rw [this]
        apply Array.ext'
        simp [List.replicate_succ]
    by_cases c : ((n : Int) == 1 || ("a" : Str).length == 0) = true
    · rw [if_pos c]
      have : n = 1 := by
        have c : ((n : Int) == 1 || false) = true := c
        rw [Bool.or_false] at c
        have := eq_of_beq c
        omega
      subst this
      rfl
    · rw [if_neg c, Int.toNat_natCast, fl]
      unfold rowS
      simp
theorem glue_rows : ∀ (ls : List (List Nat)) (acc : List Nat), (ls.map rowS).foldl (fun a p => a ++ (("" : Str)).cps ++ p.cps) (acc.map (97 + ·)).toArray = ((acc ++ ls.flatten).map (97 + ·)).toArray
  | [], acc => by simp
  | l :: ls, acc => by
    rw [List.map_cons, List.foldl_cons]
    have e : ((acc.map (97 + ·)).toArray ++ (("" : Str)).cps ++ (rowS l).cps) = ((acc ++ l).map (97 + ·)).toArray := by
      have : (("" : Str)).cps = #[] := rfl
      rw [this]
      unfold rowS
      simp
    rw [e, glue_rows ls (acc ++ l), List.flatten_cons, List.append_assoc]
theorem join_rows (ls : List (List Nat)) : Txt.join ("" : Str) (ls.map rowS) = rowS ls.flatten := by
  unfold Txt.join Builtin.Str.glued
  cases ls with
  | nil => rfl
  | cons l r =>
    rw [List.map_cons, List.drop_one, List.tail_cons, List.headD_cons]
    show (⟨(r.map rowS).foldl (fun acc p => acc ++ (("" : Str)).cps ++ p.cps) (l.map (97 + ·)).toArray⟩ : Str) = _
    rw [glue_rows r l]
    rfl
theorem join_signs (l : List Nat) : Txt.join ("" : Str) (l.map sgn) = rowS l := by
  have := join_rows (l.map fun g => [g])
  rw [List.map_map] at this
  have e : (l.map fun g => [g]).flatten = l := by induction l with
    | nil => rfl
    | cons a r ih => rw [List.map_cons, List.flatten_cons, ih (by rw [← List.map_map]; exact join_rows _)]; rfl
  rw [e] at this
  exact this
/-- behind the last sign that is no a -/
theorem strip_rev (l : List Nat) : strip l = (l.reverse.dropWhile (· == 0)).reverse := by
  induction l with
  | nil => rfl
  | cons k r ih =>
    unfold strip
    rw [List.reverse_cons, List.dropWhile_append]
    by_cases c : strip r = []
    · have e : (r.reverse.dropWhile (· == 0)) = [] := by
        rw [c] at ih
        exact List.reverse_eq_nil_iff.mp ih.symm
      rw [e]
      by_cases k0 : k = 0
      · rw [if_pos ⟨k0, c⟩]
        simp [k0]
      · rw [if_neg fun z => k0 z.1]
        simp [k0, c]
    · have e : (r.reverse.dropWhile (· == 0)) ≠ [] := fun z => c (by rw [ih, z]; rfl)
      rw [if_neg fun z => c z.2, ih]
      have e2 : (List.dropWhile (fun x => x == 0) r.reverse).isEmpty = false := by
        cases h : (List.dropWhile (fun x => x == 0) r.reverse) with
        | nil => exact absurd h e
        | cons _ _ => rfl
      rw [e2]
      simp
theorem rstrip_row (l : List Nat) : Txt.rstripChars (rowS l) ("a" : Str) = rowS (strip l) := by
  unfold Txt.rstripChars Txt.stripBy
  have hlo : stripLo (("a" : Str).cps.contains) false (rowS l) = 0 := rfl
  have tw : ∀ m : List Nat, ((m.map (97 + ·)).takeWhile (("a" : Str).cps.contains)).length = (m.takeWhile (· == 0)).length := by
    intro m
    induction m with
    | nil => rfl
    | cons k r ih =>
      rw [List.map_cons, List.takeWhile_cons, List.takeWhile_cons]
      have : (("a" : Str).cps.contains (97 + k)) = (k == 0) := by
        show (#[97] : Array Nat).contains (97 + k) = _
        by_cases e : k = 0
        · subst e; simp
        · rw [beq_eq_false_iff_ne.mpr e]
          simp [e]
      rw [this]
      split
      · rw [List.length_cons, List.length_cons, ih]
      · rfl
  have hhi : stripHi (("a" : Str).cps.contains) true (rowS l) 0 = l.length - (l.reverse.takeWhile (· == 0)).length := by
    unfold stripHi
    rw [if_pos rfl, rowS_len, List.drop_zero]
    unfold rowS
    rw [List.toList_toArray, ← List.map_reverse, tw]
  have el : l.length - (l.reverse.takeWhile (· == 0)).length = (strip l).length := by
    rw [strip_rev, List.length_reverse]
    have := congrArg List.length (List.takeWhile_append_dropWhile (p := (· == 0)) (l := l.reverse))
    rw [List.length_append, List.length_reverse] at this
    omega
  have pf : strip l = l.take (strip l).length := by
    have h1 : (strip l).reverse = l.reverse.dropWhile (· == 0) := by rw [strip_rev, List.reverse_reverse]
    have h2 : l = strip l ++ (l.reverse.takeWhile (· == 0)).reverse := by
      have := List.takeWhile_append_dropWhile (p := (· == 0)) (l := l.reverse)
      have := congrArg List.reverse this
      rw [List.reverse_append, List.reverse_reverse] at this
      rw [strip_rev]
      exact this.symm
    have h3 : l.take (strip l).length = (strip l ++ (l.reverse.takeWhile (· == 0)).reverse).take (strip l).length := by rw [← h2]
    rw [h3, List.take_left]
  by_cases c : stripSame (("a" : Str).cps.contains) false true (rowS l) = true
  · rw [if_pos c]
    unfold stripSame at c
    rw [hlo, hhi, el, rowS_len] at c
    have c2 : (strip l).length = l.length := by
      have := (Bool.and_eq_true_iff.mp c).2
      exact eq_of_beq this
    rw [c2, List.take_length] at pf
    rw [pf]
  · rw [if_neg c]
    unfold stripped
    rw [hlo, hhi, el]
    unfold Builtin.Str.strSub rowS
    rw [pf]
    congr 1
    apply Array.ext'
    simp
theorem strip_last : ∀ l : List Nat, (strip l).getLast? ≠ some 0 := by
  intro l
  rw [strip_rev, List.getLast?_reverse]
  intro h
  have := List.head?_dropWhile_not (p := (· == 0)) (l := l.reverse)
  rw [h] at this
  simp at this
end K6

set_option Elab.async false
set_option linter.all false
set_option maxRecDepth 100000
set_option maxHeartbeats 4000000
namespace K6
open PySem PySem.Spec PyProof.Rows L2 Rw
variable {P : Program} {w : World} {K : PySem.W.Frag} {mg : Str → Option Value} {base : Heap} {A : Ad} {fd : Fds}
def spIsInt : Sp := fun vs H Q _ => ∃ i : Int, vs = [.int i] ∧ Q (.bl true) H
theorem ok_is_integer (T : Txt K mg A) (U : Funs K A fd) : FnOk P w K mg base CX0 1 A.is_integer fd.is_integer p_is_integer (spIsInt) := by
  refine U.F_is_integer.ok sc_is_integer (fun vs H Q E h => ?_) (fun cdv A0 outer s H vs Q E hr h => ?_)
  · obtain ⟨i, rfl, _⟩ := h
    rfl
  · have hu := hu_of hr
    obtain ⟨i, rfl, q⟩ := h
    refine ⟨_, (pss_one (ps_ret (pe_and (pe_callB (w_isi (K := K)) (by rfl) T.b_isinstance (by decide +kernel) (pa_cons (pv 0) (pa_cons (pe_bltn (v := .ty "int") (u := .type "int") (by rfl) T.b_int (by decide +kernel) rfl) pa_nil))) (pe_one (pe_not (pe_callB (w_isi (K := K)) (by rfl) T.b_isinstance (by decide +kernel) (pa_cons (pv 0) (pa_cons (pe_bltn (v := .ty "bool") (u := .type "bool") (by rfl) T.b_bool (by decide +kernel) rfl) pa_nil)))))))), ?_⟩
    refine ⟨_, rfl, .int i, .ty "int", .type "int", .type "int", true, rfl, .ty _, .base (.int i), kit_ty (by decide +kernel), true, rfl, ?_⟩
    refine iteT ?_
    refine ⟨_, rfl, .int i, .ty "bool", .type "int", .type "bool", false, rfl, .ty _, .base (.int i), kit_ty (by decide +kernel), false, rfl, ?_⟩
    exact q
def spBetween : Sp := fun vs H Q _ => ∃ i lo hi : Int, vs = [.int i, .int lo, .int hi] ∧ Q (.bl (decide (lo ≤ i) && decide (i ≤ hi))) H
theorem ok_is_between (T : Txt K mg A) (U : Funs K A fd) : FnOk P w K mg base CX0 4 A.is_between fd.is_between p_is_between (spBetween) := by
  have G_is_integer := ok_is_integer (P := P) (w := w) (base := base) T U
  have b_is_integer := U.b_is_integer
  refine U.F_is_between.ok sc_is_between (fun vs H Q E h => ?_) (fun cdv A0 outer s H vs Q E hr h => ?_)
  · obtain ⟨i, lo, hi, rfl, _⟩ := h
    rfl
  · have hu := hu_of hr
    obtain ⟨i, lo, hi, rfl, q⟩ := h
    refine ⟨_, (pss_one (ps_ret (pe_and (pe_call G_is_integer (hr.mono (by decide)) (by rfl) T.m_is_integer T.k_is_integer b_is_integer .nil pass0 (pa_cons (pv 0) pa_nil)) (pe_one (pe_chain op_le op_le (pv 1) (pv 0) (pv 2)))))), ?_⟩
    refine ⟨_, rfl, i, rfl, true, rfl, ?_⟩
    refine iteT ?_
    refine ⟨_, rfl, _, rfl, lo, i, rfl, rfl, _, rfl, ?_⟩
    by_cases c : lo ≤ i
    · rw [decide_eq_true c] at q ⊢
      refine iteT ?_
      exact ⟨_, rfl, i, hi, rfl, rfl, q⟩
    · rw [decide_eq_false c] at q ⊢
      exact iteF q
theorem rowS_get {l : List Nat} {i : Nat} (h : i < l.length) : (rowS l).cps.toList[i]? = some (97 + l[i]) := by
  unfold rowS
  simp [h]
/-- each less than the next -/
def Asc (ns : List Int) : Prop := ∀ (i : Nat) (x y : Int), ns[i]? = some x → ns[i + 1]? = some y → x < y
def AscS (l : List Nat) : Prop := ∀ (i : Nat) (x y : Nat), l[i]? = some x → l[i + 1]? = some y → x < y
def spAsc (K : PySem.W.Frag) : Sp := fun vs H Q _ => (∃ (v : V) (ns : List Int), vs = [v] ∧ Dp K H v (.tuple (ns.map .int)) ∧ ns.length ≤ 1000 ∧ Asc ns ∧ ∀ H', Same H H' → Q (.bl true) H') ∨
  ∃ l : List Nat, vs = [.str (rowS l)] ∧ l.length ≤ 8 ∧ AscS l ∧ ∀ H', Same H H' → Q (.bl true) H'
theorem ok_is_ascending (T : Txt K mg A) (U : Funs K A fd) : FnOk P w K mg base CX0 1 A.is_ascending fd.is_ascending p_is_ascending (spAsc K) := by
  refine U.F_is_ascending.ok sc_is_ascending (fun vs H Q E h => ?_) (fun cdv A0 outer s H vs Q E hr h => ?_)
  · rcases h with ⟨v, ns, rfl, _⟩ | ⟨l, rfl, _⟩ <;> rfl
  · have hu := hu_of hr
    obtain h := h
    refine ⟨_, (pss_one (ps_ret (pe_callB (w_all (K := K) rfl) (by rfl) T.b_all (by decide +kernel) (pa_cons (pe_lc (own := [("at", 1)]) (g := gName 1) (tt := tYes) (by rfl) sc_is_ascending.nd (pi_range1 (by rfl) T.b_range (pa_cons (pe_op op_sub (pe_callB (w_len (K := K)) (by rfl) T.b_len (by decide +kernel) (pa_cons (pv 0) pa_nil)) pe_int) pa_nil)) (blkOk_by (own := [("at", 1)]) (by rfl)) (fun _ _ _ _ _ => (pg_name (i := 1) sc_is_ascending.nd rfl (Or.inl rfl))) (fun _ _ _ _ _ => pts_nil) (fun _ _ _ _ _ => (pe_cmpR (op_lt.or op_lt_str) (pe_ix (w_ixA (K := K)) (pv 0) (pv 1) (fun _ _ => rfl)) (pe_ix (w_ixA (K := K)) (pv 0) (pe_op op_add (pv 1) pe_int) (fun _ _ => rfl)) (nomark _)))) pa_nil)))), ?_⟩
    rcases h with ⟨v, ns, rfl, hd, hl, asc, q⟩ | ⟨l, rfl, hl, asc, q⟩
    · obtain ⟨a, xs, rfl, hx, hds⟩ := dp_tup hd
      obtain rfl := dps_ints hds
      refine g_ret (g_cb (cR (n := ns.length - 1) (m := (ns.length : Int) - 1) (fun _ => [.bl true]) (by omega) (by omega) (fun R r => ?_) (fun _ => Nat.le_refl 1) (by omega) (fun _ => rfl) (fun i hi => turn_yes fun H1 R s1 r => ?_) (fun D H1 _ s1 h1 => ?_)))
      · exact ⟨_, rfl, _, _, rfl, .inr ⟨_, hx, rfl⟩, _, 1, by rw [List.length_map], rfl, r⟩
      · have h1 : i < ns.length := by omega
        have h2 : i + 1 < ns.length := by omega
        have e1 : (ns.map V.int)[i]? = some (.int ns[i]) := by simp [h1]
        have e2 : (ns.map V.int)[i + 1]? = some (.int ns[i + 1]) := by simp [h2]
        have lt := asc i ns[i] ns[i + 1] (List.getElem?_eq_getElem h1) (List.getElem?_eq_getElem h2)
        refine ⟨_, rfl, _, rfl, .inr (.inl ⟨_, _, _, _, rfl, rfl, sqT_mono s1 hx, atI_nat e1, _, rfl, _, rfl, _, _, rfl, rfl, .inr (.inl ⟨_, _, _, _, rfl, rfl, sqT_mono s1 hx, atI_nat (j := i + 1) e2, .inl ⟨_, _, rfl, rfl, ?_⟩⟩)⟩)⟩
        show R (.bl (decide (ns[i] < ns[i + 1]))) H1
        rw [decide_eq_true lt]
        exact r H1 (Same.refl _)
      · rw [replicate_pre] at h1
        refine ⟨D, List.replicate (ns.length - 1) true, rfl, lst_of (by rw [← bls]; exact h1), ?_⟩
        rw [all_true]
        exact q H1 s1
    · refine g_ret (g_cb (cR (n := l.length - 1) (m := (l.length : Int) - 1) (fun _ => [.bl true]) (by omega) (by omega) (fun R r => ?_) (fun _ => Nat.le_refl 1) (by omega) (fun _ => rfl) (fun i hi => turn_yes fun H1 R s1 r => ?_) (fun D H1 _ s1 h1 => ?_)))
      · exact ⟨_, rfl, _, _, rfl, ⟨szl (by rw [rowS_len]; omega), rfl⟩, _, 1, by rw [rowS_len], rfl, r⟩
      · have h1 : i < l.length := by omega
        have h2 : i + 1 < l.length := by omega
        have lt := asc i l[i] l[i + 1] (List.getElem?_eq_getElem h1) (List.getElem?_eq_getElem h2)
        refine ⟨_, rfl, _, rfl, .inr (.inr ⟨_, _, _, rfl, rfl, szl (by rw [rowS_len]; omega), atI_nat (rowS_get h1), _, rfl, _, rfl, _, _, rfl, rfl, .inr (.inr ⟨_, _, _, rfl, rfl, szl (by rw [rowS_len]; omega), atI_nat (j := i + 1) (rowS_get h2), .inr ⟨_, _, rfl, rfl, ?_⟩⟩)⟩)⟩
        show R (.bl (decide ([97 + l[i]] < [97 + l[i + 1]]))) H1
        rw [decide_eq_true (List.cons_lt_cons_iff.mpr (.inl (by omega)))]
        exact r H1 (Same.refl _)
      · rw [replicate_pre] at h1
        refine ⟨D, List.replicate (l.length - 1) true, rfl, lst_of (by rw [← bls]; exact h1), ?_⟩
        rw [all_true]
        exact q H1 s1
theorem tupTy {H : Hp} {a : Addr} {xs : List V} (h : SqT K H a xs) : TyX K H (.ref a) (.type "tuple") := by
  rcases h with (h | ⟨o, h⟩) | h
  · exact .base (.tup h)
  · exact .fTuple h
  · obtain ⟨o, vs, n, h1, h2, _⟩ := h
    exact .kTuple h1 h2
def spGoals (K : PySem.W.Frag) : Sp := fun vs H Q _ => ∃ (v : V) (row : List (Option Nat)) (n : Nat), vs = [v, .int (row.length : Int), .int (n : Int)] ∧ Dp K H v (.tuple (row.map dO)) ∧ row.length ≤ 8 ∧
  (∀ g, some g ∈ row → g < n) ∧ ∀ H', Same H H' → Q (.bl true) H'
theorem ok_is_goals (T : Txt K mg A) (U : Funs K A fd) : FnOk P w K mg base CX0 7 A.is_goals fd.is_goals p_is_goals (spGoals K) := by
  have G_is_between := ok_is_between (P := P) (w := w) (base := base) T U
  have b_is_between := U.b_is_between
  refine U.F_is_goals.ok sc_is_goals (fun vs H Q E h => ?_) (fun cdv A0 outer s H vs Q E hr h => ?_)
  · obtain ⟨v, row, n, rfl, _⟩ := h
    rfl
  · have hu := hu_of hr
    obtain ⟨v, row, n, rfl, hd, hl, lt, q⟩ := h
    refine ⟨_, (pss_cons (ps_if (PW.pt (pw_or (pt_not (pt_val (pe_callB (w_isi (K := K)) (by rfl) T.b_isinstance (by decide +kernel) (pa_cons (pv 0) (pa_cons (pe_bltn (v := .ty "tuple") (u := .type "tuple") (by rfl) T.b_tuple (by decide +kernel) rfl) pa_nil))))) (pw_or1 (pt_cmpR op_ne (pe_callB (w_len (K := K)) (by rfl) T.b_len (by decide +kernel) (pa_cons (pv 0) pa_nil)) (pv 1) (nomark _))))) (pss_one (ps_ret pe_bl)) pss_nil)
       (pss_one (ps_ret (pe_callB (w_all (K := K) rfl) (by rfl) T.b_all (by decide +kernel) (pa_cons (pe_lc (own := [("goal", 3)]) (g := gName 3) (tt := tYes) (by rfl) sc_is_goals.nd (w_piT (K := K) (pv 0)) (blkOk_by (own := [("goal", 3)]) (by rfl)) (fun _ _ _ _ _ => (pg_name (i := 3) sc_is_goals.nd rfl (Or.inl rfl))) (fun _ _ _ _ _ => pts_nil) (fun _ _ _ _ _ => (pe_or (pe_cmpR op_isN (pv 3) pe_non (nomark _)) (pe_one (pe_call G_is_between (hr.mono (by decide)) (by rfl) T.m_is_between T.k_is_between b_is_between .nil pass0 (pa_cons (pv 3) (pa_cons pe_int (pa_cons (pe_op op_sub (pv 2) pe_int) pa_nil)))))))) pa_nil))))), ?_⟩
    obtain ⟨a, xs, rfl, hx, hds⟩ := dp_tup hd
    obtain rfl := dps_opts hds
    have hz : (row.map vO).length < 100000 := by rw [List.length_map]; omega
    -- if not isinstance(value, tuple) or len(value) != signs
    refine ⟨_, rfl, _, _, _, .type "tuple", true, rfl, .ty _, tupTy hx, kit_ty (by decide +kernel), true, rfl, ?_⟩
    refine iteF ?_
    refine ⟨_, rfl, _, _, rfl, .inr ⟨_, hx, rfl⟩, _, rfl, rfl, _, rfl, ?_⟩
    rw [List.length_map, decide_eq_true rfl]
    refine iteF (g_next ?_)
    dsimp only
    refine g_ret (g_cb (cT (xs := row.map vO) (fun _ => [.bl true]) (fun R r => ?_) hx (fun _ => Nat.le_refl 1) hz ?_ (fun i x hi => turn_yes fun H1 R s1 r => ?_) (fun D H1 _ s1 h1 => ?_)))
    · exact ⟨_, rfl, r⟩
    · exact fun _ => rfl
    · rw [List.getElem?_map] at hi
      cases e : row[i]? with
      | none => rw [e] at hi; cases hi
      | some o =>
        rw [e] at hi
        obtain rfl := Option.some.inj hi
        cases o with
        | none =>
          refine ⟨_, rfl, rfl, true, rfl, ?_⟩
          exact iteT (r H1 (Same.refl _))
        | some g =>
          have hg : g < n := lt g (List.mem_of_getElem? e)
          refine ⟨_, rfl, rfl, false, rfl, ?_⟩
          refine iteF ?_
          refine ⟨_, rfl, _, rfl, _, _, rfl, rfl, _, _, _, rfl, ?_⟩
          rw [decide_eq_true (show (0 : Int) ≤ (g : Int) by omega), decide_eq_true (show (g : Int) ≤ (n : Int) - 1 by omega)]
          exact r H1 (Same.refl _)
    · rw [replicate_pre] at h1
      refine ⟨D, List.replicate (row.map vO).length true, rfl, lst_of (by rw [← bls]; exact h1), ?_⟩
      rw [all_true]
      exact q H1 s1
def spStands (K : PySem.W.Frag) : Sp := fun vs H Q _ => ∃ (v : V) (ns : List Nat) (n : Nat), vs = [v, .int (n : Int)] ∧ Dp K H v (.tuple (ns.map fun (k : Nat) => .int (k : Int))) ∧ ns.length ≤ 1000 ∧ Asc (ns.map Int.ofNat) ∧
  (∀ g ∈ ns, g < n) ∧ ∀ H', Same H H' → Q (.bl true) H'
theorem nats_int (ns : List Nat) : (ns.map fun (k : Nat) => PyData.int (k : Int)) = (ns.map Int.ofNat).map PyData.int := by
  rw [List.map_map]
  rfl
theorem ok_is_stands (T : Txt K mg A) (U : Funs K A fd) : FnOk P w K mg base CX0 7 A.is_stands fd.is_stands p_is_stands (spStands K) := by
  have G_is_ascending := ok_is_ascending (P := P) (w := w) (base := base) T U
  have b_is_ascending := U.b_is_ascending
  have G_is_between := ok_is_between (P := P) (w := w) (base := base) T U
  have b_is_between := U.b_is_between
  refine U.F_is_stands.ok sc_is_stands (fun vs H Q E h => ?_) (fun cdv A0 outer s H vs Q E hr h => ?_)
  · obtain ⟨v, ns, n, rfl, _⟩ := h
    rfl
  · have hu := hu_of hr
    obtain ⟨v, ns, n, rfl, hd, hl, asc, lt, q⟩ := h
    refine ⟨_, (pss_cons (ps_if (pt_not (pt_val (pe_callB (w_isi (K := K)) (by rfl) T.b_isinstance (by decide +kernel) (pa_cons (pv 0) (pa_cons (pe_bltn (v := .ty "tuple") (u := .type "tuple") (by rfl) T.b_tuple (by decide +kernel) rfl) pa_nil))))) (pss_one (ps_ret pe_bl)) pss_nil)
       (pss_one (ps_ret (pe_and (pe_callB (w_all (K := K) rfl) (by rfl) T.b_all (by decide +kernel) (pa_cons (pe_lc (own := [("stand", 2)]) (g := gName 2) (tt := tYes) (by rfl) sc_is_stands.nd (w_piT (K := K) (pv 0)) (blkOk_by (own := [("stand", 2)]) (by rfl)) (fun _ _ _ _ _ => (pg_name (i := 2) sc_is_stands.nd rfl (Or.inl rfl))) (fun _ _ _ _ _ => pts_nil) (fun _ _ _ _ _ => (pe_call G_is_between (hr.mono (by decide)) (by rfl) T.m_is_between T.k_is_between b_is_between .nil pass0 (pa_cons (pv 2) (pa_cons pe_int (pa_cons (pe_op op_sub (pv 1) pe_int) pa_nil)))))) pa_nil)) (pe_one (pe_call G_is_ascending (hr.mono (by decide)) (by rfl) T.m_is_ascending T.k_is_ascending b_is_ascending .nil pass0 (pa_cons (pv 0) pa_nil))))))), ?_⟩
    have hd0 := hd
    rw [nats_int] at hd
    obtain ⟨a, xs, rfl, hx, hds⟩ := dp_tup hd
    obtain rfl := dps_ints hds
    have hz : ((ns.map Int.ofNat).map V.int).length < 100000 := by rw [List.length_map, List.length_map]; omega
    refine ⟨_, rfl, _, _, _, .type "tuple", true, rfl, .ty _, tupTy hx, kit_ty (by decide +kernel), true, rfl, ?_⟩
    refine iteF (g_next ?_)
    dsimp only
    refine g_ret (g_andV (g_cb (cT (xs := (ns.map Int.ofNat).map V.int) (fun _ => [.bl true]) (fun R r => ?_) hx (fun _ => Nat.le_refl 1) hz ?_ (fun i x hi => turn_yes fun H1 R s1 r => ?_) (fun D H1 _ s1 h1 => ?_))))
    · exact ⟨_, rfl, r⟩
    · exact fun _ => rfl
    · rw [List.map_map, List.getElem?_map] at hi
      cases e : ns[i]? with
      | none => rw [e] at hi; cases hi
      | some g =>
        rw [e] at hi
        obtain rfl := Option.some.inj hi
        have hg : g < n := lt g (List.mem_of_getElem? e)
        refine ⟨_, rfl, _, rfl, _, _, rfl, rfl, _, _, _, rfl, ?_⟩
        show R (.bl (decide ((0 : Int) ≤ (g : Int)) && decide ((g : Int) ≤ (n : Int) - 1))) H1
        rw [decide_eq_true (show (0 : Int) ≤ (g : Int) by omega), decide_eq_true (show (g : Int) ≤ (n : Int) - 1 by omega)]
        exact r H1 (Same.refl _)
    · rw [replicate_pre] at h1
      refine ⟨D, List.replicate ((ns.map Int.ofNat).map V.int).length true, rfl, lst_of (by rw [← bls]; exact h1), ?_⟩
      rw [all_true]
      refine ⟨true, rfl, ?_⟩
      refine iteT ?_
      exact ⟨_, rfl, .inl ⟨_, ns.map Int.ofNat, rfl, dp_mono s1 _ _ hd, by rw [List.length_map]; exact hl, asc, fun H2 s2 => q H2 (s1.trans s2)⟩⟩
def dRow (r : List (Option Nat)) : PyData := .tuple (r.map dO)
def dTab (t : List (List (Option Nat))) : PyData := .tuple (t.map dRow)
def dNats (ns : List Nat) : PyData := .tuple (ns.map fun (k : Nat) => .int (k : Int))
/-- arrows of so many signs -/
structure GoodT (w : Nat) (tab : List (List (Option Nat))) : Prop where
  w8 : w ≤ 8
  n1 : 1 ≤ tab.length
  n2 : tab.length ≤ 200
  rows : ∀ row ∈ tab, row.length = w ∧ ∀ g, some g ∈ row → g < tab.length
theorem row_in {H : Hp} {tab : List (List (Option Nat))} {xs : List V} {i : Nat} {x : V} (h : DpAll K H xs (tab.map dRow)) (hi : xs[i]? = some x) : ∃ row, tab[i]? = some row ∧ Dp K H x (dRow row) := by
  obtain ⟨d, hd, hx⟩ := dps_getV h hi
  rw [List.getElem?_map] at hd
  cases e : tab[i]? with
  | none => rw [e] at hd; cases hd
  | some row =>
    rw [e] at hd
    obtain rfl := Option.some.inj hd
    exact ⟨row, rfl, hx⟩
def spArrows (K : PySem.W.Frag) : Sp := fun vs H Q _ => ∃ (v : V) (tab : List (List (Option Nat))) (w : Nat), vs = [v, .int (w : Int)] ∧ Dp K H v (dTab tab) ∧ GoodT w tab ∧ ∀ H', Same H H' → Q (.bl true) H'
theorem ok_is_arrows (T : Txt K mg A) (U : Funs K A fd) : FnOk P w K mg base CX0 10 A.is_arrows fd.is_arrows p_is_arrows (spArrows K) := by
  have G_is_goals := ok_is_goals (P := P) (w := w) (base := base) T U
  have b_is_goals := U.b_is_goals
  refine U.F_is_arrows.ok sc_is_arrows (fun vs H Q E h => ?_) (fun cdv A0 outer s H vs Q E hr h => ?_)
  · obtain ⟨v, tab, n, rfl, _⟩ := h
    rfl
  · have hu := hu_of hr
    obtain ⟨v, tab, n, rfl, hd, g, q⟩ := h
    refine ⟨_, (pss_cons (ps_if (PW.pt (pw_or (pt_not (pt_val (pe_callB (w_isi (K := K)) (by rfl) T.b_isinstance (by decide +kernel) (pa_cons (pv 0) (pa_cons (pe_bltn (v := .ty "tuple") (u := .type "tuple") (by rfl) T.b_tuple (by decide +kernel) rfl) pa_nil))))) (pw_or1 (pt_not (pt_chain op_le op_le pe_int (pe_callB (w_len (K := K)) (by rfl) T.b_len (by decide +kernel) (pa_cons (pv 0) pa_nil)) (pe_glob (v := .int 200) (by rfl) T.c_MOST_STANDS.choose_spec ⟨_, rfl⟩)))))) (pss_one (ps_ret pe_bl)) pss_nil)
       (pss_one (ps_ret (pe_callB (w_all (K := K) rfl) (by rfl) T.b_all (by decide +kernel) (pa_cons (pe_lc (own := [("goals", 2)]) (g := gName 2) (tt := tYes) (by rfl) sc_is_arrows.nd (w_piT (K := K) (pv 0)) (blkOk_by (own := [("goals", 2)]) (by rfl)) (fun _ _ _ _ _ => (pg_name (i := 2) sc_is_arrows.nd rfl (Or.inl rfl))) (fun _ _ _ _ _ => pts_nil) (fun _ _ _ _ _ => (pe_call G_is_goals (hr.mono (by decide)) (by rfl) T.m_is_goals T.k_is_goals b_is_goals .nil pass0 (pa_cons (pv 2) (pa_cons (pv 1) (pa_cons (pe_callB (w_len (K := K)) (by rfl) T.b_len (by decide +kernel) (pa_cons (pv 0) pa_nil)) pa_nil)))))) pa_nil))))), ?_⟩
    obtain ⟨a, xs, rfl, hx, hds⟩ := dp_tup hd
    have hl : xs.length = tab.length := by rw [dps_len hds, List.length_map]
    have n1 := g.n1
    have n2 := g.n2
    refine ⟨_, rfl, _, _, _, .type "tuple", true, rfl, .ty _, tupTy hx, kit_ty (by decide +kernel), true, rfl, ?_⟩
    refine iteF ?_
    refine ⟨_, rfl, _, _, rfl, .inr ⟨_, hx, rfl⟩, _, _, rfl, rfl, _, rfl, ?_⟩
    rw [decide_eq_true (show (1 : Int) ≤ (xs.length : Int) by omega)]
    refine iteT ?_
    refine ⟨_, _, rfl, rfl, _, rfl, ?_⟩
    rw [decide_eq_true (show (xs.length : Int) ≤ 200 by omega)]
    refine iteF (g_next ?_)
    dsimp only
    refine g_ret (g_cb (cT (xs := xs) (fun _ => [.bl true]) (fun R r => ?_) hx (fun _ => Nat.le_refl 1) (by omega) ?_ (fun i x hi => turn_yes fun H1 R s1 r => ?_) (fun D H1 _ s1 h1 => ?_)))
    · exact ⟨_, rfl, r⟩
    · exact fun _ => rfl
    · obtain ⟨row, hr1, hr2⟩ := row_in hds hi
      obtain ⟨hw, hg⟩ := g.rows row (List.mem_of_getElem? hr1)
      refine ⟨_, rfl, _, rfl, _, rfl, _, _, rfl, .inr ⟨_, sqT_mono s1 hx, rfl⟩, ?_⟩
      refine ⟨x, row, tab.length, by rw [hw, hl] <;> rfl, dp_mono s1 _ _ hr2, by rw [hw]; exact g.w8, hg, r⟩
    · rw [replicate_pre] at h1
      refine ⟨D, List.replicate xs.length true, rfl, lst_of (by rw [← bls]; exact h1), ?_⟩
      rw [all_true]
      exact q H1 s1
def spSigns : Sp := fun vs H Q _ => ∃ i : Int, vs = [.int i] ∧ 1 ≤ i ∧ i ≤ 8 ∧ Q .non H
theorem ok_check_signs (T : Txt K mg A) (U : Funs K A fd) : FnOk P w K mg base CX0 7 A.check_signs fd.check_signs p_check_signs (spSigns) := by
  have G_is_between := ok_is_between (P := P) (w := w) (base := base) T U
  have b_is_between := U.b_is_between
  refine U.F_check_signs.ok sc_check_signs (fun vs H Q E h => ?_) (fun cdv A0 outer s H vs Q E hr h => ?_)
  · obtain ⟨i, rfl, _⟩ := h
    rfl
  · have hu := hu_of hr
    obtain ⟨i, rfl, h1, h2, q⟩ := h
    refine ⟨_, (pss_one (ps_if (pt_not (pt_val (pe_call G_is_between (hr.mono (by decide)) (by rfl) T.m_is_between T.k_is_between b_is_between .nil pass0 (pa_cons (pv 0) (pa_cons pe_int (pa_cons (pe_glob (v := .int 8) (by rfl) T.c_MOST_SIGNS.choose_spec ⟨_, rfl⟩) pa_nil)))))) (pss_one ps_never) pss_nil)), ?_⟩
    refine ⟨_, rfl, _, _, _, rfl, ?_⟩
    rw [decide_eq_true h1, decide_eq_true h2]
    exact ⟨_, rfl, iteF q⟩
end K6


set_option Elab.async false
set_option linter.all false
set_option maxRecDepth 100000
set_option maxHeartbeats 4000000
namespace K6
open PySem PySem.Spec PyProof.Rows L2 Rw
variable {P : Program} {w : World} {K : PySem.W.Frag} {mg : Str → Option Value} {base : Heap} {A : Ad} {fd : Fds}
/-! ### readers -/
theorem ks1 : ¬ (("_signs" : Str) = "_arrows") := by decide +kernel
theorem ks2 : ¬ (("_signs" : Str) = "_ends") := by decide +kernel
theorem ks3 : ¬ (("_arrows" : Str) = "_ends") := by decide +kernel
def flds (w : Nat) (a e : Addr) : List (Str × V) := putF "_ends" (.ref e) (putF "_arrows" (.ref a) (putF "_signs" (.int (w : Int)) []))
theorem flds_signs (w : Nat) (a e : Addr) : (flds w a e).lookup ("_signs" : Str) = some (.int (w : Int)) := by
  unfold flds
  rw [lookup_putF, if_neg ks2, lookup_putF, if_neg ks1, lookup_putF, if_pos rfl]
theorem flds_arrows (w : Nat) (a e : Addr) : (flds w a e).lookup ("_arrows" : Str) = some (.ref a) := by
  unfold flds
  rw [lookup_putF, if_neg ks3, lookup_putF, if_pos rfl]
theorem flds_ends (w : Nat) (a e : Addr) : (flds w a e).lookup ("_ends" : Str) = some (.ref e) := by
  unfold flds
  rw [lookup_putF, if_pos rfl]
structure RdAt (K : PySem.W.Frag) (C : Addr) (H : Hp) (p : Addr) (w : Nat) (tab : List (List (Option Nat))) (ends : List Nat) : Prop where
  ob : ∃ dx a e, H p = some (.ins C dx (flds w a e)) ∧ Dp K H (.ref a) (dTab tab) ∧ Dp K H (.ref e) (dNats ends)
theorem RdAt.mono {H H' : Hp} {C p : Addr} {w : Nat} {tab : List (List (Option Nat))} {ends : List Nat} (h : RdAt K C H p w tab ends) (s : Same H H') : RdAt K C H' p w tab ends := by
  obtain ⟨dx, a, e, h1, h2, h3⟩ := h.ob
  exact ⟨dx, a, e, s _ _ h1, dp_mono s _ _ h2, dp_mono s _ _ h3⟩
/-- ends of so many stands -/
structure GoodE (n : Nat) (ends : List Nat) : Prop where
  asc : Asc (ends.map Int.ofNat)
  lt : ∀ g ∈ ends, g < n
  len : ends.length ≤ 1000
def spInit (K : PySem.W.Frag) (C : Addr) : Sp := fun vs H Q _ => ∃ (p dx : Addr) (a e : Addr) (w : Nat) (tab : List (List (Option Nat))) (ends : List Nat), vs = [.ref p, .int (w : Int), .ref a, .ref e] ∧ H p = some (.ins C dx []) ∧
  Dp K H (.ref a) (dTab tab) ∧ Dp K H (.ref e) (dNats ends) ∧ 1 ≤ w ∧ GoodT w tab ∧ GoodE tab.length ends ∧
  ∀ H', (∀ b o, H b = some o → b ≠ p → H' b = some o) → H' p = some (.ins C dx (flds w a e)) → Q .non H'
theorem ok_Reader_init (T : Txt K mg A) (U : Funs K A fd) : FnOk P w K mg base CX0 13 A.Reader_init fd.Reader_init p_Reader_init (spInit K A.C) := by
  have G_is_stands := ok_is_stands (P := P) (w := w) (base := base) T U
  have b_is_stands := U.b_is_stands
  have G_is_arrows := ok_is_arrows (P := P) (w := w) (base := base) T U
  have b_is_arrows := U.b_is_arrows
  have G_check_signs := ok_check_signs (P := P) (w := w) (base := base) T U
  have b_check_signs := U.b_check_signs
  refine U.F_Reader_init.ok sc_Reader_init (fun vs H Q E h => ?_) (fun cdv A0 outer s H vs Q E hr h => ?_)
  · obtain ⟨p, dx, a, e, n, tab, ends, rfl, _⟩ := h
    rfl
  · have hu := hu_of hr
    obtain ⟨p, dx, a, e, n, tab, ends, rfl, hp, ha, he, n1, gt, ge, q⟩ := h
    refine ⟨_, (pss_cons (ps_expr (pe_call G_check_signs (hr.mono (by decide)) (by rfl) T.m_check_signs T.k_check_signs b_check_signs .nil pass0 (pa_cons (pv 1) pa_nil)))
       (pss_cons (ps_if (pt_not (pt_val (pe_call G_is_arrows (hr.mono (by decide)) (by rfl) T.m_is_arrows T.k_is_arrows b_is_arrows .nil pass0 (pa_cons (pv 2) (pa_cons (pv 1) pa_nil))))) (pss_one ps_never) pss_nil)
       (pss_cons (ps_if (pt_not (pt_val (pe_call G_is_stands (hr.mono (by decide)) (by rfl) T.m_is_stands T.k_is_stands b_is_stands .nil pass0 (pa_cons (pv 3) (pa_cons (pe_callB (w_len (K := K)) (by rfl) T.b_len (by decide +kernel) (pa_cons (pv 2) pa_nil)) pa_nil))))) (pss_one ps_never) pss_nil)
       (pss_cons (ps_fld (pv 0) (pv 1) rfl)
       (pss_cons (ps_fld (pv 0) (pv 2) rfl)
       (pss_one (ps_fld (pv 0) (pv 3) rfl))))))), ?_⟩
    refine ⟨_, rfl, _, rfl, by omega, by have := gt.w8; omega, ?_⟩
    refine ⟨_, rfl, _, rfl, _, tab, n, rfl, ha, gt, fun H1 s1 => ?_⟩
    refine ⟨_, rfl, iteF (g_next ?_)⟩
    obtain ⟨xa, xs, e1, hx, hds⟩ := dp_tup (dp_mono s1 _ _ ha)
    obtain rfl := V.ref.inj e1
    have hl : xs.length = tab.length := by rw [dps_len hds, List.length_map]
    refine ⟨_, rfl, _, rfl, _, _, rfl, .inr ⟨_, hx, rfl⟩, _, ends, tab.length, by rw [hl] <;> rfl, dp_mono s1 _ _ he, ge.len, ge.asc, ge.lt, fun H2 s2 => ?_⟩
    refine ⟨_, rfl, iteF (g_next ?_)⟩
    have hp2 := s2 _ _ (s1 _ _ hp)
    refine ⟨_, rfl, _, rfl, p, A.C, dx, _, rfl, hp2, T.cl, T.na_signs, (by show 0 < 1000; decide), ?_⟩
    refine ⟨_, rfl, _, rfl, p, A.C, dx, _, rfl, upd_same, T.cl, T.na_arrows, (by show 1 < 1000; decide), ?_⟩
    refine ⟨_, rfl, _, rfl, p, A.C, dx, _, rfl, upd_same, T.cl, T.na_ends, (by
      show (putF "_arrows" _ (putF "_signs" _ [])).length < 1000
      have : ∀ (x y : V), (putF "_arrows" x (putF "_signs" y [])).length = 2 := fun x y => by
        show (if ("_signs" : Str) = "_arrows" then _ else (("_signs" : Str), y) :: putF "_arrows" x []).length = 2
        rw [if_neg ks1]
        rfl
      rw [this]
      decide), ?_⟩
    refine q _ (fun b o hb hne => ?_) upd_same
    rw [upd_ne hne, upd_ne hne, upd_ne hne]
    exact s2 _ _ (s1 _ _ hb)
def spGet (C : Addr) (f : Str) : Sp := fun vs H Q _ => ∃ a dx fs v, vs = [.ref a] ∧ H a = some (.ins C dx fs) ∧ fs.lookup f = some v ∧ Q v H
theorem ok_Reader_signs (T : Txt K mg A) (U : Funs K A fd) : FnOk P w K mg base CX0 1 A.Reader_signs fd.Reader_signs p_Reader_signs (spGet A.C "_signs") := by
  refine U.F_Reader_signs.ok sc_Reader_signs (fun vs H Q E h => ?_) (fun cdv A0 outer s H vs Q E hr h => ?_)
  · obtain ⟨a, dx, fs, v, rfl, _⟩ := h
    rfl
  · have hu := hu_of hr
    obtain ⟨a, dx, fs, v, rfl, ea, l, q⟩ := h
    refine ⟨_, (pss_one (ps_ret (pe_fld (pv 0) rfl))), ?_⟩
    exact ⟨_, rfl, a, A.C, dx, fs, v, rfl, ea, T.cl, T.na_signs, l, q⟩
theorem ok_Reader_arrows (T : Txt K mg A) (U : Funs K A fd) : FnOk P w K mg base CX0 1 A.Reader_arrows fd.Reader_arrows p_Reader_arrows (spGet A.C "_arrows") := by
  refine U.F_Reader_arrows.ok sc_Reader_arrows (fun vs H Q E h => ?_) (fun cdv A0 outer s H vs Q E hr h => ?_)
  · obtain ⟨a, dx, fs, v, rfl, _⟩ := h
    rfl
  · have hu := hu_of hr
    obtain ⟨a, dx, fs, v, rfl, ea, l, q⟩ := h
    refine ⟨_, (pss_one (ps_ret (pe_fld (pv 0) rfl))), ?_⟩
    exact ⟨_, rfl, a, A.C, dx, fs, v, rfl, ea, T.cl, T.na_arrows, l, q⟩
theorem ok_Reader_ends (T : Txt K mg A) (U : Funs K A fd) : FnOk P w K mg base CX0 1 A.Reader_ends fd.Reader_ends p_Reader_ends (spGet A.C "_ends") := by
  refine U.F_Reader_ends.ok sc_Reader_ends (fun vs H Q E h => ?_) (fun cdv A0 outer s H vs Q E hr h => ?_)
  · obtain ⟨a, dx, fs, v, rfl, _⟩ := h
    rfl
  · have hu := hu_of hr
    obtain ⟨a, dx, fs, v, rfl, ea, l, q⟩ := h
    refine ⟨_, (pss_one (ps_ret (pe_fld (pv 0) rfl))), ?_⟩
    exact ⟨_, rfl, a, A.C, dx, fs, v, rfl, ea, T.cl, T.na_ends, l, q⟩
def spRd (K : PySem.W.Frag) (C : Addr) (f : Nat → List (List (Option Nat)) → List Nat → V) : Sp := fun vs H Q _ => ∃ p w tab ends, vs = [.ref p] ∧ RdAt K C H p w tab ends ∧ Q (f w tab ends) H
theorem ok_Reader_len (T : Txt K mg A) (U : Funs K A fd) : FnOk P w K mg base CX0 1 A.Reader_len fd.Reader_len p_Reader_len (spRd K A.C (fun _ tab _ => .int (tab.length : Int))) := by
  refine U.F_Reader_len.ok sc_Reader_len (fun vs H Q E h => ?_) (fun cdv A0 outer s H vs Q E hr h => ?_)
  · obtain ⟨p, n, tab, ends, rfl, _⟩ := h
    rfl
  · have hu := hu_of hr
    obtain ⟨p, n, tab, ends, rfl, R, q⟩ := h
    refine ⟨_, (pss_one (ps_ret (pe_callB (w_len (K := K)) (by rfl) T.b_len (by decide +kernel) (pa_cons (pe_fld (pv 0) rfl) pa_nil)))), ?_⟩
    obtain ⟨dx, a, e, h1, h2, h3⟩ := R.ob
    obtain ⟨xa, xs, e1, hx, hds⟩ := dp_tup h2
    obtain rfl := V.ref.inj e1
    have hl : xs.length = tab.length := by rw [dps_len hds, List.length_map]
    refine ⟨_, rfl, p, A.C, dx, _, _, rfl, h1, T.cl, T.na_arrows, flds_arrows _ _ _, _, tab.length, rfl, .inr ⟨_, hx, hl.symm⟩, q⟩
theorem insTy (T : Txt K mg A) {H : Hp} {p dx : Addr} {fs : List (Str × V)} (h : H p = some (.ins A.C dx fs)) : TyX K H (.ref p) (.ref A.C) := .base (.ins h T.cl T.t_ha T.t_hn T.t_tk T.t_mo)
theorem kit_self (a : Addr) : PySem.W.kitOne K (.ref a) (.ref a) = some true := by
  unfold PySem.W.kitOne
  simp
theorem ok_check_reader (T : Txt K mg A) (U : Funs K A fd) : FnOk P w K mg base CX0 1 A.check_reader fd.check_reader p_check_reader (spRd K A.C (fun _ _ _ => .non)) := by
  refine U.F_check_reader.ok sc_check_reader (fun vs H Q E h => ?_) (fun cdv A0 outer s H vs Q E hr h => ?_)
  · obtain ⟨p, n, tab, ends, rfl, _⟩ := h
    rfl
  · have hu := hu_of hr
    obtain ⟨p, n, tab, ends, rfl, R, q⟩ := h
    refine ⟨_, (pss_one (ps_if (pt_not (pt_val (pe_callB (w_isi (K := K)) (by rfl) T.b_isinstance (by decide +kernel) (pa_cons (pv 0) (pa_cons (pe_glob (v := .ref A.C) (by rfl) T.m_Reader rfl) pa_nil))))) (pss_one ps_never) pss_nil)), ?_⟩
    obtain ⟨dx, a, e, h1, h2, h3⟩ := R.ob
    exact ⟨_, rfl, .ref p, .ref A.C, .ref A.C, .ref A.C, true, rfl, .own _, insTy T h1, kit_self _, true, rfl, iteF (g_next q)⟩
end K6


set_option linter.all false
set_option maxRecDepth 100000
namespace K6
/-! ### going back from the ends, turn by turn -/
abbrev Gs := Nat → List (Option Nat)
def inB (F : Nat → Bool) : Option Nat → Bool
  | some g => F g
  | none => false
def hasSome (F : Nat → Bool) (gs : List (Option Nat)) : Bool := gs.any (inB F)
def hasAll (F : Nat → Bool) (gs : List (Option Nat)) : Bool := gs.all (inB F)
abbrev Ch := (Nat → Bool) → List (Option Nat) → Bool
/-- who has come so far in so many turns: with the first one's turn, with the second one's -/
def AB (ch : Ch) (G1 G2 : Gs) (E : List Nat) : Nat → (Nat → Bool) × (Nat → Bool)
  | 0 => (fun s => decide (s ∈ E), fun s => decide (s ∈ E))
  | k + 1 => (fun s => (AB ch G1 G2 E k).1 s || ch (AB ch G1 G2 E k).2 (G1 s), fun s => (AB ch G1 G2 E k).2 s || hasAll (AB ch G1 G2 E k).1 (G2 s))
/-- the least number up to c with P -/
def lk (P : Nat → Bool) : Nat → Option Nat
  | 0 => if P 0 = true then some 0 else none
  | c + 1 => match lk P c with
    | some r => some r
    | none => if P (c + 1) = true then some (c + 1) else none
theorem lk_some {P : Nat → Bool} : ∀ {c r : Nat}, lk P c = some r ↔ r ≤ c ∧ P r = true ∧ ∀ j, j < r → P j = false
  | 0, r => by
    unfold lk
    by_cases h : P 0 = true
    · rw [if_pos h]
      constructor
      · intro e
        obtain rfl := Option.some.inj e
        exact ⟨Nat.le_refl _, h, fun j hj => by omega⟩
      · rintro ⟨h1, _, _⟩
        rw [Nat.le_zero.mp h1]
    · rw [if_neg h]
      constructor
      · intro e; cases e
      · rintro ⟨h1, h2, _⟩
        rw [Nat.le_zero.mp h1] at h2
        exact absurd h2 h
  | c + 1, r => by
    have ih := @lk_some P c
    unfold lk
    cases e : lk P c with
    | some q =>
      have hq := (ih (r := q)).mp e
      constructor
      · intro z
        obtain rfl := Option.some.inj z
        exact ⟨by omega, hq.2⟩
      · rintro ⟨h1, h2, h3⟩
        show some q = some r
        congr 1
        rcases Nat.lt_trichotomy q r with h | h | h
        · rw [h3 q h] at hq
          exact absurd hq.2.1 (by simp)
        · exact h
        · rw [hq.2.2 r h] at h2
          cases h2
    | none =>
      have no : ∀ j, j ≤ c → P j = false := by
        intro j hj
        induction j using Nat.strongRecOn with
        | ind j ihj =>
          cases hp : P j with
          | false => rfl
          | true =>
            have := (ih (r := j)).mpr ⟨hj, hp, fun i hi => ihj i hi (by omega)⟩
            rw [e] at this
            cases this
      show (if P (c + 1) = true then some (c + 1) else none) = some r ↔ _
      by_cases h : P (c + 1) = true
      · rw [if_pos h]
        constructor
        · intro z
          obtain rfl := Option.some.inj z
          exact ⟨Nat.le_refl _, h, fun j hj => no j (by omega)⟩
        · rintro ⟨h1, h2, h3⟩
          congr 1
          by_cases c2 : r ≤ c
          · rw [no r c2] at h2; cases h2
          · omega
      · rw [if_neg h]
        constructor
        · intro z; cases z
        · rintro ⟨h1, h2, _⟩
          by_cases c2 : r ≤ c
          · rw [no r c2] at h2; cases h2
          · have : r = c + 1 := by omega
            rw [this] at h2
            exact absurd h2 h
theorem lk_none {P : Nat → Bool} {c : Nat} : lk P c = none ↔ ∀ j, j ≤ c → P j = false := by
  constructor
  · intro h j hj
    induction j using Nat.strongRecOn with
    | ind j ihj =>
      cases hp : P j with
      | false => rfl
      | true =>
        have := (lk_some (c := c) (r := j)).mpr ⟨hj, hp, fun i hi => ihj i hi (by omega)⟩
        rw [h] at this
        cases this
  · intro h
    cases e : lk P c with
    | none => rfl
    | some r =>
      have := lk_some.mp e
      rw [h r this.1] at this
      exact absurd this.2.1 (by simp)
/-- growing -/
def Up (P : Nat → Bool) : Prop := ∀ k, P k = true → P (k + 1) = true
theorem Up.le {P : Nat → Bool} (u : Up P) {j k : Nat} (h : j ≤ k) (p : P j = true) : P k = true := by
  induction h with
  | refl => exact p
  | step _ ih => exact u _ ih
theorem lk_is {P : Nat → Bool} (u : Up P) {c : Nat} : (lk P c).isSome = P c := by
  cases e : lk P c with
  | none => rw [lk_none.mp e c (Nat.le_refl _)]; rfl
  | some r =>
    have := lk_some.mp e
    rw [u.le this.1 this.2.1]
    rfl
theorem lk_step {P : Nat → Bool} {c : Nat} (u : Up P) : lk P (c + 1) = if (lk P c).isNone = true ∧ P (c + 1) = true then some (c + 1) else lk P c := by
  show (match lk P c with | some r => some r | none => if P (c + 1) = true then some (c + 1) else none) = _
  cases lk P c with
  | some r => simp
  | none => simp
theorem lk_const {P : Nat → Bool} {c d : Nat} (h : c ≤ d) (st : ∀ k, c ≤ k → k < d → P (k + 1) = true → P k = true) : lk P d = lk P c := by
  induction h with
  | refl => rfl
  | @step m h ih =>
    have ih := ih fun k hk hm => st k hk (by omega)
    show (match lk P m with | some r => some r | none => if P (m + 1) = true then some (m + 1) else none) = _
    rw [ih]
    cases e : lk P c with
    | some r => rfl
    | none =>
      show (if P (m + 1) = true then some (m + 1) else none) = none
      rw [if_neg]
      intro z
      have pm := st m h (Nat.lt_succ_self m) z
      rw [ih.symm] at e
      rw [lk_none.mp e m (Nat.le_refl _)] at pm
      cases pm
section
variable {ch : Ch} {G1 G2 : Gs} {E : List Nat}
def aP (ch : Ch) (G1 G2 : Gs) (E : List Nat) (s : Nat) : Nat → Bool := fun k => (AB ch G1 G2 E k).1 s
def bP (ch : Ch) (G1 G2 : Gs) (E : List Nat) (s : Nat) : Nat → Bool := fun k => (AB ch G1 G2 E k).2 s
theorem a_up (s : Nat) : Up (aP ch G1 G2 E s) := fun k h => by
  show ((AB ch G1 G2 E k).1 s || _) = true
  rw [show (AB ch G1 G2 E k).1 s = true from h]
  rfl
theorem b_up (s : Nat) : Up (bP ch G1 G2 E s) := fun k h => by
  show ((AB ch G1 G2 E k).2 s || _) = true
  rw [show (AB ch G1 G2 E k).2 s = true from h]
  rfl
theorem a_succ (s k : Nat) : aP ch G1 G2 E s (k + 1) = (aP ch G1 G2 E s k || ch (fun g => bP ch G1 G2 E g k) (G1 s)) := rfl
theorem b_succ (s k : Nat) : bP ch G1 G2 E s (k + 1) = (bP ch G1 G2 E s k || hasAll (fun g => aP ch G1 G2 E g k) (G2 s)) := rfl
/-- goals are stands -/
def GoodG (n : Nat) (G : Gs) : Prop := ∀ s, s < n → ∀ g, some g ∈ G s → g < n
/-- what a choice looks at -/
def Looks (ch : Ch) : Prop := ∀ (F F' : Nat → Bool) gs, (∀ g, some g ∈ gs → F g = F' g) → ch F gs = ch F' gs
theorem inB_congr {F F' : Nat → Bool} {o : Option Nat} (h : ∀ g, o = some g → F g = F' g) : inB F o = inB F' o := by
  cases o with
  | none => rfl
  | some g => exact h g rfl
theorem looks_some : Looks hasSome := fun F F' gs h => by
  unfold hasSome
  induction gs with
  | nil => rfl
  | cons o r ih =>
    rw [List.any_cons, List.any_cons, ih fun g hg => h g (List.mem_cons_of_mem _ hg), inB_congr fun g e => h g (by rw [e]; exact List.mem_cons_self ..)]
theorem looks_all : Looks hasAll := fun F F' gs h => by
  unfold hasAll
  induction gs with
  | nil => rfl
  | cons o r ih =>
    rw [List.all_cons, List.all_cons, ih fun g hg => h g (List.mem_cons_of_mem _ hg), inB_congr fun g e => h g (by rw [e]; exact List.mem_cons_self ..)]
/-- nothing new in one more turn -/
def FixAt (ch : Ch) (G1 G2 : Gs) (E : List Nat) (n c : Nat) : Prop := ∀ s, s < n → (aP ch G1 G2 E s (c + 1) = aP ch G1 G2 E s c) ∧ bP ch G1 G2 E s (c + 1) = bP ch G1 G2 E s c
theorem fix_on (hl : Looks ch) {n c : Nat} (g1 : GoodG n G1) (g2 : GoodG n G2) (f : FixAt ch G1 G2 E n c) : ∀ d, ∀ s, s < n → (aP ch G1 G2 E s (c + d) = aP ch G1 G2 E s c) ∧ bP ch G1 G2 E s (c + d) = bP ch G1 G2 E s c
  | 0, s, hs => ⟨rfl, rfl⟩
  | d + 1, s, hs => by
    have ih := fix_on hl g1 g2 f d
    obtain ⟨f1, f2⟩ := f s hs
    constructor
    · rw [← f1, show c + (d + 1) = (c + d) + 1 by omega, a_succ, a_succ, (ih s hs).1]
      congr 1
      exact hl _ _ _ fun g hg => (ih g (g1 s hs g hg)).2
    · rw [← f2, show c + (d + 1) = (c + d) + 1 by omega, b_succ, b_succ, (ih s hs).2]
      congr 1
      exact looks_all _ _ _ fun g hg => (ih g (g2 s hs g hg)).1
/-- how many have come so far -/
def cnt (ch : Ch) (G1 G2 : Gs) (E : List Nat) (n c : Nat) : Nat := ((List.range n).filter fun s => aP ch G1 G2 E s c).length + ((List.range n).filter fun s => bP ch G1 G2 E s c).length
theorem filter_le {α : Type} {p q : α → Bool} (h : ∀ x, p x = true → q x = true) : ∀ l : List α, (l.filter p).length ≤ (l.filter q).length
  | [] => Nat.le_refl _
  | x :: l => by
    have ih := filter_le h l
    rw [List.filter_cons, List.filter_cons]
    by_cases c : p x = true
    · rw [if_pos c, if_pos (h x c), List.length_cons, List.length_cons]; omega
    · rw [if_neg c]
      split
      · rw [List.length_cons]; omega
      · exact ih
theorem filter_lt {α : Type} {p q : α → Bool} (h : ∀ x, p x = true → q x = true) {x : α} : ∀ {l : List α}, x ∈ l → p x = false → q x = true → (l.filter p).length < (l.filter q).length
  | y :: l, hx, h1, h2 => by
    rw [List.filter_cons, List.filter_cons]
    rcases List.mem_cons.mp hx with rfl | hx
    · rw [if_neg (by rw [h1]; exact Bool.false_ne_true), if_pos h2, List.length_cons]
      have := filter_le h l
      omega
    · have ih := filter_lt h hx h1 h2
      by_cases c : p y = true
      · rw [if_pos c, if_pos (h y c), List.length_cons, List.length_cons]; omega
      · rw [if_neg c]
        split
        · rw [List.length_cons]; omega
        · exact ih
theorem cnt_le (n c : Nat) : cnt ch G1 G2 E n c ≤ 2 * n := by
  unfold cnt
  have a := List.length_filter_le (fun s => aP ch G1 G2 E s c) (List.range n)
  have b := List.length_filter_le (fun s => bP ch G1 G2 E s c) (List.range n)
  rw [List.length_range] at a b
  omega
theorem cnt_grows {n c : Nat} (h : ¬ FixAt ch G1 G2 E n c) : cnt ch G1 G2 E n c < cnt ch G1 G2 E n (c + 1) := by
  have ua : ∀ s, aP ch G1 G2 E s c = true → aP ch G1 G2 E s (c + 1) = true := fun s z => a_up s c z
  have ub : ∀ s, bP ch G1 G2 E s c = true → bP ch G1 G2 E s (c + 1) = true := fun s z => b_up s c z
  have la := filter_le (p := fun s => aP ch G1 G2 E s c) (q := fun s => aP ch G1 G2 E s (c + 1)) ua (List.range n)
  have lb := filter_le (p := fun s => bP ch G1 G2 E s c) (q := fun s => bP ch G1 G2 E s (c + 1)) ub (List.range n)
  unfold cnt
  obtain ⟨s, hs, w⟩ : ∃ s, s < n ∧ ¬ ((aP ch G1 G2 E s (c + 1) = aP ch G1 G2 E s c) ∧ bP ch G1 G2 E s (c + 1) = bP ch G1 G2 E s c) := by
    apply Classical.byContradiction
    intro z
    exact h fun s hs => Classical.byContradiction fun y => z ⟨s, hs, y⟩
  by_cases ea : aP ch G1 G2 E s (c + 1) = aP ch G1 G2 E s c
  · have eb : ¬ bP ch G1 G2 E s (c + 1) = bP ch G1 G2 E s c := fun z => w ⟨ea, z⟩
    have b0 : bP ch G1 G2 E s c = false := by
      cases z : bP ch G1 G2 E s c with
      | false => rfl
      | true => exact absurd (by rw [ub s z, z]) eb
    have b1 : bP ch G1 G2 E s (c + 1) = true := by
      cases z : bP ch G1 G2 E s (c + 1) with
      | true => rfl
      | false => exact absurd (by rw [z, b0]) eb
    have := filter_lt (p := fun s => bP ch G1 G2 E s c) (q := fun s => bP ch G1 G2 E s (c + 1)) ub (List.mem_range.mpr hs) b0 b1
    omega
  · have a0 : aP ch G1 G2 E s c = false := by
      cases z : aP ch G1 G2 E s c with
      | false => rfl
      | true => exact absurd (by rw [ua s z, z]) ea
    have a1 : aP ch G1 G2 E s (c + 1) = true := by
      cases z : aP ch G1 G2 E s (c + 1) with
      | true => rfl
      | false => exact absurd (by rw [z, a0]) ea
    have := filter_lt (p := fun s => aP ch G1 G2 E s c) (q := fun s => aP ch G1 G2 E s (c + 1)) ua (List.mem_range.mpr hs) a0 a1
    omega
/-- the fewest turns -/
def hR (ch : Ch) (G1 G2 : Gs) (E : List Nat) (n s : Nat) : Option Nat := lk (aP ch G1 G2 E s) (2 * n)
def tR (ch : Ch) (G1 G2 : Gs) (E : List Nat) (n s : Nat) : Option Nat := lk (bP ch G1 G2 E s) (2 * n)
theorem lk_fix (hl : Looks ch) {n c s d : Nat} (g1 : GoodG n G1) (g2 : GoodG n G2) (f : FixAt ch G1 G2 E n c) (hs : s < n) (hd : c ≤ d) : lk (aP ch G1 G2 E s) d = lk (aP ch G1 G2 E s) c ∧ lk (bP ch G1 G2 E s) d = lk (bP ch G1 G2 E s) c := by
  constructor
  · refine lk_const hd fun k h1 h2 p => ?_
    have e1 := (fix_on hl g1 g2 f (k - c) s hs).1
    have e2 := (fix_on hl g1 g2 f (k + 1 - c) s hs).1
    rw [show c + (k - c) = k by omega] at e1
    rw [show c + (k + 1 - c) = k + 1 by omega] at e2
    rw [e1, ← e2]
    exact p
  · refine lk_const hd fun k h1 h2 p => ?_
    have e1 := (fix_on hl g1 g2 f (k - c) s hs).2
    have e2 := (fix_on hl g1 g2 f (k + 1 - c) s hs).2
    rw [show c + (k - c) = k by omega] at e1
    rw [show c + (k + 1 - c) = k + 1 by omega] at e2
    rw [e1, ← e2]
    exact p
/-- there is a turn with nothing new, soon -/
theorem fix_soon (n : Nat) : ∃ c, c ≤ 2 * n ∧ FixAt ch G1 G2 E n c := by
  apply Classical.byContradiction
  intro h
  have key : ∀ c, c ≤ 2 * n + 1 → c ≤ cnt ch G1 G2 E n c := by
    intro c
    induction c with
    | zero => intro _; exact Nat.zero_le _
    | succ c ih =>
      intro hc
      have := ih (by omega)
      have := cnt_grows (ch := ch) (G1 := G1) (G2 := G2) (E := E) (n := n) (c := c) fun f => h ⟨c, by omega, f⟩
      omega
  have := key (2 * n + 1) (Nat.le_refl _)
  have := cnt_le (ch := ch) (G1 := G1) (G2 := G2) (E := E) n (2 * n + 1)
  omega
theorem fix_end (hl : Looks ch) {n : Nat} (g1 : GoodG n G1) (g2 : GoodG n G2) : FixAt ch G1 G2 E n (2 * n) := by
  obtain ⟨c, hc, f⟩ := fix_soon (ch := ch) (G1 := G1) (G2 := G2) (E := E) n
  intro s hs
  have a := fix_on hl g1 g2 f (2 * n - c) s hs
  have b := fix_on hl g1 g2 f (2 * n + 1 - c) s hs
  rw [show c + (2 * n - c) = 2 * n by omega] at a
  rw [show c + (2 * n + 1 - c) = 2 * n + 1 by omega] at b
  exact ⟨by rw [a.1, b.1], by rw [a.2, b.2]⟩
theorem lk_more (hl : Looks ch) {n s d : Nat} (g1 : GoodG n G1) (g2 : GoodG n G2) (hs : s < n) (hd : 2 * n ≤ d) : lk (aP ch G1 G2 E s) d = hR ch G1 G2 E n s := (lk_fix hl g1 g2 (fix_end hl g1 g2) hs hd).1
theorem h_is (n s : Nat) : (hR ch G1 G2 E n s).isSome = aP ch G1 G2 E s (2 * n) := lk_is (a_up s)
theorem t_is (n s : Nat) : (tR ch G1 G2 E n s).isSome = bP ch G1 G2 E s (2 * n) := lk_is (b_up s)
theorem h_none (hl : Looks ch) {n s : Nat} (g1 : GoodG n G1) (g2 : GoodG n G2) (hs : s < n) (h : hR ch G1 G2 E n s = none) : s ∉ E ∧ ch (fun g => (tR ch G1 G2 E n g).isSome) (G1 s) = false := by
  have a0 := lk_none.mp h
  constructor
  · have := a0 0 (Nat.zero_le _)
    exact of_decide_eq_false this
  · have f := (fix_end hl (E := E) g1 g2 s hs).1
    rw [a_succ, a0 _ (Nat.le_refl _), Bool.false_or] at f
    rw [← f]
    exact hl _ _ _ fun g hg => t_is n g
theorem t_none (hl : Looks ch) {n s : Nat} (g1 : GoodG n G1) (g2 : GoodG n G2) (hs : s < n) (h : tR ch G1 G2 E n s = none) : s ∉ E ∧ hasAll (fun g => (hR ch G1 G2 E n g).isSome) (G2 s) = false := by
  have a0 := lk_none.mp h
  constructor
  · have := a0 0 (Nat.zero_le _)
    exact of_decide_eq_false this
  · have f := (fix_end hl (E := E) g1 g2 s hs).2
    rw [b_succ, a0 _ (Nat.le_refl _), Bool.false_or] at f
    rw [← f]
    exact looks_all _ _ _ fun g hg => h_is n g
theorem inB_mono {F F' : Nat → Bool} (h : ∀ g, F g = true → F' g = true) {o : Option Nat} (z : inB F o = true) : inB F' o = true := by
  cases o with
  | none => cases z
  | some g => exact h g z
end
/-! ### following a scheme -/
/-- told: none if one is none, else one more than the greatest -/
def one (l : List (Option Nat)) : Option Nat := if none ∈ l then none else some (1 + (l.filterMap id).foldr max 0)
def lg (G1 G2 : Gs) (E : List Nat) : Nat → Bool → Option Nat → Option Nat
  | _, _, none => none
  | 0, _, some s => if s ∈ E then some 0 else none
  | l + 1, side, some s => if s ∈ E then some 0 else one (((if side = true then G2 else G1) s).map (lg G1 G2 E l (!side)))
theorem fmx_le : ∀ {l : List Nat} {n : Nat}, n ∈ l → n ≤ l.foldr max 0
  | m :: r, n, h => by
    show n ≤ max m (r.foldr max 0)
    rcases List.mem_cons.mp h with rfl | h
    · exact Nat.le_max_left _ _
    · exact Nat.le_trans (fmx_le h) (Nat.le_max_right _ _)
theorem fmx_lub : ∀ {l : List Nat} {m : Nat}, (∀ n ∈ l, n ≤ m) → l.foldr max 0 ≤ m
  | [], _, _ => Nat.zero_le _
  | n :: r, m, h => by
    show max n (r.foldr max 0) ≤ m
    have a := h n (List.mem_cons_self ..)
    have b := fmx_lub fun x hx => h x (List.mem_cons_of_mem _ hx)
    exact Nat.max_le.mpr ⟨a, b⟩
/-- one more than the greatest of the least ones -/
theorem one_lk {Q : Nat → Nat → Bool} {P : Nat → Bool} {gs : List (Option Nat)} {c : Nat} (uq : ∀ g, Up (Q g)) (h0 : P 0 = false) (hs : ∀ k, P (k + 1) = (P k || hasAll (fun g => Q g k) gs)) (ne : gs ≠ []) :
    one (gs.map fun o => match o with | some g => lk (Q g) c | none => none) = lk P (c + 1) := by
  have first : ∀ r, P r = true → ∃ j, j < r ∧ hasAll (fun g => Q g j) gs = true := by
    intro r
    induction r with
    | zero => intro z; rw [h0] at z; cases z
    | succ r ih =>
      intro z
      rw [hs] at z
      rcases Bool.or_eq_true_iff.mp z with z | z
      · obtain ⟨j, hj, p⟩ := ih z
        exact ⟨j, by omega, p⟩
      · exact ⟨r, by omega, z⟩
  have allUp : ∀ j k, j ≤ k → hasAll (fun g => Q g j) gs = true → hasAll (fun g => Q g k) gs = true := by
    intro j k hjk z
    unfold hasAll at z ⊢
    rw [List.all_eq_true] at z ⊢
    exact fun o ho => inB_mono (fun g w => (uq g).le hjk w) (z o ho)
  have pUp : ∀ j k, j < k → hasAll (fun g => Q g j) gs = true → P k = true := by
    intro j k hjk z
    cases k with
    | zero => omega
    | succ k =>
      rw [hs, allUp j k (by omega) z, Bool.or_true]
  unfold one
  by_cases hn : none ∈ gs.map fun o => match o with | some g => lk (Q g) c | none => none
  · rw [if_pos hn]
    symm
    refine lk_none.mpr fun j hj => ?_
    cases e : P j with
    | false => rfl
    | true =>
      obtain ⟨i, hi, z⟩ := first j e
      have z := allUp i c (by omega) z
      unfold hasAll at z
      rw [List.all_eq_true] at z
      obtain ⟨o, ho, eo⟩ := List.mem_map.mp hn
      have zo := z o ho
      cases o with
      | none => cases zo
      | some g =>
        have : Q g c = false := lk_none.mp eo c (Nat.le_refl _)
        have zo : Q g c = true := zo
        rw [this] at zo
        cases zo
  · rw [if_neg hn]
    symm
    have each : ∀ o ∈ gs, ∃ g r, o = some g ∧ lk (Q g) c = some r := by
      intro o ho
      cases o with
      | none => exact absurd (List.mem_map.mpr ⟨none, ho, rfl⟩) hn
      | some g =>
        cases e : lk (Q g) c with
        | none => exact absurd (List.mem_map.mpr ⟨some g, ho, e⟩) hn
        | some r => exact ⟨g, r, rfl, e⟩
    generalize hm : ((gs.map fun o => match o with | some g => lk (Q g) c | none => none).filterMap id).foldr max 0 = m
    have up : ∀ g r, some g ∈ gs → lk (Q g) c = some r → r ≤ m := by
      intro g r hg e
      rw [← hm]
      refine fmx_le (List.mem_filterMap.mpr ⟨some r, List.mem_map.mpr ⟨some g, hg, e⟩, rfl⟩)
    have atm : hasAll (fun g => Q g m) gs = true := by
      unfold hasAll
      rw [List.all_eq_true]
      intro o ho
      obtain ⟨g, r, rfl, e⟩ := each o ho
      exact (uq g).le (up g r ho e) (lk_some.mp e).2.1
    have mc : m ≤ c := by
      rw [← hm]
      refine fmx_lub fun n hn => ?_
      obtain ⟨o, ho, e⟩ := List.mem_filterMap.mp hn
      obtain ⟨o', ho', rfl⟩ := List.mem_map.mp ho
      obtain ⟨g, r, rfl, e2⟩ := each o' ho'
      have e : lk (Q g) c = some n := e
      exact (lk_some.mp e).1
    refine lk_some.mpr ⟨by omega, pUp m _ (by omega) atm, fun j hj => ?_⟩
    cases e : P j with
    | false => rfl
    | true =>
      obtain ⟨i, hi, z⟩ := first j e
      have : m ≤ i := by
        rw [← hm]
        refine fmx_lub fun n hn => ?_
        obtain ⟨o, ho, e⟩ := List.mem_filterMap.mp hn
        obtain ⟨o', ho', rfl⟩ := List.mem_map.mp ho
        obtain ⟨g, r, rfl, e2⟩ := each o' ho'
        have e : lk (Q g) c = some n := e
        unfold hasAll at z
        rw [List.all_eq_true] at z
        have zo : Q g i = true := z (some g) ho'
        have ln := (lk_some.mp e).2.2
        apply Classical.byContradiction
        intro w
        have := ln i (by omega)
        rw [this] at zo
        cases zo
      omega
theorem lg_some (G1 G2 : Gs) (E : List Nat) (l : Nat) (side : Bool) (o : Option Nat) : lg G1 G2 E l side o = match o with | some s => lg G1 G2 E l side (some s) | none => none := by
  cases o with
  | none => cases l <;> rfl
  | some s => rfl
/-- following a scheme takes just as long as going back tells -/
theorem lg_rank {G1 G2 : Gs} {E : List Nat} (n1 : ∀ s, G1 s ≠ []) (n2 : ∀ s, G2 s ≠ []) : ∀ l s, lg G1 G2 E l false (some s) = lk (aP hasAll G1 G2 E s) l ∧ lg G1 G2 E l true (some s) = lk (bP hasAll G1 G2 E s) l
  | 0, s => by
    constructor
    · show (if s ∈ E then some 0 else none) = if decide (s ∈ E) = true then some 0 else none
      simp
    · show (if s ∈ E then some 0 else none) = if decide (s ∈ E) = true then some 0 else none
      simp
  | l + 1, s => by
    have ih := lg_rank n1 n2 (E := E) l
    by_cases c : s ∈ E
    · have a : lk (aP hasAll G1 G2 E s) (l + 1) = some 0 := lk_some.mpr ⟨Nat.zero_le _, decide_eq_true c, fun j hj => by omega⟩
      have b : lk (bP hasAll G1 G2 E s) (l + 1) = some 0 := lk_some.mpr ⟨Nat.zero_le _, decide_eq_true c, fun j hj => by omega⟩
      rw [a, b]
      exact ⟨if_pos c, if_pos c⟩
    · constructor
      · show (if s ∈ E then some 0 else one ((G1 s).map (lg G1 G2 E l true))) = _
        rw [if_neg c, ← one_lk (Q := fun g => bP hasAll G1 G2 E g) (gs := G1 s) (c := l) (fun g => b_up g) (decide_eq_false c) (fun k => a_succ s k) (n1 s)]
        congr 1
        refine List.map_congr_left fun o _ => ?_
        cases o with
        | none => cases l <;> rfl
        | some g => exact (ih g).2
      · show (if s ∈ E then some 0 else one ((G2 s).map (lg G1 G2 E l false))) = _
        rw [if_neg c, ← one_lk (Q := fun g => aP hasAll G1 G2 E g) (gs := G2 s) (c := l) (fun g => a_up g) (decide_eq_false c) (fun k => b_succ s k) (n2 s)]
        congr 1
        refine List.map_congr_left fun o _ => ?_
        cases o with
        | none => cases l <;> rfl
        | some g => exact (ih g).1
/-- a scheme: each stand's goals are those of one sign, or all -/
structure Fits (G1 Gp G2 : Gs) (E : List Nat) (n : Nat) : Prop where
  sub : ∀ s, s < n → ∀ o ∈ Gp s, o ∈ G1 s
  ne : ∀ s, Gp s ≠ []
  good : ∀ s r, s < n → hR hasSome G1 G2 E n s = some (r + 1) → ∀ o ∈ Gp s, ∃ q r', o = some q ∧ tR hasSome G1 G2 E n q = some r' ∧ r' ≤ r
theorem fits_ab {G1 Gp G2 : Gs} {E : List Nat} {n : Nat} (g1 : GoodG n G1) (g2 : GoodG n G2) (F : Fits G1 Gp G2 E n) : ∀ k, k ≤ 2 * n → ∀ s, s < n → aP hasAll Gp G2 E s k = aP hasSome G1 G2 E s k ∧ bP hasAll Gp G2 E s k = bP hasSome G1 G2 E s k
  | 0, _, s, _ => ⟨rfl, rfl⟩
  | k + 1, hk, s, hs => by
    have ih := fits_ab g1 g2 F k (by omega)
    have gp : ∀ g, some g ∈ Gp s → g < n := fun g hg => g1 s hs g (F.sub s hs _ hg)
    constructor
    · rw [a_succ, a_succ, (ih s hs).1, looks_all (fun g => bP hasAll Gp G2 E g k) (fun g => bP hasSome G1 G2 E g k) (Gp s) fun g hg => (ih g (gp g hg)).2]
      cases ea : aP hasSome G1 G2 E s k with
      | true => rfl
      | false =>
        rw [Bool.false_or, Bool.false_or]
        cases e : hasSome (fun g => bP hasSome G1 G2 E g k) (G1 s) with
        | true =>
          have a1 : aP hasSome G1 G2 E s (k + 1) = true := by rw [a_succ, e, Bool.or_true]
          have hr : hR hasSome G1 G2 E n s = some (k + 1) := lk_some.mpr ⟨hk, a1, fun j hj => by
            cases z : aP hasSome G1 G2 E s j with
            | false => rfl
            | true =>
              have := (a_up (ch := hasSome) (G1 := G1) (G2 := G2) (E := E) s).le (show j ≤ k by omega) z
              rw [ea] at this
              cases this⟩
          unfold hasAll
          rw [List.all_eq_true]
          intro o ho
          obtain ⟨q, r', rfl, hq, hr'⟩ := F.good s k hs hr o ho
          exact (b_up q).le hr' (lk_some.mp hq).2.1
        | false =>
          cases z : hasAll (fun g => bP hasSome G1 G2 E g k) (Gp s) with
          | false => rfl
          | true =>
            unfold hasAll at z
            rw [List.all_eq_true] at z
            obtain ⟨o, r, eo⟩ := List.exists_cons_of_ne_nil (F.ne s)
            have ho : o ∈ Gp s := by rw [eo]; exact List.mem_cons_self ..
            unfold hasSome at e
            rw [List.any_eq_false] at e
            exact absurd (z o ho) (e o (F.sub s hs o ho))
    · rw [b_succ, b_succ, (ih s hs).2, looks_all (fun g => aP hasAll Gp G2 E g k) (fun g => aP hasSome G1 G2 E g k) (G2 s) fun g hg => (ih g (g2 s hs g hg)).1]
theorem lk_congr {P P' : Nat → Bool} {c : Nat} (h : ∀ k, k ≤ c → P k = P' k) : lk P c = lk P' c := by
  induction c with
  | zero => unfold lk; rw [h 0 (Nat.le_refl _)]
  | succ c ih =>
    unfold lk
    rw [ih fun k hk => h k (by omega), h (c + 1) (Nat.le_refl _)]
theorem fits_rank {G1 Gp G2 : Gs} {E : List Nat} {n s : Nat} (g1 : GoodG n G1) (g2 : GoodG n G2) (F : Fits G1 Gp G2 E n) (hs : s < n) : hR hasAll Gp G2 E n s = hR hasSome G1 G2 E n s :=
  lk_congr fun k hk => (fits_ab g1 g2 F k hk s hs).1
/-! ### keeping it from ever becoming one -/
def nv (G1 G2 : Gs) (E : List Nat) : Nat → Bool → Option Nat → Bool
  | _, _, none => true
  | 0, _, some s => decide (s ∉ E)
  | l + 1, side, some s => decide (s ∉ E) && ((if side = true then G2 else G1) s).all (nv G1 G2 E l (!side))
theorem nv_ok {G1 G2 Gq : Gs} {E : List Nat} {n : Nat} (g1 : GoodG n G1) (g2 : GoodG n G2) (sub : ∀ s, s < n → ∀ g, some g ∈ Gq s → g < n)
    (good : ∀ s, s < n → tR hasSome G1 G2 E n s = none → ∀ g, some g ∈ Gq s → hR hasSome G1 G2 E n g = none) :
    ∀ l s, s < n → (hR hasSome G1 G2 E n s = none → nv G1 Gq E l false (some s) = true) ∧ (tR hasSome G1 G2 E n s = none → nv G1 Gq E l true (some s) = true)
  | 0, s, hs => ⟨fun h => decide_eq_true (h_none looks_some g1 g2 hs h).1, fun h => decide_eq_true (t_none looks_some g1 g2 hs h).1⟩
  | l + 1, s, hs => by
    have ih := nv_ok g1 g2 sub good l
    constructor
    · intro h
      obtain ⟨h1, h2⟩ := h_none looks_some g1 g2 hs h
      show (decide (s ∉ E) && (G1 s).all (nv G1 Gq E l true)) = true
      rw [decide_eq_true h1, Bool.true_and, List.all_eq_true]
      intro o ho
      cases o with
      | none => cases l <;> rfl
      | some g =>
        unfold hasSome at h2
        rw [List.any_eq_false] at h2
        have := h2 (some g) ho
        have : ¬ (tR hasSome G1 G2 E n g).isSome = true := this
        refine (ih g (g1 s hs g ho)).2 ?_
        cases e : tR hasSome G1 G2 E n g with
        | none => rfl
        | some r => rw [e] at this; exact absurd rfl this
    · intro h
      obtain ⟨h1, h2⟩ := t_none looks_some g1 g2 hs h
      show (decide (s ∉ E) && (Gq s).all (nv G1 Gq E l false)) = true
      rw [decide_eq_true h1, Bool.true_and, List.all_eq_true]
      intro o ho
      cases o with
      | none => cases l <;> rfl
      | some g => exact (ih g (sub s hs g ho)).1 (good s hs h g ho)
end K6

set_option Elab.async false
set_option linter.all false
set_option maxRecDepth 100000
set_option maxHeartbeats 4000000
namespace K6
open PySem PySem.Spec PyProof.Rows L2 Rw
variable {P : Program} {w : World} {K : PySem.W.Frag} {mg : Str → Option Value} {base : Heap} {A : Ad} {fd : Fds}
theorem cut_at : ∀ n : Nat, n ≤ 8 → cutS ("abcdefgh" : Str) none (some (n : Int)) = rowS (List.range n)
  | 0, _ => by decide +kernel
  | 1, _ => by decide +kernel
  | 2, _ => by decide +kernel
  | 3, _ => by decide +kernel
  | 4, _ => by decide +kernel
  | 5, _ => by decide +kernel
  | 6, _ => by decide +kernel
  | 7, _ => by decide +kernel
  | 8, _ => by decide +kernel
  | n + 9, h => by omega
theorem rowS_at {l : List Nat} {i c : Nat} (h : (rowS l).cps[i]? = some c) : ∃ g, l[i]? = some g ∧ c = 97 + g := by
  unfold rowS at h
  simp only [List.getElem?_toArray, List.getElem?_map] at h
  cases e : l[i]? with
  | none => rw [e] at h; cases h
  | some g =>
    rw [e] at h
    exact ⟨g, rfl, (Option.some.inj h).symm⟩
theorem rowS_size (l : List Nat) : (rowS l).cps.size = l.length := rowS_len l
theorem in_row {g : Nat} {l : List Nat} (h : g ∈ l) : decide (97 + g ∈ (rowS l).cps.toList) = true := by
  refine decide_eq_true ?_
  unfold rowS
  rw [List.toList_toArray]
  exact List.mem_map.mpr ⟨g, h, rfl⟩
def spIsRow : Sp := fun vs H Q _ => ∃ (l : List Nat) (n m : Nat), vs = [.str (rowS l), .int (n : Int), .int (m : Int)] ∧ n ≤ 8 ∧ l.length ≤ m ∧ m ≤ 1000 ∧ (∀ g ∈ l, g < n) ∧ ∀ H', Same H H' → Q (.bl true) H'
theorem ok_is_row (T : Txt K mg A) (U : Funs K A fd) : FnOk P w K mg base CX0 1 A.is_row fd.is_row p_is_row (spIsRow) := by
  refine U.F_is_row.ok sc_is_row (fun vs H Q E h => ?_) (fun cdv A0 outer s H vs Q E hr h => ?_)
  · obtain ⟨l, n, m, rfl, _⟩ := h
    rfl
  · have hu := hu_of hr
    obtain ⟨l, n, m, rfl, hn, hl, hm, hg, q⟩ := h
    refine ⟨_, (pss_cons (ps_if (PW.pt (pw_or (pt_not (pt_val (pe_callB (w_isi (K := K)) (by rfl) T.b_isinstance (by decide +kernel) (pa_cons (pv 0) (pa_cons (pe_bltn (v := .ty "str") (u := .type "str") (by rfl) T.b_str (by decide +kernel) rfl) pa_nil))))) (pw_or1 (pt_cmpR op_gt (pe_callB (w_len (K := K)) (by rfl) T.b_len (by decide +kernel) (pa_cons (pv 0) pa_nil)) (pv 2) (nomark _))))) (pss_one (ps_ret pe_bl)) pss_nil)
       (pss_cons (ps_set (i := 3) sc_is_row.nd rfl (Or.inr rfl) (pe_slice sl_str (pe_glob (v := .str "abcdefgh") (by rfl) T.c_ALPHABET.choose_spec ⟨_, rfl⟩) po_none (po_some (pv 1))))
       (pss_one (ps_ret (pe_callB (w_all (K := K) rfl) (by rfl) T.b_all (by decide +kernel) (pa_cons (pe_lc (own := [("sign", 4)]) (g := gName 4) (tt := tYes) (by rfl) sc_is_row.nd (pi_str (pv 0)) (blkOk_by (own := [("sign", 4)]) (by rfl)) (fun _ _ _ _ _ => (pg_name (i := 4) sc_is_row.nd rfl (Or.inl rfl))) (fun _ _ _ _ _ => pts_nil) (fun _ _ _ _ _ => (pe_cmpR op_in_sign (pv 4) (pv 3) (by rfl)))) pa_nil)))))), ?_⟩
    refine ⟨_, rfl, .str (rowS l), .ty "str", .type "str", .type "str", true, rfl, .ty _, .base (.str _), kit_ty (by decide +kernel), true, rfl, ?_⟩
    refine iteF ?_
    refine ⟨_, rfl, _, _, rfl, ⟨szl (by rw [rowS_len]; omega), rfl⟩, _, rfl, _, _, rfl, rfl, _, rfl, ?_⟩
    rw [decide_eq_false (show ¬ (((rowS l).length : Int) > (m : Int)) by rw [rowS_len]; omega)]
    refine iteF (g_next ?_)
    refine ⟨_, rfl, (n : Int), rfl, _, rfl, szl (by decide +kernel), ?_⟩
    rw [cut_at n hn]
    dsimp only
    refine g_ret (g_cb (cS (z := rowS l) (fun _ => [.bl true]) (fun R r => ?_) (fun _ => Nat.le_refl 1) (by rw [rowS_size]; omega) ?_ (fun i c hi => turn_yes fun H1 R s1 r => ?_) (fun D H1 _ s1 h1 => ?_)))
    · exact ⟨_, rfl, r⟩
    · exact fun _ => rfl
    · obtain ⟨g, hg1, rfl⟩ := rowS_at hi
      refine ⟨_, rfl, _, rfl, _, _, rfl, rfl, ?_⟩
      rw [in_row (List.mem_range.mpr (hg g (List.mem_of_getElem? hg1)))]
      exact r H1 (Same.refl _)
    · rw [replicate_pre] at h1
      refine ⟨D, List.replicate (rowS l).cps.size true, rfl, lst_of (by rw [← bls]; exact h1), ?_⟩
      rw [all_true]
      exact q H1 s1
/-- a lot of signs -/
structure GoodLot (w : Nat) (l : List Nat) : Prop where
  ne : l ≠ []
  asc : AscS l
  lt : ∀ g ∈ l, g < w
  len : l.length ≤ w
  w8 : w ≤ 8
def spIsLot : Sp := fun vs H Q _ => ∃ (l : List Nat) (n : Nat), vs = [.str (rowS l), .int (n : Int)] ∧ GoodLot n l ∧ ∀ H', Same H H' → Q (.bl true) H'
theorem ok_is_lot (T : Txt K mg A) (U : Funs K A fd) : FnOk P w K mg base CX0 4 A.is_lot fd.is_lot p_is_lot (spIsLot) := by
  have G_is_ascending := ok_is_ascending (P := P) (w := w) (base := base) T U
  have b_is_ascending := U.b_is_ascending
  have G_is_row := ok_is_row (P := P) (w := w) (base := base) T U
  have b_is_row := U.b_is_row
  refine U.F_is_lot.ok sc_is_lot (fun vs H Q E h => ?_) (fun cdv A0 outer s H vs Q E hr h => ?_)
  · obtain ⟨l, n, rfl, _⟩ := h
    rfl
  · have hu := hu_of hr
    obtain ⟨l, n, rfl, gl, q⟩ := h
    refine ⟨_, (pss_one (ps_ret (pe_and (pe_call G_is_row (hr.mono (by decide)) (by rfl) T.m_is_row T.k_is_row b_is_row .nil pass0 (pa_cons (pv 0) (pa_cons (pv 1) (pa_cons (pv 1) pa_nil)))) (pe_one (pe_call G_is_ascending (hr.mono (by decide)) (by rfl) T.m_is_ascending T.k_is_ascending b_is_ascending .nil pass0 (pa_cons (pv 0) pa_nil)))))), ?_⟩
    have w8 := gl.w8
    have hlen := gl.len
    refine ⟨_, rfl, _, rfl, _, rfl, l, n, n, rfl, w8, hlen, by omega, gl.lt, fun H1 s1 => ⟨true, rfl, iteT ?_⟩⟩
    exact ⟨_, rfl, .inr ⟨l, rfl, by omega, gl.asc, fun H2 s2 => q H2 (s1.trans s2)⟩⟩
def spDuel (K : PySem.W.Frag) (C : Addr) : Sp := fun vs H Q _ => ∃ (p : Addr) (w : Nat) (tab : List (List (Option Nat))) (ends l1 l2 : List Nat), vs = [.ref p, .str (rowS l1), .str (rowS l2)] ∧ RdAt K C H p w tab ends ∧ GoodLot w l1 ∧ GoodLot w l2 ∧ ∀ H', Same H H' → Q .non H'
theorem row_true {w : Nat} {l : List Nat} (gl : GoodLot w l) : (((rowS l).length : Int) != 0) = true := by
  rw [bne_iff_ne, rowS_len]
  have := List.length_pos_iff.mpr gl.ne
  omega
theorem ok_check_duel (T : Txt K mg A) (U : Funs K A fd) : FnOk P w K mg base CX0 7 A.check_duel fd.check_duel p_check_duel (spDuel K A.C) := by
  have G_is_lot := ok_is_lot (P := P) (w := w) (base := base) T U
  have b_is_lot := U.b_is_lot
  have G_Reader_signs := ok_Reader_signs (P := P) (w := w) (base := base) T U
  have b_Reader_signs := U.b_Reader_signs
  have G_check_reader := ok_check_reader (P := P) (w := w) (base := base) T U
  have b_check_reader := U.b_check_reader
  refine U.F_check_duel.ok sc_check_duel (fun vs H Q E h => ?_) (fun cdv A0 outer s H vs Q E hr h => ?_)
  · obtain ⟨p, n, tab, ends, l1, l2, rfl, _⟩ := h
    rfl
  · have hu := hu_of hr
    obtain ⟨p, n, tab, ends, l1, l2, rfl, R, g1, g2, q⟩ := h
    refine ⟨_, (pss_cons (ps_expr (pe_call G_check_reader (hr.mono (by decide)) (by rfl) T.m_check_reader T.k_check_reader b_check_reader .nil pass0 (pa_cons (pv 0) pa_nil)))
       (pss_one (ps_for PassesOwn.never rfl (w_piT (K := K) (pe_tup (pa_cons (pv 1) (pa_cons (pv 2) pa_nil)))) (pg_name (i := 3) sc_check_duel.nd rfl (Or.inl rfl))
       (pss_one (ps_if (PW.pt (pw_or (pt_not (pt_val (pe_call G_is_lot (hr.mono (by decide)) (by rfl) T.m_is_lot T.k_is_lot b_is_lot .nil pass0 (pa_cons (pv 3) (pa_cons (pe_prop (pv 0) T.cl T.p_Reader_signs G_Reader_signs (hr.mono (by decide)) b_Reader_signs .nil pass0 rfl) pa_nil))))) (pw_or1 (pt_not (w_truth (K := K) (pv 3) (by intro _; rfl)))))) (pss_one ps_never) pss_nil))))), ?_⟩
    refine ⟨_, rfl, p, n, tab, ends, rfl, R, ?_⟩
    refine ⟨_, rfl, _, rfl, by show 2 ≤ sizeLine; decide, fun t ht => ⟨t, rfl, ⟨_, tup_of upd_same⟩, ?_⟩⟩
    have st := same_upd (o := .tup [.str (rowS l1), .str (rowS l2)]) ht
    have htt : (upd H t (.tup [.str (rowS l1), .str (rowS l2)])) t = some (.tup [.str (rowS l1), .str (rowS l2)]) := upd_same
    generalize upd H t (.tup [.str (rowS l1), .str (rowS l2)]) = H1 at st htt
    refine for_tup (xs := [.str (rowS l1), .str (rowS l2)]) (fun i σ H' => ∃ y3, σ = [some (.ref p), some (.str (rowS l1)), some (.str (rowS l2)), y3] ∧ Same H1 H') ?_ ?_ ?_ ?_
    · exact ⟨none, rfl, Same.refl _⟩
    · rintro i σ H' _ ⟨y3, rfl, s⟩
      exact tup_of (s _ _ htt)
    · rintro i x σ H2 hi ⟨y3, rfl, s2⟩
      obtain ⟨l, gl, rfl⟩ : ∃ l, GoodLot n l ∧ x = .str (rowS l) := by
        have := List.mem_of_getElem? hi
        simp at this
        rcases this with rfl | rfl
        · exact ⟨l1, g1, rfl⟩
        · exact ⟨l2, g2, rfl⟩
      have w8 := gl.w8
      have hlen := gl.len
      obtain ⟨dx, a, e, o1, _, _⟩ := (R.mono (st.trans s2)).ob
      refine ⟨_, rfl, _, rfl, p, dx, _, rfl, o1, p, dx, _, _, rfl, o1, flds_signs _ _ _, l, n, rfl, gl, fun H3 s3 => ⟨_, rfl, iteF ?_⟩⟩
      refine ⟨_, rfl, _, ⟨szl (by rw [rowS_len]; omega), rfl⟩, ?_⟩
      rw [row_true gl]
      refine iteF (g_next ?_)
      exact ⟨_, rfl, s2.trans s3⟩
    · rintro σ H2 ⟨y3, rfl, s2⟩
      exact q H2 (st.trans s2)
abbrev Tab := List (List (Option Nat))
def flags (n : Nat) (l : List Nat) : List V := (List.range n).map fun k => .bl (decide (k ∈ l))
theorem flags_set {n e : Nat} {l : List Nat} (h : e < n) : (flags n l).set e (.bl true) = flags n (l ++ [e]) := by
  unfold flags
  apply List.ext_getElem
  · simp
  · intro i h1 h2
    simp only [List.length_set, List.length_map, List.length_range] at h1
    rw [List.getElem_set]
    by_cases c : e = i
    · subst c
      rw [if_pos rfl]
      simp
    · rw [if_neg c]
      simp
      intro h
      omega
theorem flags_nil (n : Nat) : (List.replicate n [V.bl false]).flatten = flags n [] := by
  unfold flags
  induction n with
  | zero => rfl
  | succ n ih =>
    rw [List.replicate_succ', List.flatten_append, ih, List.range_succ, List.map_append]
    simp
def spFlagsOf (K : PySem.W.Frag) : Sp := fun vs H Q _ => ∃ (n : Nat) (v : V) (ends : List Nat), vs = [.int (n : Int), v] ∧ Dp K H v (dNats ends) ∧ (∀ g ∈ ends, g < n) ∧ n ≤ 200 ∧
  ∀ q H', H q = none → Same H H' → H' q = some (.lst (flags n ends)) → Q (.ref q) H'
theorem ok_flags_of (T : Txt K mg A) (U : Funs K A fd) : FnOk P w K mg base CX0 1 A.flags_of fd.flags_of p_flags_of (spFlagsOf K) := by
  refine U.F_flags_of.ok sc_flags_of (fun vs H Q E h => ?_) (fun cdv A0 outer s H vs Q E hr h => ?_)
  · obtain ⟨n, v, ends, rfl, _⟩ := h
    rfl
  · have hu := hu_of hr
    obtain ⟨n, v, ends, rfl, hd, lt, hn, k⟩ := h
    refine ⟨_, (pss_cons (ps_set (i := 2) sc_flags_of.nd rfl (Or.inl rfl) (pe_op op_rep (pe_lst (pa_cons pe_bl pa_nil)) (pv 0)))
       (pss_cons (ps_for PassesOwn.never rfl (w_piT (K := K) (pv 1)) (pg_name (i := 3) sc_flags_of.nd rfl (Or.inl rfl))
       (pss_one (ps_asg pe_bl (pg_sub (pv 2) (pv 3) set_list))))
       (pss_one (ps_ret (pv 2))))), ?_⟩
    refine ⟨by show 1 ≤ sizeLine; decide, fun p0 hp0 => ?_⟩
    have s0 : Same H (upd H p0 (.lst [.bl false])) := same_upd hp0
    refine ⟨_, rfl, p0, _, _, rfl, rfl, upd_same, by omega, by omega, szl (by simp; omega), fun q hq => ?_⟩
    rw [Int.toNat_natCast, flags_nil]
    have s1 : Same H (upd (upd H p0 (.lst [.bl false])) q (.lst (flags n []))) := s0.trans (same_upd hq)
    have nq : H q = none := Same.free s0 hq
    have h3 := dp_mono s1 _ _ hd
    unfold dNats at h3
    rw [nats_int] at h3
    obtain ⟨ae, xs, e1, hx, hds⟩ := dp_tup h3
    obtain rfl := dps_ints hds
    subst e1
    refine ⟨_, rfl, ae, rfl, ⟨_, hx⟩, ?_⟩
    refine for_tup (xs := (ends.map Int.ofNat).map V.int) (fun i σ H' => ∃ y, σ = [some (.int (n : Int)), some (.ref ae), some (.ref q), y] ∧ (∀ b o, b ≠ q → (upd (upd H p0 (.lst [.bl false])) q (.lst (flags n []))) b = some o → H' b = some o) ∧ Same H H' ∧ H' q = some (.lst (flags n (ends.take i)))) ?_ ?_ ?_ ?_
    · exact ⟨none, rfl, fun b o _ h => h, s1, upd_same⟩
    · rintro i σ H' _ ⟨y, rfl, s2, _, _⟩
      rcases hx with (hx | ⟨o, hx⟩) | hx
      · refine .inl (.inl (s2 _ _ (fun z => ?_) hx))
        rw [z, upd_same] at hx
        cases hx
      · refine .inl (.inr ⟨o, s2 _ _ (fun z => ?_) hx⟩)
        rw [z, upd_same] at hx
        cases hx
      · exact .inr hx
    · rintro i x σ H' hi ⟨y, rfl, s2, s3, hq2⟩
      rw [List.map_map, List.getElem?_map] at hi
      cases ee : ends[i]? with
      | none => rw [ee] at hi; cases hi
      | some g =>
        rw [ee] at hi
        obtain rfl := Option.some.inj hi
        have hg : g < n := lt g (List.mem_of_getElem? ee)
        refine ⟨_, rfl, _, rfl, q, _, _, g, rfl, rfl, hq2, Evl.ixN_nat (by simp [flags]; exact hg), ?_⟩
        refine ⟨_, rfl, fun b o hb h => ?_, same_put s3 nq, ?_⟩
        · rw [upd_ne hb]
          exact s2 b o hb h
        · rw [upd_same, flags_set hg, List.take_add_one, ee]
          rfl
    · rintro σ H' ⟨y, rfl, s2, s3, hq2⟩
      rw [List.length_map, List.length_map, List.take_length] at hq2
      exact ⟨_, rfl, k q H' nq s3 hq2⟩
def spFlags (K : PySem.W.Frag) (C : Addr) : Sp := fun vs H Q _ => ∃ p w tab ends, vs = [.ref p] ∧ RdAt K C H p w tab ends ∧ GoodE tab.length ends ∧ tab.length ≤ 200 ∧
  ∀ q H', H q = none → Same H H' → H' q = some (.lst (flags tab.length ends)) → Q (.ref q) H'
theorem ok_end_flags (T : Txt K mg A) (U : Funs K A fd) : FnOk P w K mg base CX0 4 A.end_flags fd.end_flags p_end_flags (spFlags K A.C) := by
  have G_flags_of := ok_flags_of (P := P) (w := w) (base := base) T U
  have b_flags_of := U.b_flags_of
  have G_Reader_ends := ok_Reader_ends (P := P) (w := w) (base := base) T U
  have b_Reader_ends := U.b_Reader_ends
  have G_Reader_len := ok_Reader_len (P := P) (w := w) (base := base) T U
  have b_Reader_len := U.b_Reader_len
  refine U.F_end_flags.ok sc_end_flags (fun vs H Q E h => ?_) (fun cdv A0 outer s H vs Q E hr h => ?_)
  · obtain ⟨p, n, tab, ends, rfl, _⟩ := h
    rfl
  · have hu := hu_of hr
    obtain ⟨p, n, tab, ends, rfl, R, ge, hn, k⟩ := h
    refine ⟨_, (pss_one (ps_ret (pe_call G_flags_of (hr.mono (by decide)) (by rfl) T.m_flags_of T.k_flags_of b_flags_of .nil pass0 (pa_cons (pe_callB (call_lenO G_Reader_len (hr.mono (by decide)) T.own_len T.isf_len b_Reader_len pass0) (by rfl) T.b_len PySem.boot_len (pa_cons (pv 0) pa_nil)) (pa_cons (pe_prop (pv 0) T.cl T.p_Reader_ends G_Reader_ends (hr.mono (by decide)) b_Reader_ends .nil pass0 rfl) pa_nil))))), ?_⟩
    obtain ⟨dx, a, e, h1, h2, h3⟩ := R.ob
    refine ⟨_, rfl, p, dx, _, rfl, h1, p, n, tab, ends, rfl, R, tab.length, rfl, by omega, ?_⟩
    exact ⟨_, rfl, p, dx, _, rfl, h1, p, dx, _, _, rfl, h1, flds_ends _ _ _, tab.length, .ref e, ends, rfl, h3, ge.lt, hn, k⟩
/-! ### goals by signs -/
def near (tab : Tab) (l : List Nat) (s : Nat) : List (Option Nat) := l.map fun g => (tab.getD s []).getD g none
structure GsAt (K : PySem.W.Frag) (H : Hp) (v : V) (G : Gs) (n : Nat) : Prop where
  ob : ∃ a xs, v = .ref a ∧ SqL K H a xs ∧ xs.length = n ∧ ∀ s, s < n → ∃ b, xs[s]? = some (.ref b) ∧ SqL K H b ((G s).map vO)
theorem GsAt.mono {H H' : Hp} {v : V} {G : Gs} {n : Nat} (h : GsAt K H v G n) (s : Same H H') : GsAt K H' v G n := by
  obtain ⟨a, xs, e, hx, hl, hf⟩ := h.ob
  exact ⟨a, xs, e, sqL_mono s hx, hl, fun i hi => let ⟨b, e1, hb⟩ := hf i hi; ⟨b, e1, sqL_mono s hb⟩⟩
theorem index_at : ∀ g : Nat, g < 8 → ∃ rest, Builtin.Str.occurrences ("abcdefgh" : Str) ⟨#[97 + g]⟩ 0 ("abcdefgh" : Str).length 1 = g :: rest
  | 0, _ => ⟨[], by decide +kernel⟩
  | 1, _ => ⟨[], by decide +kernel⟩
  | 2, _ => ⟨[], by decide +kernel⟩
  | 3, _ => ⟨[], by decide +kernel⟩
  | 4, _ => ⟨[], by decide +kernel⟩
  | 5, _ => ⟨[], by decide +kernel⟩
  | 6, _ => ⟨[], by decide +kernel⟩
  | 7, _ => ⟨[], by decide +kernel⟩
  | n + 8, h => by omega
theorem range_getD {α β : Type} (l : List α) (d : α) (f : α → β) : (List.range l.length).map (fun k => f (l.getD k d)) = l.map f := by
  apply List.ext_getElem
  · simp
  · intro i h1 h2
    simp only [List.length_map] at h2
    simp [List.getD_eq_getElem?_getD, h2]
theorem pre_at {α : Type} (l : List α) (d : α) (f : α → V) : pre (fun i => [f (l.getD i d)]) l.length = l.map f := by
  rw [pre_map, range_getD l d f]
def nV (n : Nat) : V := .int (n : Int)
theorem row_of {H : Hp} {tab : Tab} {xs : List V} {i : Nat} {x : V} (h : DpAll K H xs (tab.map dRow)) (hi : xs[i]? = some x) : ∃ row a, tab[i]? = some row ∧ x = .ref a ∧ SqT K H a (row.map vO) := by
  obtain ⟨row, h1, h2⟩ := row_in h hi
  obtain ⟨a, ys, rfl, hy, hd⟩ := dp_tup h2
  obtain rfl := dps_opts hd
  exact ⟨row, a, h1, rfl, hy⟩
def spGoals2 (K : PySem.W.Frag) (C : Addr) : Sp := fun vs H Q _ => ∃ p w tab ends l, vs = [.ref p, .str (rowS l)] ∧ RdAt K C H p w tab ends ∧ GoodT w tab ∧ (∀ g ∈ l, g < w) ∧ l.length ≤ 8 ∧
  ∀ v H', Same H H' → GsAt K H' v (near tab l) tab.length → Q v H'
theorem hold_gs {H : Hp} {D : Addr} {acc : List V} {n : Nat} {G : Gs} (h1 : H D = some (.lst acc)) (h : Hold (del D H) acc n fun s => (G s).map vO) : GsAt K H (.ref D) G n :=
  ⟨D, acc, rfl, lst_of h1, h.1, fun s hs => let ⟨p, e, hp⟩ := h.2 s hs; ⟨p, e, lst_of (del_same D _ _ hp)⟩⟩
theorem ok_goals_by (T : Txt K mg A) (U : Funs K A fd) : FnOk P w K mg base CX0 4 A.goals_by fd.goals_by p_goals_by (spGoals2 K A.C) := by
  have G_Reader_arrows := ok_Reader_arrows (P := P) (w := w) (base := base) T U
  have b_Reader_arrows := U.b_Reader_arrows
  refine U.F_goals_by.ok sc_goals_by (fun vs H Q E h => ?_) (fun cdv A0 outer s H vs Q E hr h => ?_)
  · obtain ⟨p, n, tab, ends, l, rfl, _⟩ := h
    rfl
  · have hu := hu_of hr
    obtain ⟨p, n, tab, ends, l, rfl, R, gt, hlt, hl8, k⟩ := h
    refine ⟨_, (pss_cons (ps_set (i := 2) sc_goals_by.nd rfl (Or.inr rfl) (pe_lc (own := [("sign", 3)]) (g := gName 3) (tt := tYes) (by rfl) sc_goals_by.nd (pi_str (pv 1)) (blkOk_by (own := [("sign", 3)]) (by rfl)) (fun _ _ _ _ _ => (pg_name (i := 3) sc_goals_by.nd rfl (Or.inl rfl))) (fun _ _ _ _ _ => pts_nil) (fun _ _ _ _ _ => (w_bm (K := K) PySem.F.plainAttrs_str PySem.F.slot_str_index PySem.F.type_str_index mt_sindex (pe_glob (v := .str "abcdefgh") (by rfl) T.c_ALPHABET.choose_spec ⟨_, rfl⟩) (pa_cons (pv 3) pa_nil)))))
       (pss_one (ps_ret (pe_lc (own := [("goals", 4)]) (g := gName 4) (tt := tYes) (by rfl) sc_goals_by.nd (w_piT (K := K) (pe_prop (pv 0) T.cl T.p_Reader_arrows G_Reader_arrows (hr.mono (by decide)) b_Reader_arrows .nil pass0 rfl)) (blkOk_by (own := [("goals", 4)]) (by rfl)) (fun _ _ _ _ _ => (pg_name (i := 4) sc_goals_by.nd rfl (Or.inr rfl))) (fun _ _ _ _ _ => pts_nil) (fun _ _ _ _ _ => (pe_lc (own := [("sign", 3)]) (g := gName 3) (tt := tYes) (by rfl) sc_goals_by.nd (w_piL (K := K) (pv 2)) (blkOk_by (own := [("sign", 3)]) (by rfl)) (fun _ _ _ _ _ => (pg_name (i := 3) sc_goals_by.nd rfl (Or.inl rfl))) (fun _ _ _ _ _ => pts_nil) (fun _ _ _ _ _ => (pe_ix (w_ixT (K := K)) (pv 4) (pv 3) (fun _ _ => rfl))))))))), ?_⟩
    have w8 := gt.w8
    have n2 := gt.n2
    refine g_seq (g_asg (cS (z := rowS l) (fun i => [nV (l.getD i 0)]) (fun R r => ⟨_, rfl, r⟩) (fun _ => Nat.le_refl 1) (by rw [rowS_size]; omega) ?_ (fun i c hi => turn_yes fun H1 R1 s1 r => ?_) (fun S H1 hS s1 h1 => ?_)))
    · exact fun _ => rfl
    · obtain ⟨g, hg1, rfl⟩ := rowS_at hi
      have gn := hlt g (List.mem_of_getElem? hg1)
      obtain ⟨rest, hr⟩ := index_at g (by omega)
      have eg : l.getD i 0 = g := by rw [List.getD_eq_getElem?_getD, hg1]; rfl
      rw [eg] at r
      exact ⟨rfl, _, rfl, _, _, g, rest, rfl, rfl, hr, r H1 (Same.refl _)⟩
    rw [rowS_size, pre_at l 0 nV] at h1
    obtain ⟨dx, a, e, o1, h2, _⟩ := (R.mono s1).ob
    obtain ⟨a', xs, e1, hx, hds⟩ := dp_tup h2
    obtain rfl := V.ref.inj e1
    have hxl : xs.length = tab.length := by rw [dps_len hds, List.length_map]
    dsimp only
    refine g_ret (cTN (xs := xs) (fun s => (near tab l s).map vO) (fun R r => ⟨_, rfl, p, dx, _, rfl, o1, p, dx, _, _, rfl, o1, flds_arrows _ _ _, r⟩) hx (by omega) ?_ (fun s x hi H2 R2 s2 r => ?_) (fun D acc H2 hD s2 h2' hold => ?_))
    · exact fun _ => rfl
    · obtain ⟨row, b, hr1, rfl, hb⟩ := row_of hds hi
      have er : tab.getD s [] = row := by rw [List.getD_eq_getElem?_getD, hr1]; rfl
      have rw' := (gt.rows row (List.mem_of_getElem? hr1)).1
      refine cL (xs := l.map nV) (fun i => [vO (row.getD (l.getD i 0) none)]) (fun R r => ⟨_, rfl, r⟩) (lst_of (s2 _ _ h1)) (fun _ => Nat.le_refl 1) (by rw [List.length_map]; omega) ?_ (fun i x hi => turn_yes fun H3 R3 s3 r3 => ?_) (fun D H3 hD s3 h3 => ?_)
      · exact fun _ => rfl
      · rw [List.getElem?_map] at hi
        cases eg : l[i]? with
        | none => rw [eg] at hi; cases hi
        | some g =>
          rw [eg] at hi
          obtain rfl := Option.some.inj hi
          have gl : g < row.length := by rw [rw']; exact hlt g (List.mem_of_getElem? eg)
          have e2 : l.getD i 0 = g := by rw [List.getD_eq_getElem?_getD, eg]; rfl
          rw [e2] at r3
          have e3 : (row.map vO)[g]? = some (vO (row.getD g none)) := by
            rw [List.getElem?_map, List.getD_eq_getElem?_getD, List.getElem?_eq_getElem gl]
            rfl
          exact ⟨_, rfl, _, rfl, b, _, _, _, rfl, rfl, sqT_mono (s2.trans s3) hb, atI_nat e3, r3 H3 (Same.refl _)⟩
      · rw [List.length_map, pre_at l 0 fun g => vO (row.getD g none)] at h3
        refine r D H3 hD s3 ?_
        rw [h3]
        unfold near
        rw [er, List.map_map]
        rfl
    · rw [hxl] at hold
      exact k (.ref D) H2 (s1.trans s2) (hold_gs h2' hold)
/-! ### some, all -/
def fV (n : Nat) (F : Nat → Bool) : List V := (List.range n).map fun s => .bl (F s)
def oV (n : Nat) (R : Nat → Option Nat) : List V := (List.range n).map fun s => vO (R s)
theorem fV_at {n s : Nat} {F : Nat → Bool} (h : s < n) : (fV n F)[s]? = some (.bl (F s)) := by unfold fV; simp [h]
theorem oV_at {n s : Nat} {R : Nat → Option Nat} (h : s < n) : (oV n R)[s]? = some (vO (R s)) := by unfold oV; simp [h]
theorem fV_len (n : Nat) (F : Nat → Bool) : (fV n F).length = n := by unfold fV; simp
theorem oV_len (n : Nat) (R : Nat → Option Nat) : (oV n R).length = n := by unfold oV; simp
def spHas (K : PySem.W.Frag) (ch : Ch) : Sp := fun vs H Q _ => ∃ (f g : Addr) (n : Nat) (F : Nat → Bool) (gs : List (Option Nat)), vs = [.ref f, .ref g] ∧ SqL K H f (fV n F) ∧ SqL K H g (gs.map vO) ∧ (∀ x, some x ∈ gs → x < n) ∧ gs.length ≤ 1000 ∧
  ∀ H', Same H H' → Q (.bl (ch F gs)) H'
theorem goal_cases {gs : List (Option Nat)} {i : Nat} {x : V} (h : (gs.map vO)[i]? = some x) : ∃ o, gs[i]? = some o ∧ x = vO o := by
  rw [List.getElem?_map] at h
  cases e : gs[i]? with
  | none => rw [e] at h; cases h
  | some o => rw [e] at h; exact ⟨o, rfl, (Option.some.inj h).symm⟩
theorem ok_has_some (T : Txt K mg A) (U : Funs K A fd) : FnOk P w K mg base CX0 1 A.has_some fd.has_some p_has_some (spHas K hasSome) := by
  refine U.F_has_some.ok sc_has_some (fun vs H Q E h => ?_) (fun cdv A0 outer s H vs Q E hr h => ?_)
  · obtain ⟨f, g, n, F, gs, rfl, _⟩ := h
    rfl
  · have hu := hu_of hr
    obtain ⟨f, g, n, F, gs, rfl, hf, hg, hlt, hl, k⟩ := h
    refine ⟨_, (pss_one (ps_ret (pe_callB (w_any (K := K) rfl) (by rfl) T.b_any (by decide +kernel) (pa_cons (pe_lc (own := [("goal", 2)]) (g := gName 2) (tt := tYes) (by rfl) sc_has_some.nd (w_piL (K := K) (pv 1)) (blkOk_by (own := [("goal", 2)]) (by rfl)) (fun _ _ _ _ _ => (pg_name (i := 2) sc_has_some.nd rfl (Or.inl rfl))) (fun _ _ _ _ _ => pts_nil) (fun _ _ _ _ _ => (pe_and (pe_cmpR op_notN (pv 2) pe_non (nomark _)) (pe_one (pe_ix (w_ixL (K := K)) (pv 0) (pv 2) (fun _ _ => rfl)))))) pa_nil)))), ?_⟩
    refine g_ret (g_cb (cL (xs := gs.map vO) (fun i => [.bl (inB F (gs.getD i none))]) (fun R r => ⟨_, rfl, r⟩) hg (fun _ => Nat.le_refl 1) (by rw [List.length_map]; omega) ?_ (fun i x hi => turn_yes fun H1 R1 s1 r => ?_) (fun D H1 hD s1 h1 => ?_)))
    · exact fun _ => rfl
    · obtain ⟨o, ho, rfl⟩ := goal_cases hi
      have e : gs.getD i none = o := by rw [List.getD_eq_getElem?_getD, ho]; rfl
      rw [e] at r
      cases o with
      | none => exact ⟨_, rfl, rfl, false, rfl, iteF (r H1 (Same.refl _))⟩
      | some x =>
        have xn := hlt x (List.mem_of_getElem? ho)
        exact ⟨_, rfl, rfl, true, rfl, iteT ⟨_, rfl, _, rfl, f, _, _, _, rfl, rfl, sqL_mono s1 hf, atI_nat (fV_at xn), r H1 (Same.refl _)⟩⟩
    · rw [List.length_map, pre_at gs none fun o => V.bl (inB F o)] at h1
      refine ⟨D, gs.map (inB F), rfl, lst_of (by rw [h1, List.map_map]; rfl), ?_⟩
      rw [List.any_map]
      exact k H1 s1
theorem ok_has_all (T : Txt K mg A) (U : Funs K A fd) : FnOk P w K mg base CX0 1 A.has_all fd.has_all p_has_all (spHas K hasAll) := by
  refine U.F_has_all.ok sc_has_all (fun vs H Q E h => ?_) (fun cdv A0 outer s H vs Q E hr h => ?_)
  · obtain ⟨f, g, n, F, gs, rfl, _⟩ := h
    rfl
  · have hu := hu_of hr
    obtain ⟨f, g, n, F, gs, rfl, hf, hg, hlt, hl, k⟩ := h
    refine ⟨_, (pss_one (ps_ret (pe_callB (w_all (K := K) rfl) (by rfl) T.b_all (by decide +kernel) (pa_cons (pe_lc (own := [("goal", 2)]) (g := gName 2) (tt := tYes) (by rfl) sc_has_all.nd (w_piL (K := K) (pv 1)) (blkOk_by (own := [("goal", 2)]) (by rfl)) (fun _ _ _ _ _ => (pg_name (i := 2) sc_has_all.nd rfl (Or.inl rfl))) (fun _ _ _ _ _ => pts_nil) (fun _ _ _ _ _ => (pe_and (pe_cmpR op_notN (pv 2) pe_non (nomark _)) (pe_one (pe_ix (w_ixL (K := K)) (pv 0) (pv 2) (fun _ _ => rfl)))))) pa_nil)))), ?_⟩
    refine g_ret (g_cb (cL (xs := gs.map vO) (fun i => [.bl (inB F (gs.getD i none))]) (fun R r => ⟨_, rfl, r⟩) hg (fun _ => Nat.le_refl 1) (by rw [List.length_map]; omega) ?_ (fun i x hi => turn_yes fun H1 R1 s1 r => ?_) (fun D H1 hD s1 h1 => ?_)))
    · exact fun _ => rfl
    · obtain ⟨o, ho, rfl⟩ := goal_cases hi
      have e : gs.getD i none = o := by rw [List.getD_eq_getElem?_getD, ho]; rfl
      rw [e] at r
      cases o with
      | none => exact ⟨_, rfl, rfl, false, rfl, iteF (r H1 (Same.refl _))⟩
      | some x =>
        have xn := hlt x (List.mem_of_getElem? ho)
        exact ⟨_, rfl, rfl, true, rfl, iteT ⟨_, rfl, _, rfl, f, _, _, _, rfl, rfl, sqL_mono s1 hf, atI_nat (fV_at xn), r H1 (Same.refl _)⟩⟩
    · rw [List.length_map, pre_at gs none fun o => V.bl (inB F o)] at h1
      refine ⟨D, gs.map (inB F), rfl, lst_of (by rw [h1, List.map_map]; rfl), ?_⟩
      rw [List.all_map]
      exact k H1 s1
end K6


set_option Elab.async false
set_option linter.all false
set_option maxRecDepth 100000
set_option maxHeartbeats 4000000
namespace K6
open PySem PySem.Spec PyProof.Rows L2 Rw
variable {P : Program} {w : World} {K : PySem.W.Frag} {mg : Str → Option Value} {base : Heap} {A : Ad} {fd : Fds}
def selAt (f : Nat → Bool) (i : Nat) : List V := if f i = true then [nV i] else []
theorem pre_sel (f : Nat → Bool) (n : Nat) : pre (selAt f) n = ((List.range n).filter f).map nV := by
  unfold pre
  induction List.range n with
  | nil => rfl
  | cons x l ih =>
    rw [List.flatMap_cons, ih, List.filter_cons]
    unfold selAt
    by_cases c : f x = true
    · rw [if_pos c, if_pos c]
      rfl
    · rw [if_neg c, if_neg c]
      rfl
theorem oV_set {n g : Nat} {R : Nat → Option Nat} {v : Nat} (h : g < n) : (oV n R).set g (vO (some v)) = oV n fun s => if s = g then some v else R s := by
  unfold oV
  apply List.ext_getElem
  · simp
  · intro i h1 h2
    simp only [List.length_set, List.length_map, List.length_range] at h1
    rw [List.getElem_set]
    by_cases c : g = i
    · subst c
      rw [if_pos rfl]
      simp
    · rw [if_neg c]
      simp only [List.getElem_map, List.getElem_range]
      rw [if_neg fun z => c z.symm]
theorem oV_congr {n : Nat} {R R' : Nat → Option Nat} (h : ∀ s, s < n → R s = R' s) : oV n R = oV n R' := by
  unfold oV
  exact List.map_congr_left fun s hs => by rw [h s (List.mem_range.mp hs)]
section
variable {ch : Ch} {G1 G2 : Gs} {E : List Nat} {n c : Nat}
def rA (ch : Ch) (G1 G2 : Gs) (E : List Nat) (c s : Nat) : Option Nat := lk (aP ch G1 G2 E s) c
def rB (ch : Ch) (G1 G2 : Gs) (E : List Nat) (c s : Nat) : Option Nat := lk (bP ch G1 G2 E s) c
def newA (ch : Ch) (G1 G2 : Gs) (E : List Nat) (c s : Nat) : Bool := (rA ch G1 G2 E c s).isNone && ch (fun g => (rB ch G1 G2 E c g).isSome) (G1 s)
def newB (ch : Ch) (G1 G2 : Gs) (E : List Nat) (c s : Nat) : Bool := (rB ch G1 G2 E c s).isNone && hasAll (fun g => (rA ch G1 G2 E c g).isSome) (G2 s)
theorem isNone_not (o : Option Nat) : o.isNone = !o.isSome := by cases o <;> rfl
theorem newA_is (s : Nat) : newA ch G1 G2 E c s = (!aP ch G1 G2 E s c && aP ch G1 G2 E s (c + 1)) := by
  have e : (fun g => (rB ch G1 G2 E c g).isSome) = fun g => bP ch G1 G2 E g c := funext fun g => lk_is (b_up g)
  unfold newA
  rw [isNone_not, show (rA ch G1 G2 E c s).isSome = aP ch G1 G2 E s c from lk_is (a_up s), e, a_succ]
  cases aP ch G1 G2 E s c <;> simp
theorem newB_is (s : Nat) : newB ch G1 G2 E c s = (!bP ch G1 G2 E s c && bP ch G1 G2 E s (c + 1)) := by
  have e : (fun g => (rA ch G1 G2 E c g).isSome) = fun g => aP ch G1 G2 E g c := funext fun g => lk_is (a_up g)
  unfold newB
  rw [isNone_not, show (rB ch G1 G2 E c s).isSome = bP ch G1 G2 E s c from lk_is (b_up s), e, b_succ]
  cases bP ch G1 G2 E s c <;> simp
theorem rA_next (s : Nat) : (if newA ch G1 G2 E c s = true then some (c + 1) else rA ch G1 G2 E c s) = rA ch G1 G2 E (c + 1) s := by
  show _ = lk (aP ch G1 G2 E s) (c + 1)
  rw [lk_step (a_up s), newA_is, isNone_not, lk_is (a_up s)]
  cases aP ch G1 G2 E s c <;> cases aP ch G1 G2 E s (c + 1) <;> rfl
theorem rB_next (s : Nat) : (if newB ch G1 G2 E c s = true then some (c + 1) else rB ch G1 G2 E c s) = rB ch G1 G2 E (c + 1) s := by
  show _ = lk (bP ch G1 G2 E s) (c + 1)
  rw [lk_step (b_up s), newB_is, isNone_not, lk_is (b_up s)]
  cases bP ch G1 G2 E s c <;> cases bP ch G1 G2 E s (c + 1) <;> rfl
theorem filt_nil {p : Nat → Bool} : ((List.range n).filter p).length = 0 ↔ ∀ s, s < n → p s = false := by
  rw [List.length_eq_zero_iff, List.filter_eq_nil_iff]
  constructor
  · intro h s hs
    have := h s (List.mem_range.mpr hs)
    simpa using this
  · intro h s hs
    rw [h s (List.mem_range.mp hs)]
    exact Bool.false_ne_true
theorem new_fix : (((List.range n).filter (newA ch G1 G2 E c)).length = 0 ∧ ((List.range n).filter (newB ch G1 G2 E c)).length = 0) ↔ FixAt ch G1 G2 E n c := by
  rw [filt_nil, filt_nil]
  constructor
  · rintro ⟨h1, h2⟩ s hs
    have a := h1 s hs
    have b := h2 s hs
    rw [newA_is] at a
    rw [newB_is] at b
    have ua := a_up (ch := ch) (G1 := G1) (G2 := G2) (E := E) s c
    have ub := b_up (ch := ch) (G1 := G1) (G2 := G2) (E := E) s c
    constructor
    · revert a ua
      cases aP ch G1 G2 E s c <;> cases aP ch G1 G2 E s (c + 1) <;> simp
    · revert b ub
      cases bP ch G1 G2 E s c <;> cases bP ch G1 G2 E s (c + 1) <;> simp
  · intro h
    constructor
    · intro s hs
      rw [newA_is, (h s hs).1]
      cases aP ch G1 G2 E s c <;> rfl
    · intro s hs
      rw [newB_is, (h s hs).2]
      cases bP ch G1 G2 E s c <;> rfl
theorem start_a (s : Nat) : vO (rA ch G1 G2 E 0 s) = if s ∈ E then V.int 0 else .non := by
  show vO (if decide (s ∈ E) = true then some 0 else none) = _
  by_cases h : s ∈ E
  · rw [if_pos (decide_eq_true h), if_pos h]; rfl
  · rw [if_neg (by rw [decide_eq_false h]; exact Bool.false_ne_true), if_neg h]; rfl
end
def spLeft (K : PySem.W.Frag) (C fs fa : Addr) : Sp := fun vs H Q _ => ∃ (p f : Addr) (w : Nat) (tab : Tab) (ends : List Nat) (mine others : V) (ch : Ch) (G1 G2 : Gs), vs = [.ref p, mine, others, .ref f] ∧ (f = fs ∧ ch = hasSome ∨ f = fa ∧ ch = hasAll) ∧ RdAt K C H p w tab ends ∧ GoodE tab.length ends ∧ tab.length ≤ 200 ∧
  GsAt K H mine G1 tab.length ∧ GsAt K H others G2 tab.length ∧ GoodG tab.length G1 ∧ GoodG tab.length G2 ∧ (∀ s, (G1 s).length ≤ 8) ∧ (∀ s, (G2 s).length ≤ 8) ∧
  ∀ a ph pt H', Same H H' → SqT K H' a [.ref ph, .ref pt] → H' ph = some (.lst (oV tab.length (hR ch G1 G2 ends tab.length))) → H' pt = some (.lst (oV tab.length (tR ch G1 G2 ends tab.length))) → Q (.ref a) H'
theorem looks_of {f fs fa : Addr} {ch : Ch} (h : f = fs ∧ ch = hasSome ∨ f = fa ∧ ch = hasAll) : Looks ch := by
  rcases h with ⟨_, rfl⟩ | ⟨_, rfl⟩
  · exact looks_some
  · exact looks_all
/-- all but one object stay -/
def But (b : Addr) (H H' : Hp) : Prop := ∀ x o, x ≠ b → H x = some o → H' x = some o
def WS (ch : Ch) (G1 G2 : Gs) (E : List Nat) (n : Nat) (H : Hp) (p f ph pt : Addr) (mine others : V) (m : Nat) (σ : L2.St) (H' : Hp) : Prop :=
  ∃ (c : Nat) (found : Bool) (y8 y9 y10 y11 y12 : Option V), σ = [some (.ref p), some mine, some others, some (.ref f), some (.ref ph), some (.ref pt), some (.int (c : Int)), some (.bl found), y8, y9, y10, y11, y12, none, none, none] ∧ Same H H' ∧
    H' ph = some (.lst (oV n (rA ch G1 G2 E c))) ∧ H' pt = some (.lst (oV n (rB ch G1 G2 E c))) ∧
    ((found = true ∧ c ≤ cnt ch G1 G2 E n c ∧ m = 2 * n + 1 - c) ∨ (found = false ∧ m = 0 ∧ ∃ c', c' ≤ 2 * n ∧ FixAt ch G1 G2 E n c' ∧ c = c' + 1))
theorem isSome_v (o : Option Nat) : (match vO o with | .non => false | _ => true) = o.isSome := by cases o <;> rfl
theorem ok_signs_left (T : Txt K mg A) (U : Funs K A fd) : FnOk P w K mg base CX0 7 A.signs_left fd.signs_left p_signs_left (spLeft K A.C A.has_some A.has_all) := by
  have G_has_all := ok_has_all (P := P) (w := w) (base := base) T U
  have b_has_all := U.b_has_all
  have G_has_some := ok_has_some (P := P) (w := w) (base := base) T U
  have b_has_some := U.b_has_some
  have G_end_flags := ok_end_flags (P := P) (w := w) (base := base) T U
  have b_end_flags := U.b_end_flags
  refine U.F_signs_left.ok sc_signs_left (fun vs H Q E h => ?_) (fun cdv A0 outer s H vs Q E hr h => ?_)
  · obtain ⟨p, f, n', tab, ends, mine, others, ch, G1, G2, rfl, _⟩ := h
    rfl
  · have hu := hu_of hr
    obtain ⟨p, f, n', tab, ends, mine, others, ch, G1, G2, rfl, hch, R, ge, n2, gm, go, g1, g2, l1, l2, k⟩ := h
    refine ⟨_, (pss_cons (ps_set (i := 4) sc_signs_left.nd rfl (Or.inr rfl) (pe_lc (own := [("end", 13)]) (g := gName 13) (tt := tYes) (by rfl) sc_signs_left.nd (w_piL (K := K) (pe_call G_end_flags (hr.mono (by decide)) (by rfl) T.m_end_flags T.k_end_flags b_end_flags .nil pass0 (pa_cons (pv 0) pa_nil))) (blkOk_by (own := [("end", 13)]) (by rfl)) (fun _ _ _ _ _ => (pg_name (i := 13) sc_signs_left.nd rfl (Or.inl rfl))) (fun _ _ _ _ _ => pts_nil) (fun _ _ _ _ _ => (pe_ifExp (w_truth (K := K) (pv 13) (by intro _; rfl)) pe_int pe_non))))
       (pss_cons (ps_set (i := 5) sc_signs_left.nd rfl (Or.inr rfl) (pe_callTy (w_list (K := K)) (by rfl) T.b_list (by decide +kernel) (pa_cons (pv 4) pa_nil)))
       (pss_cons (ps_set (i := 6) sc_signs_left.nd rfl (Or.inl rfl) pe_int)
       (pss_cons (ps_set (i := 7) sc_signs_left.nd rfl (Or.inl rfl) pe_bl)
       (pss_cons (ps_while PassesOwn.never (pt_val (pv 7)) (pss_cons (ps_aug (i := 6) sc_signs_left.nd rfl (Or.inl rfl) pe_int ip_add)
       (pss_cons (ps_set (i := 8) sc_signs_left.nd rfl (Or.inr rfl) (pe_lc (own := [("left", 14)]) (g := gName 14) (tt := tYes) (by rfl) sc_signs_left.nd (w_piL (K := K) (pv 4)) (blkOk_by (own := [("left", 14)]) (by rfl)) (fun _ _ _ _ _ => (pg_name (i := 14) sc_signs_left.nd rfl (Or.inl rfl))) (fun _ _ _ _ _ => pts_nil) (fun _ _ _ _ _ => (pe_cmpR op_notN (pv 14) pe_non (nomark _)))))
       (pss_cons (ps_set (i := 9) sc_signs_left.nd rfl (Or.inr rfl) (pe_lc (own := [("left", 14)]) (g := gName 14) (tt := tYes) (by rfl) sc_signs_left.nd (w_piL (K := K) (pv 5)) (blkOk_by (own := [("left", 14)]) (by rfl)) (fun _ _ _ _ _ => (pg_name (i := 14) sc_signs_left.nd rfl (Or.inl rfl))) (fun _ _ _ _ _ => pts_nil) (fun _ _ _ _ _ => (pe_cmpR op_notN (pv 14) pe_non (nomark _)))))
       (pss_cons (ps_setLc (i := 10) (own := [("at", 15)]) (g := gName 15) (by rfl) sc_signs_left.nd rfl rfl (sw_true rfl rfl rfl (by decide +kernel)) (pi_range1 (by rfl) T.b_range (pa_cons (pe_callB (w_len (K := K)) (by rfl) T.b_len (by decide +kernel) (pa_cons (pv 4) pa_nil)) pa_nil)) (blkOk_by (own := [("at", 15)]) (by rfl)) (fun _ _ _ _ _ => (pg_name (i := 15) sc_signs_left.nd rfl (Or.inl rfl))) (fun _ _ _ _ _ => (pts_one (PW.pt (pw_and (pt_cmpR op_isN (pe_ix (w_ixL (K := K)) (pv 4) (pv 15) (fun _ _ => rfl)) pe_non (nomark _)) (pw_and1 (w_truth (K := K) (C8.pe_cv (i := 3) ⟨⟨_, _, G_has_some, T.k_has_some, b_has_some⟩⟩ ⟨⟨_, _, G_has_all, T.k_has_all, b_has_all⟩⟩ hr (by decide) (by decide) rfl (by first | exact Or.inl rfl | exact Or.inr (Or.inl rfl) | exact Or.inr (Or.inr rfl)) (pa_cons (pv 9) (pa_cons (pe_ix (w_ixL (K := K)) (pv 1) (pv 15) (fun _ _ => rfl)) pa_nil))) (by intro _; rfl))))))) (fun _ _ _ _ _ => (pv 15)))
       (pss_cons (ps_setLc (i := 11) (own := [("at", 15)]) (g := gName 15) (by rfl) sc_signs_left.nd rfl rfl (sw_true rfl rfl rfl (by decide +kernel)) (pi_range1 (by rfl) T.b_range (pa_cons (pe_callB (w_len (K := K)) (by rfl) T.b_len (by decide +kernel) (pa_cons (pv 5) pa_nil)) pa_nil)) (blkOk_by (own := [("at", 15)]) (by rfl)) (fun _ _ _ _ _ => (pg_name (i := 15) sc_signs_left.nd rfl (Or.inl rfl))) (fun _ _ _ _ _ => (pts_one (PW.pt (pw_and (pt_cmpR op_isN (pe_ix (w_ixL (K := K)) (pv 5) (pv 15) (fun _ _ => rfl)) pe_non (nomark _)) (pw_and1 (pt_val (pe_call G_has_all (hr.mono (by decide)) (by rfl) T.m_has_all T.k_has_all b_has_all .nil pass0 (pa_cons (pv 8) (pa_cons (pe_ix (w_ixL (K := K)) (pv 2) (pv 15) (fun _ _ => rfl)) pa_nil))))))))) (fun _ _ _ _ _ => (pv 15)))
       (pss_cons (ps_for PassesOwn.never rfl (w_piL (K := K) (pv 10)) (pg_name (i := 12) sc_signs_left.nd rfl (Or.inl rfl))
       (pss_one (ps_asg (pv 6) (pg_sub (pv 4) (pv 12) set_list))))
       (pss_cons (ps_for PassesOwn.never rfl (w_piL (K := K) (pv 11)) (pg_name (i := 12) sc_signs_left.nd rfl (Or.inl rfl))
       (pss_one (ps_asg (pv 6) (pg_sub (pv 5) (pv 12) set_list))))
       (pss_one (ps_set (i := 7) sc_signs_left.nd rfl (Or.inl rfl) (pe_cmpR op_gt (pe_op op_add (pe_callB (w_len (K := K)) (by rfl) T.b_len (by decide +kernel) (pa_cons (pv 10) pa_nil)) (pe_callB (w_len (K := K)) (by rfl) T.b_len (by decide +kernel) (pa_cons (pv 11) pa_nil))) pe_int (nomark _))))))))))))
       (pss_one (ps_ret (pe_tup (pa_cons (pv 4) (pa_cons (pv 5) pa_nil)))))))))), ?_⟩
    have lkc := looks_of hch
    generalize hn : tab.length = n at *
    -- here
    refine ⟨_, rfl, p, n', tab, ends, rfl, R, by rw [hn]; exact ge, by omega, fun q H1 hq s1 h1 => ⟨q, rfl, ⟨_, lst_of h1⟩, ?_⟩⟩
    rw [hn] at h1
    have fl : (flags n ends).length = n := by unfold flags; simp
    refine lL (xs := flags n ends) (fun i => [vO (rA ch G1 G2 ends 0 i)]) (lst_of h1) (fun _ => Nat.le_refl 1) (by omega) ?_ (fun i x hi => turn_yes fun H2 R2 s2 r => ?_) (fun ph H2 hph s2 h2 => ?_)
    · exact fun _ => rfl
    · have hin : i < n := by have := lt_of_get hi; omega
      unfold flags at hi
      rw [List.getElem?_map, List.getElem?_range hin] at hi
      obtain rfl := Option.some.inj hi
      rw [start_a] at r
      by_cases c : i ∈ ends
      · rw [if_pos c] at r
        refine ⟨_, rfl, _, rfl, ?_⟩
        rw [decide_eq_true c]
        exact iteT (r H2 (Same.refl _))
      · rw [if_neg c] at r
        refine ⟨_, rfl, _, rfl, ?_⟩
        rw [decide_eq_false c]
        exact iteF (r H2 (Same.refl _))
    rw [fl, pre_map] at h2
    have h2' : H2 ph = some (.lst (oV n (rA ch G1 G2 ends 0))) := h2
    -- there
    refine ⟨_, rfl, ph, _, rfl, .inl (lst_of h2'), fun pt hpt => ?_⟩
    have npt : ph ≠ pt := ne_of_none h2' hpt
    have s12 := s1.trans s2
    have nph1 : H1 ph = none := hph
    have nph : H ph = none := Same.free s1 hph
    have nptH : H pt = none := Same.free s12 hpt
    have s3 : Same H (upd H2 pt (.lst (oV n (rA ch G1 G2 ends 0)))) := s12.trans (same_upd hpt)
    dsimp only
    refine ⟨WS ch G1 G2 ends n H p f ph pt mine others, ⟨2 * n + 1, 0, true, none, none, none, none, none, rfl, s3, by rw [upd_ne npt]; exact h2', upd_same, .inl ⟨rfl, Nat.zero_le _, rfl⟩⟩, ?_⟩
    rintro m σ H4 ⟨c, found, y8, y9, y10, y11, y12, rfl, s4, hh, ht, hc⟩
    refine ⟨_, rfl, found, rfl, ?_⟩
    rcases hc with ⟨rfl, cc, rfl⟩ | ⟨rfl, rfl, c', hc', fx, rfl⟩
    · refine iteT ⟨fun σ' H' => ∃ m', m' < 2 * n + 1 - c ∧ WS ch G1 G2 ends n H p f ph pt mine others m' σ' H', fun _ _ h => h, ?_⟩
      have c2n := cnt_le (ch := ch) (G1 := G1) (G2 := G2) (E := ends) n c
      refine ⟨_, rfl, _, _, rfl, rfl, ?_⟩
      have ec : (c : Int) + 1 = ((c + 1 : Nat) : Int) := by omega
      dsimp only
      rw [ec]
      -- what is known
      refine g_seq (g_asg (cL (xs := oV n (rA ch G1 G2 ends c)) (fun i => [.bl (rA ch G1 G2 ends c i).isSome]) (fun R r => ⟨_, rfl, r⟩) (lst_of hh) (fun _ => Nat.le_refl 1) (by rw [oV_len]; omega) ?_ (fun i x hi => turn_yes fun H5 R5 s5 r => ?_) (fun ka H5 hka s5 h5 => ?_)))
      · exact fun _ => rfl
      · have hin : i < n := by have := lt_of_get hi; rwa [oV_len] at this
        rw [oV_at hin] at hi
        obtain rfl := Option.some.inj hi
        cases e : rA ch G1 G2 ends c i with
        | none => rw [e] at r; exact ⟨_, rfl, rfl, r H5 (Same.refl _)⟩
        | some v => rw [e] at r; exact ⟨_, rfl, rfl, r H5 (Same.refl _)⟩
      rw [oV_len, pre_map] at h5
      have h5' : H5 ka = some (.lst (fV n fun s => (rA ch G1 G2 ends c s).isSome)) := h5
      have ht5 := s5 _ _ ht
      dsimp only
      refine g_seq (g_asg (cL (xs := oV n (rB ch G1 G2 ends c)) (fun i => [.bl (rB ch G1 G2 ends c i).isSome]) (fun R r => ⟨_, rfl, r⟩) (lst_of ht5) (fun _ => Nat.le_refl 1) (by rw [oV_len]; omega) ?_ (fun i x hi => turn_yes fun H6 R6 s6 r => ?_) (fun kb H6 hkb s6 h6 => ?_)))
      · exact fun _ => rfl
      · have hin : i < n := by have := lt_of_get hi; rwa [oV_len] at this
        rw [oV_at hin] at hi
        obtain rfl := Option.some.inj hi
        cases e : rB ch G1 G2 ends c i with
        | none => rw [e] at r; exact ⟨_, rfl, rfl, r H6 (Same.refl _)⟩
        | some v => rw [e] at r; exact ⟨_, rfl, rfl, r H6 (Same.refl _)⟩
      rw [oV_len, pre_map] at h6
      have h6' : H6 kb = some (.lst (fV n fun s => (rB ch G1 G2 ends c s).isSome)) := h6
      have s46 := s5.trans s6
      -- who is new
      dsimp only
      refine g_seq (g_asg (cR (n := n) (m := (n : Int)) (selAt (newA ch G1 G2 ends c)) (by omega) (by omega) (fun R r => ?_) (fun i => ?_) (by omega) ?_ (fun i hi H7 R7 N7 s7 ry rn => ?_) (fun pa H7 hpa s7 h7 => ?_)))
      · refine ⟨_, rfl, _, _, rfl, .inl ⟨_, lst_of (s46 _ _ hh), rfl⟩, ?_⟩
        rw [oV_len]
        exact r
      · unfold selAt
        split <;> simp
      · exact fun _ => rfl
      · refine ⟨_, rfl, _, rfl, ph, _, _, _, rfl, rfl, lst_of ((s46.trans s7) _ _ hh), atI_nat (oV_at hi), ?_⟩
        cases e : rA ch G1 G2 ends c i with
        | some v => exact ⟨rfl, false, rfl, iteF (iteF (rn H7 (by simp [selAt, newA, e]) (Same.refl _)))⟩
        | none =>
          refine ⟨rfl, true, rfl, iteT ?_⟩
          obtain ⟨ga, gx, ge1, hgx, hgl, hgf⟩ := (gm.mono (s4.trans (s46.trans s7))).ob
          obtain ⟨gb, eb, hgb⟩ := hgf i hi
          subst ge1
          have fin : ∀ H8, Same H7 H8 → ∀ b, b = ch (fun s => (rB ch G1 G2 ends c s).isSome) (G1 i) → (if b = true then tVar 15 (((([some (.ref p), some (.ref ga), some others, some (.ref f), some (.ref ph), some (.ref pt), some (.int (c : Int)), some (.bl true), y8, y9, y10, y11, y12, none, none, none] : L2.St).set 6 (some (.int ((c + 1 : Nat) : Int)))).set 8 (some (.ref ka))).set 9 (some (.ref kb)) |>.set 15 (some (.int (i : Int)))) H8 R7 else N7 H8) := by
            intro H8 s8 b eb
            cases b with
            | true => exact iteT ⟨_, rfl, ry _ H8 (by simp only [selAt, newA, e, ← eb]; rfl) s8⟩
            | false => exact iteF (rn H8 (by simp only [selAt, newA, e, ← eb]; rfl) s8)
          rcases hch with ⟨rfl, ech⟩ | ⟨rfl, ech⟩
          · refine .inl ⟨rfl, _, rfl, _, rfl, _, rfl, ga, gx, _, _, rfl, rfl, hgx, atI_nat eb, kb, gb, n, _, G1 i, rfl, lst_of (s7 _ _ h6'), hgb, g1 i hi, by have := l1 i; omega, fun H8 s8 => ⟨_, rfl, ?_⟩⟩
            exact fin H8 s8 _ (by rw [ech])
          · refine .inr ⟨rfl, _, rfl, _, rfl, _, rfl, ga, gx, _, _, rfl, rfl, hgx, atI_nat eb, kb, gb, n, _, G1 i, rfl, lst_of (s7 _ _ h6'), hgb, g1 i hi, by have := l1 i; omega, fun H8 s8 => ⟨_, rfl, ?_⟩⟩
            exact fin H8 s8 _ (by rw [ech])
      rw [pre_sel] at h7
      have s47 := s46.trans s7
      dsimp only
      refine g_seq (g_asg (cR (n := n) (m := (n : Int)) (selAt (newB ch G1 G2 ends c)) (by omega) (by omega) (fun R r => ?_) (fun i => ?_) (by omega) ?_ (fun i hi H8 R8 N8 s8 ry rn => ?_) (fun pb H8 hpb s8 h8 => ?_)))
      · refine ⟨_, rfl, _, _, rfl, .inl ⟨_, lst_of (s47 _ _ ht), rfl⟩, ?_⟩
        rw [oV_len]
        exact r
      · unfold selAt
        split <;> simp
      · exact fun _ => rfl
      · refine ⟨_, rfl, _, rfl, pt, _, _, _, rfl, rfl, lst_of ((s47.trans s8) _ _ ht), atI_nat (oV_at hi), ?_⟩
        cases e : rB ch G1 G2 ends c i with
        | some v => exact ⟨rfl, false, rfl, iteF (iteF (rn H8 (by simp [selAt, newB, e]) (Same.refl _)))⟩
        | none =>
          refine ⟨rfl, true, rfl, iteT ?_⟩
          obtain ⟨ga, gx, ge1, hgx, hgl, hgf⟩ := (go.mono (s4.trans (s47.trans s8))).ob
          obtain ⟨gb, eb, hgb⟩ := hgf i hi
          subst ge1
          refine ⟨_, rfl, _, rfl, _, rfl, ga, gx, _, _, rfl, rfl, hgx, atI_nat eb, ka, gb, n, _, G2 i, rfl, lst_of ((s6.trans (s7.trans s8)) _ _ h5'), hgb, g2 i hi, by have := l2 i; omega, fun H9 s9 => ⟨_, rfl, ?_⟩⟩
          cases eb2 : hasAll (fun s => (rA ch G1 G2 ends c s).isSome) (G2 i) with
          | true => exact iteT ⟨_, rfl, ry _ H9 (by simp only [selAt, newB, e, eb2]; rfl) s9⟩
          | false => exact iteF (rn H9 (by simp only [selAt, newB, e, eb2]; rfl) s9)
      rw [pre_sel] at h8
      have s48 := s47.trans s8
      generalize hNA : (List.range n).filter (newA ch G1 G2 ends c) = NA at h7
      generalize hNB : (List.range n).filter (newB ch G1 G2 ends c) = NB at h8
      have inA : ∀ g ∈ NA, g < n := fun g hg => by rw [← hNA] at hg; exact List.mem_range.mp (List.mem_filter.mp hg).1
      have inB' : ∀ g ∈ NB, g < n := fun g hg => by rw [← hNB] at hg; exact List.mem_range.mp (List.mem_filter.mp hg).1
      have la : NA.length ≤ n := by rw [← hNA]; have := List.length_filter_le (newA ch G1 G2 ends c) (List.range n); rwa [List.length_range] at this
      have lb : NB.length ≤ n := by rw [← hNB]; have := List.length_filter_le (newB ch G1 G2 ends c) (List.range n); rwa [List.length_range] at this
      have h7' := s8 _ _ h7
      have hh8 := s48 _ _ hh
      have ht8 := s48 _ _ ht
      have nph_a : pa ≠ ph := (ne_of_none (s46 _ _ hh) hpa).symm
      have nph_b : pb ≠ ph := (ne_of_none (s47 _ _ hh) hpb).symm
      have npt_a : pa ≠ pt := (ne_of_none (s46 _ _ ht) hpa).symm
      have npt_b : pb ≠ pt := (ne_of_none (s47 _ _ ht) hpb).symm
      dsimp only
      refine ⟨_, rfl, pa, rfl, ⟨_, lst_of h7'⟩, ?_⟩
      refine for_list (xs := NA.map nV) (fun i σ H' => ∃ y12, σ = [some (.ref p), some mine, some others, some (.ref f), some (.ref ph), some (.ref pt), some (.int ((c + 1 : Nat) : Int)), some (.bl true), some (.ref ka), some (.ref kb), some (.ref pa), some (.ref pb), y12, none, none, none] ∧ But ph H8 H' ∧
        H' ph = some (.lst (oV n fun s => if s ∈ NA.take i then some (c + 1) else rA ch G1 G2 ends c s))) ?_ ?_ ?_ ?_
      · exact ⟨y12, rfl, fun b o _ h => h, by rw [hh8]; simp⟩
      · rintro i σ H9 _ ⟨_, _, b9, _⟩
        exact lst_of (b9 _ _ nph_a h7')
      · rintro i x σ H9 hi ⟨y12, rfl, b9, h9⟩
        rw [List.getElem?_map] at hi
        cases eg : NA[i]? with
        | none => rw [eg] at hi; cases hi
        | some g =>
          rw [eg] at hi
          obtain rfl := Option.some.inj hi
          have gn := inA g (List.mem_of_getElem? eg)
          refine ⟨_, rfl, _, rfl, _, rfl, ph, _, _, g, rfl, rfl, h9, Evl.ixN_nat (by rw [oV_len]; exact gn), ?_⟩
          refine ⟨_, rfl, fun b o hb h => by rw [upd_ne hb]; exact b9 b o hb h, ?_⟩
          rw [upd_same, show V.int ((c + 1 : Nat) : Int) = vO (some (c + 1)) from rfl, oV_set gn, List.take_add_one, eg]
          congr 2
          refine oV_congr fun s _ => ?_
          by_cases c1 : s = g
          · subst c1; simp
          · simp [c1]
      · rintro σ H9 ⟨y12, rfl, b9, h9⟩
        rw [List.length_map, List.take_length] at h9
        have h8b := b9 _ _ nph_b h8
        have ht9 := b9 _ _ npt.symm ht8
        refine ⟨_, rfl, pb, rfl, ⟨_, lst_of h8b⟩, ?_⟩
        refine for_list (xs := NB.map nV) (fun i σ H' => ∃ y12, σ = [some (.ref p), some mine, some others, some (.ref f), some (.ref ph), some (.ref pt), some (.int ((c + 1 : Nat) : Int)), some (.bl true), some (.ref ka), some (.ref kb), some (.ref pa), some (.ref pb), y12, none, none, none] ∧ But pt H9 H' ∧
          H' pt = some (.lst (oV n fun s => if s ∈ NB.take i then some (c + 1) else rB ch G1 G2 ends c s))) ?_ ?_ ?_ ?_
        · exact ⟨y12, rfl, fun b o _ h => h, by rw [ht9]; simp⟩
        · rintro i σ H10 _ ⟨_, _, b10, _⟩
          exact lst_of (b10 _ _ npt_b h8b)
        · rintro i x σ H10 hi ⟨y12, rfl, b10, h10⟩
          rw [List.getElem?_map] at hi
          cases eg : NB[i]? with
          | none => rw [eg] at hi; cases hi
          | some g =>
            rw [eg] at hi
            obtain rfl := Option.some.inj hi
            have gn := inB' g (List.mem_of_getElem? eg)
            refine ⟨_, rfl, _, rfl, _, rfl, pt, _, _, g, rfl, rfl, h10, Evl.ixN_nat (by rw [oV_len]; exact gn), ?_⟩
            refine ⟨_, rfl, fun b o hb h => by rw [upd_ne hb]; exact b10 b o hb h, ?_⟩
            rw [upd_same, show V.int ((c + 1 : Nat) : Int) = vO (some (c + 1)) from rfl, oV_set gn, List.take_add_one, eg]
            congr 2
            refine oV_congr fun s _ => ?_
            by_cases c1 : s = g
            · subst c1; simp
            · simp [c1]
        · rintro σ H10 ⟨y12, rfl, b10, h10⟩
          rw [List.length_map, List.take_length] at h10
          have h9b := b10 _ _ npt h9
          have hpa10 := b10 _ _ npt_a (b9 _ _ nph_a h7')
          have hpb10 := b10 _ _ npt_b h8b
          have sA : Same H H10 := fun b o h => b10 b o (ne_of_none h nptH) (b9 b o (ne_of_none h nph) ((s4.trans s48) b o h))
          refine ⟨_, rfl, _, _, rfl, .inl ⟨_, lst_of hpa10, rfl⟩, _, rfl, _, _, rfl, .inl ⟨_, lst_of hpb10, rfl⟩, _, _, rfl, rfl, _, _, rfl, rfl, ?_⟩
          rw [List.length_map, List.length_map]
          have eA : (oV n fun s => if s ∈ NA then some (c + 1) else rA ch G1 G2 ends c s) = oV n (rA ch G1 G2 ends (c + 1)) := by
            refine oV_congr fun s hs => ?_
            rw [← rA_next]
            by_cases z : newA ch G1 G2 ends c s = true
            · rw [if_pos z, if_pos (by rw [← hNA]; exact List.mem_filter.mpr ⟨List.mem_range.mpr hs, z⟩)]
            · rw [if_neg z, if_neg (fun w => z (by rw [← hNA] at w; exact (List.mem_filter.mp w).2))]
          have eB : (oV n fun s => if s ∈ NB then some (c + 1) else rB ch G1 G2 ends c s) = oV n (rB ch G1 G2 ends (c + 1)) := by
            refine oV_congr fun s hs => ?_
            rw [← rB_next]
            by_cases z : newB ch G1 G2 ends c s = true
            · rw [if_pos z, if_pos (by rw [← hNB]; exact List.mem_filter.mpr ⟨List.mem_range.mpr hs, z⟩)]
            · rw [if_neg z, if_neg (fun w => z (by rw [← hNB] at w; exact (List.mem_filter.mp w).2))]
          rw [eA] at h9b
          rw [eB] at h10
          by_cases z : NA.length = 0 ∧ NB.length = 0
          · have fx : FixAt ch G1 G2 ends n c := new_fix.mp (by rw [hNA, hNB]; exact z)
            dsimp only
            rw [decide_eq_false (show ¬ ((NA.length : Int) + (NB.length : Int) > 0) by omega)]
            exact ⟨0, by omega, c + 1, false, _, _, _, _, _, rfl, sA, h9b, h10, .inr ⟨rfl, rfl, c, by omega, fx, rfl⟩⟩
          · have nfx : ¬ FixAt ch G1 G2 ends n c := fun w => z (by rw [← hNA, ← hNB]; exact new_fix.mpr w)
            have := cnt_grows nfx
            dsimp only
            rw [decide_eq_true (show (NA.length : Int) + (NB.length : Int) > 0 by omega)]
            exact ⟨2 * n + 1 - (c + 1), by omega, c + 1, true, _, _, _, _, _, rfl, sA, h9b, h10, .inl ⟨rfl, by omega, rfl⟩⟩
    · refine iteF ?_
      have eA : oV n (rA ch G1 G2 ends (c' + 1)) = oV n (hR ch G1 G2 ends n) := oV_congr fun s hs => by
        show lk (aP ch G1 G2 ends s) (c' + 1) = lk (aP ch G1 G2 ends s) (2 * n)
        rw [(lk_fix lkc g1 g2 fx hs (Nat.le_succ c')).1, (lk_fix lkc g1 g2 fx hs hc').1]
      have eB : oV n (rB ch G1 G2 ends (c' + 1)) = oV n (tR ch G1 G2 ends n) := oV_congr fun s hs => by
        show lk (bP ch G1 G2 ends s) (c' + 1) = lk (bP ch G1 G2 ends s) (2 * n)
        rw [(lk_fix lkc g1 g2 fx hs (Nat.le_succ c')).2, (lk_fix lkc g1 g2 fx hs hc').2]
      rw [eA] at hh
      rw [eB] at ht
      refine ⟨_, rfl, _, rfl, by show 2 ≤ sizeLine; decide, fun a ha => ?_⟩
      exact k a ph pt _ (s4.trans (same_upd ha)) (tup_of upd_same) (same_upd ha _ _ hh) (same_upd ha _ _ ht)
end K6


set_option Elab.async false
set_option linter.all false
set_option maxRecDepth 100000
set_option maxHeartbeats 4000000
namespace K6
open PySem PySem.Spec PyProof.Rows L2 Rw
variable {P : Program} {w : World} {K : PySem.W.Frag} {mg : Str → Option Value} {base : Heap} {A : Ad} {fd : Fds}
theorem near_good {w : Nat} {tab : Tab} {l : List Nat} (gt : GoodT w tab) : GoodG tab.length (near tab l) := by
  intro s hs g hg
  obtain ⟨x, hx, e⟩ := List.mem_map.mp hg
  rw [List.getD_eq_getElem?_getD, List.getD_eq_getElem?_getD, List.getElem?_eq_getElem hs] at e
  have e : (tab[s])[x]?.getD none = some g := e
  cases ez : (tab[s])[x]? with
  | none => rw [ez] at e; cases e
  | some o =>
    rw [ez] at e
    have e : o = some g := e
    rw [e] at ez
    exact (gt.rows tab[s] (List.getElem_mem hs)).2 g (List.mem_of_getElem? ez)
theorem near_len (tab : Tab) (l : List Nat) (s : Nat) : (near tab l s).length = l.length := List.length_map _
/-- a reader, and two lots -/
structure Duel (K : PySem.W.Frag) (C : Addr) (H : Hp) (p : Addr) (w : Nat) (tab : Tab) (ends l1 l2 : List Nat) : Prop where
  R : RdAt K C H p w tab ends
  gt : GoodT w tab
  ge : GoodE tab.length ends
  g1 : GoodLot w l1
  g2 : GoodLot w l2
theorem Duel.mono {C p : Addr} {H H' : Hp} {w : Nat} {tab : Tab} {ends l1 l2 : List Nat} (d : Duel K C H p w tab ends l1 l2) (s : Same H H') : Duel K C H' p w tab ends l1 l2 := ⟨d.R.mono s, d.gt, d.ge, d.g1, d.g2⟩
abbrev hD (tab : Tab) (ends l1 l2 : List Nat) : Nat → Option Nat := hR hasSome (near tab l1) (near tab l2) ends tab.length
abbrev tD (tab : Tab) (ends l1 l2 : List Nat) : Nat → Option Nat := tR hasSome (near tab l1) (near tab l2) ends tab.length
def spLeast (K : PySem.W.Frag) (C : Addr) : Sp := fun vs H Q _ => ∃ (p : Addr) (w : Nat) (tab : Tab) (ends l1 l2 : List Nat), vs = [.ref p, .str (rowS l1), .str (rowS l2)] ∧ Duel K C H p w tab ends l1 l2 ∧
  ∀ a ph pt H', Same H H' → SqT K H' a [.ref ph, .ref pt] → H' ph = some (.lst (oV tab.length (hD tab ends l1 l2))) → H' pt = some (.lst (oV tab.length (tD tab ends l1 l2))) → Q (.ref a) H'
theorem ok_least_left (T : Txt K mg A) (U : Funs K A fd) : FnOk P w K mg base CX0 10 A.least_left fd.least_left p_least_left (spLeast K A.C) := by
  have G_signs_left := ok_signs_left (P := P) (w := w) (base := base) T U
  have b_signs_left := U.b_signs_left
  have G_has_some := ok_has_some (P := P) (w := w) (base := base) T U
  have b_has_some := U.b_has_some
  have G_goals_by := ok_goals_by (P := P) (w := w) (base := base) T U
  have b_goals_by := U.b_goals_by
  refine U.F_least_left.ok sc_least_left (fun vs H Q E h => ?_) (fun cdv A0 outer s H vs Q E hr h => ?_)
  · obtain ⟨p, n, tab, ends, l1, l2, rfl, _⟩ := h
    rfl
  · have hu := hu_of hr
    obtain ⟨p, n, tab, ends, l1, l2, rfl, D, k⟩ := h
    refine ⟨_, (pss_one (ps_ret (pe_call G_signs_left (hr.mono (by decide)) (by rfl) T.m_signs_left T.k_signs_left b_signs_left .nil pass0 (pa_cons (pv 0) (pa_cons (pe_call G_goals_by (hr.mono (by decide)) (by rfl) T.m_goals_by T.k_goals_by b_goals_by .nil pass0 (pa_cons (pv 0) (pa_cons (pv 1) pa_nil))) (pa_cons (pe_call G_goals_by (hr.mono (by decide)) (by rfl) T.m_goals_by T.k_goals_by b_goals_by .nil pass0 (pa_cons (pv 0) (pa_cons (pv 2) pa_nil))) (pa_cons (pe_glob (v := .ref A.has_some) (by rfl) T.m_has_some rfl) pa_nil))))))), ?_⟩
    have a8 := D.g1.len
    have b8 := D.g2.len
    have w8 := D.gt.w8
    refine ⟨_, rfl, _, rfl, _, rfl, p, n, tab, ends, l1, rfl, D.R, D.gt, D.g1.lt, by omega, fun v1 H1 s1 ga => ?_⟩
    refine ⟨_, rfl, _, rfl, p, n, tab, ends, l2, rfl, D.R.mono s1, D.gt, D.g2.lt, by omega, fun v2 H2 s2 gb => ?_⟩
    exact ⟨p, A.has_some, n, tab, ends, v1, v2, hasSome, _, _, rfl, .inl ⟨rfl, rfl⟩, D.R.mono (s1.trans s2), D.ge, D.gt.n2, ga.mono s2, gb, near_good D.gt, near_good D.gt, fun s => by rw [near_len]; omega, fun s => by rw [near_len]; omega,
      fun a ph pt H3 s3 ha hh ht => k a ph pt H3 (s1.trans (s2.trans s3)) ha hh ht⟩
def spTurns (K : PySem.W.Frag) (C : Addr) : Sp := fun vs H Q _ => ∃ (p : Addr) (w : Nat) (tab : Tab) (ends l1 l2 : List Nat), vs = [.ref p, .str (rowS l1), .str (rowS l2)] ∧ Duel K C H p w tab ends l1 l2 ∧ ∀ H', Same H H' → Q (vO (hD tab ends l1 l2 0)) H'
theorem ok_least_turns (T : Txt K mg A) (U : Funs K A fd) : FnOk P w K mg base CX0 13 A.least_turns fd.least_turns p_least_turns (spTurns K A.C) := by
  have G_least_left := ok_least_left (P := P) (w := w) (base := base) T U
  have b_least_left := U.b_least_left
  have G_check_duel := ok_check_duel (P := P) (w := w) (base := base) T U
  have b_check_duel := U.b_check_duel
  refine U.F_least_turns.ok sc_least_turns (fun vs H Q E h => ?_) (fun cdv A0 outer s H vs Q E hr h => ?_)
  · obtain ⟨p, n, tab, ends, l1, l2, rfl, _⟩ := h
    rfl
  · have hu := hu_of hr
    obtain ⟨p, n, tab, ends, l1, l2, rfl, D, k⟩ := h
    refine ⟨_, (pss_cons (ps_expr (pe_call G_check_duel (hr.mono (by decide)) (by rfl) T.m_check_duel T.k_check_duel b_check_duel .nil pass0 (pa_cons (pv 0) (pa_cons (pv 1) (pa_cons (pv 2) pa_nil)))))
       (pss_one (ps_ret (pe_ix (w_ixL (K := K)) (pe_ix (w_ixT (K := K)) (pe_call G_least_left (hr.mono (by decide)) (by rfl) T.m_least_left T.k_least_left b_least_left .nil pass0 (pa_cons (pv 0) (pa_cons (pv 1) (pa_cons (pv 2) pa_nil)))) pe_int (fun _ _ => rfl)) pe_int (fun _ _ => rfl))))), ?_⟩
    have n1 := D.gt.n1
    refine ⟨_, rfl, _, rfl, _, rfl, p, n, tab, ends, l1, l2, rfl, D.R, D.g1, D.g2, fun H1 s1 => ?_⟩
    refine ⟨_, rfl, _, rfl, _, rfl, p, n, tab, ends, l1, l2, rfl, D.mono s1, fun a ph pt H2 s2 ha hh ht => ?_⟩
    exact ⟨a, _, _, _, rfl, rfl, ha, rfl, ph, _, _, _, rfl, rfl, lst_of hh, atI_nat (j := 0) (oV_at n1), k H2 (s1.trans s2)⟩
def leB (R : Nat → Option Nat) (m : Int) (g : Nat) : Bool := match R g with
  | some r => decide ((r : Int) ≤ m)
  | none => false
def spLeaves (K : PySem.W.Frag) : Sp := fun vs H Q _ => ∃ (a : Addr) (n : Nat) (R : Nat → Option Nat) (o : Option Nat) (m : Int), vs = [.ref a, vO o, .int m] ∧ SqL K H a (oV n R) ∧ (∀ g, o = some g → g < n) ∧ Q (.bl (inB (leB R m) o)) H
theorem ok_leaves (T : Txt K mg A) (U : Funs K A fd) : FnOk P w K mg base CX0 1 A.leaves fd.leaves p_leaves (spLeaves K) := by
  refine U.F_leaves.ok sc_leaves (fun vs H Q E h => ?_) (fun cdv A0 outer s H vs Q E hr h => ?_)
  · obtain ⟨a, n, R, o, m, rfl, _⟩ := h
    rfl
  · have hu := hu_of hr
    obtain ⟨a, n, R, o, m, rfl, ha, lt, q⟩ := h
    refine ⟨_, (pss_one (ps_ret (pe_and (pe_cmpR op_notN (pv 1) pe_non (nomark _)) (pe_and (pe_cmpR op_notN (pe_ix (w_ixL (K := K)) (pv 0) (pv 1) (fun _ _ => rfl)) pe_non (nomark _)) (pe_one (pe_cmpR op_le (pe_ix (w_ixL (K := K)) (pv 0) (pv 1) (fun _ _ => rfl)) (pv 2) (nomark _))))))), ?_⟩
    cases o with
    | none => exact ⟨_, rfl, rfl, false, rfl, iteF q⟩
    | some g =>
      have gn := lt g rfl
      refine ⟨_, rfl, rfl, true, rfl, iteT ⟨_, rfl, _, rfl, a, _, _, _, rfl, rfl, ha, atI_nat (oV_at gn), ?_⟩⟩
      have q : Q (.bl (leB R m g)) H := q
      unfold leB at q
      cases e : R g with
      | none => rw [e] at q; exact ⟨rfl, false, rfl, iteF q⟩
      | some r =>
        rw [e] at q
        refine ⟨rfl, true, rfl, iteT ⟨_, rfl, _, rfl, a, _, _, _, rfl, rfl, ha, atI_nat (oV_at gn), _, rfl, ?_⟩⟩
        rw [e]
        exact ⟨_, _, rfl, rfl, q⟩
def spBars (K : PySem.W.Frag) : Sp := fun vs H Q _ => ∃ (a : Addr) (n : Nat) (R : Nat → Option Nat) (o : Option Nat), vs = [.ref a, vO o] ∧ SqL K H a (oV n R) ∧ (∀ g, o = some g → g < n) ∧ Q (.bl (!inB (fun g => (R g).isSome) o)) H
theorem ok_bars (T : Txt K mg A) (U : Funs K A fd) : FnOk P w K mg base CX0 1 A.bars fd.bars p_bars (spBars K) := by
  refine U.F_bars.ok sc_bars (fun vs H Q E h => ?_) (fun cdv A0 outer s H vs Q E hr h => ?_)
  · obtain ⟨a, n, R, o, rfl, _⟩ := h
    rfl
  · have hu := hu_of hr
    obtain ⟨a, n, R, o, rfl, ha, lt, q⟩ := h
    refine ⟨_, (pss_one (ps_ret (pe_or (pe_cmpR op_isN (pv 1) pe_non (nomark _)) (pe_one (pe_cmpR op_isN (pe_ix (w_ixL (K := K)) (pv 0) (pv 1) (fun _ _ => rfl)) pe_non (nomark _)))))), ?_⟩
    cases o with
    | none => exact ⟨_, rfl, rfl, true, rfl, iteT q⟩
    | some g =>
      have gn := lt g rfl
      refine ⟨_, rfl, rfl, false, rfl, iteF ⟨_, rfl, _, rfl, a, _, _, _, rfl, rfl, ha, atI_nat (oV_at gn), ?_⟩⟩
      have q : Q (.bl (!(R g).isSome)) H := q
      cases e : R g with
      | none => rw [e] at q; exact ⟨rfl, q⟩
      | some r => rw [e] at q; exact ⟨rfl, q⟩
/-- signs and None -/
def sV : Option Nat → V
  | some g => .str (sgn g)
  | none => .non
def goal (tab : Tab) (s g : Nat) : Option Nat := (tab.getD s []).getD g none
/-- where the sign leads to what is left a turn later -/
def fitP (tab : Tab) (ends l1 l2 : List Nat) (s g : Nat) : Bool := match hD tab ends l1 l2 s with
  | some (r + 1) => inB (leB (tD tab ends l1 l2) (r : Int)) (goal tab s g)
  | _ => false
def planO (tab : Tab) (ends l1 l2 : List Nat) (s : Nat) : Option Nat := (l1.filter (fitP tab ends l1 l2 s)).head?
def fitB (tab : Tab) (ends l1 l2 : List Nat) (s g : Nat) : Bool := (tD tab ends l1 l2 s).isNone && !inB (fun g => (hD tab ends l1 l2 g).isSome) (goal tab s g)
def barO (tab : Tab) (ends l1 l2 : List Nat) (s : Nat) : Option Nat := (l2.filter (fitB tab ends l1 l2 s)).head?
def schV (n : Nat) (f : Nat → Option Nat) : List V := (List.range n).map fun s => sV (f s)
theorem schV_succ (n : Nat) (f : Nat → Option Nat) : schV (n + 1) f = schV n f ++ [sV (f n)] := by
  unfold schV
  rw [List.range_succ, List.map_append]
  rfl
theorem schV_len (n : Nat) (f : Nat → Option Nat) : (schV n f).length = n := by unfold schV; simp
theorem pre_signs (l : List Nat) (f : Nat → Bool) : pre (fun i => if f (l.getD i 0) = true then [V.str (sgn (l.getD i 0))] else []) l.length = (l.filter f).map fun g => V.str (sgn g) := by
  have key : ∀ n, n ≤ l.length → pre (fun i => if f (l.getD i 0) = true then [V.str (sgn (l.getD i 0))] else []) n = ((l.take n).filter f).map fun g => V.str (sgn g) := by
    intro n
    induction n with
    | zero => intro _; rfl
    | succ n ih =>
      intro hn
      have e : l[n]? = some l[n] := List.getElem?_eq_getElem (by omega)
      rw [pre_succ, ih (by omega), List.take_add_one, e, List.filter_append, List.map_append]
      congr 1
      rw [List.getD_eq_getElem?_getD, e]
      show (if f l[n] = true then [V.str (sgn l[n])] else []) = (([l[n]] : List Nat).filter f).map fun g => V.str (sgn g)
      by_cases c : f l[n] = true
      · rw [if_pos c]; simp [c]
      · rw [if_neg c]; simp [c]
  have := key l.length (Nat.le_refl _)
  rw [List.take_length] at this
  exact this
theorem tab_at {H : Hp} {p : Addr} {tab : Tab} {a : Addr} {xs : List V} {s : Nat} (hds : DpAll K H xs (tab.map dRow)) (hs : s < tab.length) : ∃ b, xs[s]? = some (.ref b) ∧ SqT K H b ((tab.getD s []).map vO) := by
  have hl : xs.length = tab.length := by rw [dps_len hds, List.length_map]
  have hx : xs[s]? = some xs[s] := List.getElem?_eq_getElem (by omega)
  obtain ⟨row, b, h1, h2, h3⟩ := row_of hds hx
  have e : tab.getD s [] = row := by rw [List.getD_eq_getElem?_getD, h1]; rfl
  rw [e]
  exact ⟨b, by rw [hx, h2], h3⟩
theorem goal_at {w : Nat} {tab : Tab} {s g : Nat} (gt : GoodT w tab) (hs : s < tab.length) (hg : g < w) : ((tab.getD s []).map vO)[g]? = some (vO (goal tab s g)) := by
  have e : tab.getD s [] = tab[s] := by rw [List.getD_eq_getElem?_getD, List.getElem?_eq_getElem hs]; rfl
  have hl := (gt.rows tab[s] (List.getElem_mem hs)).1
  unfold goal
  rw [e, List.getElem?_map, List.getD_eq_getElem?_getD, List.getElem?_eq_getElem (by omega)]
  rfl
theorem goal_lt {w : Nat} {tab : Tab} {s g q : Nat} (gt : GoodT w tab) (hs : s < tab.length) (h : goal tab s g = some q) : q < tab.length := by
  have := near_good (l := [g]) gt s hs q
  unfold near at this
  exact this (by rw [List.map_cons]; show some q ∈ [goal tab s g]; rw [h]; exact List.mem_cons_self ..)
def spPlan (K : PySem.W.Frag) (C : Addr) : Sp := fun vs H Q _ => ∃ (p : Addr) (w : Nat) (tab : Tab) (ends l1 l2 : List Nat), vs = [.ref p, .str (rowS l1), .str (rowS l2)] ∧ Duel K C H p w tab ends l1 l2 ∧
  (hD tab ends l1 l2 0 = none → ∀ H', Same H H' → Q .non H') ∧
  (∀ r, hD tab ends l1 l2 0 = some r → ∀ a H', Same H H' → H' a = some (.tup (schV tab.length (planO tab ends l1 l2))) → Q (.ref a) H')
theorem ok_plan (T : Txt K mg A) (U : Funs K A fd) : FnOk P w K mg base CX0 13 A.plan fd.plan p_plan (spPlan K A.C) := by
  have G_leaves := ok_leaves (P := P) (w := w) (base := base) T U
  have b_leaves := U.b_leaves
  have G_Reader_arrows := ok_Reader_arrows (P := P) (w := w) (base := base) T U
  have b_Reader_arrows := U.b_Reader_arrows
  have G_least_left := ok_least_left (P := P) (w := w) (base := base) T U
  have b_least_left := U.b_least_left
  have G_check_duel := ok_check_duel (P := P) (w := w) (base := base) T U
  have b_check_duel := U.b_check_duel
  have G_Reader_len := ok_Reader_len (P := P) (w := w) (base := base) T U
  have b_Reader_len := U.b_Reader_len
  refine U.F_plan.ok sc_plan (fun vs H Q E h => ?_) (fun cdv A0 outer s H vs Q E hr h => ?_)
  · obtain ⟨p, n, tab, ends, l1, l2, rfl, _⟩ := h
    rfl
  · have hu := hu_of hr
    obtain ⟨p, n, tab, ends, l1, l2, rfl, D, k0, k1⟩ := h
    refine ⟨_, (pss_cons (ps_expr (pe_call G_check_duel (hr.mono (by decide)) (by rfl) T.m_check_duel T.k_check_duel b_check_duel .nil pass0 (pa_cons (pv 0) (pa_cons (pv 1) (pa_cons (pv 2) pa_nil)))))
       (pss_cons (ps_asg (pe_call G_least_left (hr.mono (by decide)) (by rfl) T.m_least_left T.k_least_left b_least_left .nil pass0 (pa_cons (pv 0) (pa_cons (pv 1) (pa_cons (pv 2) pa_nil)))) (w_tup (K := K) (n := 2) rfl (pgs_cons (pg_name (i := 3) sc_plan.nd rfl (Or.inr rfl)) (pgs_cons (pg_name (i := 4) sc_plan.nd rfl (Or.inr rfl)) pgs_nil))))
       (pss_cons (ps_if (pt_cmpR op_isN (pe_ix (w_ixL (K := K)) (pv 3) pe_int (fun _ _ => rfl)) pe_non (nomark _)) (pss_one (ps_ret pe_non)) pss_nil)
       (pss_cons (ps_set (i := 5) sc_plan.nd rfl (Or.inl rfl) (pe_lst pa_nil))
       (pss_cons (ps_for PassesOwn.never rfl (pi_range1 (by rfl) T.b_range (pa_cons (pe_callB (call_lenO G_Reader_len (hr.mono (by decide)) T.own_len T.isf_len b_Reader_len pass0) (by rfl) T.b_len PySem.boot_len (pa_cons (pv 0) pa_nil)) pa_nil)) (pg_name (i := 6) sc_plan.nd rfl (Or.inr rfl))
       (pss_cons (ps_set (i := 7) sc_plan.nd rfl (Or.inr rfl) (pe_ix (w_ixT (K := K)) (pe_prop (pv 0) T.cl T.p_Reader_arrows G_Reader_arrows (hr.mono (by decide)) b_Reader_arrows .nil pass0 rfl) (pv 6) (fun _ _ => rfl)))
       (pss_cons (ps_setLc (i := 8) (own := [("sign", 9)]) (g := gName 9) (by rfl) sc_plan.nd rfl rfl (sw_true rfl rfl rfl (by decide +kernel)) (pi_str (pv 1)) (blkOk_by (own := [("sign", 9)]) (by rfl)) (fun _ _ _ _ _ => (pg_name (i := 9) sc_plan.nd rfl (Or.inl rfl))) (fun _ _ _ _ _ => (pts_one (PW.pt (pw_and (w_truth (K := K) (pe_ix (w_ixL (K := K)) (pv 3) (pv 6) (fun _ _ => rfl)) (by intro _; rfl)) (pw_and1 (pt_val (pe_call G_leaves (hr.mono (by decide)) (by rfl) T.m_leaves T.k_leaves b_leaves .nil pass0 (pa_cons (pv 4) (pa_cons (pe_ix (w_ixT (K := K)) (pv 7) (w_bm (K := K) PySem.F.plainAttrs_str PySem.F.slot_str_index PySem.F.type_str_index mt_sindex (pe_glob (v := .str "abcdefgh") (by rfl) T.c_ALPHABET.choose_spec ⟨_, rfl⟩) (pa_cons (pv 9) pa_nil)) (fun _ _ => rfl)) (pa_cons (pe_op op_sub (pe_ix (w_ixL (K := K)) (pv 3) (pv 6) (fun _ _ => rfl)) pe_int) pa_nil)))))))))) (fun _ _ _ _ _ => (pv 9)))
       (pss_one (ps_expr (w_bm (K := K) PySem.F.plainAttrs_list PySem.F.slot_list_append PySem.F.type_list_append mt_append (pv 5) (pa_cons (pe_ifExp (w_truth (K := K) (pv 8) (by intro _; rfl)) (pe_ix (w_ixL (K := K)) (pv 8) pe_int (fun _ _ => rfl)) pe_non) pa_nil)))))))
       (pss_one (ps_ret (pe_callTy (w_tuple (K := K)) (by rfl) T.b_tuple (by decide +kernel) (pa_cons (pv 5) pa_nil))))))))), ?_⟩
    have n1 := D.gt.n1
    have n2 := D.gt.n2
    have w8 := D.gt.w8
    have a8 := D.g1.len
    refine ⟨_, rfl, _, rfl, _, rfl, p, n, tab, ends, l1, l2, rfl, D.R, D.g1, D.g2, fun H1 s1 => ?_⟩
    refine ⟨_, rfl, _, rfl, _, rfl, p, n, tab, ends, l1, l2, rfl, D.mono s1, fun a ph pt H2 s2 ha hh ht => ?_⟩
    refine ⟨a, _, rfl, ha, rfl, _, _, rfl, _, _, rfl, rfl, ?_⟩
    refine ⟨_, rfl, ph, _, _, _, rfl, rfl, lst_of hh, atI_nat (j := 0) (oV_at n1), ?_⟩
    have s12 := s1.trans s2
    cases e0 : hD tab ends l1 l2 0 with
    | none => exact ⟨rfl, true, rfl, iteT (k0 e0 H2 s12)⟩
    | some r0 =>
      refine ⟨rfl, false, rfl, iteF (g_next ?_)⟩
      refine ⟨Nat.zero_le _, fun c hc => ?_⟩
      have s3 := same_upd (o := .lst []) hc
      obtain ⟨dx, aa, ee, o1, o2, o3⟩ := (D.R.mono (s12.trans s3)).ob
      refine ⟨_, rfl, p, dx, _, rfl, o1, p, n, tab, ends, rfl, D.R.mono (s12.trans s3), tab.length, rfl, by omega, (tab.length : Int), rfl, by omega, by omega, ?_⟩
      rw [Int.toNat_natCast]
      refine for_range (lo := 0) (n := tab.length) (fun i σ H' => ∃ y6 y7 y8, σ = [some (.ref p), some (.str (rowS l1)), some (.str (rowS l2)), some (.ref ph), some (.ref pt), some (.ref c), y6, y7, y8, none] ∧ Same H2 H' ∧ H' c = some (.lst (schV i (planO tab ends l1 l2)))) ?_ ?_ ?_
      · exact ⟨none, none, none, rfl, s3, upd_same⟩
      · rintro i σ H4 hi ⟨y6, y7, y8, rfl, s4, h4⟩
        rw [show (0 : Int) + (i : Int) = (i : Int) by omega]
        obtain ⟨dx, aa, ee, o1, o2, o3⟩ := (D.R.mono (s12.trans s4)).ob
        obtain ⟨aa', xs, ea, hx, hds⟩ := dp_tup o2
        obtain rfl := V.ref.inj ea
        obtain ⟨b, eb, hb⟩ := tab_at (p := p) (a := aa) hds hi
        refine ⟨_, rfl, p, dx, _, rfl, o1, p, dx, _, _, rfl, o1, flds_arrows _ _ _, _, rfl, aa, xs, _, _, rfl, rfl, hx, atI_nat eb, ?_⟩
        have hh4 := s4 _ _ hh
        have ht4 := s4 _ _ ht
        have nc2 : H2 c = none := hc
        dsimp only
        refine g_seq (g_asg (cS (z := rowS l1) (fun j => if fitP tab ends l1 l2 i (l1.getD j 0) = true then [.str (sgn (l1.getD j 0))] else []) (fun R r => ⟨_, rfl, r⟩) (fun j => by split <;> simp) (by rw [rowS_size]; omega) ?_ (fun j ch hj H5 R5 N5 s5 ry rn => ?_) (fun F H5 hF s5 h5 => ?_)))
        · exact fun _ => rfl
        · obtain ⟨g, hg, rfl⟩ := rowS_at hj
          have gn : g < n := D.g1.lt g (List.mem_of_getElem? hg)
          have eg : l1.getD j 0 = g := by rw [List.getD_eq_getElem?_getD, hg]; rfl
          rw [eg] at ry rn
          have ev := oV_at (R := hD tab ends l1 l2) hi
          have hh5 := s5 _ _ hh4
          cases e : hD tab ends l1 l2 i with
          | none =>
            rw [e] at ev
            exact ⟨_, rfl, _, rfl, ph, _, _, _, rfl, rfl, lst_of hh5, atI_nat ev, false, rfl, iteF (iteF (rn H5 (by simp [fitP, e]) (Same.refl _)))⟩
          | some r =>
            rw [e] at ev
            cases r with
            | zero => exact ⟨_, rfl, _, rfl, ph, _, _, _, rfl, rfl, lst_of hh5, atI_nat ev, false, rfl, iteF (iteF (rn H5 (by simp [fitP, e]) (Same.refl _)))⟩
            | succ r =>
              obtain ⟨rest, hr⟩ := index_at g (by omega)
              have tr : true = (((r + 1 : Nat) : Int) != 0) := by
                symm
                rw [bne_iff_ne]
                omega
              refine ⟨_, rfl, _, rfl, ph, _, _, _, rfl, rfl, lst_of hh5, atI_nat ev, true, tr, iteT ?_⟩
              refine ⟨_, rfl, _, rfl, rfl, _, rfl, _, _, g, rest, rfl, rfl, hr, b, _, _, _, rfl, rfl, sqT_mono s5 hb, atI_nat (goal_at D.gt hi gn), _, rfl, _, rfl, ph, _, _, _, rfl, rfl, lst_of hh5, atI_nat ev, _, _, rfl, rfl, ?_⟩
              refine ⟨pt, tab.length, tD tab ends l1 l2, goal tab i g, _, rfl, lst_of (s5 _ _ ht4), fun q hq => goal_lt D.gt hi hq, ⟨_, rfl, ?_⟩⟩
              rw [show (((r + 1 : Nat) : Int) - 1) = (r : Int) by omega]
              cases eb : inB (leB (tD tab ends l1 l2) (r : Int)) (goal tab i g) with
              | true => exact iteT ⟨_, rfl, ry _ H5 (by simp only [fitP, e, eb]; rfl) (Same.refl _)⟩
              | false => exact iteF (rn H5 (by simp only [fitP, e, eb]; rfl) (Same.refl _))
        · rw [rowS_size, pre_signs l1 (fitP tab ends l1 l2 i)] at h5
          have hc5 := s5 _ _ h4
          have ep : planO tab ends l1 l2 i = (l1.filter (fitP tab ends l1 l2 i)).head? := rfl
          refine ⟨_, rfl, .inl ⟨rfl, _, lst_of hc5⟩, ?_⟩
          cases hf : l1.filter (fitP tab ends l1 l2 i) with
          | nil =>
            rw [hf] at h5 ep
            refine ⟨_, rfl, false, .inl ⟨_, lst_of h5, rfl⟩, iteF ?_⟩
            refine ⟨c, _, _, rfl, rfl, hc5, szt (by rw [schV_len]; omega), ?_⟩
            refine ⟨_, _, _, rfl, same_put (s4.trans s5) nc2, ?_⟩
            rw [upd_same, schV_succ, ep]
            rfl
          | cons g gs =>
            rw [hf] at h5 ep
            refine ⟨_, rfl, true, .inl ⟨_, lst_of h5, rfl⟩, iteT ?_⟩
            refine ⟨_, rfl, F, _, _, _, rfl, rfl, lst_of h5, atI_nat (j := 0) rfl, c, _, _, rfl, rfl, hc5, szt (by rw [schV_len]; omega), ?_⟩
            refine ⟨_, _, _, rfl, same_put (s4.trans s5) nc2, ?_⟩
            rw [upd_same, schV_succ, ep]
            rfl
      · rintro σ H4 ⟨y6, y7, y8, rfl, s4, h4⟩
        refine ⟨_, rfl, c, _, rfl, .inl ⟨lst_of h4, fun t ht4 => ?_⟩⟩
        exact k1 r0 e0 t _ (s12.trans (s4.trans (same_upd ht4))) upd_same
def spBarring (K : PySem.W.Frag) (C : Addr) : Sp := fun vs H Q _ => ∃ (p : Addr) (w : Nat) (tab : Tab) (ends l1 l2 : List Nat), vs = [.ref p, .str (rowS l1), .str (rowS l2)] ∧ Duel K C H p w tab ends l1 l2 ∧
  (∀ r, hD tab ends l1 l2 0 = some r → ∀ H', Same H H' → Q .non H') ∧
  (hD tab ends l1 l2 0 = none → ∀ a H', Same H H' → H' a = some (.tup (schV tab.length (barO tab ends l1 l2))) → Q (.ref a) H')
theorem ok_barring (T : Txt K mg A) (U : Funs K A fd) : FnOk P w K mg base CX0 13 A.barring fd.barring p_barring (spBarring K A.C) := by
  have G_bars := ok_bars (P := P) (w := w) (base := base) T U
  have b_bars := U.b_bars
  have G_Reader_arrows := ok_Reader_arrows (P := P) (w := w) (base := base) T U
  have b_Reader_arrows := U.b_Reader_arrows
  have G_least_left := ok_least_left (P := P) (w := w) (base := base) T U
  have b_least_left := U.b_least_left
  have G_check_duel := ok_check_duel (P := P) (w := w) (base := base) T U
  have b_check_duel := U.b_check_duel
  have G_Reader_len := ok_Reader_len (P := P) (w := w) (base := base) T U
  have b_Reader_len := U.b_Reader_len
  refine U.F_barring.ok sc_barring (fun vs H Q E h => ?_) (fun cdv A0 outer s H vs Q E hr h => ?_)
  · obtain ⟨p, n, tab, ends, l1, l2, rfl, _⟩ := h
    rfl
  · have hu := hu_of hr
    obtain ⟨p, n, tab, ends, l1, l2, rfl, D, k0, k1⟩ := h
    refine ⟨_, (pss_cons (ps_expr (pe_call G_check_duel (hr.mono (by decide)) (by rfl) T.m_check_duel T.k_check_duel b_check_duel .nil pass0 (pa_cons (pv 0) (pa_cons (pv 1) (pa_cons (pv 2) pa_nil)))))
       (pss_cons (ps_asg (pe_call G_least_left (hr.mono (by decide)) (by rfl) T.m_least_left T.k_least_left b_least_left .nil pass0 (pa_cons (pv 0) (pa_cons (pv 1) (pa_cons (pv 2) pa_nil)))) (w_tup (K := K) (n := 2) rfl (pgs_cons (pg_name (i := 3) sc_barring.nd rfl (Or.inr rfl)) (pgs_cons (pg_name (i := 4) sc_barring.nd rfl (Or.inr rfl)) pgs_nil))))
       (pss_cons (ps_if (pt_cmpR op_notN (pe_ix (w_ixL (K := K)) (pv 3) pe_int (fun _ _ => rfl)) pe_non (nomark _)) (pss_one (ps_ret pe_non)) pss_nil)
       (pss_cons (ps_set (i := 5) sc_barring.nd rfl (Or.inl rfl) (pe_lst pa_nil))
       (pss_cons (ps_for PassesOwn.never rfl (pi_range1 (by rfl) T.b_range (pa_cons (pe_callB (call_lenO G_Reader_len (hr.mono (by decide)) T.own_len T.isf_len b_Reader_len pass0) (by rfl) T.b_len PySem.boot_len (pa_cons (pv 0) pa_nil)) pa_nil)) (pg_name (i := 6) sc_barring.nd rfl (Or.inr rfl))
       (pss_cons (ps_set (i := 7) sc_barring.nd rfl (Or.inr rfl) (pe_ix (w_ixT (K := K)) (pe_prop (pv 0) T.cl T.p_Reader_arrows G_Reader_arrows (hr.mono (by decide)) b_Reader_arrows .nil pass0 rfl) (pv 6) (fun _ _ => rfl)))
       (pss_cons (ps_setLc (i := 8) (own := [("sign", 9)]) (g := gName 9) (by rfl) sc_barring.nd rfl rfl (sw_true rfl rfl rfl (by decide +kernel)) (pi_str (pv 2)) (blkOk_by (own := [("sign", 9)]) (by rfl)) (fun _ _ _ _ _ => (pg_name (i := 9) sc_barring.nd rfl (Or.inl rfl))) (fun _ _ _ _ _ => (pts_one (PW.pt (pw_and (pt_cmpR op_isN (pe_ix (w_ixL (K := K)) (pv 4) (pv 6) (fun _ _ => rfl)) pe_non (nomark _)) (pw_and1 (pt_val (pe_call G_bars (hr.mono (by decide)) (by rfl) T.m_bars T.k_bars b_bars .nil pass0 (pa_cons (pv 3) (pa_cons (pe_ix (w_ixT (K := K)) (pv 7) (w_bm (K := K) PySem.F.plainAttrs_str PySem.F.slot_str_index PySem.F.type_str_index mt_sindex (pe_glob (v := .str "abcdefgh") (by rfl) T.c_ALPHABET.choose_spec ⟨_, rfl⟩) (pa_cons (pv 9) pa_nil)) (fun _ _ => rfl)) pa_nil))))))))) (fun _ _ _ _ _ => (pv 9)))
       (pss_one (ps_expr (w_bm (K := K) PySem.F.plainAttrs_list PySem.F.slot_list_append PySem.F.type_list_append mt_append (pv 5) (pa_cons (pe_ifExp (w_truth (K := K) (pv 8) (by intro _; rfl)) (pe_ix (w_ixL (K := K)) (pv 8) pe_int (fun _ _ => rfl)) pe_non) pa_nil)))))))
       (pss_one (ps_ret (pe_callTy (w_tuple (K := K)) (by rfl) T.b_tuple (by decide +kernel) (pa_cons (pv 5) pa_nil))))))))), ?_⟩
    have n1 := D.gt.n1
    have n2 := D.gt.n2
    have w8 := D.gt.w8
    have a8 := D.g2.len
    refine ⟨_, rfl, _, rfl, _, rfl, p, n, tab, ends, l1, l2, rfl, D.R, D.g1, D.g2, fun H1 s1 => ?_⟩
    refine ⟨_, rfl, _, rfl, _, rfl, p, n, tab, ends, l1, l2, rfl, D.mono s1, fun a ph pt H2 s2 ha hh ht => ?_⟩
    refine ⟨a, _, rfl, ha, rfl, _, _, rfl, _, _, rfl, rfl, ?_⟩
    refine ⟨_, rfl, ph, _, _, _, rfl, rfl, lst_of hh, atI_nat (j := 0) (oV_at n1), ?_⟩
    have s12 := s1.trans s2
    cases e0 : hD tab ends l1 l2 0 with
    | some r0 => exact ⟨rfl, true, rfl, iteT (k0 r0 e0 H2 s12)⟩
    | none =>
      refine ⟨rfl, false, rfl, iteF (g_next ?_)⟩
      refine ⟨Nat.zero_le _, fun c hc => ?_⟩
      have s3 := same_upd (o := .lst []) hc
      obtain ⟨dx, aa, ee, o1, o2, o3⟩ := (D.R.mono (s12.trans s3)).ob
      refine ⟨_, rfl, p, dx, _, rfl, o1, p, n, tab, ends, rfl, D.R.mono (s12.trans s3), tab.length, rfl, by omega, (tab.length : Int), rfl, by omega, by omega, ?_⟩
      rw [Int.toNat_natCast]
      refine for_range (lo := 0) (n := tab.length) (fun i σ H' => ∃ y6 y7 y8, σ = [some (.ref p), some (.str (rowS l1)), some (.str (rowS l2)), some (.ref ph), some (.ref pt), some (.ref c), y6, y7, y8, none] ∧ Same H2 H' ∧ H' c = some (.lst (schV i (barO tab ends l1 l2)))) ?_ ?_ ?_
      · exact ⟨none, none, none, rfl, s3, upd_same⟩
      · rintro i σ H4 hi ⟨y6, y7, y8, rfl, s4, h4⟩
        rw [show (0 : Int) + (i : Int) = (i : Int) by omega]
        obtain ⟨dx, aa, ee, o1, o2, o3⟩ := (D.R.mono (s12.trans s4)).ob
        obtain ⟨aa', xs, ea, hx, hds⟩ := dp_tup o2
        obtain rfl := V.ref.inj ea
        obtain ⟨b, eb, hb⟩ := tab_at (p := p) (a := aa) hds hi
        refine ⟨_, rfl, p, dx, _, rfl, o1, p, dx, _, _, rfl, o1, flds_arrows _ _ _, _, rfl, aa, xs, _, _, rfl, rfl, hx, atI_nat eb, ?_⟩
        have hh4 := s4 _ _ hh
        have ht4 := s4 _ _ ht
        have nc2 : H2 c = none := hc
        dsimp only
        refine g_seq (g_asg (cS (z := rowS l2) (fun j => if fitB tab ends l1 l2 i (l2.getD j 0) = true then [.str (sgn (l2.getD j 0))] else []) (fun R r => ⟨_, rfl, r⟩) (fun j => by split <;> simp) (by rw [rowS_size]; omega) ?_ (fun j ch hj H5 R5 N5 s5 ry rn => ?_) (fun F H5 hF s5 h5 => ?_)))
        · exact fun _ => rfl
        · obtain ⟨g, hg, rfl⟩ := rowS_at hj
          have gn : g < n := D.g2.lt g (List.mem_of_getElem? hg)
          have eg : l2.getD j 0 = g := by rw [List.getD_eq_getElem?_getD, hg]; rfl
          rw [eg] at ry rn
          have ev := oV_at (R := tD tab ends l1 l2) hi
          have ht5 := s5 _ _ ht4
          cases e : tD tab ends l1 l2 i with
          | some r =>
            rw [e] at ev
            exact ⟨_, rfl, _, rfl, pt, _, _, _, rfl, rfl, lst_of ht5, atI_nat ev, rfl, false, rfl, iteF (iteF (rn H5 (by simp [fitB, e]) (Same.refl _)))⟩
          | none =>
            rw [e] at ev
            obtain ⟨rest, hr⟩ := index_at g (by omega)
            refine ⟨_, rfl, _, rfl, pt, _, _, _, rfl, rfl, lst_of ht5, atI_nat ev, rfl, true, rfl, iteT ?_⟩
            refine ⟨_, rfl, _, rfl, rfl, _, rfl, _, _, g, rest, rfl, rfl, hr, b, _, _, _, rfl, rfl, sqT_mono s5 hb, atI_nat (goal_at D.gt hi gn), ?_⟩
            refine ⟨ph, tab.length, hD tab ends l1 l2, goal tab i g, rfl, lst_of (s5 _ _ hh4), fun q hq => goal_lt D.gt hi hq, ⟨_, rfl, ?_⟩⟩
            cases eb : inB (fun g => (hD tab ends l1 l2 g).isSome) (goal tab i g) with
            | false => exact iteT ⟨_, rfl, ry _ H5 (by simp only [fitB, e, eb]; rfl) (Same.refl _)⟩
            | true => exact iteF (rn H5 (by simp only [fitB, e, eb]; rfl) (Same.refl _))
        · rw [rowS_size, pre_signs l2 (fitB tab ends l1 l2 i)] at h5
          have hc5 := s5 _ _ h4
          have ep : barO tab ends l1 l2 i = (l2.filter (fitB tab ends l1 l2 i)).head? := rfl
          refine ⟨_, rfl, .inl ⟨rfl, _, lst_of hc5⟩, ?_⟩
          cases hf : l2.filter (fitB tab ends l1 l2 i) with
          | nil =>
            rw [hf] at h5 ep
            refine ⟨_, rfl, false, .inl ⟨_, lst_of h5, rfl⟩, iteF ?_⟩
            refine ⟨c, _, _, rfl, rfl, hc5, szt (by rw [schV_len]; omega), ?_⟩
            refine ⟨_, _, _, rfl, same_put (s4.trans s5) nc2, ?_⟩
            rw [upd_same, schV_succ, ep]
            rfl
          | cons g gs =>
            rw [hf] at h5 ep
            refine ⟨_, rfl, true, .inl ⟨_, lst_of h5, rfl⟩, iteT ?_⟩
            refine ⟨_, rfl, F, _, _, _, rfl, rfl, lst_of h5, atI_nat (j := 0) rfl, c, _, _, rfl, rfl, hc5, szt (by rw [schV_len]; omega), ?_⟩
            refine ⟨_, _, _, rfl, same_put (s4.trans s5) nc2, ?_⟩
            rw [upd_same, schV_succ, ep]
            rfl
      · rintro σ H4 ⟨y6, y7, y8, rfl, s4, h4⟩
        refine ⟨_, rfl, c, _, rfl, .inl ⟨lst_of h4, fun t ht4 => ?_⟩⟩
        exact k1 e0 t _ (s12.trans (s4.trans (same_upd ht4))) upd_same
/-! ### schemes that are passed -/
def spIsPlan (K : PySem.W.Frag) : Sp := fun vs H Q _ => ∃ (a : Addr) (n : Nat) (f : Nat → Option Nat) (l : List Nat), vs = [.ref a, .int (n : Int), .str (rowS l)] ∧ SqT K H a (schV n f) ∧ n ≤ 1000 ∧ (∀ s g, s < n → f s = some g → g ∈ l) ∧ ∀ H', Same H H' → Q (.bl true) H'
theorem schV_at {n s : Nat} {f : Nat → Option Nat} (h : s < n) : (schV n f)[s]? = some (sV (f s)) := by unfold schV; simp [h]
theorem ok_is_plan (T : Txt K mg A) (U : Funs K A fd) : FnOk P w K mg base CX0 1 A.is_plan fd.is_plan p_is_plan (spIsPlan K) := by
  refine U.F_is_plan.ok sc_is_plan (fun vs H Q E h => ?_) (fun cdv A0 outer s H vs Q E hr h => ?_)
  · obtain ⟨a, n, f, l, rfl, _⟩ := h
    rfl
  · have hu := hu_of hr
    obtain ⟨a, n, f, l, rfl, hx, hn, hl, q⟩ := h
    refine ⟨_, (pss_cons (ps_if (PW.pt (pw_or (pt_not (pt_val (pe_callB (w_isi (K := K)) (by rfl) T.b_isinstance (by decide +kernel) (pa_cons (pv 0) (pa_cons (pe_bltn (v := .ty "tuple") (u := .type "tuple") (by rfl) T.b_tuple (by decide +kernel) rfl) pa_nil))))) (pw_or1 (pt_cmpR op_ne (pe_callB (w_len (K := K)) (by rfl) T.b_len (by decide +kernel) (pa_cons (pv 0) pa_nil)) (pv 1) (nomark _))))) (pss_one (ps_ret pe_bl)) pss_nil)
       (pss_one (ps_ret (pe_callB (w_all (K := K) rfl) (by rfl) T.b_all (by decide +kernel) (pa_cons (pe_lc (own := [("sign", 3)]) (g := gName 3) (tt := tYes) (by rfl) sc_is_plan.nd (w_piT (K := K) (pv 0)) (blkOk_by (own := [("sign", 3)]) (by rfl)) (fun _ _ _ _ _ => (pg_name (i := 3) sc_is_plan.nd rfl (Or.inl rfl))) (fun _ _ _ _ _ => pts_nil) (fun _ _ _ _ _ => (pe_or (pe_cmpR op_isN (pv 3) pe_non (nomark _)) (pe_one (pe_and (pe_callB (w_isi (K := K)) (by rfl) T.b_isinstance (by decide +kernel) (pa_cons (pv 3) (pa_cons (pe_bltn (v := .ty "str") (u := .type "str") (by rfl) T.b_str (by decide +kernel) rfl) pa_nil))) (pe_and (pe_cmpR op_eq (pe_callB (w_len (K := K)) (by rfl) T.b_len (by decide +kernel) (pa_cons (pv 3) pa_nil)) pe_int (nomark _)) (pe_one (pe_cmpR op_in_sign (pv 3) (pv 2) (by rfl))))))))) pa_nil))))), ?_⟩
    refine ⟨_, rfl, _, _, _, .type "tuple", true, rfl, .ty _, tupTy hx, kit_ty (by decide +kernel), true, rfl, ?_⟩
    refine iteF ?_
    refine ⟨_, rfl, _, _, rfl, .inr ⟨_, hx, rfl⟩, _, rfl, rfl, _, rfl, ?_⟩
    rw [schV_len, decide_eq_true rfl]
    refine iteF (g_next ?_)
    dsimp only
    refine g_ret (g_cb (cT (xs := schV n f) (fun _ => [.bl true]) (fun R r => ⟨_, rfl, r⟩) hx (fun _ => Nat.le_refl 1) (by rw [schV_len]; omega) ?_ (fun i x hi => turn_yes fun H1 R s1 r => ?_) (fun D H1 _ s1 h1 => ?_)))
    · exact fun _ => rfl
    · have hin : i < n := by have := lt_of_get hi; rwa [schV_len] at this
      rw [schV_at hin] at hi
      obtain rfl := Option.some.inj hi
      cases e : f i with
      | none => exact ⟨_, rfl, rfl, true, rfl, iteT (r H1 (Same.refl _))⟩
      | some g =>
        refine ⟨_, rfl, rfl, false, rfl, iteF ?_⟩
        refine ⟨_, rfl, .str _, .ty "str", .type "str", .type "str", true, rfl, .ty _, .base (.str _), kit_ty (by decide +kernel), true, rfl, iteT ?_⟩
        refine ⟨_, rfl, _, _, rfl, ⟨szl (by show 1 ≤ 100000; decide), rfl⟩, rfl, true, rfl, iteT ?_⟩
        refine ⟨_, rfl, _, rfl, _, _, rfl, rfl, ?_⟩
        rw [in_row (hl i g hin e)]
        exact r H1 (Same.refl _)
    · rw [replicate_pre] at h1
      refine ⟨D, List.replicate (schV n f).length true, rfl, lst_of (by rw [← bls]; exact h1), ?_⟩
      rw [all_true]
      exact q H1 s1
end K6


set_option Elab.async false
set_option linter.all false
set_option maxRecDepth 100000
set_option maxHeartbeats 4000000
namespace K6
open PySem PySem.Spec PyProof.Rows L2 Rw
variable {P : Program} {w : World} {K : PySem.W.Frag} {mg : Str → Option Value} {base : Heap} {A : Ad} {fd : Fds}
/-! ### comprehensions whose items are lists, old or new -/
section
variable {H : Hp} {σ : L2.St} {te : TE} {vs : List Nat} {j : Nat} {Q : VK}
def HoldS (K : PySem.W.Frag) (H : Hp) (acc : List V) (n : Nat) (ys : Nat → List V) : Prop := acc.length = n ∧ ∀ k, k < n → ∃ p, acc[k]? = some (.ref p) ∧ SqL K H p (ys k)
theorem HoldS.mono {H H' : Hp} {acc : List V} {n : Nat} {ys : Nat → List V} (h : HoldS K H acc n ys) (s : Same H H') : HoldS K H' acc n ys :=
  ⟨h.1, fun k hk => let ⟨p, e, hp⟩ := h.2 k hk; ⟨p, e, sqL_mono s hp⟩⟩
theorem HoldS.snoc {acc : List V} {n : Nat} {ys : Nat → List V} {p : Addr} (h : HoldS K H acc n ys) (hp : SqL K H p (ys n)) : HoldS K H (acc ++ [.ref p]) (n + 1) ys := by
  refine ⟨by rw [List.length_append, h.1]; rfl, fun k hk => ?_⟩
  by_cases c : k < n
  · obtain ⟨q, e, hq⟩ := h.2 k c
    exact ⟨q, by rw [List.getElem?_append_left (by rw [h.1]; exact c)]; exact e, hq⟩
  · have e : k = n := by omega
    subst e
    refine ⟨p, ?_, hp⟩
    rw [List.getElem?_append_right (by rw [h.1]; exact Nat.le_refl _), h.1, Nat.sub_self]
    rfl
theorem same_del {H H1 : Hp} {D : Addr} (s : Same H H1) (h : H D = none) : Same H (del D H1) := fun b o e => by
  rw [del_ne (ne_of_none e h)]
  exact s b o e
def TurnM (K : PySem.W.Frag) (te : TE) (σ : L2.St) (H : Hp) (ys : List V) : Prop := ∀ H1 (R : V → Hp → Prop), Same H H1 → (∀ p H2, Same H1 H2 → (SqL K H p ys ∨ (H1 p = none ∧ H2 p = some (.lst ys))) → R (.ref p) H2) → te σ H1 R
theorem lcM (J : It) (n : Nat) (xs : Nat → V) (ys : Nat → List V) (hn : n < 100000)
    (hgo : ∀ i H1, i < n → Same H H1 → J.go i H1) (hstop : ∀ H1, Same H H1 → J.stop n H1) (hyld : ∀ i H1 x H', i < n → Same H H1 → J.yld i H1 x H' → H' = H1 ∧ x = xs i)
    (hw : ∀ x, wipe ((wipe σ vs).set j (some x)) vs = wipe σ vs) (turn : ∀ i, i < n → TurnM K te ((wipe σ vs).set j (some (xs i))) H (ys i))
    (fin : ∀ D acc H1, H D = none → Same H H1 → H1 D = some (.lst acc) → HoldS K (del D H1) acc n ys → Q (.ref D) H1) :
    ∀ D, H D = none → ∃ W : Nat → Nat → Hp → Prop, (∃ m, W 0 m (upd H D (.lst []))) ∧ ∀ i m H, W i m H →
      (J.stop i H ∧ Q (.ref D) H) ∨ (J.go i H ∧ ∃ Nx : Hp → Prop, (∀ H', Nx H' → ∃ m', m' < m ∧ W (i + 1) m' H') ∧ ∀ x H', J.yld i H x H' → gName j x (wipe σ vs) H' fun σ2 H2 => wipe σ2 vs = wipe σ vs ∧ tYes σ2 H2 fun b H3 =>
        if b = true then te σ2 H3 fun y H4 => ∃ acc, H4 D = some (.lst acc) ∧ acc.length < sizeLine ∧ Nx (upd H4 D (.lst (acc ++ [y]))) else Nx H3) := by
  intro D hD
  refine ⟨fun i m H1 => m = n - i ∧ i ≤ n ∧ Same H H1 ∧ ∃ acc, H1 D = some (.lst acc) ∧ HoldS K (del D H1) acc i ys, ⟨n, rfl, Nat.zero_le _, same_upd hD, [], upd_same, rfl, fun k hk => absurd hk (Nat.not_lt_zero k)⟩, ?_⟩
  rintro i m H1 ⟨rfl, hi, s1, acc, h1, hold⟩
  by_cases c : i < n
  · refine .inr ⟨hgo i H1 c s1, fun H2 => Same H H2 ∧ ∃ acc, H2 D = some (.lst acc) ∧ HoldS K (del D H2) acc (i + 1) ys, fun H2 h2 => ⟨n - (i + 1), by omega, rfl, c, h2.1, h2.2⟩, fun x H' hy => ?_⟩
    obtain ⟨rfl, rfl⟩ := hyld i H1 x H' c s1 hy
    refine ⟨hw _, ?_⟩
    refine yes_go ?_
    refine turn i c H' _ s1 (fun p H2 s2 hp => ?_)
    refine ⟨acc, s2 D _ h1, szt (by rw [hold.1]; omega), same_put (s1.trans s2) hD, acc ++ [.ref p], upd_same, ?_⟩
    have hdel : Same (del D H2) (del D (upd H2 D (.lst (acc ++ [.ref p])))) := keep_upd
    refine ((hold.mono (del_mono s2)).snoc ?_).mono hdel
    rcases hp with hp | ⟨np, hp⟩
    · exact sqL_mono (same_del (s1.trans s2) hD) hp
    · have ne : p ≠ D := fun e => by
        rw [e, h1] at np
        cases np
      refine lst_of ?_
      rw [del_ne ne]
      exact hp
  · have e : i = n := by omega
    subst e
    exact .inl ⟨hstop H1 s1, fin D acc H1 hD s1 h1 hold⟩
theorem cRM {ta : TA} {n : Nat} {m : Int} (ys : Nat → List V) (hm : m.toNat = n) (hb : -1000 ≤ m) (hta : ∀ R : List V → Hp → Prop, R [.int m] H → ta σ H R) (hn : n < 100000)
    (hw : ∀ x, wipe ((wipe σ vs).set j (some x)) vs = wipe σ vs) (turn : ∀ i : Nat, i < n → TurnM K te ((wipe σ vs).set j (some (.int (i : Int)))) H (ys i))
    (fin : ∀ D acc H1, H D = none → Same H H1 → H1 D = some (.lst acc) → HoldS K (del D H1) acc n ys → Q (.ref D) H1) : tLc (iRng1 ta) (gName j) tYes te vs σ H Q := by
  refine hta _ ⟨m, rfl, by omega, by omega, ?_⟩
  rw [hm]
  refine lcM (K := K) (Itr 0 n) n (fun i => .int (i : Int)) ys hn (fun i H1 hi s => hi) (fun H1 s => Nat.le_refl _) (fun i H1 x H' hi s hy => ?_) hw turn fin
  obtain ⟨e, y⟩ := hy
  refine ⟨e, ?_⟩
  rw [y, Int.zero_add]
end
/-! ### the turns of a plan -/
theorem idx_list {l : List Nat} (h : l = [0] ∨ l = [1] ∨ l = [2] ∨ l = [0, 1] ∨ l = [0, 2] ∨ l = [1, 2] ∨ l = [0, 1, 2]) {g : Nat} (hg : g ∈ l) :
    ∃ i rest, Builtin.Str.occurrences (rowS l) (sgn g) 0 (rowS l).length 1 = i :: rest ∧ l[i]? = some g := by
  rcases h with rfl | rfl | rfl | rfl | rfl | rfl | rfl
  · simp at hg; subst hg; exact ⟨0, [], by decide +kernel, rfl⟩
  · simp at hg; subst hg; exact ⟨0, [], by decide +kernel, rfl⟩
  · simp at hg; subst hg; exact ⟨0, [], by decide +kernel, rfl⟩
  · simp at hg; rcases hg with rfl | rfl
    · exact ⟨0, [], by decide +kernel, rfl⟩
    · exact ⟨1, [], by decide +kernel, rfl⟩
  · simp at hg; rcases hg with rfl | rfl
    · exact ⟨0, [], by decide +kernel, rfl⟩
    · exact ⟨1, [], by decide +kernel, rfl⟩
  · simp at hg; rcases hg with rfl | rfl
    · exact ⟨0, [], by decide +kernel, rfl⟩
    · exact ⟨1, [], by decide +kernel, rfl⟩
  · simp at hg; rcases hg with rfl | rfl | rfl
    · exact ⟨0, [], by decide +kernel, rfl⟩
    · exact ⟨1, [], by decide +kernel, rfl⟩
    · exact ⟨2, [], by decide +kernel, rfl⟩
theorem three_lots {w : Nat} {l : List Nat} (h : GoodLot w l) (hw : w ≤ 3) : l = [0] ∨ l = [1] ∨ l = [2] ∨ l = [0, 1] ∨ l = [0, 2] ∨ l = [1, 2] ∨ l = [0, 1, 2] := by
  have b : ∀ g ∈ l, g < 3 := fun g hg => by have := h.lt g hg; omega
  have a := h.asc
  match l, h.ne, a, b with
  | [], hne, _, _ => exact absurd rfl hne
  | [x], _, _, b =>
    have := b x (by simp)
    have : x = 0 ∨ x = 1 ∨ x = 2 := by omega
    rcases this with rfl | rfl | rfl <;> simp
  | [x, y], _, a, b =>
    have h1 := a 0 x y rfl rfl
    have := b x (by simp)
    have := b y (by simp)
    have : (x = 0 ∧ y = 1) ∨ (x = 0 ∧ y = 2) ∨ (x = 1 ∧ y = 2) := by omega
    rcases this with ⟨rfl, rfl⟩ | ⟨rfl, rfl⟩ | ⟨rfl, rfl⟩ <;> simp
  | [x, y, z], _, a, b =>
    have h1 := a 0 x y rfl rfl
    have h2 := a 1 y z rfl rfl
    have := b z (by simp)
    have : x = 0 ∧ y = 1 ∧ z = 2 := by omega
    obtain ⟨rfl, rfl, rfl⟩ := this
    simp
  | x :: y :: z :: u :: r, _, a, b =>
    have h1 := a 0 x y rfl rfl
    have h2 := a 1 y z rfl rfl
    have h3 := a 2 z u rfl rfl
    have := b u (by simp)
    omega
/-- the goals of a scheme -/
def schG (tab : Tab) (l : List Nat) (f : Nat → Option Nat) (s : Nat) : List (Option Nat) := match f s with
  | some g => [goal tab s g]
  | none => near tab l s
theorem schG_sub {tab : Tab} {l : List Nat} {f : Nat → Option Nat} {s : Nat} (h : ∀ g, f s = some g → g ∈ l) : ∀ o ∈ schG tab l f s, o ∈ near tab l s := by
  intro o ho
  unfold schG at ho
  cases e : f s with
  | none => rw [e] at ho; exact ho
  | some g =>
    rw [e] at ho
    obtain rfl := List.mem_singleton.mp ho
    exact List.mem_map.mpr ⟨g, h g e, rfl⟩
theorem schG_good {w : Nat} {tab : Tab} {l : List Nat} {f : Nat → Option Nat} (gt : GoodT w tab) (h : ∀ s g, s < tab.length → f s = some g → g ∈ l) : GoodG tab.length (schG tab l f) := fun s hs g hg => near_good gt s hs g (schG_sub (fun g e => h s g hs e) _ hg)
theorem schG_ne {w : Nat} {tab : Tab} {l : List Nat} {f : Nat → Option Nat} (g : GoodLot w l) (s : Nat) : schG tab l f s ≠ [] := by
  unfold schG
  cases f s with
  | none =>
    intro z
    have := near_len tab l s
    have z : near tab l s = [] := z
    rw [z] at this
    exact g.ne (List.length_eq_zero_iff.mp this.symm)
  | some g => intro z; cases z
theorem schG_len {tab : Tab} {l : List Nat} {f : Nat → Option Nat} (h : l.length ≤ 8) (s : Nat) : (schG tab l f s).length ≤ 8 := by
  unfold schG
  cases f s with
  | none =>
    show (near tab l s).length ≤ 8
    rw [near_len]
    exact h
  | some g =>
    show 1 ≤ 8
    decide
def spPlanG (K : PySem.W.Frag) (C : Addr) : Sp := fun vs H Q _ => ∃ (p a : Addr) (w : Nat) (tab : Tab) (ends l1 : List Nat) (f : Nat → Option Nat), vs = [.ref p, .str (rowS l1), .ref a] ∧ RdAt K C H p w tab ends ∧ GoodT w tab ∧ GoodLot w l1 ∧ w ≤ 3 ∧
  SqT K H a (schV tab.length f) ∧ (∀ s g, s < tab.length → f s = some g → g ∈ l1) ∧ ∀ M H', Same H H' → GsAt K H' (.ref M) (schG tab l1 f) tab.length → Q (.ref M) H'
theorem ok_goals_by_plan (T : Txt K mg A) (U : Funs K A fd) : FnOk P w K mg base CX0 7 A.goals_by_plan fd.goals_by_plan p_goals_by_plan (spPlanG K A.C) := by
  have G_goals_by := ok_goals_by (P := P) (w := w) (base := base) T U
  have b_goals_by := U.b_goals_by
  have G_Reader_len := ok_Reader_len (P := P) (w := w) (base := base) T U
  have b_Reader_len := U.b_Reader_len
  refine U.F_goals_by_plan.ok sc_goals_by_plan (fun vs H Q E h => ?_) (fun cdv A0 outer s H vs Q E hr h => ?_)
  · obtain ⟨p, a, n, tab, ends, l1, f, rfl, _⟩ := h
    rfl
  · have hu := hu_of hr
    obtain ⟨p, a, n, tab, ends, l1, f, rfl, R, gt, g1, w3, hx, hin, k⟩ := h
    refine ⟨_, (pss_cons (ps_set (i := 3) sc_goals_by_plan.nd rfl (Or.inr rfl) (pe_call G_goals_by (hr.mono (by decide)) (by rfl) T.m_goals_by T.k_goals_by b_goals_by .nil pass0 (pa_cons (pv 0) (pa_cons (pv 1) pa_nil))))
       (pss_one (ps_ret (pe_lc (own := [("at", 4)]) (g := gName 4) (tt := tYes) (by rfl) sc_goals_by_plan.nd (pi_range1 (by rfl) T.b_range (pa_cons (pe_callB (call_lenO G_Reader_len (hr.mono (by decide)) T.own_len T.isf_len b_Reader_len pass0) (by rfl) T.b_len PySem.boot_len (pa_cons (pv 0) pa_nil)) pa_nil)) (blkOk_by (own := [("at", 4)]) (by rfl)) (fun _ _ _ _ _ => (pg_name (i := 4) sc_goals_by_plan.nd rfl (Or.inl rfl))) (fun _ _ _ _ _ => pts_nil) (fun _ _ _ _ _ => (pe_ifExp (pt_cmpR op_isN (pe_ix (w_ixT (K := K)) (pv 2) (pv 4) (fun _ _ => rfl)) pe_non (nomark _)) (pe_ix (w_ixL (K := K)) (pv 3) (pv 4) (fun _ _ => rfl)) (pe_lst (pa_cons (pe_ix (w_ixL (K := K)) (pe_ix (w_ixL (K := K)) (pv 3) (pv 4) (fun _ _ => rfl)) (w_bm (K := K) PySem.F.plainAttrs_str PySem.F.slot_str_index PySem.F.type_str_index mt_sindex (pv 1) (pa_cons (pe_ix (w_ixT (K := K)) (pv 2) (pv 4) (fun _ _ => rfl)) pa_nil)) (fun _ _ => rfl)) pa_nil)))))))), ?_⟩
    have n1 := gt.n1
    have n2 := gt.n2
    have w8 := gt.w8
    have a8 := g1.len
    refine ⟨_, rfl, _, rfl, p, n, tab, ends, l1, rfl, R, gt, g1.lt, by omega, fun v1 H3 s13 ga => ?_⟩
    obtain ⟨ga1, gx, rfl, hgx, hgl, hgf⟩ := ga.ob
    obtain ⟨dx, aa, ee, o1, o2, o3⟩ := (R.mono s13).ob
    dsimp only
    refine g_ret (cRM (K := K) (n := tab.length) (m := (tab.length : Int)) (fun s => (schG tab l1 f s).map vO) (by omega) (by omega) (fun R' r => ?_) (by omega) ?_ (fun i hi H4 R' s4 r => ?_) (fun M acc H4 hM s4 h4 hold => ?_))
    · exact ⟨_, rfl, p, dx, _, rfl, o1, p, n, tab, ends, rfl, R.mono s13, tab.length, rfl, by omega, r⟩
    · exact fun _ => rfl
    · obtain ⟨b, eb, hb⟩ := hgf i hi
      have ev := schV_at (f := f) hi
      cases e : f i with
      | none =>
        rw [e] at ev
        refine ⟨_, rfl, _, rfl, a, _, _, _, rfl, rfl, sqT_mono (s13.trans s4) hx, atI_nat ev, rfl, true, rfl, iteT ?_⟩
        refine ⟨_, rfl, _, rfl, ga1, _, _, _, rfl, rfl, sqL_mono s4 hgx, atI_nat eb, r b H4 (Same.refl _) (.inl ?_)⟩
        have : schG tab l1 f i = near tab l1 i := by unfold schG; rw [e]
        rw [this]
        exact hb
      | some g =>
        rw [e] at ev
        obtain ⟨q, rest, hq, hlq⟩ := idx_list (three_lots g1 w3) (hin i g hi e)
        have e3 : ((near tab l1 i).map vO)[q]? = some (vO (goal tab i g)) := by
          unfold near
          rw [List.getElem?_map, List.getElem?_map, hlq]
          rfl
        have e4 : schG tab l1 f i = [goal tab i g] := by unfold schG; rw [e]
        rw [e4] at r
        refine ⟨_, rfl, _, rfl, a, _, _, _, rfl, rfl, sqT_mono (s13.trans s4) hx, atI_nat ev, rfl, false, rfl, iteF ?_⟩
        refine ⟨_, rfl, _, rfl, ga1, _, _, _, rfl, rfl, sqL_mono s4 hgx, atI_nat eb, _, rfl, rfl, _, rfl, _, rfl, a, _, _, _, rfl, rfl, sqT_mono (s13.trans s4) hx, atI_nat ev, _, _, q, rest, rfl, rfl, hq, b, _, _, _, rfl, rfl, sqL_mono s4 hb, atI_nat e3, by show 1 ≤ sizeLine; decide, fun c hc => ?_⟩
        exact r c _ (same_upd hc) (.inr ⟨hc, upd_same⟩)
    · exact k M H4 (s13.trans s4) ⟨M, acc, rfl, lst_of h4, hold.1, fun s hs => let ⟨b, e, hb⟩ := hold.2 s hs; ⟨b, e, sqL_mono (del_same M) hb⟩⟩
def spTurnsOf (K : PySem.W.Frag) (C : Addr) : Sp := fun vs H Q _ => ∃ (p a : Addr) (w : Nat) (tab : Tab) (ends l1 l2 : List Nat) (f : Nat → Option Nat), vs = [.ref p, .str (rowS l1), .str (rowS l2), .ref a] ∧ Duel K C H p w tab ends l1 l2 ∧ w ≤ 3 ∧
  SqT K H a (schV tab.length f) ∧ (∀ s g, s < tab.length → f s = some g → g ∈ l1) ∧ ∀ H', Same H H' → Q (vO (hR hasAll (schG tab l1 f) (near tab l2) ends tab.length 0)) H'
theorem ok_turns_of (T : Txt K mg A) (U : Funs K A fd) : FnOk P w K mg base CX0 10 A.turns_of fd.turns_of p_turns_of (spTurnsOf K A.C) := by
  have G_signs_left := ok_signs_left (P := P) (w := w) (base := base) T U
  have b_signs_left := U.b_signs_left
  have G_has_all := ok_has_all (P := P) (w := w) (base := base) T U
  have b_has_all := U.b_has_all
  have G_goals_by := ok_goals_by (P := P) (w := w) (base := base) T U
  have b_goals_by := U.b_goals_by
  have G_goals_by_plan := ok_goals_by_plan (P := P) (w := w) (base := base) T U
  have b_goals_by_plan := U.b_goals_by_plan
  have G_is_plan := ok_is_plan (P := P) (w := w) (base := base) T U
  have b_is_plan := U.b_is_plan
  have G_check_duel := ok_check_duel (P := P) (w := w) (base := base) T U
  have b_check_duel := U.b_check_duel
  have G_Reader_len := ok_Reader_len (P := P) (w := w) (base := base) T U
  have b_Reader_len := U.b_Reader_len
  refine U.F_turns_of.ok sc_turns_of (fun vs H Q E h => ?_) (fun cdv A0 outer s H vs Q E hr h => ?_)
  · obtain ⟨p, a, n, tab, ends, l1, l2, f, rfl, _⟩ := h
    rfl
  · have hu := hu_of hr
    obtain ⟨p, a, n, tab, ends, l1, l2, f, rfl, D, w3, hx, hin, k⟩ := h
    refine ⟨_, (pss_cons (ps_expr (pe_call G_check_duel (hr.mono (by decide)) (by rfl) T.m_check_duel T.k_check_duel b_check_duel .nil pass0 (pa_cons (pv 0) (pa_cons (pv 1) (pa_cons (pv 2) pa_nil)))))
       (pss_cons (ps_if (pt_not (pt_val (pe_call G_is_plan (hr.mono (by decide)) (by rfl) T.m_is_plan T.k_is_plan b_is_plan .nil pass0 (pa_cons (pv 3) (pa_cons (pe_callB (call_lenO G_Reader_len (hr.mono (by decide)) T.own_len T.isf_len b_Reader_len pass0) (by rfl) T.b_len PySem.boot_len (pa_cons (pv 0) pa_nil)) (pa_cons (pv 1) pa_nil)))))) (pss_one ps_never) pss_nil)
       (pss_one (ps_ret (pe_ix (w_ixL (K := K)) (pe_ix (w_ixT (K := K)) (pe_call G_signs_left (hr.mono (by decide)) (by rfl) T.m_signs_left T.k_signs_left b_signs_left .nil pass0 (pa_cons (pv 0) (pa_cons (pe_call G_goals_by_plan (hr.mono (by decide)) (by rfl) T.m_goals_by_plan T.k_goals_by_plan b_goals_by_plan .nil pass0 (pa_cons (pv 0) (pa_cons (pv 1) (pa_cons (pv 3) pa_nil)))) (pa_cons (pe_call G_goals_by (hr.mono (by decide)) (by rfl) T.m_goals_by T.k_goals_by b_goals_by .nil pass0 (pa_cons (pv 0) (pa_cons (pv 2) pa_nil))) (pa_cons (pe_glob (v := .ref A.has_all) (by rfl) T.m_has_all rfl) pa_nil))))) pe_int (fun _ _ => rfl)) pe_int (fun _ _ => rfl)))))), ?_⟩
    have n1 := D.gt.n1
    have n2 := D.gt.n2
    have w8 := D.gt.w8
    have a8 := D.g1.len
    have b8 := D.g2.len
    refine ⟨_, rfl, _, rfl, _, rfl, p, n, tab, ends, l1, l2, rfl, D.R, D.g1, D.g2, fun H1 s1 => ?_⟩
    obtain ⟨dx, aa, ee, o1, o2, o3⟩ := (D.R.mono s1).ob
    refine ⟨_, rfl, _, rfl, p, dx, _, rfl, o1, p, n, tab, ends, rfl, D.R.mono s1, tab.length, rfl, by omega, _, rfl, a, tab.length, f, l1, rfl, sqT_mono s1 hx, by omega, hin, fun H2 s2 => ?_⟩
    have s12 := s1.trans s2
    refine ⟨_, rfl, iteF (g_next ?_)⟩
    refine ⟨_, rfl, _, rfl, _, rfl, _, rfl, p, a, n, tab, ends, l1, f, rfl, D.R.mono s12, D.gt, D.g1, w3, sqT_mono s12 hx, hin, fun M H4 s4 gm => ?_⟩
    have s14 := s12.trans s4
    refine ⟨_, rfl, _, rfl, p, n, tab, ends, l2, rfl, D.R.mono s14, D.gt, D.g2.lt, by omega, fun v2 H5 s5 gb => ?_⟩
    refine ⟨p, A.has_all, n, tab, ends, .ref M, v2, hasAll, _, _, rfl, .inr ⟨rfl, rfl⟩, D.R.mono (s14.trans s5), D.ge, n2, gm.mono s5, gb, schG_good D.gt hin, near_good D.gt, schG_len (by omega), fun s => by rw [near_len]; omega, fun a ph pt H6 s6 ha hh ht => ?_⟩
    exact ⟨a, _, _, _, rfl, rfl, ha, rfl, ph, _, _, _, rfl, rfl, lst_of hh, atI_nat (j := 0) (oV_at n1), k H6 (s14.trans (s5.trans s6))⟩
end K6


set_option Elab.async false
set_option linter.all false
set_option maxRecDepth 100000
set_option maxHeartbeats 4000000
namespace K6
open PySem PySem.Spec PyProof.Rows L2 Rw
variable {P : Program} {w : World} {K : PySem.W.Frag} {mg : Str → Option Value} {base : Heap} {A : Ad} {fd : Fds}
/-! ### draws -/
structure BarAt (H : Hp) (b : Addr) : Prop where
  ob : ∃ f s c : Int, H b = some (.lst [.int f, .int s, .int c]) ∧ 0 ≤ f ∧ 0 ≤ s
theorem g_viaP {te : TE} {σ : L2.St} {H : Hp} {Q : VK} (Pp : V → Hp → Prop) (h : ∀ Q' : VK, (∀ v H2, Pp v H2 → Q' v H2) → te σ H Q') (rest : ∀ v H2, Pp v H2 → Q v H2) : te σ H Q := h Q rest
theorem g_par {i j : Nat} {ta : TA} {D : Ends} {σ : L2.St} {H : Hp} (h : ta σ H fun vs H1 => ∃ v w, vs = [v, w] ∧ D.nx ((σ.set i (some v)).set j (some w)) H1) : tPar i j ta D σ H := h
theorem g_cons2 {ta : TE} {tr : TA} {σ : L2.St} {H : Hp} {f : List V → Hp → Prop} (h : ta σ H fun x H1 => tr σ H1 fun xs H2 => f (x :: xs) H2) : tCons ta tr σ H f := h
theorem fmod_nn (x : Int) {m : Int} (h : 0 < m) : 0 ≤ x.fmod m := by
  rw [Int.fmod_eq_emod_of_nonneg x (by omega)]
  exact Int.emod_nonneg x (by omega)
theorem fmod_lt (x : Int) {m : Int} (h : 0 < m) : x.fmod m < m := by
  rw [Int.fmod_eq_emod_of_nonneg x (by omega)]
  exact Int.emod_lt_of_pos x h
theorem fdiv_nn {x m : Int} (hx : 0 ≤ x) (h : 0 ≤ m) : 0 ≤ x.fdiv m := by
  rw [Int.fdiv_eq_ediv_of_nonneg x h]
  exact Int.ediv_nonneg hx h
theorem ints_getV {ns : List Int} {t : Nat} (h : t < ns.length) : (ns.map V.int)[t]? = some (.int ns[t]) := by simp [h]
theorem nat_of {z : Int} (h : 0 ≤ z) : ∃ r : Nat, z = (r : Int) := ⟨z.toNat, by omega⟩
def spCask (K : PySem.W.Frag) : Sp := fun vs H Q _ => ∃ (a : Addr) (ns : List Int) (t : Nat), vs = [.ref a, .int (t : Int)] ∧ SqL K H a (ns.map V.int) ∧ ns.length ≤ 63 ∧ t ≤ 5 ∧
  ∀ b H', H b = none → Same H H' → BarAt H' b → Q (.ref b) H'
theorem ok_l_cask (T : Txt K mg A) (U : Funs K A fd) : FnOk P w K mg base CX0 1 A.l_cask fd.l_cask p_l_cask (spCask K) := by
  refine U.F_l_cask.ok sc_l_cask (fun vs H Q E h => ?_) (fun cdv A0 outer s H vs Q E hr h => ?_)
  · obtain ⟨a, ns, t, rfl, _⟩ := h
    rfl
  · have hu := hu_of hr
    obtain ⟨a, ns, t, rfl, hS, hn, ht, k⟩ := h
    refine ⟨_, (pss_cons (ps_par (i := 2) (j := 3) (by rfl) sc_l_cask.nd rfl rfl (by decide) rfl rfl (pa_cons (pe_ifExp (pt_cmpR op_lt (pv 1) (pe_callB (w_len (K := K)) (by rfl) T.b_len (by decide +kernel) (pa_cons (pv 0) pa_nil)) (nomark _)) (pe_callTy call_int1 (by rfl) T.b_int (by decide +kernel) (pa_cons (pe_ix (w_ixL (K := K)) (pv 0) (pv 1) (fun _ _ => rfl)) pa_nil)) pe_int) (pa_cons (pe_op op_add (pe_op op_mul pe_int (pe_op op_add (pv 1) pe_int)) pe_int) pa_nil)) (by rfl))
       (pss_cons (ps_for PassesOwn.never rfl (w_piL (K := K) (pe_slice (w_slL (K := K)) (pv 0) po_none (po_some pe_int))) (pg_name (i := 4) sc_l_cask.nd rfl (Or.inl rfl))
       (pss_one (ps_set (i := 3) sc_l_cask.nd rfl (Or.inl rfl) (pe_op op_modN (pe_callTy call_int1 (by rfl) T.b_int (by decide +kernel) (pa_cons (pe_op op_add (pe_op op_add (pe_op op_mul (pv 3) pe_int) (pe_op op_modN (pe_callTy call_int1 (by rfl) T.b_int (by decide +kernel) (pa_cons (pv 4) pa_nil)) pe_int)) (pe_op op_mul pe_int (pv 1))) pa_nil)) pe_int))))
       (pss_cons (ps_set (i := 5) sc_l_cask.nd rfl (Or.inl rfl) (pe_ifExp (PW.pt (pw_or (pt_cmpR op_lt (pv 2) pe_int (nomark _)) (pw_or1 (pt_cmpR op_ge (pv 2) (pe_op op_pow pe_int pe_int) (nomark _))))) (pe_callB call_abs (by rfl) T.b_abs (by decide +kernel) (pa_cons (pv 2) pa_nil)) pe_int))
       (pss_one (ps_ret (pe_lst (pa_cons (pv 5) (pa_cons (pe_op op_modN (pe_callTy call_int1 (by rfl) T.b_int (by decide +kernel) (pa_cons (pe_op op_add (pv 3) (pe_op op_mul pe_int (pe_op op_modN (pe_callTy call_int1 (by rfl) T.b_int (by decide +kernel) (pa_cons (pv 2) pa_nil)) pe_int))) pa_nil)) pe_int) (pa_cons pe_int pa_nil))))))))), ?_⟩
    refine g_seq (g_par (g_cons2 (g_viaP (fun v H2 => H2 = H ∧ ∃ o : Int, v = .int o) (fun Q' rest => ?_) ?_)))
    · refine ⟨_, rfl, _, rfl, _, _, rfl, .inl ⟨_, hS, rfl⟩, _, _, rfl, rfl, _, rfl, ?_⟩
      by_cases c : t < ns.length
      · rw [decide_eq_true (show (t : Int) < ((ns.map V.int).length : Int) by rw [List.length_map]; omega)]
        refine iteT ?_
        refine ⟨_, rfl, _, rfl, a, _, _, _, rfl, rfl, hS, atI_nat (ints_getV c), .inl ⟨_, rfl, rest _ H ⟨rfl, _, rfl⟩⟩⟩
      · rw [decide_eq_false (show ¬ ((t : Int) < ((ns.map V.int).length : Int)) by rw [List.length_map]; omega)]
        exact iteF (rest _ H ⟨rfl, _, rfl⟩)
    · rintro v H2 ⟨rfl, o, rfl⟩
      refine ⟨_, rfl, _, _, rfl, rfl, _, _, rfl, rfl, .inl ⟨by decide, by decide⟩, _, _, rfl, rfl, _, _, rfl, ?_⟩
      refine ⟨_, rfl, 6, rfl, a, _, rfl, hS, fun p hp => ⟨p, rfl, ⟨_, lst_of upd_same⟩, ?_⟩⟩
      have s1 : Same H2 (upd H2 p (.lst (cutV (ns.map V.int) none (some 6)))) := same_upd hp
      refine for_list (xs := cutV (ns.map V.int) none (some 6)) (fun i σ H' => ∃ (st : Int) (y4 : Option V), σ = [some (.ref a), some (.int (t : Int)), some (.int o), some (.int st), y4, none] ∧ 0 ≤ st ∧ H' = upd H2 p (.lst (cutV (ns.map V.int) none (some 6)))) ?_ ?_ ?_ ?_
      · exact ⟨_, none, rfl, by omega, rfl⟩
      · rintro i σ H' _ ⟨_, _, _, _, rfl⟩
        exact lst_of upd_same
      · rintro i x σ H' hi ⟨st, y4, rfl, h0, rfl⟩
        have hm : x ∈ ns.map V.int := by
          have := List.mem_of_getElem? hi
          unfold cutV at this
          exact List.mem_of_mem_drop (List.mem_of_mem_take this)
        obtain ⟨z, _, rfl⟩ := List.mem_map.mp hm
        refine ⟨_, rfl, _, _, rfl, rfl, .inr ⟨by decide, by decide⟩, _, rfl, .inl ⟨_, rfl, _, _, rfl, rfl, (by show (1000723 : Int) ≠ 0; decide), _, _, rfl, rfl, _, rfl, _, _, rfl, rfl, .inl ⟨by decide, by decide⟩, _, _, rfl, rfl, .inl ⟨_, rfl, _, _, rfl, rfl, (by show (2147483053 : Int) ≠ 0; decide), ?_⟩⟩⟩
        exact ⟨_, _, rfl, fmod_nn _ (by decide), rfl⟩
      · rintro σ H' ⟨st, y4, rfl, h0, rfl⟩
        dsimp only
        refine g_seq (g_asg (g_viaP (fun v H2' => H2' = upd H2 p (.lst (cutV (ns.map V.int) none (some 6))) ∧ ∃ f : Int, 0 ≤ f ∧ v = .int f) (fun Q' rest => ?_) ?_))
        · refine ⟨_, rfl, _, _, rfl, rfl, _, rfl, ?_⟩
          have absR : ∀ H', (H' = upd H2 p (.lst (cutV (ns.map V.int) none (some 6)))) → Q' (.int (if o < 0 then -o else o)) H' := fun H' e => rest _ H' ⟨e, _, by split <;> omega, rfl⟩
          by_cases c : o < 0
          · rw [decide_eq_true c]
            refine iteT (iteT ?_)
            exact ⟨_, rfl, _, rfl, absR _ rfl⟩
          · rw [decide_eq_false c]
            refine iteF ?_
            refine ⟨_, rfl, _, _, rfl, rfl, ⟨by decide, by decide, by decide⟩, _, _, rfl, rfl, _, rfl, ?_⟩
            by_cases c2 : (10 : Int) ^ (17 : Int).toNat ≤ o
            · rw [decide_eq_true c2]
              refine iteT ?_
              exact ⟨_, rfl, _, rfl, absR _ rfl⟩
            · rw [decide_eq_false c2]
              exact iteF (rest _ _ ⟨rfl, 0, by omega, rfl⟩)
        · rintro v H' ⟨rfl, f, hf, rfl⟩
          refine ⟨_, rfl, _, rfl, _, rfl, .inl ⟨_, rfl, _, _, rfl, rfl, (by show (999667 : Int) ≠ 0; decide), _, _, rfl, rfl, .inl ⟨by decide, by decide⟩, _, _, rfl, rfl, .inl ⟨_, rfl, _, _, rfl, rfl, (by show (2147483053 : Int) ≠ 0; decide), by show 3 ≤ sizeLine; decide, fun b hb => ?_⟩⟩⟩
          exact k b _ (Same.free s1 hb) (s1.trans (same_upd hb)) ⟨f, _, 0, upd_same, hf, fmod_nn _ (by decide)⟩
def spPull : Sp := fun vs H Q _ => ∃ (b : Addr) (top : Nat), vs = [.ref b, .int (top : Int)] ∧ BarAt H b ∧ 1 ≤ top ∧ top ≤ 1000000 ∧ ∀ (r : Nat) H', r < top → Keep b H H' → BarAt H' b → Q (.int (r : Int)) H'
theorem ok_l_pull (T : Txt K mg A) (U : Funs K A fd) : FnOk P w K mg base CX0 1 A.l_pull fd.l_pull p_l_pull (spPull) := by
  refine U.F_l_pull.ok sc_l_pull (fun vs H Q E h => ?_) (fun cdv A0 outer s H vs Q E hr h => ?_)
  · obtain ⟨b, top, rfl, _⟩ := h
    rfl
  · have hu := hu_of hr
    obtain ⟨b, top, rfl, B, h1, h2, k⟩ := h
    refine ⟨_, (pss_cons (ps_if (pt_cmpR op_gt (pe_ix (w_ixL (K := K)) (pv 0) pe_int (fun _ _ => rfl)) pe_int (nomark _)) (pss_cons (ps_set (i := 2) sc_l_pull.nd rfl (Or.inl rfl) (pe_op op_modN (pe_callTy call_int1 (by rfl) T.b_int (by decide +kernel) (pa_cons (pe_ix (w_ixL (K := K)) (pv 0) pe_int (fun _ _ => rfl)) pa_nil)) (pv 1)))
       (pss_cons (ps_asg (pe_op op_fdivN (pe_ix (w_ixL (K := K)) (pv 0) pe_int (fun _ _ => rfl)) (pv 1)) (pg_sub (pv 0) pe_int set_list))
       (pss_one (ps_ret (pv 2))))) pss_nil)
       (pss_cons (ps_asg (pe_op op_add (pe_ix (w_ixL (K := K)) (pv 0) pe_int (fun _ _ => rfl)) pe_int) (pg_sub (pv 0) pe_int set_list))
       (pss_cons (ps_set (i := 3) sc_l_pull.nd rfl (Or.inl rfl) (pe_op op_modN (pe_callTy call_int1 (by rfl) T.b_int (by decide +kernel) (pa_cons (pe_op op_add (pe_ix (w_ixL (K := K)) (pv 0) pe_int (fun _ _ => rfl)) (pe_op op_mul pe_int (pe_ix (w_ixL (K := K)) (pv 0) pe_int (fun _ _ => rfl)))) pa_nil)) pe_int))
       (pss_cons (ps_asg (pe_op op_modN (pe_callTy call_int1 (by rfl) T.b_int (by decide +kernel) (pa_cons (pe_op op_add (pe_op op_add (pe_op op_mul (pv 3) (pe_op op_add (pe_op op_modN (pe_callTy call_int1 (by rfl) T.b_int (by decide +kernel) (pa_cons (pv 3) pa_nil)) pe_int) pe_int)) (pe_op op_mul pe_int (pe_ix (w_ixL (K := K)) (pv 0) pe_int (fun _ _ => rfl)))) pe_int) pa_nil)) pe_int) (pg_sub (pv 0) pe_int set_list))
       (pss_one (ps_ret (pe_op op_modN (pe_op op_fdivN (pe_callTy call_int1 (by rfl) T.b_int (by decide +kernel) (pa_cons (pe_ix (w_ixL (K := K)) (pv 0) pe_int (fun _ _ => rfl)) pa_nil)) pe_int) (pv 1)))))))), ?_⟩
    obtain ⟨f, s0, c, hb, hf, hs⟩ := B.ob
    have fin : ∀ (x : Int) (H2 : Hp), Keep b H H2 → BarAt H2 b → Q (.int (x.fmod (top : Int))) H2 := by
      intro x H2 kp B2
      have hr0 := fmod_nn x (m := (top : Int)) (by omega)
      have hr1 := fmod_lt x (m := (top : Int)) (by omega)
      obtain ⟨r, er⟩ := nat_of hr0
      rw [er] at hr1 ⊢
      exact k r H2 (by omega) kp B2
    refine ⟨_, rfl, b, _, _, _, rfl, rfl, lst_of hb, rfl, _, _, rfl, rfl, _, rfl, ?_⟩
    by_cases cf : 0 < f
    · rw [decide_eq_true cf]
      refine iteT ?_
      refine ⟨_, rfl, b, _, _, _, rfl, rfl, lst_of hb, rfl, .inl ⟨_, rfl, _, rfl, _, _, rfl, rfl, (by show (top : Int) ≠ 0; omega), ?_⟩⟩
      refine ⟨_, rfl, b, _, _, _, rfl, rfl, lst_of hb, rfl, _, rfl, _, _, rfl, rfl, ⟨by omega, by omega⟩, _, rfl, b, _, _, 0, rfl, rfl, hb, rfl, ?_⟩
      exact ⟨_, rfl, fin _ _ keep_upd ⟨_, _, c, upd_same, fdiv_nn hf (by omega), hs⟩⟩
    · rw [decide_eq_false cf]
      refine iteF (g_next ?_)
      refine ⟨_, rfl, b, _, _, _, rfl, rfl, lst_of hb, rfl, _, _, rfl, rfl, _, rfl, b, _, _, 2, rfl, rfl, hb, rfl, ?_⟩
      have b1 : (upd H b (.lst [.int f, .int s0, .int (c + 1)])) b = some (.lst [.int f, .int s0, .int (c + 1)]) := upd_same
      dsimp only
      refine g_seq (g_asg (g_viaP (fun v H2 => H2 = upd H b (.lst [.int f, .int s0, .int (c + 1)]) ∧ ∃ kp : Int, 0 ≤ kp ∧ kp < 2147483053 ∧ v = .int kp) (fun Q' rest => ?_) ?_))
      · refine ⟨_, rfl, b, _, _, _, rfl, rfl, lst_of b1, rfl, _, rfl, b, _, _, _, rfl, rfl, lst_of b1, rfl, _, _, rfl, rfl, .inl ⟨by decide, by decide⟩, _, _, rfl, rfl, .inl ⟨_, rfl, _, _, rfl, rfl, (by show (2147483053 : Int) ≠ 0; decide), ?_⟩⟩
        exact rest _ _ ⟨rfl, _, fmod_nn _ (by decide), fmod_lt _ (by decide), rfl⟩
      · rintro v H2 ⟨rfl, kp, hk0, hk1, rfl⟩
        refine ⟨_, rfl, _, rfl, .inl ⟨_, rfl, _, _, rfl, rfl, (by show (30011 : Int) ≠ 0; decide), _, _, rfl, rfl, _, _, rfl, rfl, .inl ⟨by omega, by omega⟩, _, rfl, b, _, _, _, rfl, rfl, lst_of b1, rfl, _, _, rfl, rfl, .inl ⟨by decide, by decide⟩, _, _, rfl, rfl, _, _, rfl, rfl, .inl ⟨_, rfl, _, _, rfl, rfl, (by show (2147483053 : Int) ≠ 0; decide), ?_⟩⟩⟩
        refine ⟨_, rfl, b, _, _, 1, rfl, rfl, b1, rfl, ?_⟩
        refine ⟨_, rfl, b, _, _, _, rfl, rfl, lst_of upd_same, rfl, .inl ⟨_, rfl, _, _, rfl, rfl, ⟨by decide, by decide⟩, _, rfl, _, _, rfl, rfl, (by show (top : Int) ≠ 0; omega), ?_⟩⟩
        exact fin _ _ (Keep.trans keep_upd keep_upd) ⟨f, _, c + 1, upd_same, hf, fmod_nn _ (by decide)⟩
def spOne (K : PySem.W.Frag) : Sp := fun vs H Q _ => ∃ (b a : Addr) (xs : List V), vs = [.ref b, .ref a] ∧ BarAt H b ∧ SqL K (del b H) a xs ∧ 0 < xs.length ∧ xs.length ≤ 1000 ∧ ∀ x H', x ∈ xs → Keep b H H' → BarAt H' b → Q x H'
theorem ok_l_one_of (T : Txt K mg A) (U : Funs K A fd) : FnOk P w K mg base CX0 4 A.l_one_of fd.l_one_of p_l_one_of (spOne K) := by
  have G_l_pull := ok_l_pull (P := P) (w := w) (base := base) T U
  have b_l_pull := U.b_l_pull
  refine U.F_l_one_of.ok sc_l_one_of (fun vs H Q E h => ?_) (fun cdv A0 outer s H vs Q E hr h => ?_)
  · obtain ⟨b, a, xs, rfl, _⟩ := h
    rfl
  · have hu := hu_of hr
    obtain ⟨b, a, xs, rfl, B, hx, h1, h2, k⟩ := h
    refine ⟨_, (pss_one (ps_ret (pe_ix (w_ixL (K := K)) (pv 1) (pe_call G_l_pull (hr.mono (by decide)) (by rfl) T.m_l_pull T.k_l_pull b_l_pull .nil pass0 (pa_cons (pv 0) (pa_cons (pe_callB (w_len (K := K)) (by rfl) T.b_len (by decide +kernel) (pa_cons (pv 1) pa_nil)) pa_nil))) (fun _ _ => rfl)))), ?_⟩
    refine ⟨_, rfl, _, rfl, _, rfl, _, _, rfl, .inl ⟨_, sqL_mono (del_same b) hx, rfl⟩, b, xs.length, rfl, B, by omega, by omega, fun r H1 hr kp B1 => ?_⟩
    have e : xs[r]? = some xs[r] := List.getElem?_eq_getElem hr
    exact ⟨a, xs, _, _, rfl, rfl, sqL_mono (del_same b) (sqL_mono kp hx), atI_nat e, k _ H1 (List.getElem_mem hr) kp B1⟩
/-- a new object beside the cask, changed -/
theorem keep_put {b p : Addr} {o : HO} {H H1 : Hp} (k : Keep b H H1) (h : H p = none) : Keep b H (upd H1 p o) := by
  by_cases e : p = b
  · subst e
    exact k.trans keep_upd
  · intro x u hx
    have hxb : x ≠ b := by
      intro z
      rw [z, del_none] at hx
      cases hx
    have z := k x u hx
    rw [del_ne hxb] at hx z ⊢
    rw [upd_ne (ne_of_none hx h)]
    exact z
theorem bar_ne {H : Hp} {b p : Addr} (B : BarAt H b) (h : H p = none) : p ≠ b := by
  obtain ⟨f, s, c, hb, _⟩ := B.ob
  intro z
  rw [z, hb] at h
  cases h
theorem bar_upd {H : Hp} {b p : Addr} {o : HO} (B : BarAt H b) (h : p ≠ b) : BarAt (upd H p o) b := by
  obtain ⟨f, s, c, hb, h1, h2⟩ := B.ob
  exact ⟨f, s, c, by rw [upd_ne (fun z => h z.symm)]; exact hb, h1, h2⟩
theorem bar_same {H H' : Hp} {b : Addr} (B : BarAt H b) (s : Same H H') : BarAt H' b := by
  obtain ⟨f, s0, c, hb, h1, h2⟩ := B.ob
  exact ⟨f, s0, c, s _ _ hb, h1, h2⟩
/-! ### comprehensions that draw -/
section
variable {H : Hp} {σ : L2.St} {te : TE} {vs : List Nat} {j : Nat} {Q : VK} {b : Addr} {Pv : V → Prop} {Pt : List V → Prop}
def ItOk (Pv : V → Prop) (Pt : List V → Prop) (b D : Addr) (H : Hp) (v : V) : Prop := Pv v ∨ ∃ p ys, v = .ref p ∧ p ≠ b ∧ p ≠ D ∧ H p = some (.tup ys) ∧ Pt ys
def TurnD (b : Addr) (te : TE) (σ : L2.St) (H : Hp) (Pv : V → Prop) (Pt : List V → Prop) : Prop := ∀ H1 (R : V → Hp → Prop), Keep b H H1 → BarAt H1 b →
  (∀ y H2, Keep b H1 H2 → BarAt H2 b → (Pv y ∨ ∃ p ys, y = .ref p ∧ H1 p = none ∧ H2 p = some (.tup ys) ∧ Pt ys) → R y H2) → te σ H1 R
theorem lcD (J : It) (n : Nat) (xs : Nat → V) (Pv : V → Prop) (Pt : List V → Prop) (hn : n < 100000) (B : BarAt H b)
    (hgo : ∀ i H1, i < n → Keep b H H1 → J.go i H1) (hstop : ∀ H1, Keep b H H1 → J.stop n H1) (hyld : ∀ i H1 x H', i < n → Keep b H H1 → J.yld i H1 x H' → H' = H1 ∧ x = xs i)
    (hw : ∀ x, wipe ((wipe σ vs).set j (some x)) vs = wipe σ vs) (turn : ∀ i, i < n → TurnD b te ((wipe σ vs).set j (some (xs i))) H Pv Pt)
    (fin : ∀ D acc H1, H D = none → Keep b H H1 → BarAt H1 b → H1 D = some (.lst acc) → acc.length = n → (∀ v ∈ acc, ItOk Pv Pt b D H1 v) → Q (.ref D) H1) :
    ∀ D, H D = none → ∃ W : Nat → Nat → Hp → Prop, (∃ m, W 0 m (upd H D (.lst []))) ∧ ∀ i m H, W i m H →
      (J.stop i H ∧ Q (.ref D) H) ∨ (J.go i H ∧ ∃ Nx : Hp → Prop, (∀ H', Nx H' → ∃ m', m' < m ∧ W (i + 1) m' H') ∧ ∀ x H', J.yld i H x H' → gName j x (wipe σ vs) H' fun σ2 H2 => wipe σ2 vs = wipe σ vs ∧ tYes σ2 H2 fun b H3 =>
        if b = true then te σ2 H3 fun y H4 => ∃ acc, H4 D = some (.lst acc) ∧ acc.length < sizeLine ∧ Nx (upd H4 D (.lst (acc ++ [y]))) else Nx H3) := by
  intro D hD
  have bD := bar_ne B hD
  refine ⟨fun i m H1 => m = n - i ∧ i ≤ n ∧ Keep b H H1 ∧ BarAt H1 b ∧ ∃ acc, H1 D = some (.lst acc) ∧ acc.length = i ∧ ∀ v ∈ acc, ItOk Pv Pt b D H1 v,
    ⟨n, rfl, Nat.zero_le _, keep_put (Keep.refl _ _) hD, bar_upd B bD, [], upd_same, rfl, fun v hv => by cases hv⟩, ?_⟩
  rintro i m H1 ⟨rfl, hi, k1, B1, acc, h1, la, hold⟩
  by_cases c : i < n
  · refine .inr ⟨hgo i H1 c k1, fun H2 => Keep b H H2 ∧ BarAt H2 b ∧ ∃ acc, H2 D = some (.lst acc) ∧ acc.length = i + 1 ∧ ∀ v ∈ acc, ItOk Pv Pt b D H2 v, fun H2 h2 => ⟨n - (i + 1), by omega, rfl, c, h2.1, h2.2⟩, fun x H' hy => ?_⟩
    obtain ⟨rfl, rfl⟩ := hyld i H1 x H' c k1 hy
    refine ⟨hw _, ?_⟩
    refine yes_go ?_
    refine turn i c H' _ k1 B1 (fun y H2 k2 B2 hy2 => ?_)
    refine ⟨acc, k2.get bD h1, szt (by omega), keep_put (k1.trans k2) hD, bar_upd B2 bD, acc ++ [y], upd_same, by rw [List.length_append, la]; rfl, fun v hv => ?_⟩
    rcases List.mem_append.mp hv with hv | hv
    · rcases hold v hv with h | ⟨p, ys, rfl, pb, pD, hp, ht⟩
      · exact .inl h
      · exact .inr ⟨p, ys, rfl, pb, pD, by rw [upd_ne pD]; exact k2.get pb hp, ht⟩
    · obtain rfl := List.mem_singleton.mp hv
      rcases hy2 with h | ⟨p, ys, rfl, np, hp, ht⟩
      · exact .inl h
      · have pD : p ≠ D := fun z => by
          rw [z, h1] at np
          cases np
        exact .inr ⟨p, ys, rfl, bar_ne B1 np, pD, by rw [upd_ne pD]; exact hp, ht⟩
  · have e : i = n := by omega
    subst e
    exact .inl ⟨hstop H1 k1, fin D acc H1 hD k1 B1 h1 la hold⟩
theorem cRD {ta : TA} {n : Nat} {m : Int} (Pv : V → Prop) (Pt : List V → Prop) (B : BarAt H b) (hm : m.toNat = n) (hb : -1000 ≤ m) (hta : ∀ R : List V → Hp → Prop, R [.int m] H → ta σ H R) (hn : n < 100000)
    (hw : ∀ x, wipe ((wipe σ vs).set j (some x)) vs = wipe σ vs) (turn : ∀ i : Nat, i < n → TurnD b te ((wipe σ vs).set j (some (.int (i : Int)))) H Pv Pt)
    (fin : ∀ D acc H1, H D = none → Keep b H H1 → BarAt H1 b → H1 D = some (.lst acc) → acc.length = n → (∀ v ∈ acc, ItOk Pv Pt b D H1 v) → Q (.ref D) H1) : tLc (iRng1 ta) (gName j) tYes te vs σ H Q := by
  refine hta _ ⟨m, rfl, by omega, by omega, ?_⟩
  rw [hm]
  refine lcD (Itr 0 n) n (fun i => .int (i : Int)) Pv Pt hn B (fun i H1 hi s => hi) (fun H1 s => Nat.le_refl _) (fun i H1 x H' hi s hy => ?_) hw turn fin
  obtain ⟨e, y⟩ := hy
  refine ⟨e, ?_⟩
  rw [y, Int.zero_add]
theorem cTD {tl : TE} {a : Addr} {xs : List V} (Pv : V → Prop) (Pt : List V → Prop) (B : BarAt H b) (htl : ∀ R : VK, R (.ref a) H → tl σ H R) (hx : SqT K (del b H) a xs) (hn : xs.length < 100000)
    (hw : ∀ x, wipe ((wipe σ vs).set j (some x)) vs = wipe σ vs) (turn : ∀ (i : Nat) (x : V), xs[i]? = some x → TurnD b te ((wipe σ vs).set j (some x)) H Pv Pt)
    (fin : ∀ D acc H1, H D = none → Keep b H H1 → BarAt H1 b → H1 D = some (.lst acc) → acc.length = xs.length → (∀ v ∈ acc, ItOk Pv Pt b D H1 v) → Q (.ref D) H1) : tLc (iTup K tl) (gName j) tYes te vs σ H Q := by
  have hx2 : ∀ H1, Keep b H H1 → SqT K H1 a xs := fun H1 k => sqT_mono (del_same b) (sqT_mono k hx)
  refine htl _ ⟨a, rfl, ⟨xs, sqT_mono (del_same b) hx⟩, ?_⟩
  refine lcD (Itt K a) xs.length (fun i => xs.getD i .non) Pv Pt hn B (fun i H1 hi s => ?_) (fun H1 s => ?_) (fun i H1 x H' hi s hy => ?_) hw (fun i hi => ?_) fin
  · exact ⟨xs, xs[i], hx2 _ s, by simp [hi]⟩
  · exact ⟨xs, hx2 _ s, Nat.le_refl _⟩
  · obtain ⟨e, y⟩ := hy
    exact ⟨e, (getD_of (y xs (hx2 _ s))).symm⟩
  · have h : xs[i]? = some (xs.getD i .non) := by
      rw [List.getElem?_eq_getElem hi, List.getD_eq_getElem?_getD, List.getElem?_eq_getElem hi]
      rfl
    exact turn i _ h
end
theorem exists_map {α β : Type} {f : α → β} {Pp : α → Prop} : ∀ {l : List β}, (∀ v ∈ l, ∃ o, Pp o ∧ v = f o) → ∃ r : List α, l = r.map f ∧ ∀ o ∈ r, Pp o
  | [], _ => ⟨[], rfl, fun o h => by cases h⟩
  | v :: l, h => by
    obtain ⟨o, ho, rfl⟩ := h v (List.mem_cons_self ..)
    obtain ⟨r, rfl, hr⟩ := exists_map (l := l) fun x hx => h x (List.mem_cons_of_mem _ hx)
    refine ⟨o :: r, rfl, fun x hx => ?_⟩
    rcases List.mem_cons.mp hx with rfl | hx
    · exact ho
    · exact hr x hx
end K6


set_option Elab.async false
set_option linter.all false
set_option maxRecDepth 100000
set_option maxHeartbeats 4000000
namespace K6
open PySem PySem.Spec PyProof.Rows L2 Rw
variable {P : Program} {w : World} {K : PySem.W.Frag} {mg : Str → Option Value} {base : Heap} {A : Ad} {fd : Fds}
theorem asc_of {ends : List Nat} (h : ends.Pairwise (· < ·)) : Asc (ends.map Int.ofNat) := by
  intro i x y hx hy
  rw [List.getElem?_map] at hx hy
  cases e1 : ends[i]? with
  | none => rw [e1] at hx; cases hx
  | some p =>
    cases e2 : ends[i + 1]? with
    | none => rw [e2] at hy; cases hy
    | some q =>
      rw [e1] at hx
      rw [e2] at hy
      obtain rfl := Option.some.inj hx
      obtain rfl := Option.some.inj hy
      have l1 := lt_of_get e1
      have l2 := lt_of_get e2
      have := List.pairwise_iff_getElem.mp h i (i + 1) l1 l2 (by omega)
      rw [List.getElem?_eq_getElem l1] at e1
      rw [List.getElem?_eq_getElem l2] at e2
      obtain rfl := Option.some.inj e1
      obtain rfl := Option.some.inj e2
      exact Int.ofNat_lt.mpr this
theorem ascS_of {l : List Nat} (h : l.Pairwise (· < ·)) : AscS l := by
  intro i x y hx hy
  have l1 := lt_of_get hx
  have l2 := lt_of_get hy
  have := List.pairwise_iff_getElem.mp h i (i + 1) l1 l2 (by omega)
  rw [List.getElem?_eq_getElem l1] at hx
  rw [List.getElem?_eq_getElem l2] at hy
  obtain rfl := Option.some.inj hx
  obtain rfl := Option.some.inj hy
  exact this
theorem filter_asc (f : Nat → Bool) (n : Nat) : ((List.range n).filter f).Pairwise (· < ·) := List.Pairwise.filter _ List.pairwise_lt_range
theorem keep_free {b t : Addr} {H H1 : Hp} (k : Keep b H H1) (B : BarAt H1 b) (h : H1 t = none) : H t = none := by
  cases e : H t with
  | none => rfl
  | some o =>
    have := k.get (bar_ne B h) e
    rw [h] at this
    cases this
/-- a reader's three parts, in a tuple -/
structure TrAt (K : PySem.W.Frag) (H : Hp) (v : V) (w : Nat) (tab : Tab) (ends : List Nat) : Prop where
  ob : ∃ t a e, v = .ref t ∧ SqT K H t [.int (w : Int), .ref a, .ref e] ∧ Dp K H (.ref a) (dTab tab) ∧ Dp K H (.ref e) (dNats ends)
theorem TrAt.mono {H H' : Hp} {v : V} {w : Nat} {tab : Tab} {ends : List Nat} (h : TrAt K H v w tab ends) (s : Same H H') : TrAt K H' v w tab ends := by
  obtain ⟨t, a, e, rfl, h1, h2, h3⟩ := h.ob
  exact ⟨t, a, e, rfl, sqT_mono s h1, dp_mono s _ _ h2, dp_mono s _ _ h3⟩
theorem rows_dps {b D : Addr} {H : Hp} {w n : Nat} : ∀ {acc : List V}, (∀ v ∈ acc, ItOk (fun _ => False) (fun ys => ∃ row : List (Option Nat), ys = row.map vO ∧ row.length = w ∧ ∀ g, some g ∈ row → g < n) b D H v) →
    ∃ tab : Tab, DpAll K (del b H) acc (tab.map dRow) ∧ tab.length = acc.length ∧ ∀ row ∈ tab, row.length = w ∧ ∀ g, some g ∈ row → g < n
  | [], _ => ⟨[], .nil, rfl, fun r h => by cases h⟩
  | v :: acc, h => by
    obtain ⟨tab, h1, h2, h3⟩ := rows_dps (acc := acc) fun x hx => h x (List.mem_cons_of_mem _ hx)
    rcases h v (List.mem_cons_self ..) with z | ⟨p, ys, rfl, pb, pD, hp, row, rfl, hr1, hr2⟩
    · exact z.elim
    · refine ⟨row :: tab, .cons (.tup (tup_of (by rw [del_ne pb]; exact hp)) (opts_dps row)) h1, by rw [List.length_cons, List.length_cons, h2], fun x hx => ?_⟩
      rcases List.mem_cons.mp hx with rfl | hx
      · exact ⟨hr1, hr2⟩
      · exact h3 x hx
theorem goals_mem {size : Nat} {x : V} (h : x ∈ [V.non] ++ (List.replicate (2 : Int).toNat (rgV 0 (size : Int))).flatten) : ∃ o : Option Nat, (∀ g, o = some g → g < size) ∧ x = vO o := by
  rcases List.mem_append.mp h with h | h
  · exact ⟨none, (fun g z => nomatch z), List.mem_singleton.mp h⟩
  · obtain ⟨l, hl, hx⟩ := List.mem_flatten.mp h
    obtain rfl := List.eq_of_mem_replicate hl
    unfold rgV at hx
    obtain ⟨i, hi, rfl⟩ := List.mem_map.mp hx
    have hi := List.mem_range.mp hi
    refine ⟨some i, fun g z => ?_, ?_⟩
    · obtain rfl := Option.some.inj z
      omega
    · show V.int (0 + (i : Int)) = V.int (i : Int)
      rw [Int.zero_add]
theorem ab_at : ∀ g : Nat, g < 8 → ("abcdefgh" : Str).cps.toList[g]? = some (97 + g)
  | 0, _ => by decide +kernel
  | 1, _ => by decide +kernel
  | 2, _ => by decide +kernel
  | 3, _ => by decide +kernel
  | 4, _ => by decide +kernel
  | 5, _ => by decide +kernel
  | 6, _ => by decide +kernel
  | 7, _ => by decide +kernel
  | n + 8, h => by omega
def spTrio (K : PySem.W.Frag) : Sp := fun vs H Q _ => ∃ (b : Addr) (n most : Nat), vs = [.ref b, .int (n : Int), .int (most : Int)] ∧ BarAt H b ∧ 1 ≤ n ∧ n ≤ 3 ∧ 1 ≤ most ∧ most ≤ 3 ∧
  ∀ v H' tab ends, Keep b H H' → BarAt H' b → TrAt K (del b H') v n tab ends → GoodT n tab → GoodE tab.length ends → tab.length ≤ 3 → Q v H'
theorem ok_l_trio (T : Txt K mg A) (U : Funs K A fd) : FnOk P w K mg base CX0 7 A.l_trio fd.l_trio p_l_trio (spTrio K) := by
  have G_l_pull := ok_l_pull (P := P) (w := w) (base := base) T U
  have b_l_pull := U.b_l_pull
  have G_l_one_of := ok_l_one_of (P := P) (w := w) (base := base) T U
  have b_l_one_of := U.b_l_one_of
  refine U.F_l_trio.ok sc_l_trio (fun vs H Q E h => ?_) (fun cdv A0 outer s H vs Q E hr h => ?_)
  · obtain ⟨b, n, most, rfl, _⟩ := h
    rfl
  · have hu := hu_of hr
    obtain ⟨b, n, most, rfl, B, hn1, hn3, hm1, hm3, k⟩ := h
    refine ⟨_, (pss_cons (ps_set (i := 3) sc_l_trio.nd rfl (Or.inr rfl) (pe_op op_add pe_int (pe_call G_l_pull (hr.mono (by decide)) (by rfl) T.m_l_pull T.k_l_pull b_l_pull .nil pass0 (pa_cons (pv 0) (pa_cons (pv 2) pa_nil)))))
       (pss_cons (ps_setLc (i := 4) (own := [("_law_k", 6)]) (g := gName 6) (tt := tYes) (by rfl) sc_l_trio.nd rfl rfl (sw_true rfl rfl rfl (by decide +kernel)) (pi_range1 (by rfl) T.b_range (pa_cons (pv 3) pa_nil)) (blkOk_by (own := [("_law_k", 6)]) (by rfl)) (fun _ _ _ _ _ => (pg_name (i := 6) sc_l_trio.nd rfl (Or.inl rfl))) (fun _ _ _ _ _ => pts_nil) (fun _ _ _ _ _ => (pe_callTy (w_tuple (K := K)) (by rfl) T.b_tuple (by decide +kernel) (pa_cons (pe_lc (own := [("_law_sign", 7)]) (g := gName 7) (tt := tYes) (by rfl) sc_l_trio.nd (pi_range1 (by rfl) T.b_range (pa_cons (pv 1) pa_nil)) (blkOk_by (own := [("_law_sign", 7)]) (by rfl)) (fun _ _ _ _ _ => (pg_name (i := 7) sc_l_trio.nd rfl (Or.inl rfl))) (fun _ _ _ _ _ => pts_nil) (fun _ _ _ _ _ => (pe_call G_l_one_of (hr.mono (by decide)) (by rfl) T.m_l_one_of T.k_l_one_of b_l_one_of .nil pass0 (pa_cons (pv 0) (pa_cons (pe_op op_cat (pe_lst (pa_cons pe_non pa_nil)) (pe_op op_rep (pe_listRg rfl (by rfl) T.b_list (prg_1 (by rfl) T.b_range (pv 3))) pe_int)) pa_nil))))) pa_nil))))
       (pss_cons (ps_set (i := 5) sc_l_trio.nd rfl (Or.inr rfl) (pe_lc (own := [("_law_k", 6)]) (g := gName 6) (tt := tYes) (by rfl) sc_l_trio.nd (pi_range1 (by rfl) T.b_range (pa_cons (pv 3) pa_nil)) (blkOk_by (own := [("_law_k", 6)]) (by rfl)) (fun _ _ _ _ _ => (pg_name (i := 6) sc_l_trio.nd rfl (Or.inl rfl))) (fun _ _ _ _ _ => pts_nil) (fun _ _ _ _ _ => (pe_call G_l_pull (hr.mono (by decide)) (by rfl) T.m_l_pull T.k_l_pull b_l_pull .nil pass0 (pa_cons (pv 0) (pa_cons pe_int pa_nil))))))
       (pss_one (ps_ret (pe_tup (pa_cons (pv 1) (pa_cons (pe_callTy (w_tuple (K := K)) (by rfl) T.b_tuple (by decide +kernel) (pa_cons (pv 4) pa_nil)) (pa_cons (pe_callTy (w_tuple (K := K)) (by rfl) T.b_tuple (by decide +kernel) (pa_cons (pe_lc (own := [("_law_k", 6)]) (g := gName 6) (by rfl) sc_l_trio.nd (pi_range1 (by rfl) T.b_range (pa_cons (pv 3) pa_nil)) (blkOk_by (own := [("_law_k", 6)]) (by rfl)) (fun _ _ _ _ _ => (pg_name (i := 6) sc_l_trio.nd rfl (Or.inl rfl))) (fun _ _ _ _ _ => (pts_one (pt_cmpR op_eq (pe_ix (w_ixL (K := K)) (pv 5) (pv 6) (fun _ _ => rfl)) pe_int (nomark _)))) (fun _ _ _ _ _ => (pv 6))) pa_nil)) pa_nil))))))))), ?_⟩
    refine ⟨_, rfl, _, rfl, b, most, rfl, B, hm1, by omega, fun r0 H1 hr0 k1 B1 => ⟨_, _, rfl, rfl, ?_⟩⟩
    obtain ⟨size, es⟩ : ∃ size : Nat, size = 1 + r0 := ⟨_, rfl⟩
    have eI : (1 : Int) + (r0 : Int) = (size : Int) := by omega
    have hs1 : 1 ≤ size := by omega
    have hs3 : size ≤ 3 := by omega
    clear es
    dsimp only
    rw [eI]
    refine g_seq (g_asg (cRD (b := b) (n := size) (m := (size : Int)) (fun _ => False) (fun ys => ∃ row : List (Option Nat), ys = row.map vO ∧ row.length = n ∧ ∀ g, some g ∈ row → g < size) B1 (by omega) (by omega) (fun R r => ⟨_, rfl, r⟩) (by omega) ?_ (fun i hi H2 R2 k2 B2 r2 => ?_) (fun R accR H2 hR k2 B2 h2 hl2 hi2 => ?_)))
    · exact fun _ => rfl
    · refine g_cb (cRD (b := b) (n := n) (m := (n : Int)) (fun v => ∃ o : Option Nat, (∀ g, o = some g → g < size) ∧ v = vO o) (fun _ => False) B2 (by omega) (by omega) (fun R r => ⟨_, rfl, r⟩) (by omega) ?_ (fun i hi H3 R3 k3 B3 r3 => ?_) (fun D acc H3 hD k3 B3 h3 hl3 hi3 => ?_))
      · exact fun _ => rfl
      · refine ⟨_, rfl, by show 1 ≤ sizeLine; decide, fun p1 hp1 => ?_⟩
        have B31 := bar_upd (o := .lst [.non]) B3 (bar_ne B3 hp1)
        refine ⟨_, rfl, _, rfl, .of_le (by omega) (by omega) (by omega) (by omega), fun p2 hp2 => ?_⟩
        have B32 := bar_upd (o := .lst (rgV 0 (size : Int))) B31 (bar_ne B31 hp2)
        have n12 : p1 ≠ p2 := ne_of_none upd_same hp2
        refine ⟨p2, 2, _, rfl, rfl, upd_same, by decide, by decide, szl (by rw [rgV_length]; show _ * 2 ≤ 100000; omega), fun p3 hp3 => ?_⟩
        have B33 := bar_upd (o := .lst (List.replicate (2 : Int).toNat (rgV 0 (size : Int))).flatten) B32 (bar_ne B32 hp3)
        have n13 : p1 ≠ p3 := ne_of_none (by rw [upd_ne n12]; exact upd_same) hp3
        have ll : (List.replicate (2 : Int).toNat (rgV 0 (size : Int))).flatten.length ≤ 6 := by
          rw [show (2 : Int).toNat = 2 from rfl]
          simp [rgV_length]
          omega
        refine ⟨p1, p3, _, _, rfl, rfl, by rw [upd_ne n13, upd_ne n12]; exact upd_same, upd_same, szl (by show 1 + _ ≤ 100000; omega), fun p4 hp4 => ?_⟩
        have b4 := bar_ne B33 hp4
        have B34 := bar_upd (o := .lst ([.non] ++ (List.replicate (2 : Int).toNat (rgV 0 (size : Int))).flatten)) B33 b4
        have sm := ((((same_upd (o := .lst [.non]) hp1).trans (same_upd (o := .lst (rgV 0 (size : Int))) hp2)).trans (same_upd (o := .lst (List.replicate (2 : Int).toNat (rgV 0 (size : Int))).flatten) hp3)).trans (same_upd (o := .lst ([.non] ++ (List.replicate (2 : Int).toNat (rgV 0 (size : Int))).flatten)) hp4))
        refine ⟨b, p4, _, rfl, B34, lst_of (by rw [del_ne b4]; exact upd_same), by rw [List.length_append]; show 0 < 1 + _; omega, by rw [List.length_append]; show 1 + _ ≤ 1000; omega, fun x H' hx kp B' => ?_⟩
        exact r3 x H' ((Keep.of sm).trans kp) B' (.inl (goals_mem hx))
      · refine ⟨D, acc, rfl, .inl ⟨lst_of h3, fun t ht => ?_⟩⟩
        obtain ⟨row, rfl, hrow⟩ := exists_map (f := vO) (Pp := fun o : Option Nat => ∀ g, o = some g → g < size) (l := acc) fun v hv => by
          rcases hi3 v hv with h | ⟨p, ys, _, _, _, _, h⟩
          · exact h
          · exact h.elim
        have t2 := keep_free k3 B3 ht
        refine r2 (.ref t) _ (keep_put k3 t2) (bar_upd B3 (bar_ne B3 ht)) (.inr ⟨t, _, rfl, t2, upd_same, row, rfl, by rw [List.length_map] at hl3; exact hl3, fun g hg => hrow _ hg g rfl⟩)
    obtain ⟨tab, hd, htl, hrows⟩ := rows_dps (K := K) hi2
    have etl : tab.length = size := by omega
    dsimp only
    refine g_seq (g_asg (cRD (b := b) (n := size) (m := (size : Int)) (fun v => ∃ o : Nat, True ∧ v = nV o) (fun _ => False) B2 (by omega) (by omega) (fun R r => ⟨_, rfl, r⟩) (by omega) ?_ (fun i hi H3 R3 k3 B3 r3 => ?_) (fun M acc H3 hM k3 B3 h3 hl3 hi3 => ?_)))
    · exact fun _ => rfl
    · exact ⟨_, rfl, b, 2, rfl, B3, by decide, by decide, fun r H4 _ k4 B4 => r3 _ H4 k4 B4 (.inl ⟨r, trivial, rfl⟩)⟩
    obtain ⟨ms, rfl, _⟩ := exists_map (f := nV) (Pp := fun _ : Nat => True) (l := acc) fun v hv => by
      rcases hi3 v hv with h | ⟨p, ys, _, _, _, _, h⟩
      · exact h
      · exact h.elim
    rw [List.length_map] at hl3
    have bM := bar_ne B2 hM
    have nRM : R ≠ M := ne_of_none h2 hM
    have hR3 : H3 R = some (.lst accR) := k3.get (bar_ne B1 hR) h2
    have d3 : DpAll K (del b H3) accR (tab.map dRow) := dps_mono k3 _ _ hd
    refine ⟨_, rfl, _, rfl, R, accR, rfl, .inl ⟨lst_of hR3, fun t1 ht1 => ?_⟩⟩
    have s4 := same_upd (o := .tup accR) ht1
    have h4 : (upd H3 t1 (.tup accR)) t1 = some (.tup accR) := upd_same
    have B4 := bar_upd (o := .tup accR) B3 (bar_ne B3 ht1)
    have b1 := bar_ne B3 ht1
    generalize upd H3 t1 (.tup accR) = H4 at s4 h4 B4
    have hM4 := s4 _ _ h3
    refine g_cb (cR (n := size) (m := (size : Int)) (selAt fun i => decide (ms.getD i 0 = 0)) (by omega) (by omega) (fun R r => ⟨_, rfl, r⟩) (fun i => by unfold selAt; split <;> simp) (by omega) ?_ (fun i hi H5 R5 N5 s5 ry rn => ?_) (fun D H5 hD s5 h5 => ?_))
    · exact fun _ => rfl
    · have em : ms[i]? = some ms[i] := List.getElem?_eq_getElem (by omega)
      have eg : ms.getD i 0 = ms[i] := by rw [List.getD_eq_getElem?_getD, em]; rfl
      have ev : (ms.map nV)[i]? = some (nV ms[i]) := by rw [List.getElem?_map, em]; rfl
      refine ⟨_, rfl, _, rfl, M, _, _, _, rfl, rfl, lst_of (s5 _ _ hM4), atI_nat ev, rfl, ?_⟩
      by_cases c : ms[i] = 0
      · refine ⟨_, rfl, ?_⟩
        rw [decide_eq_true (show nV ms[i] = V.int 0 by unfold nV; rw [c]; rfl)]
        exact iteT ⟨_, rfl, ry _ H5 (by simp only [selAt, eg, c]; rfl) (Same.refl _)⟩
      · refine ⟨_, rfl, ?_⟩
        rw [decide_eq_false (show ¬ nV ms[i] = V.int 0 by unfold nV; intro z; have := V.int.inj z; omega)]
        exact iteF (rn H5 (if_neg (show ¬ decide (ms.getD i 0 = 0) = true by rw [eg, decide_eq_false c]; exact Bool.false_ne_true)) (Same.refl _))
    rw [pre_sel] at h5
    refine ⟨D, _, rfl, .inl ⟨lst_of h5, fun t2 ht2 => ⟨by show 3 ≤ sizeLine; decide, fun t ht => ?_⟩⟩⟩
    have B5 := bar_same B4 s5
    have b2 := bar_ne B5 ht2
    have B6 := bar_upd (o := .tup (((List.range size).filter fun i => decide (ms.getD i 0 = 0)).map nV)) B5 b2
    have b3 := bar_ne B6 ht
    have n2 : t2 ≠ t := ne_of_none upd_same ht
    have s6 := (same_upd (o := .tup (((List.range size).filter fun i => decide (ms.getD i 0 = 0)).map nV)) ht2).trans (same_upd (o := .tup [.int (n : Int), .ref t1, .ref t2]) ht)
    refine k (.ref t) _ tab ((List.range size).filter fun i => decide (ms.getD i 0 = 0)) (k1.trans (k2.trans (k3.trans (Keep.of (s4.trans (s5.trans s6)))))) (bar_upd B6 b3) ⟨t, t1, t2, rfl, tup_of (by rw [del_ne b3]; exact upd_same), ?_, ?_⟩ ⟨by omega, by omega, by omega, fun row hrow => ?_⟩ ⟨asc_of (filter_asc _ _), fun g hg => ?_, ?_⟩ (by omega)
    · refine .tup (tup_of (xs := accR) ?_) (dps_mono (del_mono (s4.trans (s5.trans s6))) _ _ d3)
      rw [del_ne b1]
      exact s6 _ _ (s5 _ _ h4)
    · refine .tup (tup_of (xs := (((List.range size).filter fun i => decide (ms.getD i 0 = 0)).map nV)) ?_) ?_
      · rw [del_ne b2, upd_ne n2]
        exact upd_same
      · have e := ints_dps (K := K) (H := del b (upd (upd H5 t2 (.tup (((List.range size).filter fun i => decide (ms.getD i 0 = 0)).map nV))) t (.tup [.int (n : Int), .ref t1, .ref t2]))) (((List.range size).filter fun i => decide (ms.getD i 0 = 0)).map Int.ofNat)
        rw [List.map_map, List.map_map] at e
        exact e
    · have := hrows row hrow
      rw [etl]
      exact this
    · have := List.mem_range.mp (List.mem_filter.mp hg).1
      omega
    · have := List.length_filter_le (fun i => decide (ms.getD i 0 = 0)) (List.range size)
      rw [List.length_range] at this
      omega
/-! ### lots -/
structure LtAt (K : PySem.W.Frag) (H : Hp) (v : V) (l1 l2 : List Nat) : Prop where
  ob : ∃ p, v = .ref p ∧ SqL K H p [.str (rowS l1), .str (rowS l2)]
theorem LtAt.mono {H H' : Hp} {v : V} {l1 l2 : List Nat} (h : LtAt K H v l1 l2) (s : Same H H') : LtAt K H' v l1 l2 := by
  obtain ⟨p, e, h1⟩ := h.ob
  exact ⟨p, e, sqL_mono s h1⟩
theorem eight {l : List Nat} (h : l = [] ∨ l = [0] ∨ l = [1] ∨ l = [2] ∨ l = [0, 1] ∨ l = [0, 2] ∨ l = [1, 2] ∨ l = [0, 1, 2]) : Txt.join ("" : Str) (l.map sgn) = rowS l ∧ ((l.map sgn).map (·.length)).sum + (l.map sgn).length * ("" : Str).length ≤ 16777216 := by
  rcases h with rfl | rfl | rfl | rfl | rfl | rfl | rfl | rfl <;> exact ⟨by decide +kernel, by decide +kernel⟩
theorem joined {n : Nat} (hn : n ≤ 3) (f : Nat → Bool) : Txt.join ("" : Str) (((List.range n).filter f).map sgn) = rowS ((List.range n).filter f) ∧ ((((List.range n).filter f).map sgn).map (·.length)).sum + (((List.range n).filter f).map sgn).length * ("" : Str).length ≤ 16777216 := by
  refine eight ?_
  have e : n = 0 ∨ n = 1 ∨ n = 2 ∨ n = 3 := by omega
  rcases e with rfl | rfl | rfl | rfl
  · simp
  · rw [show List.range 1 = [0] from rfl]
    cases h0 : f 0 <;> simp [h0]
  · rw [show List.range 2 = [0, 1] from rfl]
    cases h0 : f 0 <;> cases h1 : f 1 <;> simp [h0, h1]
  · rw [show List.range 3 = [0, 1, 2] from rfl]
    cases h0 : f 0 <;> cases h1 : f 1 <;> cases h2 : f 2 <;> simp [h0, h1, h2]
def selS (f : Nat → Bool) (i : Nat) : List V := if f i = true then [V.str (sgn i)] else []
theorem pre_selS (f : Nat → Bool) (n : Nat) : pre (selS f) n = (((List.range n).filter f).map sgn).map V.str := by
  unfold pre
  induction List.range n with
  | nil => rfl
  | cons x l ih =>
    rw [List.flatMap_cons, ih, List.filter_cons]
    unfold selS
    by_cases c : f x = true
    · rw [if_pos c, if_pos c]
      rfl
    · rw [if_neg c, if_neg c]
      rfl
theorem signs_mem {n : Nat} {x : V} (h : x ∈ signV (rowS (List.range n))) : ∃ g, g < n ∧ x = .str (rowS [g]) := by
  unfold signV at h
  obtain ⟨c, hc, rfl⟩ := List.mem_map.mp h
  unfold rowS at hc
  rw [List.toList_toArray] at hc
  obtain ⟨g, hg, rfl⟩ := List.mem_map.mp hc
  exact ⟨g, List.mem_range.mp hg, rfl⟩
theorem sel_good {n : Nat} (hn : n ≤ 3) {f : Nat → Bool} (h : (List.range n).filter f ≠ []) : GoodLot n ((List.range n).filter f) where
  ne := h
  asc := ascS_of (filter_asc _ _)
  lt := fun g hg => List.mem_range.mp (List.mem_filter.mp hg).1
  len := by have := List.length_filter_le f (List.range n); rwa [List.length_range] at this
  w8 := by omega
theorem one_good {n g : Nat} (hn : n ≤ 3) (h : g < n) : GoodLot n [g] where
  ne := fun z => by cases z
  asc := fun i x y _ hy => by simp at hy
  lt := fun x hx => by obtain rfl := List.mem_singleton.mp hx; exact h
  len := by show 1 ≤ n; omega
  w8 := by omega
theorem rowS_inj_nil {l : List Nat} : rowS l = ("" : Str) ↔ l = [] := by
  constructor
  · intro h
    have := rowS_len l
    rw [h] at this
    exact List.length_eq_zero_iff.mp this.symm
  · rintro rfl
    decide +kernel
def spLots (K : PySem.W.Frag) : Sp := fun vs H Q _ => ∃ (b : Addr) (n : Nat), vs = [.ref b, .int (n : Int)] ∧ BarAt H b ∧ 1 ≤ n ∧ n ≤ 3 ∧
  ∀ v H' l1 l2, Keep b H H' → BarAt H' b → LtAt K (del b H') v l1 l2 → GoodLot n l1 → GoodLot n l2 → Q v H'
theorem ok_l_lots (T : Txt K mg A) (U : Funs K A fd) : FnOk P w K mg base CX0 7 A.l_lots fd.l_lots p_l_lots (spLots K) := by
  have G_l_one_of := ok_l_one_of (P := P) (w := w) (base := base) T U
  have b_l_one_of := U.b_l_one_of
  have G_l_pull := ok_l_pull (P := P) (w := w) (base := base) T U
  have b_l_pull := U.b_l_pull
  refine U.F_l_lots.ok sc_l_lots (fun vs H Q E h => ?_) (fun cdv A0 outer s H vs Q E hr h => ?_)
  · obtain ⟨b, n, rfl, _⟩ := h
    rfl
  · have hu := hu_of hr
    obtain ⟨b, n, rfl, B, hn1, hn3, k⟩ := h
    refine ⟨_, (pss_cons (ps_set (i := 2) sc_l_lots.nd rfl (Or.inl rfl) (pe_lst pa_nil))
       (pss_cons (ps_for PassesOwn.never rfl (pi_range1 (by rfl) T.b_range (pa_cons pe_int pa_nil)) (pg_name (i := 3) sc_l_lots.nd rfl (Or.inl rfl))
       (pss_cons (ps_set (i := 4) sc_l_lots.nd rfl (Or.inr rfl) (pe_lc (own := [("_law_k", 6)]) (g := gName 6) (tt := tYes) (by rfl) sc_l_lots.nd (pi_range1 (by rfl) T.b_range (pa_cons (pv 1) pa_nil)) (blkOk_by (own := [("_law_k", 6)]) (by rfl)) (fun _ _ _ _ _ => (pg_name (i := 6) sc_l_lots.nd rfl (Or.inl rfl))) (fun _ _ _ _ _ => pts_nil) (fun _ _ _ _ _ => (pe_call G_l_pull (hr.mono (by decide)) (by rfl) T.m_l_pull T.k_l_pull b_l_pull .nil pass0 (pa_cons (pv 0) (pa_cons pe_int pa_nil))))))
       (pss_cons (ps_set (i := 5) sc_l_lots.nd rfl (Or.inl rfl) (pe_join pe_str (pe_lc (own := [("_law_k", 6)]) (g := gName 6) (by rfl) sc_l_lots.nd (pi_range1 (by rfl) T.b_range (pa_cons (pv 1) pa_nil)) (blkOk_by (own := [("_law_k", 6)]) (by rfl)) (fun _ _ _ _ _ => (pg_name (i := 6) sc_l_lots.nd rfl (Or.inl rfl))) (fun _ _ _ _ _ => (pts_one (pt_cmpR op_gt (pe_ix (w_ixL (K := K)) (pv 4) (pv 6) (fun _ _ => rfl)) pe_int (nomark _)))) (fun _ _ _ _ _ => (pe_ix ix_str pe_str (pv 6) (fun _ _ => rfl))))))
       (pss_one (ps_expr (w_bm (K := K) PySem.F.plainAttrs_list PySem.F.slot_list_append PySem.F.type_list_append mt_append (pv 2) (pa_cons (pe_ifExp (pt_cmpR op_ne (pv 5) pe_str (nomark _)) (pv 5) (pe_call G_l_one_of (hr.mono (by decide)) (by rfl) T.m_l_one_of T.k_l_one_of b_l_one_of .nil pass0 (pa_cons (pv 0) (pa_cons (pe_callTy (call_listS rfl) (by rfl) T.b_list (by decide +kernel) (pa_cons (pe_slice sl_str pe_str po_none (po_some (pv 1))) pa_nil)) pa_nil)))) pa_nil)))))))
       (pss_one (ps_ret (pv 2))))), ?_⟩
    refine ⟨Nat.zero_le _, fun F hF => ?_⟩
    have bF := bar_ne B hF
    refine ⟨2, rfl, by decide, by decide, ?_⟩
    refine for_range (lo := 0) (n := 2) (fun i σ H' => ∃ (ls : List (List Nat)) (y3 y4 y5 : Option V), σ = [some (.ref b), some (.int (n : Int)), some (.ref F), y3, y4, y5, none] ∧ Keep b H H' ∧ BarAt H' b ∧ H' F = some (.lst (ls.map fun l => V.str (rowS l))) ∧ ls.length = i ∧ ∀ l ∈ ls, GoodLot n l) ?_ ?_ ?_
    · exact ⟨[], none, none, none, rfl, keep_put (Keep.refl _ _) hF, bar_upd B bF, upd_same, rfl, fun l h => by cases h⟩
    · rintro i σ H1 hi ⟨ls, y3, y4, y5, rfl, k1, B1, hF1, hl, hg⟩
      dsimp only
      refine g_seq (g_asg (cRD (b := b) (n := n) (m := (n : Int)) (fun v => ∃ o : Nat, True ∧ v = nV o) (fun _ => False) B1 (by omega) (by omega) (fun R r => ⟨_, rfl, r⟩) (by omega) ?_ (fun i hi H3 R3 k3 B3 r3 => ?_) (fun M acc H3 hM k3 B3 h3 hl3 hi3 => ?_)))
      · exact fun _ => rfl
      · exact ⟨_, rfl, b, 3, rfl, B3, by decide, by decide, fun r H4 _ k4 B4 => r3 _ H4 k4 B4 (.inl ⟨r, trivial, rfl⟩)⟩
      obtain ⟨ms, rfl, _⟩ := exists_map (f := nV) (Pp := fun _ : Nat => True) (l := acc) fun v hv => by
        rcases hi3 v hv with h | ⟨p, ys, _, _, _, _, h⟩
        · exact h
        · exact h.elim
      rw [List.length_map] at hl3
      have k13 := k1.trans k3
      have hF3 := k3.get bF hF1
      refine ⟨⟨_, rfl⟩, ?_⟩
      refine cR (n := n) (m := (n : Int)) (selS fun i => decide (ms.getD i 0 > 0)) (by omega) (by omega) (fun R r => ⟨_, rfl, r⟩) (fun i => by unfold selS; split <;> simp) (by omega) ?_ (fun i hi H5 R5 N5 s5 ry rn => ?_) (fun D H5 hD s5 h5 => ?_)
      · exact fun _ => rfl
      · have em : ms[i]? = some ms[i] := List.getElem?_eq_getElem (by omega)
        have eg : ms.getD i 0 = ms[i] := by rw [List.getD_eq_getElem?_getD, em]; rfl
        have ev : (ms.map nV)[i]? = some (nV ms[i]) := by rw [List.getElem?_map, em]; rfl
        refine ⟨_, rfl, _, rfl, M, _, _, _, rfl, rfl, lst_of (s5 _ _ h3), atI_nat ev, _, _, rfl, rfl, ?_⟩
        by_cases c : ms[i] > 0
        · refine ⟨_, rfl, ?_⟩
          rw [decide_eq_true (show (0 : Int) < (ms[i] : Int) by omega)]
          refine iteT ⟨_, rfl, _, _, _, rfl, rfl, szl (by decide +kernel), atI_nat (ab_at i (by omega)), ?_⟩
          exact ry _ H5 (if_pos (show decide (ms.getD i 0 > 0) = true by rw [eg]; exact decide_eq_true c)) (Same.refl _)
        · refine ⟨_, rfl, ?_⟩
          rw [decide_eq_false (show ¬ (0 : Int) < (ms[i] : Int) by omega)]
          exact iteF (rn H5 (if_neg (show ¬ decide (ms.getD i 0 > 0) = true by rw [eg, decide_eq_false c]; exact Bool.false_ne_true)) (Same.refl _))
      rw [pre_selS] at h5
      generalize hfl : (List.range n).filter (fun i => decide (ms.getD i 0 > 0)) = lot at h5
      have hj := joined hn3 (fun i => decide (ms.getD i 0 > 0))
      rw [hfl] at hj
      have B5 := bar_same B3 s5
      have hF5 := s5 _ _ hF3
      refine ⟨_, D, lot.map sgn, rfl, rfl, .inl (lst_of h5), hj.2, ?_⟩
      rw [hj.1]
      refine ⟨_, rfl, .inl ⟨rfl, _, lst_of hF5⟩, ?_⟩
      refine g_cons2 (g_viaP (fun v H6 => Keep b H5 H6 ∧ BarAt H6 b ∧ ∃ l, GoodLot n l ∧ v = .str (rowS l)) (fun Q' rest => ?_) ?_)
      · refine ⟨_, rfl, rfl, ?_⟩
        by_cases c : lot = []
        · rw [decide_eq_true (show V.str (rowS lot) = V.str "" by rw [rowS_inj_nil.mpr c])]
          refine ⟨_, rfl, iteF ?_⟩
          refine ⟨_, rfl, _, rfl, (n : Int), rfl, _, rfl, szl (by decide +kernel), ?_⟩
          rw [cut_at n (by omega)]
          refine ⟨_, rfl, szl (by rw [rowS_len, List.length_range]; omega), fun p hp => ?_⟩
          have bp := bar_ne B5 hp
          have lenS : (signV (rowS (List.range n))).length = n := by unfold signV; rw [List.length_map, Array.length_toList, rowS_size, List.length_range]
          refine ⟨b, p, signV (rowS (List.range n)), rfl, bar_upd B5 bp, lst_of (by rw [del_ne bp]; exact upd_same), by omega, by omega, fun x H6 hx k6 B6 => ?_⟩
          obtain ⟨g, hg, rfl⟩ := signs_mem hx
          exact rest _ H6 ⟨(Keep.of (same_upd hp)).trans k6, B6, [g], one_good hn3 hg, rfl⟩
        · rw [decide_eq_false (show ¬ V.str (rowS lot) = V.str "" from fun z => c (rowS_inj_nil.mp (V.str.inj z)))]
          refine ⟨_, rfl, iteT ⟨_, rfl, rest _ H5 ⟨Keep.refl _ _, B5, lot, ?_, rfl⟩⟩⟩
          rw [← hfl] at c ⊢
          exact sel_good hn3 c
      · rintro v H6 ⟨k6, B6, l, hgl, rfl⟩
        have hF6 := k6.get bF hF5
        refine ⟨F, _, _, rfl, rfl, hF6, szt (by rw [List.length_map]; omega), ?_⟩
        refine ⟨ls ++ [l], _, _, _, rfl, keep_put (k13.trans ((Keep.of s5).trans k6)) hF, bar_upd B6 bF, ?_, by rw [List.length_append, hl]; rfl, fun x hx => ?_⟩
        · rw [upd_same, List.map_append]
          rfl
        · rcases List.mem_append.mp hx with hx | hx
          · exact hg x hx
          · obtain rfl := List.mem_singleton.mp hx
            exact hgl
    · rintro σ H1 ⟨ls, y3, y4, y5, rfl, k1, B1, hF1, hl, hg⟩
      match ls, hl with
      | [l1, l2], _ => exact ⟨_, rfl, k (.ref F) H1 l1 l2 k1 B1 ⟨F, rfl, lst_of (by rw [del_ne bF]; exact hF1)⟩ (hg l1 (by simp)) (hg l2 (by simp))⟩
end K6


set_option Elab.async false
set_option linter.all false
set_option maxRecDepth 100000
set_option maxHeartbeats 4000000
namespace K6
open PySem PySem.Spec PyProof.Rows L2 Rw
variable {P : Program} {w : World} {K : PySem.W.Frag} {mg : Str → Option Value} {base : Heap} {A : Ad} {fd : Fds}
def spNear (K : PySem.W.Frag) : Sp := fun vs H Q _ => ∃ (v : V) (w : Nat) (tab : Tab) (ends : List Nat) (s : Nat) (l : List Nat), vs = [v, .int (s : Int), .str (rowS l)] ∧ TrAt K H v w tab ends ∧ GoodT w tab ∧ s < tab.length ∧ (∀ g ∈ l, g < w) ∧ l.length ≤ 8 ∧
  ∀ D H', H D = none → Same H H' → H' D = some (.lst ((near tab l s).map vO)) → Q (.ref D) H'
theorem ok_l_near (T : Txt K mg A) (U : Funs K A fd) : FnOk P w K mg base CX0 1 A.l_near fd.l_near p_l_near (spNear K) := by
  refine U.F_l_near.ok sc_l_near (fun vs H Q E h => ?_) (fun cdv A0 outer s H vs Q E hr h => ?_)
  · obtain ⟨v, n, tab, ends, s0, l, rfl, _⟩ := h
    rfl
  · have hu := hu_of hr
    obtain ⟨v, n, tab, ends, s0, l, rfl, Tr, gt, hs, hl, h8, k⟩ := h
    refine ⟨_, (pss_one (ps_ret (pe_lc (own := [("_law_sign", 3)]) (g := gName 3) (tt := tYes) (by rfl) sc_l_near.nd (pi_str (pv 2)) (blkOk_by (own := [("_law_sign", 3)]) (by rfl)) (fun _ _ _ _ _ => (pg_name (i := 3) sc_l_near.nd rfl (Or.inl rfl))) (fun _ _ _ _ _ => pts_nil) (fun _ _ _ _ _ => (pe_ix (w_ixT (K := K)) (pe_ix (w_ixT (K := K)) (pe_ix (w_ixT (K := K)) (pv 0) pe_int (fun _ _ => rfl)) (pv 1) (fun _ _ => rfl)) (w_bm (K := K) PySem.F.plainAttrs_str PySem.F.slot_str_index PySem.F.type_str_index mt_sindex pe_str (pa_cons (pv 3) pa_nil)) (fun _ _ => rfl)))))), ?_⟩
    have w8 := gt.w8
    obtain ⟨t, a, e, rfl, ht, ha, he⟩ := Tr.ob
    obtain ⟨a', xs, e1, hx, hds⟩ := dp_tup ha
    obtain rfl := V.ref.inj e1
    obtain ⟨b, eb, hb⟩ := tab_at (p := a) (a := a) hds hs
    refine g_ret (cS (z := rowS l) (fun i => [vO (goal tab s0 (l.getD i 0))]) (fun R r => ⟨_, rfl, r⟩) (fun _ => Nat.le_refl 1) (by rw [rowS_size]; omega) ?_ (fun i c hi => turn_yes fun H1 R s1 r => ?_) (fun D H1 hD s1 h1 => ?_))
    · exact fun _ => rfl
    · obtain ⟨g, hg1, rfl⟩ := rowS_at hi
      have gn := hl g (List.mem_of_getElem? hg1)
      obtain ⟨rest, hr⟩ := index_at g (by omega)
      have eg : l.getD i 0 = g := by rw [List.getD_eq_getElem?_getD, hg1]; rfl
      rw [eg] at r
      exact ⟨_, rfl, t, _, _, _, rfl, rfl, sqT_mono s1 ht, rfl, _, rfl, a, xs, _, _, rfl, rfl, sqT_mono s1 hx, atI_nat eb, rfl, _, rfl, _, _, g, rest, rfl, rfl, hr, b, _, _, _, rfl, rfl, sqT_mono s1 hb, atI_nat (goal_at gt hs gn), r H1 (Same.refl _)⟩
    · rw [rowS_size, pre_at l 0 fun g => vO (goal tab s0 g)] at h1
      refine k D H1 hD s1 ?_
      rw [h1]
      unfold near
      rw [List.map_map]
      rfl
theorem signs_flat (z : Str) : (signV z).all flatV = true := by
  unfold signV
  rw [List.all_map, List.all_eq_true]
  intro c _
  rfl
theorem sign_in {g : Nat} {l : List Nat} (h : g ∈ l) : inV (.str (sgn g)) (signV (rowS l)) = true := by
  unfold inV
  rw [List.any_eq_true]
  refine ⟨.str (sgn g), ?_, by show (sgn g == sgn g) = true; exact beq_self_eq_true _⟩
  unfold signV rowS
  rw [List.toList_toArray, List.map_map]
  exact List.mem_map.mpr ⟨g, h, rfl⟩
def spIsScheme (K : PySem.W.Frag) : Sp := fun vs H Q _ => ∃ (a : Addr) (v : V) (w : Nat) (tab : Tab) (ends : List Nat) (f : Nat → Option Nat) (l : List Nat), vs = [.ref a, v, .str (rowS l)] ∧ TrAt K H v w tab ends ∧ tab.length ≤ 200 ∧ l.length ≤ 8 ∧ SqT K H a (schV tab.length f) ∧
  (∀ s g, s < tab.length → f s = some g → g ∈ l) ∧ ∀ H', Same H H' → Q (.bl true) H'
theorem ok_l_is_scheme (T : Txt K mg A) (U : Funs K A fd) : FnOk P w K mg base CX0 1 A.l_is_scheme fd.l_is_scheme p_l_is_scheme (spIsScheme K) := by
  refine U.F_l_is_scheme.ok sc_l_is_scheme (fun vs H Q E h => ?_) (fun cdv A0 outer s H vs Q E hr h => ?_)
  · obtain ⟨a, v, n, tab, ends, f, l, rfl, _⟩ := h
    rfl
  · have hu := hu_of hr
    obtain ⟨a, v, n, tab, ends, f, l, rfl, Tr, hn, h8, hx, hl, k⟩ := h
    refine ⟨_, (pss_cons (ps_if (PW.pt (pw_or (pt_not (pt_val (pe_callB (w_isi (K := K)) (by rfl) T.b_isinstance (by decide +kernel) (pa_cons (pv 0) (pa_cons (pe_bltn (v := .ty "tuple") (u := .type "tuple") (by rfl) T.b_tuple (by decide +kernel) rfl) pa_nil))))) (pw_or1 (pt_cmpR op_ne (pe_callB (w_len (K := K)) (by rfl) T.b_len (by decide +kernel) (pa_cons (pv 0) pa_nil)) (pe_callB (w_len (K := K)) (by rfl) T.b_len (by decide +kernel) (pa_cons (pe_ix (w_ixT (K := K)) (pv 1) pe_int (fun _ _ => rfl)) pa_nil)) (nomark _))))) (pss_one (ps_ret pe_bl)) pss_nil)
       (pss_one (ps_ret (pe_cmpR (w_eqD (K := K) hr.units) (pe_lc (own := [("_law_sign", 3)]) (g := gName 3) (by rfl) sc_l_is_scheme.nd (w_piT (K := K) (pv 0)) (blkOk_by (own := [("_law_sign", 3)]) (by rfl)) (fun _ _ _ _ _ => (pg_name (i := 3) sc_l_is_scheme.nd rfl (Or.inl rfl))) (fun _ _ _ _ _ => (pts_one (PW.pt (pw_and (pt_cmpR op_notN (pv 3) pe_non (nomark _)) (pw_and1 (PW.pt (pw_or (pt_not (pt_val (pe_callB (w_isi (K := K)) (by rfl) T.b_isinstance (by decide +kernel) (pa_cons (pv 3) (pa_cons (pe_bltn (v := .ty "str") (u := .type "str") (by rfl) T.b_str (by decide +kernel) rfl) pa_nil))))) (pw_or1 (pt_cmpR (w_notIn (K := K)) (pv 3) (pe_callTy (call_listS rfl) (by rfl) T.b_list (by decide +kernel) (pa_cons (pv 2) pa_nil)) (by rfl)))))))))) (fun _ _ _ _ _ => (pv 3))) (pe_lst pa_nil) (nomark _))))), ?_⟩
    obtain ⟨t, aa, e, rfl, ht, ha, he⟩ := Tr.ob
    obtain ⟨a', xs, e1, hxa, hds⟩ := dp_tup ha
    obtain rfl := V.ref.inj e1
    have hxl : xs.length = tab.length := by rw [dps_len hds, List.length_map]
    refine ⟨_, rfl, _, _, _, .type "tuple", true, rfl, .ty _, tupTy hx, kit_ty (by decide +kernel), true, rfl, ?_⟩
    refine iteF ?_
    refine ⟨_, rfl, _, _, rfl, .inr ⟨_, hx, rfl⟩, _, rfl, t, _, _, _, rfl, rfl, ht, rfl, _, _, rfl, .inr ⟨_, hxa, rfl⟩, rfl, _, rfl, ?_⟩
    rw [schV_len, hxl, decide_eq_true rfl]
    refine iteF (g_next ?_)
    dsimp only
    refine g_ret ?_
    refine cT (xs := schV tab.length f) (fun _ => []) (fun R r => ⟨_, rfl, r⟩) hx (fun _ => Nat.zero_le _) (by rw [schV_len]; omega) ?_ (fun i x hi H1 R N s1 ry rn => ?_) (fun D H1 hD s1 h1 => ?_)
    · exact fun _ => rfl
    · have hin : i < tab.length := by have := lt_of_get hi; rwa [schV_len] at this
      rw [schV_at hin] at hi
      obtain rfl := Option.some.inj hi
      cases e : f i with
      | none => exact ⟨_, rfl, rfl, false, rfl, iteF (iteF (rn H1 rfl (Same.refl _)))⟩
      | some g =>
        refine ⟨_, rfl, rfl, true, rfl, iteT ?_⟩
        refine ⟨_, rfl, .str _, .ty "str", .type "str", .type "str", true, rfl, .ty _, .base (.str _), kit_ty (by decide +kernel), true, rfl, iteF ?_⟩
        refine ⟨_, rfl, _, rfl, _, rfl, szl (by rw [rowS_len]; omega), fun q hq => ?_⟩
        refine ⟨q, _, rfl, .inl (lst_of upd_same), rfl, signs_flat _, _, rfl, ?_⟩
        have e5 : inV (sV (some g)) (signV (rowS l)) = true := sign_in (hl i g hin e)
        rw [e5]
        exact iteF (rn _ rfl (same_upd hq))
    · have e0 : pre (fun _ => ([] : List V)) (schV tab.length f).length = [] := by
        unfold pre
        simp
      rw [e0] at h1
      refine ⟨Nat.zero_le _, fun E hE => ?_⟩
      have n1 : D ≠ E := ne_of_none h1 hE
      refine ⟨.list [], .list [], .lst (lst_of (by rw [upd_ne n1]; exact h1)) .nil, .lst (lst_of upd_same) .nil, rfl, rfl, ?_⟩
      exact k _ (s1.trans (same_upd hE))
end K6


set_option Elab.async false
set_option linter.all false
set_option maxRecDepth 100000
set_option maxHeartbeats 4000000
namespace K6
open PySem PySem.Spec PyProof.Rows L2 Rw
variable {P : Program} {w : World} {K : PySem.W.Frag} {mg : Str → Option Value} {base : Heap} {A : Ad} {fd : Fds}
/-! ### comprehensions whose items are new objects -/
section
variable {H : Hp} {σ : L2.St} {te : TE} {vs : List Nat} {j : Nat} {Q : VK}
def HoldO (H : Hp) (acc : List V) (n : Nat) (os : Nat → HO) : Prop := acc.length = n ∧ ∀ k, k < n → ∃ p, acc[k]? = some (.ref p) ∧ H p = some (os k)
theorem HoldO.mono {H H' : Hp} {acc : List V} {n : Nat} {os : Nat → HO} (h : HoldO H acc n os) (s : Same H H') : HoldO H' acc n os :=
  ⟨h.1, fun k hk => let ⟨p, e, hp⟩ := h.2 k hk; ⟨p, e, s _ _ hp⟩⟩
theorem HoldO.snoc {acc : List V} {n : Nat} {os : Nat → HO} {p : Addr} (h : HoldO H acc n os) (hp : H p = some (os n)) : HoldO H (acc ++ [.ref p]) (n + 1) os := by
  refine ⟨by rw [List.length_append, h.1]; rfl, fun k hk => ?_⟩
  by_cases c : k < n
  · obtain ⟨q, e, hq⟩ := h.2 k c
    exact ⟨q, by rw [List.getElem?_append_left (by rw [h.1]; exact c)]; exact e, hq⟩
  · have e : k = n := by omega
    subst e
    refine ⟨p, ?_, hp⟩
    rw [List.getElem?_append_right (by rw [h.1]; exact Nat.le_refl _), h.1, Nat.sub_self]
    rfl
def TurnO (te : TE) (σ : L2.St) (H : Hp) (o : HO) : Prop := ∀ H1 (R : V → Hp → Prop), Same H H1 → (∀ p H2, H1 p = none → Same H1 H2 → H2 p = some o → R (.ref p) H2) → te σ H1 R
theorem lcO (J : It) (n : Nat) (xs : Nat → V) (os : Nat → HO) (hn : n < 100000)
    (hgo : ∀ i H1, i < n → Same H H1 → J.go i H1) (hstop : ∀ H1, Same H H1 → J.stop n H1) (hyld : ∀ i H1 x H', i < n → Same H H1 → J.yld i H1 x H' → H' = H1 ∧ x = xs i)
    (hw : ∀ x, wipe ((wipe σ vs).set j (some x)) vs = wipe σ vs) (turn : ∀ i, i < n → TurnO te ((wipe σ vs).set j (some (xs i))) H (os i))
    (fin : ∀ D acc H1, H D = none → Same H H1 → H1 D = some (.lst acc) → HoldO (del D H1) acc n os → Q (.ref D) H1) :
    ∀ D, H D = none → ∃ W : Nat → Nat → Hp → Prop, (∃ m, W 0 m (upd H D (.lst []))) ∧ ∀ i m H, W i m H →
      (J.stop i H ∧ Q (.ref D) H) ∨ (J.go i H ∧ ∃ Nx : Hp → Prop, (∀ H', Nx H' → ∃ m', m' < m ∧ W (i + 1) m' H') ∧ ∀ x H', J.yld i H x H' → gName j x (wipe σ vs) H' fun σ2 H2 => wipe σ2 vs = wipe σ vs ∧ tYes σ2 H2 fun b H3 =>
        if b = true then te σ2 H3 fun y H4 => ∃ acc, H4 D = some (.lst acc) ∧ acc.length < sizeLine ∧ Nx (upd H4 D (.lst (acc ++ [y]))) else Nx H3) := by
  intro D hD
  refine ⟨fun i m H1 => m = n - i ∧ i ≤ n ∧ Same H H1 ∧ ∃ acc, H1 D = some (.lst acc) ∧ HoldO (del D H1) acc i os, ⟨n, rfl, Nat.zero_le _, same_upd hD, [], upd_same, rfl, fun k hk => absurd hk (Nat.not_lt_zero k)⟩, ?_⟩
  rintro i m H1 ⟨rfl, hi, s1, acc, h1, hold⟩
  by_cases c : i < n
  · refine .inr ⟨hgo i H1 c s1, fun H2 => Same H H2 ∧ ∃ acc, H2 D = some (.lst acc) ∧ HoldO (del D H2) acc (i + 1) os, fun H2 h2 => ⟨n - (i + 1), by omega, rfl, c, h2.1, h2.2⟩, fun x H' hy => ?_⟩
    obtain ⟨rfl, rfl⟩ := hyld i H1 x H' c s1 hy
    refine ⟨hw _, ?_⟩
    refine yes_go ?_
    refine turn i c H' _ s1 (fun p H2 np s2 hp => ?_)
    refine ⟨acc, s2 D _ h1, szt (by rw [hold.1]; omega), same_put (s1.trans s2) hD, acc ++ [.ref p], upd_same, ?_⟩
    have ne : p ≠ D := fun e => by
      rw [e, h1] at np
      cases np
    have hdel : Same (del D H2) (del D (upd H2 D (.lst (acc ++ [.ref p])))) := keep_upd
    refine ((hold.mono (del_mono s2)).snoc ?_).mono hdel
    rw [del_ne ne]
    exact hp
  · have e : i = n := by omega
    subst e
    exact .inl ⟨hstop H1 s1, fin D acc H1 hD s1 h1 hold⟩
theorem cRO {ta : TA} {n : Nat} {m : Int} (os : Nat → HO) (hm : m.toNat = n) (hb : -1000 ≤ m) (hta : ∀ R : List V → Hp → Prop, R [.int m] H → ta σ H R) (hn : n < 100000)
    (hw : ∀ x, wipe ((wipe σ vs).set j (some x)) vs = wipe σ vs) (turn : ∀ i : Nat, i < n → TurnO te ((wipe σ vs).set j (some (.int (i : Int)))) H (os i))
    (fin : ∀ D acc H1, H D = none → Same H H1 → H1 D = some (.lst acc) → HoldO (del D H1) acc n os → Q (.ref D) H1) : tLc (iRng1 ta) (gName j) tYes te vs σ H Q := by
  refine hta _ ⟨m, rfl, by omega, by omega, ?_⟩
  rw [hm]
  refine lcO (Itr 0 n) n (fun i => .int (i : Int)) os hn (fun i H1 hi s => hi) (fun H1 s => Nat.le_refl _) (fun i H1 x H' hi s hy => ?_) hw turn fin
  obtain ⟨e, y⟩ := hy
  refine ⟨e, ?_⟩
  rw [y, Int.zero_add]
end
theorem units65 {k : Nat} {A : Around} (r : Room k A) : A.units + 65 < cLine := by have := r.un; omega
theorem w_inD {X : Cx} (hu : X.A.units + 65 < cLine) (h : X.K = K := by rfl) : OpR X (compareOp .In) (rInD K) := by subst h; exact op_inD hu
theorem w_notInD {X : Cx} (hu : X.A.units + 65 < cLine) (h : X.K = K := by rfl) : OpR X (compareOp .NotIn) (rNotInD K) := by subst h; exact op_notInD hu
def tIfT (t ta tb : TT) : TT := fun σ H Q => t σ H fun c H1 => if c = true then ta σ H1 Q else tb σ H1 Q
theorem pt_ifx {X : Cx} {c a b : Expr} {pos : Pos} {tA ta tb : TT} (hc : PT X c tA) (ha : PT X a ta) (hb : PT X b tb) : PT X (.IfExp c a b pos) (tIfT tA ta tb) := by
  refine ⟨fun pins s σ H Q I h => ?_⟩
  rw [arm_isTrue_IfExp]
  refine wpAny_bind (wpAny_mono (hc.run pins s σ H _ I h) (fun d s1 hd => ?_) fun _ _ x => x)
  obtain ⟨H1, I1, q1⟩ := hd
  cases d with
  | true => exact ha.run pins s1 σ H1 Q I1 q1
  | false => exact hb.run pins s1 σ H1 Q I1 q1
theorem pre_fil (f : Nat → Bool) (g : Nat → V) (n : Nat) : pre (fun i => if f i = true then [g i] else []) n = ((List.range n).filter f).map g := by
  unfold pre
  induction List.range n with
  | nil => rfl
  | cons x l ih =>
    rw [List.flatMap_cons, ih, List.filter_cons]
    by_cases c : f x = true
    · rw [if_pos c, if_pos c]
      rfl
    · rw [if_neg c, if_neg c]
      rfl
theorem half (n : Nat) : (n : Int).fdiv 2 = ((n / 2 : Nat) : Int) := by
  rw [Int.fdiv_eq_ediv_of_nonneg _ (by decide)]
  push_cast
  rfl
theorem low (n : Nat) : (n : Int).fmod 2 = ((n % 2 : Nat) : Int) := by
  rw [Int.fmod_eq_emod_of_nonneg _ (by decide)]
  push_cast
  rfl
theorem atI_m1 {xs : List V} {v : V} (h : xs[xs.length - 1]? = some v) : atI xs (-1) = some v := by
  have hn : xs ≠ [] := by
    intro e
    rw [e] at h
    cases h
  have e : xs = xs.dropLast ++ [v] := by
    have a := List.dropLast_concat_getLast hn
    rw [List.getElem?_eq_getElem (by have := List.length_pos_iff.mpr hn; omega)] at h
    have h := Option.some.inj h
    rw [← List.getLast_eq_getElem hn] at h
    rw [h] at a
    exact a.symm
  rw [e]
  exact atI_last _ v
theorem g_lst {te : TE} {tr : TA} {σ : L2.St} {H : Hp} {Q : VK} (h : te σ H fun x H1 => tr σ H1 fun xs H2 => (x :: xs).length ≤ sizeLine ∧ ∀ p, H2 p = none → Q (.ref p) (upd H2 p (.lst (x :: xs)))) : tLst (tCons te tr) σ H Q := h
/-! ### pairs of a stand and a turn -/
def dPr (p : Nat × Nat) : PyData := .tuple [.int (p.1 : Int), .int (p.2 : Int)]
def PrX (H : Hp) (xs : List V) (prs : List (Nat × Nat)) : Prop := xs.length = prs.length ∧ ∀ (j : Nat) (pr : Nat × Nat), prs[j]? = some pr → ∃ q, xs[j]? = some (.ref q) ∧ H q = some (.tup [.int (pr.1 : Int), .int (pr.2 : Int)])
theorem PrX.mono {H H' : Hp} {xs : List V} {prs : List (Nat × Nat)} (h : PrX H xs prs) (s : Same H H') : PrX H' xs prs := ⟨h.1, fun j pr e => let ⟨q, e1, hq⟩ := h.2 j pr e; ⟨q, e1, s _ _ hq⟩⟩
theorem PrX.off {H : Hp} {L : Addr} {ys xs : List V} {prs : List (Nat × Nat)} (h : PrX H xs prs) (hL : H L = some (.lst ys)) : PrX (del L H) xs prs := ⟨h.1, fun j pr e => by
  obtain ⟨q, e1, hq⟩ := h.2 j pr e
  refine ⟨q, e1, ?_⟩
  rw [del_ne (fun z => by rw [z, hL] at hq; cases hq)]
  exact hq⟩
theorem PrX.snoc {H : Hp} {xs : List V} {prs : List (Nat × Nat)} {q : Addr} {pr : Nat × Nat} (h : PrX H xs prs) (hq : H q = some (.tup [.int (pr.1 : Int), .int (pr.2 : Int)])) : PrX H (xs ++ [.ref q]) (prs ++ [pr]) := by
  refine ⟨by rw [List.length_append, List.length_append, h.1]; rfl, fun j p e => ?_⟩
  by_cases c : j < prs.length
  · rw [List.getElem?_append_left c] at e
    obtain ⟨q', e1, hq'⟩ := h.2 j p e
    exact ⟨q', by rw [List.getElem?_append_left (by rw [h.1]; exact c)]; exact e1, hq'⟩
  · have hj := lt_of_get e
    rw [List.length_append] at hj
    have hj : j < prs.length + 1 := hj
    have ej : j = prs.length := by omega
    subst ej
    rw [List.getElem?_append_right (Nat.le_refl _), Nat.sub_self] at e
    obtain rfl := Option.some.inj e
    refine ⟨q, ?_, hq⟩
    rw [← h.1, List.getElem?_append_right (Nat.le_refl _), Nat.sub_self]
    rfl
theorem PrX.of {H : Hp} {acc : List V} {n : Nat} {f : Nat → Nat × Nat} (h : HoldO H acc n fun k => .tup [.int ((f k).1 : Int), .int ((f k).2 : Int)]) : PrX H acc ((List.range n).map f) := by
  refine ⟨by rw [h.1]; simp, fun j pr e => ?_⟩
  have hj := lt_of_get e
  rw [List.length_map, List.length_range] at hj
  rw [List.getElem?_map, List.getElem?_range hj] at e
  obtain rfl := Option.some.inj e
  exact h.2 j hj
theorem PrX.sel {H : Hp} {acc : List V} {n : Nat} {f : Nat → Nat × Nat} (h : HoldO H acc n fun k => .tup [.int ((f k).1 : Int), .int ((f k).2 : Int)]) {l : List Nat} (hl : ∀ k ∈ l, k < n) : PrX H (l.map fun k => acc.getD k .non) (l.map f) := by
  refine ⟨by simp, fun j pr e => ?_⟩
  rw [List.getElem?_map] at e
  cases ek : l[j]? with
  | none => rw [ek] at e; cases e
  | some k =>
    rw [ek] at e
    obtain rfl := Option.some.inj e
    obtain ⟨q, e1, hq⟩ := h.2 k (hl k (List.mem_of_getElem? ek))
    exact ⟨q, by rw [List.getElem?_map, ek]; exact congrArg some (getD_of e1), hq⟩
theorem dps_of {H : Hp} : ∀ {acc : List V} {es : List PyData}, acc.length = es.length → (∀ (k : Nat) (v : V) (e : PyData), acc[k]? = some v → es[k]? = some e → Dp K H v e) → DpAll K H acc es
  | [], [], _, _ => .nil
  | v :: acc, e :: es, hl, h => .cons (h 0 v e rfl rfl) (dps_of (by simpa using hl) fun k v e a b => h (k + 1) v e a b)
theorem PrX.dps {H : Hp} {xs : List V} {prs : List (Nat × Nat)} (h : PrX H xs prs) : DpAll K H xs (prs.map dPr) := by
  refine dps_of (by rw [h.1, List.length_map]) fun k v e hv he => ?_
  rw [List.getElem?_map] at he
  cases ek : prs[k]? with
  | none => rw [ek] at he; cases he
  | some pr =>
    rw [ek] at he
    obtain rfl := Option.some.inj he
    obtain ⟨q, e1, hq⟩ := h.2 k pr ek
    rw [e1] at hv
    obtain rfl := Option.some.inj hv
    exact .tup (tup_of hq) (.cons (.int _) (.cons (.int _) .nil))
theorem prs_lay : ∀ prs : List (Nat × Nat), PyData.canLayAll0 (prs.map dPr) = true
  | [] => rfl
  | p :: l => by
    show (PyData.canLay0 (dPr p) && PyData.canLayAll0 (l.map dPr)) = true
    rw [prs_lay l]
    rfl
theorem prs_depth : ∀ prs : List (Nat × Nat), PyData.depthAll (prs.map dPr) ≤ 1
  | [] => Nat.zero_le _
  | p :: l => by
    show max (PyData.depth (dPr p)) (PyData.depthAll (l.map dPr)) ≤ 1
    exact Nat.max_le.mpr ⟨by show 0 + 1 ≤ 1; decide, prs_depth l⟩
theorem prs_shaped (prs : List (Nat × Nat)) : SeqAt.shaped (.list (prs.map dPr)) = true := by
  unfold SeqAt.shaped
  rw [Bool.and_eq_true]
  refine ⟨prs_lay prs, decide_eq_true ?_⟩
  show PyData.depthAll (prs.map dPr) + 1 ≤ 64
  have := prs_depth prs
  omega
theorem pr_shaped (o : Option Nat) (t : Int) : SeqAt.shaped (.tuple [dO o, .int t]) = true := by cases o <;> rfl
theorem eqv_pr (p : Nat × Nat) (o : Option Nat) (t : Nat) : PyData.eqv (dPr p) (.tuple [dO o, .int (t : Int)]) = match o with | some g => decide (p = (g, t)) | none => false := by
  cases o with
  | none => rfl
  | some g =>
    show (((p.1 : Int) == (g : Int)) && (((p.2 : Int) == (t : Int)) && true)) = decide (p = (g, t))
    rw [Bool.and_true, Bool.eq_iff_iff]
    obtain ⟨a, b⟩ := p
    simp only [Bool.and_eq_true, beq_iff_eq, decide_eq_true_eq, Prod.mk.injEq]
    constructor
    · rintro ⟨h1, h2⟩
      exact ⟨by omega, by omega⟩
    · rintro ⟨rfl, rfl⟩
      exact ⟨rfl, rfl⟩
theorem any_pr (prs : List (Nat × Nat)) (o : Option Nat) (t : Nat) : (prs.map dPr).any (fun z => PyData.eqv z (.tuple [dO o, .int (t : Int)])) = match o with | some g => decide ((g, t) ∈ prs) | none => false := by
  rw [List.any_map]
  cases o with
  | none =>
    rw [List.any_eq_false]
    intro p _
    show ¬ PyData.eqv (dPr p) (.tuple [dO none, .int (t : Int)]) = true
    rw [eqv_pr]
    exact Bool.false_ne_true
  | some g =>
    show prs.any (fun p => PyData.eqv (dPr p) (.tuple [dO (some g), .int (t : Int)])) = decide ((g, t) ∈ prs)
    rw [Bool.eq_iff_iff, List.any_eq_true, decide_eq_true_eq]
    constructor
    · rintro ⟨p, hp, h⟩
      rw [eqv_pr] at h
      rw [of_decide_eq_true h] at hp
      exact hp
    · intro h
      exact ⟨_, h, by rw [eqv_pr]; exact decide_eq_true rfl⟩
/-- what is known after so many turns -/
def stB (G1 G2 : Gs) (E : List Nat) (i : Nat) (p : Nat × Nat) : Bool := if p.2 = 0 then aP hasSome G1 G2 E p.1 i else bP hasSome G1 G2 E p.1 i
def LayOk (n : Nat) (prs : List (Nat × Nat)) (F : Nat × Nat → Bool) : Prop := ∀ p, p ∈ prs ↔ p.1 < n ∧ p.2 < 2 ∧ F p = true
def allPr (k : Nat) : Nat × Nat := (k / 2, k % 2)
theorem lay0 {n : Nat} {G1 G2 : Gs} {E : List Nat} : LayOk n (((List.range (2 * n)).filter fun k => decide (k / 2 ∈ E)).map allPr) (stB G1 G2 E 0) := by
  intro p
  obtain ⟨s, d⟩ := p
  have e0 : stB G1 G2 E 0 (s, d) = decide (s ∈ E) := by unfold stB; split <;> rfl
  rw [e0, List.mem_map]
  constructor
  · rintro ⟨k, hk, e⟩
    obtain ⟨h1, h2⟩ := List.mem_filter.mp hk
    have h1 := List.mem_range.mp h1
    unfold allPr at e
    obtain ⟨rfl, rfl⟩ := Prod.mk.inj e
    exact ⟨by show k / 2 < n; omega, Nat.mod_lt _ (by decide), h2⟩
  · rintro ⟨h1, h2, h3⟩
    have h1 : s < n := h1
    have h2 : d < 2 := h2
    refine ⟨2 * s + d, List.mem_filter.mpr ⟨List.mem_range.mpr (by omega), ?_⟩, ?_⟩
    · rw [show (2 * s + d) / 2 = s by omega]
      exact h3
    · unfold allPr
      rw [show (2 * s + d) / 2 = s by omega, show (2 * s + d) % 2 = d by omega]
theorem any_told (gs : List (Option Nat)) (f : Option Nat → Bool) : inV (.bl true) (gs.map fun o => .bl (f o)) = gs.any f := by
  unfold inV
  rw [List.any_map]
  congr 1
  funext o
  show (f o == true) = f o
  cases f o <;> rfl
theorem all_told (gs : List (Option Nat)) (f : Option Nat → Bool) : (!inV (.bl false) (gs.map fun o => .bl (f o))) = gs.all f := by
  unfold inV
  induction gs with
  | nil => rfl
  | cons o r ih =>
    rw [List.map_cons, List.any_cons, List.all_cons, Bool.not_or, ih]
    congr 1
    show (!(f o == false)) = f o
    cases f o <;> rfl
theorem told_flat (gs : List (Option Nat)) (f : Option Nat → Bool) : (gs.map fun o => V.bl (f o)).all flatV = true := by
  rw [List.all_map, List.all_eq_true]
  intro o _
  rfl
end K6


set_option Elab.async false
set_option linter.all false
set_option maxRecDepth 100000
set_option maxHeartbeats 4000000
namespace K6
open PySem PySem.Spec PyProof.Rows L2 Rw
variable {P : Program} {w : World} {K : PySem.W.Frag} {mg : Str → Option Value} {base : Heap} {A : Ad} {fd : Fds}
/-- the layer that a turn later adds to -/
def ltB (G1 G2 : Gs) (E : List Nat) (i j : Nat) (p : Nat × Nat) : Bool := if 2 * p.1 + p.2 < j then stB G1 G2 E (i + 1) p else stB G1 G2 E i p
theorem st_up {G1 G2 : Gs} {E : List Nat} {i : Nat} {p : Nat × Nat} : stB G1 G2 E (i + 1) p = (stB G1 G2 E i p || if p.2 = 0 then hasSome (fun g => stB G1 G2 E i (g, 1)) (G1 p.1) else hasAll (fun g => stB G1 G2 E i (g, 0)) (G2 p.1)) := by
  unfold stB
  by_cases c : p.2 = 0
  · rw [if_pos c, if_pos c, if_pos c, a_succ]
    rfl
  · rw [if_neg c, if_neg c, if_neg c, b_succ]
    rfl
theorem lt_next {G1 G2 : Gs} {E : List Nat} {i j n : Nat} {prs : List (Nat × Nat)} (h : LayOk n prs (ltB G1 G2 E i j)) (hj : j < 2 * n) (hs : stB G1 G2 E (i + 1) (allPr j) = stB G1 G2 E i (allPr j)) : LayOk n prs (ltB G1 G2 E i (j + 1)) := by
  intro p
  rw [h p]
  have : p.2 < 2 → (ltB G1 G2 E i j p = ltB G1 G2 E i (j + 1) p) := by
    intro h2
    unfold ltB
    by_cases c1 : 2 * p.1 + p.2 < j
    · rw [if_pos c1, if_pos (by omega)]
    · by_cases c2 : 2 * p.1 + p.2 < j + 1
      · have e : p = allPr j := by
          obtain ⟨a, b⟩ := p
          unfold allPr
          have h2 : b < 2 := h2
          have : 2 * a + b = j := by
            have c1 : ¬ 2 * a + b < j := c1
            have c2 : 2 * a + b < j + 1 := c2
            omega
          rw [show j / 2 = a by omega, show j % 2 = b by omega]
        rw [if_neg c1, if_pos c2, e, hs]
      · rw [if_neg c1, if_neg c2]
  constructor
  · rintro ⟨h1, h2, h3⟩
    exact ⟨h1, h2, by rw [← this h2]; exact h3⟩
  · rintro ⟨h1, h2, h3⟩
    exact ⟨h1, h2, by rw [this h2]; exact h3⟩
theorem lt_add {G1 G2 : Gs} {E : List Nat} {i j n : Nat} {prs : List (Nat × Nat)} (h : LayOk n prs (ltB G1 G2 E i j)) (hj : j < 2 * n) (hs : stB G1 G2 E (i + 1) (allPr j) = true) : LayOk n (prs ++ [allPr j]) (ltB G1 G2 E i (j + 1)) := by
  intro p
  rw [List.mem_append, h p]
  have ej : 2 * (allPr j).1 + (allPr j).2 = j := by unfold allPr; show 2 * (j / 2) + j % 2 = j; omega
  have other : p.2 < 2 → p ≠ allPr j → (ltB G1 G2 E i j p = ltB G1 G2 E i (j + 1) p) := by
    intro h2 ne
    unfold ltB
    by_cases c1 : 2 * p.1 + p.2 < j
    · rw [if_pos c1, if_pos (by omega)]
    · by_cases c2 : 2 * p.1 + p.2 < j + 1
      · refine absurd ?_ ne
        obtain ⟨a, b⟩ := p
        unfold allPr
        have h2 : b < 2 := h2
        have : 2 * a + b = j := by
          have c1 : ¬ 2 * a + b < j := c1
          have c2 : 2 * a + b < j + 1 := c2
          omega
        rw [show j / 2 = a by omega, show j % 2 = b by omega]
      · rw [if_neg c1, if_neg c2]
  have here : ltB G1 G2 E i (j + 1) (allPr j) = true := by
    unfold ltB
    rw [if_pos (by omega), hs]
  constructor
  · rintro (⟨h1, h2, h3⟩ | hm)
    · by_cases c : p = allPr j
      · rw [c]
        rw [c] at h1 h2
        exact ⟨h1, h2, here⟩
      · exact ⟨h1, h2, by rw [← other h2 c]; exact h3⟩
    · obtain rfl := List.mem_singleton.mp hm
      exact ⟨by unfold allPr; show j / 2 < n; omega, by unfold allPr; exact Nat.mod_lt _ (by decide), here⟩
  · rintro ⟨h1, h2, h3⟩
    by_cases c : p = allPr j
    · exact .inr (by rw [c]; exact List.mem_singleton.mpr rfl)
    · exact .inl ⟨h1, h2, by rw [other h2 c]; exact h3⟩
theorem lt_end {G1 G2 : Gs} {E : List Nat} {i n : Nat} {prs : List (Nat × Nat)} (h : LayOk n prs (ltB G1 G2 E i (2 * n))) : LayOk n prs (stB G1 G2 E (i + 1)) := by
  intro p
  rw [h p]
  constructor
  · rintro ⟨h1, h2, h3⟩
    refine ⟨h1, h2, ?_⟩
    unfold ltB at h3
    rwa [if_pos (by omega)] at h3
  · rintro ⟨h1, h2, h3⟩
    refine ⟨h1, h2, ?_⟩
    unfold ltB
    rwa [if_pos (by omega)]
theorem lt_start {G1 G2 : Gs} {E : List Nat} {i n : Nat} {prs : List (Nat × Nat)} (h : LayOk n prs (stB G1 G2 E i)) : LayOk n prs (ltB G1 G2 E i 0) := by
  intro p
  rw [h p]
  unfold ltB
  rw [if_neg (Nat.not_lt_zero _)]
theorem lay_any {n : Nat} {prs : List (Nat × Nat)} {F : Nat × Nat → Bool} (h : LayOk n prs F) {o : Option Nat} (ho : ∀ g, o = some g → g < n) {t : Nat} (ht : t < 2) :
    (prs.map dPr).any (fun z => PyData.eqv z (.tuple [dO o, .int (t : Int)])) = inB (fun g => F (g, t)) o := by
  rw [any_pr]
  cases o with
  | none => rfl
  | some g =>
    show decide ((g, t) ∈ prs) = F (g, t)
    rw [Bool.eq_iff_iff, decide_eq_true_eq, h]
    exact ⟨fun z => z.2.2, fun z => ⟨ho g rfl, ht, z⟩⟩
theorem g_viaT {t : TT} {σ : L2.St} {H : Hp} {Q : Bool → Hp → Prop} (b : Bool) (H0 : Hp) (h : ∀ Q' : Bool → Hp → Prop, Q' b H0 → t σ H Q') (rest : Q b H0) : t σ H Q := h Q rest
theorem PrX.put {H : Hp} {L : Addr} {ys xs : List V} {o : HO} {prs : List (Nat × Nat)} (h : PrX H xs prs) (hL : H L = some (.lst ys)) : PrX (upd H L o) xs prs := ⟨h.1, fun j pr e => by
  obtain ⟨q, e1, hq⟩ := h.2 j pr e
  refine ⟨q, e1, ?_⟩
  rw [upd_ne (fun z => by rw [z, hL] at hq; cases hq)]
  exact hq⟩
theorem dp_opt {H : Hp} : ∀ o : Option Nat, Dp K H (vO o) (dO o)
  | none => .non
  | some k => .int _
def layAt (K : PySem.W.Frag) (H : Hp) (refs : List V) (G1 G2 : Gs) (E : List Nat) (k : Nat) : Prop := ∃ p ds, refs[k]? = some (.ref p) ∧ Dp K H (.ref p) (.list ds) ∧ SeqAt.shaped (.list ds) = true ∧ ds.any (fun z => PyData.eqv z (.tuple [.int 0, .int 0])) = aP hasSome G1 G2 E 0 k
def spLayers (K : PySem.W.Frag) : Sp := fun vs H Q _ => ∃ (v lv : V) (w : Nat) (tab : Tab) (ends l1 l2 : List Nat), vs = [v, lv] ∧ TrAt K H v w tab ends ∧ LtAt K H lv l1 l2 ∧ GoodT w tab ∧ GoodE tab.length ends ∧ GoodLot w l1 ∧ GoodLot w l2 ∧ tab.length ≤ 3 ∧
  ∀ L refs H', Same H H' → SqL K H' L refs → refs.length = 2 * tab.length + 1 → (∀ k, k ≤ 2 * tab.length → layAt K H' refs (near tab l1) (near tab l2) ends k) → Q (.ref L) H'
theorem ok_l_layers (T : Txt K mg A) (U : Funs K A fd) : FnOk P w K mg base CX0 4 A.l_layers fd.l_layers p_l_layers (spLayers K) := by
  have G_l_near := ok_l_near (P := P) (w := w) (base := base) T U
  have b_l_near := U.b_l_near
  refine U.F_l_layers.ok sc_l_layers (fun vs H Q E h => ?_) (fun cdv A0 outer s H vs Q E hr h => ?_)
  · obtain ⟨v, lv, n, tab, ends, l1, l2, rfl, _⟩ := h
    rfl
  · have hu := hu_of hr
    obtain ⟨v, lv, n, tab, ends, l1, l2, rfl, Tr, Lt, gt, ge, g1, g2, h3, k⟩ := h
    refine ⟨_, (pss_cons (ps_setLc (i := 2) (own := [("_law_k", 6)]) (g := gName 6) (tt := tYes) (by rfl) sc_l_layers.nd rfl rfl (sw_true rfl rfl rfl (by decide +kernel)) (pi_range1 (by rfl) T.b_range (pa_cons (pe_op op_mul pe_int (pe_callB (w_len (K := K)) (by rfl) T.b_len (by decide +kernel) (pa_cons (pe_ix (w_ixT (K := K)) (pv 0) pe_int (fun _ _ => rfl)) pa_nil))) pa_nil)) (blkOk_by (own := [("_law_k", 6)]) (by rfl)) (fun _ _ _ _ _ => (pg_name (i := 6) sc_l_layers.nd rfl (Or.inl rfl))) (fun _ _ _ _ _ => pts_nil) (fun _ _ _ _ _ => (pe_tup (pa_cons (pe_callTy call_int1 (by rfl) T.b_int (by decide +kernel) (pa_cons (pe_op op_fdivN (pv 6) pe_int) pa_nil)) (pa_cons (pe_op op_modN (pe_callTy call_int1 (by rfl) T.b_int (by decide +kernel) (pa_cons (pv 6) pa_nil)) pe_int) pa_nil)))))
       (pss_cons (ps_set (i := 3) sc_l_layers.nd rfl (Or.inr rfl) (pe_lst (pa_cons (pe_lc (own := [("_law_pair", 9)]) (g := gName 9) (by rfl) sc_l_layers.nd (w_piL (K := K) (pv 2)) (blkOk_by (own := [("_law_pair", 9)]) (by rfl)) (fun _ _ _ _ _ => (pg_name (i := 9) sc_l_layers.nd rfl (Or.inl rfl))) (fun _ _ _ _ _ => (pts_one (pt_cmpR (w_in (K := K)) (pe_ix (w_ixT (K := K)) (pv 9) pe_int (fun _ _ => rfl)) (pe_ix (w_ixT (K := K)) (pv 0) pe_int (fun _ _ => rfl)) (by rfl)))) (fun _ _ _ _ _ => (pv 9))) pa_nil)))
       (pss_cons (ps_for PassesOwn.never rfl (pi_range1 (by rfl) T.b_range (pa_cons (pe_op op_mul pe_int (pe_callB (w_len (K := K)) (by rfl) T.b_len (by decide +kernel) (pa_cons (pe_ix (w_ixT (K := K)) (pv 0) pe_int (fun _ _ => rfl)) pa_nil))) pa_nil)) (pg_name (i := 4) sc_l_layers.nd rfl (Or.inl rfl))
       (pss_cons (ps_set (i := 5) sc_l_layers.nd rfl (Or.inl rfl) (pe_callTy (w_list (K := K)) (by rfl) T.b_list (by decide +kernel) (pa_cons (pe_ix (w_ixL (K := K)) (pv 3) (pe_un un_neg pe_int) (fun _ _ => rfl)) pa_nil)))
       (pss_cons (ps_for PassesOwn.never rfl (w_piL (K := K) (pv 2)) (w_tup (K := K) (n := 2) rfl (pgs_cons (pg_name (i := 6) sc_l_layers.nd rfl (Or.inl rfl)) (pgs_cons (pg_name (i := 7) sc_l_layers.nd rfl (Or.inr rfl)) pgs_nil)))
       (pss_cons (ps_setLc (i := 8) (own := [("_law_goal", 10)]) (g := gName 10) (tt := tYes) (by rfl) sc_l_layers.nd rfl rfl (sw_true rfl rfl rfl (by decide +kernel)) (w_piL (K := K) (pe_call G_l_near (hr.mono (by decide)) (by rfl) T.m_l_near T.k_l_near b_l_near .nil pass0 (pa_cons (pv 0) (pa_cons (pv 6) (pa_cons (pe_ix (w_ixL (K := K)) (pv 1) (pv 7) (fun _ _ => rfl)) pa_nil))))) (blkOk_by (own := [("_law_goal", 10)]) (by rfl)) (fun _ _ _ _ _ => (pg_name (i := 10) sc_l_layers.nd rfl (Or.inl rfl))) (fun _ _ _ _ _ => pts_nil) (fun _ _ _ _ _ => (pe_cmpR (w_inD (K := K) (units65 hr)) (pe_tup (pa_cons (pv 10) (pa_cons (pe_op op_sub pe_int (pv 7)) pa_nil))) (pe_ix (w_ixL (K := K)) (pv 3) (pe_un un_neg pe_int) (fun _ _ => rfl)) (by rfl))))
       (pss_one (ps_if (PW.pt (pw_and (pt_cmpR (w_notInD (K := K) (units65 hr)) (pe_tup (pa_cons (pv 6) (pa_cons (pv 7) pa_nil))) (pv 5) (by rfl)) (pw_and1 (pt_ifx (pt_cmpR op_eq (pv 7) pe_int (nomark _)) (pt_cmpR (w_in (K := K)) pe_bl (pv 8) (by rfl)) (pt_cmpR (w_notIn (K := K)) pe_bl (pv 8) (by rfl)))))) (pss_one (ps_expr (w_bm (K := K) PySem.F.plainAttrs_list PySem.F.slot_list_append PySem.F.type_list_append mt_append (pv 5) (pa_cons (pe_tup (pa_cons (pv 6) (pa_cons (pv 7) pa_nil))) pa_nil)))) pss_nil))))
       (pss_one (ps_expr (w_bm (K := K) PySem.F.plainAttrs_list PySem.F.slot_list_append PySem.F.type_list_append mt_append (pv 3) (pa_cons (pv 5) pa_nil)))))))
       (pss_one (ps_ret (pv 3)))))), ?_⟩
    have n1 := gt.n1
    have w8 := gt.w8
    have a8 := g1.len
    have b8 := g2.len
    obtain ⟨t, a, e, rfl, ht, ha, he⟩ := Tr.ob
    obtain ⟨lp, rfl, hlp⟩ := Lt.ob
    obtain ⟨a', xs, e1, hx, hds⟩ := dp_tup ha
    obtain rfl := V.ref.inj e1
    have hxl : xs.length = tab.length := by rw [dps_len hds, List.length_map]
    have he2 := he
    unfold dNats at he2
    rw [nats_int] at he2
    obtain ⟨e', ys, e2, hy, hdy⟩ := dp_tup he2
    obtain rfl := dps_ints hdy
    obtain rfl := V.ref.inj e2
    -- the pairs
    refine g_seq (g_asg (cRO (n := 2 * tab.length) (m := 2 * (xs.length : Int)) (fun k => .tup [.int ((allPr k).1 : Int), .int ((allPr k).2 : Int)]) (by omega) (by omega) (fun R r => ?_) (by omega) ?_ (fun i hi H1 R s1 r => ?_) (fun Pa acc H1 hPa s1 h1 hold => ?_)))
    · exact ⟨_, rfl, t, _, _, _, rfl, rfl, ht, rfl, _, _, rfl, .inr ⟨_, hx, rfl⟩, _, _, rfl, rfl, .inl ⟨by decide, by decide⟩, r⟩
    · exact fun _ => rfl
    · refine ⟨_, rfl, _, _, rfl, rfl, ⟨by decide, by decide⟩, .inl ⟨_, rfl, _, rfl, .inl ⟨_, rfl, _, _, rfl, rfl, (by show (2 : Int) ≠ 0; decide), by show 2 ≤ sizeLine; decide, fun q hq => ?_⟩⟩⟩
      dsimp only
      rw [half, low]
      exact r q _ hq (same_upd hq) upd_same
    have hold1 := hold.mono (del_same Pa)
    have hal : acc.length = 2 * tab.length := hold.1
    -- the first layer
    dsimp only
    refine g_seq (g_asg (g_lst (cL (xs := acc) (fun i => if decide (i / 2 ∈ ends) = true then [acc.getD i .non] else []) (fun R r => ⟨_, rfl, r⟩) (lst_of h1) (fun i => by split <;> simp) (by omega) ?_ (fun i x hi H2 R N s2 ry rn => ?_) (fun F H2 hF s2 h2 => ?_))))
    · exact fun _ => rfl
    · have hin : i < 2 * tab.length := by have := lt_of_get hi; omega
      obtain ⟨q, e1, hq⟩ := hold1.2 i hin
      rw [hi] at e1
      obtain rfl := Option.some.inj e1
      rw [getD_of hi] at ry
      refine ⟨_, rfl, q, _, _, _, rfl, rfl, tup_of (s2 _ _ hq), rfl, _, rfl, t, _, _, _, rfl, rfl, sqT_mono (s1.trans s2) ht, rfl, e, _, rfl, .inr (sqT_mono (s1.trans s2) hy), rfl, ?_, _, rfl, ?_⟩
      · rw [List.all_map, List.all_map, List.all_eq_true]
        intro o _
        rfl
      · have ein : inV (.int ((allPr i).1 : Int)) ((ends.map Int.ofNat).map V.int) = decide (i / 2 ∈ ends) := by
          unfold inV
          rw [List.any_map, List.any_map, Bool.eq_iff_iff, List.any_eq_true, decide_eq_true_eq]
          constructor
          · rintro ⟨g, hg, z⟩
            have z : ((g : Int) == ((i / 2 : Nat) : Int)) = true := z
            have : g = i / 2 := by have := eq_of_beq z; omega
            rw [← this]
            exact hg
          · intro z
            exact ⟨_, z, by show ((((i / 2 : Nat) : Int)) == ((i / 2 : Nat) : Int)) = true; exact beq_self_eq_true _⟩
        show if (if false = true then _ else inV (.int ((allPr i).1 : Int)) ((ends.map Int.ofNat).map V.int)) = true then _ else _
        rw [if_neg Bool.false_ne_true, ein]
        by_cases c : i / 2 ∈ ends
        · rw [decide_eq_true c]
          exact iteT ⟨_, rfl, ry _ H2 (if_pos (decide_eq_true c)) (Same.refl _)⟩
        · rw [decide_eq_false c]
          exact iteF (rn H2 (if_neg (by rw [decide_eq_false c]; exact Bool.false_ne_true)) (Same.refl _))
    rw [hal, pre_fil] at h2
    have pr0 : PrX H2 (((List.range (2 * tab.length)).filter fun k => decide (k / 2 ∈ ends)).map fun k => acc.getD k .non) (((List.range (2 * tab.length)).filter fun k => decide (k / 2 ∈ ends)).map allPr) := PrX.sel (hold1.mono s2) fun k hk => List.mem_range.mp (List.mem_filter.mp hk).1
    refine ⟨by show 1 ≤ sizeLine; decide, fun L hL => ?_⟩
    have s02 := s1.trans s2
    have nFL : F ≠ L := ne_of_none h2 hL
    have h1' := s2 _ _ h1
    have allP : PrX H2 acc ((List.range (2 * tab.length)).map allPr) := PrX.of (hold1.mono s2)
    -- turn by turn
    refine ⟨_, rfl, t, _, _, _, rfl, rfl, sqT_mono (s02.trans (same_upd hL)) ht, rfl, _, _, rfl, .inr ⟨_, sqT_mono (s02.trans (same_upd hL)) hx, rfl⟩, _, _, rfl, rfl, .inl ⟨by decide, by decide⟩, 2 * (xs.length : Int), rfl, by omega, by omega, ?_⟩
    rw [show (2 * (xs.length : Int)).toNat = 2 * tab.length by omega]
    refine for_range (lo := 0) (n := 2 * tab.length) (fun i σ H' => ∃ (refs : List V) (y4 y5 y6 y7 y8 : Option V), σ = [some (.ref t), some (.ref lp), some (.ref Pa), some (.ref L), y4, y5, y6, y7, y8, none, none] ∧ Same H2 H' ∧ H' L = some (.lst refs) ∧ refs.length = i + 1 ∧
      ∀ k, k ≤ i → ∃ p ys prs, refs[k]? = some (.ref p) ∧ (del L H') p = some (.lst ys) ∧ PrX (del L H') ys prs ∧ LayOk tab.length prs (stB (near tab l1) (near tab l2) ends k) ∧ ys.length ≤ 6 * (k + 1)) ?_ ?_ ?_
    · refine ⟨[.ref F], none, none, none, none, none, rfl, same_upd hL, upd_same, rfl, fun k hk => ?_⟩
      obtain rfl := Nat.le_zero.mp hk
      refine ⟨F, _, _, rfl, by rw [del_ne nFL, upd_ne nFL]; exact h2, (pr0.mono (same_upd hL)).off upd_same, lay0, ?_⟩
      have := List.length_filter_le (fun k => decide (k / 2 ∈ ends)) (List.range (2 * tab.length))
      rw [List.length_range] at this
      rw [List.length_map]
      omega
    · rintro i σ H3 hi ⟨refs, y4, y5, y6, y7, y8, rfl, s3, hL3, hrl, lays⟩
      obtain ⟨p, ys, prs, ep, hp, px, lo, ll⟩ := lays i (Nat.le_refl _)
      have epm : refs[refs.length - 1]? = some (.ref p) := by rw [hrl]; exact ep
      have hp3 : H3 p = some (.lst ys) := del_same L _ _ hp
      have px3 := px.mono (del_same L)
      refine ⟨_, rfl, 1, rfl, L, refs, _, _, rfl, rfl, lst_of hL3, atI_m1 epm, p, ys, rfl, .inl (lst_of hp3), fun T hT => ?_⟩
      have sT := same_upd (o := .lst ys) hT
      refine ⟨_, rfl, Pa, rfl, ⟨_, lst_of (sT _ _ (s3 _ _ h1'))⟩, ?_⟩
      refine for_list (xs := acc) (fun j σ H' => ∃ (zs : List V) (qrs : List (Nat × Nat)) (y6 y7 y8 : Option V), σ = [some (.ref t), some (.ref lp), some (.ref Pa), some (.ref L), some (.int (0 + (i : Int))), some (.ref T), y6, y7, y8, none, none] ∧ Same H3 H' ∧ H' T = some (.lst zs) ∧ PrX H' zs qrs ∧
        LayOk tab.length qrs (ltB (near tab l1) (near tab l2) ends i j) ∧ zs.length ≤ 6 * (i + 1) + j) ?_ ?_ ?_ ?_
      · exact ⟨ys, prs, y6, y7, y8, rfl, sT, upd_same, px3.mono sT, lt_start lo, by omega⟩
      · rintro j σ H' _ ⟨_, _, _, _, _, _, s4, _⟩
        exact lst_of (s4 _ _ (s3 _ _ h1'))
      · rintro j x σ H4 hj ⟨zs, qrs, y6, y7, y8, rfl, s4, hT4, qx, lq, zl⟩
        have hjn : j < 2 * tab.length := by have := lt_of_get hj; omega
        obtain ⟨q, e1, hq⟩ := allP.2 j (allPr j) (by rw [List.getElem?_map, List.getElem?_range hjn]; rfl)
        rw [hj] at e1
        obtain rfl := Option.some.inj e1
        have s34 := s3.trans s4
        have hst : (allPr j).1 < tab.length := by unfold allPr; show j / 2 < _; omega
        have hsd : (allPr j).2 < 2 := Nat.mod_lt _ (by decide)
        have eja : 2 * (allPr j).1 + (allPr j).2 = j := by unfold allPr; show 2 * (j / 2) + j % 2 = j; omega
        generalize hpr : allPr j = pr at hq hst hsd eja
        obtain ⟨st, sd⟩ := pr
        have hst : st < tab.length := hst
        have hsd : sd < 2 := hsd
        refine ⟨q, _, rfl, tup_of (s34 _ _ hq), rfl, _, _, rfl, _, _, rfl, rfl, ?_⟩
        -- who is told
        obtain ⟨lS, eS, gS⟩ : ∃ lS, (([.str (rowS l1), .str (rowS l2)] : List V)[sd]? = some (.str (rowS lS)) ∧ lS = if sd = 0 then l1 else l2) ∧ GoodLot n lS := by
          have : sd = 0 ∨ sd = 1 := by omega
          rcases this with rfl | rfl
          · exact ⟨l1, ⟨rfl, rfl⟩, g1⟩
          · exact ⟨l2, ⟨rfl, rfl⟩, g2⟩
        have sH4 := s02.trans s34
        have gSl := gS.len
        dsimp only
        refine ⟨_, rfl, _, rfl, _, rfl, _, rfl, lp, _, _, _, rfl, rfl, sqL_mono sH4 hlp, atI_nat eS.1, .ref t, n, tab, ends, st, lS, rfl, Tr.mono sH4, gt, hst, gS.lt, by omega, fun D H5 hD s5 h5 => ⟨D, rfl, ⟨_, lst_of h5⟩, ?_⟩⟩
        refine lL (xs := (near tab lS st).map vO) (fun i' => [.bl (inB (fun g => stB (near tab l1) (near tab l2) ends i (g, 1 - sd)) ((near tab lS st).getD i' none))]) (lst_of h5) (fun _ => Nat.le_refl 1) (by rw [List.length_map, near_len]; omega) ?_ (fun i' x hi' => turn_yes fun H6 R s6 r => ?_) (fun D6 H6 hD6 s6 h6 => ?_)
        · exact fun _ => rfl
        · obtain ⟨o, ho, rfl⟩ := goal_cases hi'
          have eo : (near tab lS st).getD i' none = o := by rw [List.getD_eq_getElem?_getD, ho]; rfl
          rw [eo] at r
          refine ⟨_, rfl, _, rfl, _, _, rfl, rfl, by show 2 ≤ sizeLine; decide, fun u hu => ?_⟩
          have s7 := (s4.trans (s5.trans s6)).trans (same_upd (o := .tup [vO o, .int (1 - (sd : Int))]) hu)
          refine ⟨_, rfl, 1, rfl, L, refs, _, _, rfl, rfl, lst_of (s7 _ _ hL3), atI_m1 epm, .tuple [dO o, .int ((1 - sd : Nat) : Int)], prs.map dPr, .tup (tup_of upd_same) (.cons (dp_opt o) (.cons ?_ .nil)), .lst (lst_of (s7 _ _ hp3)) (px3.mono s7).dps, pr_shaped _ _, prs_shaped _, ?_⟩
          · show Dp K _ (.int (1 - (sd : Int))) (.int ((1 - sd : Nat) : Int))
            rw [show (1 - (sd : Int)) = ((1 - sd : Nat) : Int) by omega]
            exact .int _
          · rw [lay_any lo (fun g hg => near_good gt st hst g (by rw [← hg]; exact List.mem_of_getElem? ho)) (by omega)]
            exact r _ (same_upd hu)
        rw [List.length_map, pre_at (near tab lS st) none fun o => V.bl (inB (fun g => stB (near tab l1) (near tab l2) ends i (g, 1 - sd)) o)] at h6
        have s36 := s4.trans (s5.trans s6)
        have hT6 := (s5.trans s6) _ _ hT4
        have qx6 := qx.mono (s5.trans s6)
        have evst : stB (near tab l1) (near tab l2) ends (i + 1) (st, sd) = (stB (near tab l1) (near tab l2) ends i (st, sd) || if sd = 0 then (near tab lS st).any (inB fun g => stB (near tab l1) (near tab l2) ends i (g, 1 - sd)) else (near tab lS st).all (inB fun g => stB (near tab l1) (near tab l2) ends i (g, 1 - sd))) := by
          rw [st_up]
          have : sd = 0 ∨ sd = 1 := by omega
          rcases this with rfl | rfl
          · rw [eS.2]
            rfl
          · rw [eS.2]
            rfl
        have elt : ltB (near tab l1) (near tab l2) ends i j (st, sd) = stB (near tab l1) (near tab l2) ends i (st, sd) := by
          unfold ltB
          rw [if_neg (show ¬ 2 * st + sd < j by have : 2 * st + sd = j := eja; omega)]
        dsimp only
        refine ⟨_, rfl, _, rfl, by show 2 ≤ sizeLine; decide, fun u hu => ?_⟩
        have s67 := same_upd (o := .tup [.int (st : Int), .int (sd : Int)]) hu
        refine ⟨_, rfl, .tuple [dO (some st), .int (sd : Int)], qrs.map dPr, .tup (tup_of upd_same) (.cons (.int _) (.cons (.int _) .nil)), .lst (lst_of (s67 _ _ hT6)) (qx6.mono s67).dps, pr_shaped _ _, prs_shaped _, _, rfl, ?_⟩
        rw [lay_any lq (fun g hg => by obtain rfl := Option.some.inj hg; exact hst) hsd]
        have e7 : inB (fun g => ltB (near tab l1) (near tab l2) ends i j (g, sd)) (some st) = stB (near tab l1) (near tab l2) ends i (st, sd) := elt
        rw [e7]
        have stay : stB (near tab l1) (near tab l2) ends (i + 1) (st, sd) = stB (near tab l1) (near tab l2) ends i (st, sd) → LayOk tab.length qrs (ltB (near tab l1) (near tab l2) ends i (j + 1)) := fun z => lt_next lq hjn (by rw [hpr]; exact z)
        cases e8 : stB (near tab l1) (near tab l2) ends i (st, sd) with
        | true =>
          refine iteF (iteF (g_next ?_))
          refine ⟨zs, qrs, _, _, _, rfl, s36.trans s67, s67 _ _ hT6, qx6.mono s67, stay (by rw [evst, e8]; rfl), by omega⟩
        | false =>
          refine iteT ?_
          rw [e8, Bool.false_or] at evst
          have hD7 := s67 _ _ h6
          have hT7 := s67 _ _ hT6
          have qx7 := qx6.mono s67
          have s37 := s36.trans s67
          generalize upd H6 u (.tup [.int (st : Int), .int (sd : Int)]) = H7 at hD7 hT7 qx7 s37
          refine g_viaT (stB (near tab l1) (near tab l2) ends (i + 1) (st, sd)) H7 (fun Q' q' => ?_) ?_
          · rw [evst] at q'
            have : sd = 0 ∨ sd = 1 := by omega
            rcases this with rfl | rfl
            · refine ⟨_, rfl, rfl, _, rfl, ?_⟩
              rw [decide_eq_true (show V.int ((0 : Nat) : Int) = V.int 0 from rfl)]
              refine iteT ?_
              refine ⟨_, rfl, D6, _, rfl, .inl (lst_of hD7), rfl, told_flat _ _, _, rfl, ?_⟩
              rw [if_pos rfl] at q'
              rw [if_neg Bool.false_ne_true, any_told]
              exact q'
            · refine ⟨_, rfl, rfl, _, rfl, ?_⟩
              rw [decide_eq_false (show ¬ V.int ((1 : Nat) : Int) = V.int 0 by intro z; have := V.int.inj z; omega)]
              refine iteF ?_
              refine ⟨_, rfl, D6, _, rfl, .inl (lst_of hD7), rfl, told_flat _ _, _, rfl, ?_⟩
              rw [if_neg (by decide)] at q'
              rw [if_pos rfl, all_told]
              exact q'
          · cases e9 : stB (near tab l1) (near tab l2) ends (i + 1) (st, sd) with
            | false =>
              refine iteF (g_next ?_)
              exact ⟨zs, qrs, _, _, _, rfl, s37, hT7, qx7, stay (by rw [e9, e8]), by omega⟩
            | true =>
              refine iteT ?_
              refine ⟨_, rfl, .inl ⟨rfl, _, lst_of hT7⟩, _, rfl, _, rfl, by show 2 ≤ sizeLine; decide, fun u2 hu2 => ?_⟩
              have s78 := same_upd (o := .tup [.int (st : Int), .int (sd : Int)]) hu2
              refine ⟨T, _, _, rfl, rfl, s78 _ _ hT7, szt (by omega), ?_⟩
              have hla := lt_add lq hjn (by rw [hpr]; exact e9)
              rw [hpr] at hla
              refine ⟨zs ++ [.ref u2], qrs ++ [(st, sd)], _, _, _, rfl, same_put (s37.trans s78) hT, upd_same, PrX.put ((qx7.mono s78).snoc upd_same) (s78 _ _ hT7), hla, ?_⟩
              rw [List.length_append]
              show zs.length + 1 ≤ _
              omega
      · rintro σ H4 ⟨zs, qrs, y6, y7, y8, rfl, s4, hT4, qx, lq, zl⟩
        have hL4 := s4 _ _ hL3
        have nTL : T ≠ L := (ne_of_none hL3 hT).symm
        rw [hal] at lq zl
        refine ⟨_, rfl, .inl ⟨rfl, _, lst_of hL4⟩, _, rfl, L, _, _, rfl, rfl, hL4, szt (by omega), ?_⟩
        refine ⟨refs ++ [.ref T], _, _, _, _, _, rfl, same_put (s3.trans s4) hL, upd_same, by rw [List.length_append, hrl]; rfl, fun k hk => ?_⟩
        by_cases c : k ≤ i
        · obtain ⟨p', ys', prs', ep', hp', px', lo', ll'⟩ := lays k c
          have sm : Same (del L H3) (del L (upd H4 L (.lst (refs ++ [.ref T])))) := (del_mono s4).trans keep_upd
          exact ⟨p', ys', prs', by rw [List.getElem?_append_left (by omega)]; exact ep', sm _ _ hp', px'.mono sm, lo', ll'⟩
        · have ek : k = i + 1 := by omega
          subst ek
          refine ⟨T, zs, qrs, ?_, ?_, (qx.off hL4).mono keep_upd, lt_end lq, by omega⟩
          · rw [List.getElem?_append_right (by omega), hrl, Nat.sub_self]
            rfl
          · rw [del_ne nTL, upd_ne nTL]
            exact hT4
    · rintro σ H3 ⟨refs, y4, y5, y6, y7, y8, rfl, s3, hL3, hrl, lays⟩
      refine ⟨_, rfl, k L refs H3 (s02.trans s3) (lst_of hL3) hrl (fun j hj => ?_)⟩
      obtain ⟨p, ys, prs, ep, hp, px, lo, ll⟩ := lays j hj
      refine ⟨p, prs.map dPr, ep, .lst (lst_of (del_same L _ _ hp)) (px.mono (del_same L)).dps, prs_shaped _, ?_⟩
      exact lay_any lo (o := some 0) (fun g hg => by obtain rfl := Option.some.inj hg; omega) (t := 0) (by decide)
end K6


set_option Elab.async false
set_option linter.all false
set_option maxRecDepth 100000
set_option maxHeartbeats 4000000
namespace K6
open PySem PySem.Spec PyProof.Rows L2 Rw
variable {P : Program} {w : World} {K : PySem.W.Frag} {mg : Str → Option Value} {base : Heap} {A : Ad} {fd : Fds}
/-! ### following a scheme, keeping by a scheme -/
theorem in_ends (o : Option Nat) (ends : List Nat) : inV (vO o) ((ends.map Int.ofNat).map V.int) = match o with | some s => decide (s ∈ ends) | none => false := by
  unfold inV
  rw [List.any_map, List.any_map]
  cases o with
  | none =>
    rw [List.any_eq_false]
    intro g _
    exact Bool.false_ne_true
  | some s =>
    show ends.any (fun g => ((g : Int) == (s : Int))) = decide (s ∈ ends)
    rw [Bool.eq_iff_iff, List.any_eq_true, decide_eq_true_eq]
    constructor
    · rintro ⟨g, hg, z⟩
      have : g = s := by have := eq_of_beq z; omega
      rw [← this]
      exact hg
    · intro z
      exact ⟨_, z, beq_self_eq_true _⟩
theorem ends_flat (ends : List Nat) : ((ends.map Int.ofNat).map V.int).all flatV = true := by
  rw [List.all_map, List.all_map, List.all_eq_true]
  intro o _
  rfl
theorem vO_flat (o : Option Nat) : flatV (vO o) = true := by cases o <;> rfl
theorem none_in (L : List (Option Nat)) : inV .non (L.map vO) = decide (none ∈ L) := by
  unfold inV
  rw [List.any_map, Bool.eq_iff_iff, List.any_eq_true, decide_eq_true_eq]
  constructor
  · rintro ⟨o, ho, z⟩
    cases o with
    | none => exact ho
    | some g => cases z
  · intro h
    exact ⟨none, h, rfl⟩
theorem opts_flat (L : List (Option Nat)) : (L.map vO).all flatV = true := by
  rw [List.all_map, List.all_eq_true]
  intro o _
  exact vO_flat o
theorem no_none : ∀ {L : List (Option Nat)}, none ∉ L → L.map vO = ((L.filterMap id).map Int.ofNat).map V.int ∧ (L.filterMap id).length = L.length
  | [], _ => ⟨rfl, rfl⟩
  | none :: l, h => absurd (List.mem_cons_self ..) h
  | some g :: l, h => by
    obtain ⟨h1, h2⟩ := no_none (L := l) fun z => h (List.mem_cons_of_mem _ z)
    have e : (some g :: l).filterMap id = g :: l.filterMap id := rfl
    rw [e, List.map_cons, List.map_cons, List.map_cons, List.length_cons, List.length_cons, h1, h2]
    exact ⟨rfl, rfl⟩
theorem max_of {ns : List Nat} {m : Int} (h1 : m ∈ ns.map Int.ofNat) (h2 : ∀ y ∈ ns.map Int.ofNat, y ≤ m) : m = ((ns.foldr max 0 : Nat) : Int) := by
  obtain ⟨k, hk, rfl⟩ := List.mem_map.mp h1
  have a := fmx_le hk
  have b : ns.foldr max 0 ≤ k := fmx_lub fun n hn => by
    have := h2 _ (List.mem_map.mpr ⟨n, hn, rfl⟩)
    exact Int.ofNat_le.mp this
  show (k : Int) = _
  omega
/-- what both ask: a trio, two lots, a scheme of one of them, where, whose turn -/
def spGo (K : PySem.W.Frag) (q : Nat) (res : Nat → Tab → List Nat → List Nat → List Nat → (Nat → Option Nat) → Bool → Option Nat → V) (d : Nat) : Sp := fun vs H Q _ => ∃ (v lv : V) (a : Addr) (w : Nat) (tab : Tab) (ends l1 l2 : List Nat) (f : Nat → Option Nat) (o : Option Nat) (sd : Nat),
  vs = [v, lv, .ref a, vO o, .int (sd : Int), .int (d : Int)] ∧ TrAt K H v w tab ends ∧ LtAt K H lv l1 l2 ∧ SqT K H a (schV tab.length f) ∧ GoodT w tab ∧ GoodE tab.length ends ∧ GoodLot w l1 ∧ GoodLot w l2 ∧
  (∀ s g, s < tab.length → f s = some g → g ∈ if q = 0 then l1 else l2) ∧ (∀ g, o = some g → g < tab.length) ∧ sd < 2 ∧ ∀ H', Same H H' → Q (res d tab ends l1 l2 f (decide (sd = 1)) o) H'
def lgR (d : Nat) (tab : Tab) (ends l1 l2 : List Nat) (f : Nat → Option Nat) (side : Bool) (o : Option Nat) : V := vO (lg (schG tab l1 f) (near tab l2) ends d side o)
def nvR (d : Nat) (tab : Tab) (ends l1 l2 : List Nat) (f : Nat → Option Nat) (side : Bool) (o : Option Nat) : V := .bl (nv (near tab l1) (schG tab l2 f) ends d side o)
theorem lg_none (G1 G2 : Gs) (E : List Nat) (d : Nat) (side : Bool) : lg G1 G2 E d side none = none := by cases d <;> rfl
theorem lg_end {G1 G2 : Gs} {E : List Nat} {d s : Nat} {side : Bool} (h : s ∈ E) : lg G1 G2 E d side (some s) = some 0 := by cases d <;> exact if_pos h
theorem nv_none (G1 G2 : Gs) (E : List Nat) (d : Nat) (side : Bool) : nv G1 G2 E d side none = true := by cases d <;> rfl
theorem nv_end {G1 G2 : Gs} {E : List Nat} {d s : Nat} {side : Bool} (h : s ∈ E) : nv G1 G2 E d side (some s) = false := by
  cases d with
  | zero => show decide (s ∉ E) = false; exact decide_eq_false fun z => z h
  | succ d => show (decide (s ∉ E) && _) = false; rw [decide_eq_false fun z => z h]; rfl
/-- what a turn looks at -/
structure Nxt (tab : Tab) (w : Nat) (Gm : Gs) (s : Nat) (l : List Nat) : Prop where
  eq : near tab l s = Gm s
  lt : ∀ g ∈ l, g < w
  len : l.length ≤ 8
  ne : l ≠ []
theorem nxt_lot {tab : Tab} {w s : Nat} {l : List Nat} (g : GoodLot w l) : Nxt tab w (near tab l) s l := ⟨rfl, g.lt, by have := g.len; have := g.w8; omega, g.ne⟩
theorem nxt_all {tab : Tab} {w s : Nat} {l : List Nat} {f : Nat → Option Nat} (g : GoodLot w l) (h : f s = none) : Nxt tab w (schG tab l f) s l := ⟨by unfold schG; rw [h], g.lt, by have := g.len; have := g.w8; omega, g.ne⟩
theorem nxt_one {tab : Tab} {w s x : Nat} {l : List Nat} {f : Nat → Option Nat} (g : GoodLot w l) (hx : x ∈ l) (h : f s = some x) : Nxt tab w (schG tab l f) s [x] := ⟨by unfold schG; rw [h]; rfl, fun y hy => by obtain rfl := List.mem_singleton.mp hy; exact g.lt _ hx, (by show 1 ≤ 8; decide), fun z => by cases z⟩
theorem ok_longest_of (T : Txt K mg A) (U : Funs K A fd) (d : Nat) {spp : Sp} (G_l_longest : FnOk P w K mg base CX0 (3 * d + 1) A.l_longest fd.l_longest p_l_longest spp) (himp : ∀ e, d = e + 1 → spp = spGo K 0 lgR e) :
    FnOk P w K mg base CX0 (3 * d + 4) A.l_longest fd.l_longest p_l_longest (spGo K 0 lgR d) := by
  have G_l_near := ok_l_near (P := P) (w := w) (base := base) T U
  have b_l_near := U.b_l_near
  have b_l_longest := U.b_l_longest
  refine U.F_l_longest.ok sc_l_longest (fun vs H Q E h => ?_) (fun cdv A0 outer s H vs Q E hr h => ?_)
  · obtain ⟨v, lv, a, n, tab, ends, l1, l2, f, o, sd, rfl, _⟩ := h
    rfl
  · have hu := hu_of hr
    obtain ⟨v, lv, a, n, tab, ends, l1, l2, f, o, sd, rfl, Tr, Lt, hx, gt, ge, g1, g2, hf, ho, hsd, k⟩ := h
    refine ⟨_, (pss_cons (ps_if (pt_cmpR (w_in (K := K)) (pv 3) (pe_ix (w_ixT (K := K)) (pv 0) pe_int (fun _ _ => rfl)) (by rfl)) (pss_one (ps_ret pe_int)) pss_nil)
       (pss_cons (ps_if (PW.pt (pw_or (pt_cmpR op_isN (pv 3) pe_non (nomark _)) (pw_or1 (pt_cmpR op_eq (pv 5) pe_int (nomark _))))) (pss_one (ps_ret pe_non)) pss_nil)
       (pss_cons (ps_set (i := 6) sc_l_longest.nd rfl (Or.inl rfl) (pe_ifExp (PW.pt (pw_or (pt_cmpR op_eq (pv 4) pe_int (nomark _)) (pw_or1 (pt_cmpR op_isN (pe_ix (w_ixT (K := K)) (pv 2) (pv 3) (fun _ _ => rfl)) pe_non (nomark _))))) (pe_ix (w_ixL (K := K)) (pv 1) (pv 4) (fun _ _ => rfl)) (pe_ix (w_ixT (K := K)) (pv 2) (pv 3) (fun _ _ => rfl))))
       (pss_cons (ps_setLc (i := 7) (own := [("_law_goal", 8)]) (g := gName 8) (tt := tYes) (by rfl) sc_l_longest.nd rfl rfl (sw_true rfl rfl rfl (by decide +kernel)) (w_piL (K := K) (pe_call G_l_near (hr.mono (by omega)) (by rfl) T.m_l_near T.k_l_near b_l_near .nil pass0 (pa_cons (pv 0) (pa_cons (pv 3) (pa_cons (pv 6) pa_nil))))) (blkOk_by (own := [("_law_goal", 8)]) (by rfl)) (fun _ _ _ _ _ => (pg_name (i := 8) sc_l_longest.nd rfl (Or.inl rfl))) (fun _ _ _ _ _ => pts_nil) (fun _ _ _ _ _ => (pe_call G_l_longest (hr.mono (by omega)) (by rfl) T.m_l_longest T.k_l_longest b_l_longest .nil pass0 (pa_cons (pv 0) (pa_cons (pv 1) (pa_cons (pv 2) (pa_cons (pv 8) (pa_cons (pe_op op_sub pe_int (pv 4)) (pa_cons (pe_op op_sub (pv 5) pe_int) pa_nil)))))))))
       (pss_one (ps_ret (pe_ifExp (pt_cmpR (w_in (K := K)) pe_non (pv 7) (by rfl)) pe_non (pe_op op_add pe_int (pe_callB (w_maxL (K := K) rfl) (by rfl) T.b_max (by decide +kernel) (pa_cons (pv 7) pa_nil)))))))))), ?_⟩
    obtain ⟨t, aa, e, rfl, ht, ha, he⟩ := Tr.ob
    obtain ⟨lp, rfl, hlp⟩ := Lt.ob
    have he2 := he
    unfold dNats at he2
    rw [nats_int] at he2
    obtain ⟨e', ys, e2, hy, hdy⟩ := dp_tup he2
    obtain rfl := dps_ints hdy
    obtain rfl := V.ref.inj e2
    refine ⟨_, rfl, _, rfl, t, _, _, _, rfl, rfl, ht, rfl, e, _, rfl, .inr hy, vO_flat o, ends_flat ends, _, rfl, ?_⟩
    rw [if_neg Bool.false_ne_true, in_ends]
    cases o with
    | none =>
      refine iteF (g_next ?_)
      refine ⟨_, rfl, rfl, true, rfl, iteT (iteT ?_)⟩
      have := k H (Same.refl _)
      unfold lgR at this
      rw [lg_none] at this
      exact this
    | some st =>
      have hst := ho st rfl
      by_cases c : st ∈ ends
      · show if decide (st ∈ ends) = true then _ else _
        rw [decide_eq_true c]
        refine iteT ?_
        have := k H (Same.refl _)
        unfold lgR at this
        rw [lg_end c] at this
        exact this
      · show if decide (st ∈ ends) = true then _ else _
        rw [decide_eq_false c]
        refine iteF (g_next ?_)
        cases d with
        | zero =>
          refine ⟨_, rfl, rfl, false, rfl, iteF ⟨_, rfl, rfl, _, rfl, ?_⟩⟩
          refine iteT ?_
          have := k H (Same.refl _)
          have e0 : lg (schG tab l1 f) (near tab l2) ends 0 (decide (sd = 1)) (some st) = none := if_neg c
          unfold lgR at this
          rw [e0] at this
          exact this
        | succ d =>
          obtain rfl := himp d rfl
          refine ⟨_, rfl, rfl, false, rfl, iteF ⟨_, rfl, rfl, _, rfl, ?_⟩⟩
          rw [decide_eq_false (show ¬ V.int ((d + 1 : Nat) : Int) = V.int 0 by intro z; have := V.int.inj z; omega)]
          refine iteF (g_next ?_)
          dsimp only
          refine g_seq (g_asg (g_viaP (fun v H2 => H2 = H ∧ ∃ l, Nxt tab n (if decide (sd = 1) = true then near tab l2 else schG tab l1 f) st l ∧ v = .str (rowS l)) (fun Q' rest => ?_) ?_))
          · have : sd = 0 ∨ sd = 1 := by omega
            have ev := schV_at (f := f) hst
            rcases this with rfl | rfl
            · refine ⟨_, rfl, rfl, _, rfl, ?_⟩
              rw [decide_eq_false (show ¬ V.int ((0 : Nat) : Int) = V.int 1 by intro z; have := V.int.inj z; omega)]
              refine iteF ?_
              cases e : f st with
              | none =>
                rw [e] at ev
                exact ⟨_, rfl, _, rfl, a, _, _, _, rfl, rfl, hx, atI_nat ev, rfl, true, rfl, iteT ⟨_, rfl, _, rfl, lp, _, _, _, rfl, rfl, hlp, atI_nat (j := 0) rfl, rest _ _ ⟨rfl, l1, by rw [if_neg (by decide)]; exact nxt_all g1 e, rfl⟩⟩⟩
              | some g =>
                rw [e] at ev
                exact ⟨_, rfl, _, rfl, a, _, _, _, rfl, rfl, hx, atI_nat ev, rfl, false, rfl, iteF ⟨_, rfl, _, rfl, a, _, _, _, rfl, rfl, hx, atI_nat ev, rest _ _ ⟨rfl, [g], by rw [if_neg (by decide)]; exact nxt_one g1 (hf st g hst e) e, rfl⟩⟩⟩
            · refine ⟨_, rfl, rfl, _, rfl, ?_⟩
              rw [decide_eq_true (show V.int ((1 : Nat) : Int) = V.int 1 from rfl)]
              exact iteT (iteT ⟨_, rfl, _, rfl, lp, _, _, _, rfl, rfl, hlp, atI_nat (j := 1) rfl, rest _ _ ⟨rfl, l2, by rw [if_pos (by decide)]; exact nxt_lot g2, rfl⟩⟩)
          rintro v H2 ⟨rfl, l, hl, rfl⟩
          have hne : near tab l st ≠ [] := fun z => by
            have := near_len tab l st
            rw [z] at this
            exact hl.ne (List.length_eq_zero_iff.mp this.symm)
          dsimp only
          refine ⟨_, rfl, _, rfl, _, rfl, .ref t, n, tab, ends, st, l, rfl, Tr, gt, hst, hl.lt, hl.len, fun D H1 hD s1 h1 => ⟨D, rfl, ⟨_, lst_of h1⟩, ?_⟩⟩
          refine lL (xs := (near tab l st).map vO) (fun i => [vO (lg (schG tab l1 f) (near tab l2) ends d (!decide (sd = 1)) ((near tab l st).getD i none))]) (lst_of h1) (fun _ => Nat.le_refl 1) (by rw [List.length_map, near_len]; have := hl.len; omega) ?_ (fun i x hi => turn_yes fun H2 R s2 r => ?_) (fun D2 H2 hD2 s2 h2 => ?_)
          · exact fun _ => rfl
          · obtain ⟨o', ho', rfl⟩ := goal_cases hi
            have eo : (near tab l st).getD i none = o' := by rw [List.getD_eq_getElem?_getD, ho']; rfl
            rw [eo] at r
            have s12 := s1.trans s2
            refine ⟨_, rfl, _, rfl, _, rfl, _, rfl, _, rfl, _, _, rfl, rfl, _, rfl, _, _, rfl, rfl, ?_⟩
            refine ⟨.ref t, .ref lp, a, n, tab, ends, l1, l2, f, o', 1 - sd, ?_, Tr.mono s12, Lt.mono s12, sqT_mono s12 hx, gt, ge, g1, g2, hf, fun g hg => near_good gt st hst g (by rw [← hg]; exact List.mem_of_getElem? ho'), by omega, fun H3 s3 => ?_⟩
            · show [V.ref t, .ref lp, .ref a, vO o', .int (1 - (sd : Int)), .int (((d + 1 : Nat) : Int) - 1)] = _
              rw [show (1 - (sd : Int)) = ((1 - sd : Nat) : Int) by omega, show (((d + 1 : Nat) : Int) - 1) = (d : Int) by omega]
            · have es : decide (1 - sd = 1) = !decide (sd = 1) := by
                have : sd = 0 ∨ sd = 1 := by omega
                rcases this with rfl | rfl <;> rfl
              rw [es]
              exact r H3 s3
          have s12 := s1.trans s2
          rw [List.length_map, pre_at (near tab l st) none fun o' => vO (lg (schG tab l1 f) (near tab l2) ends d (!decide (sd = 1)) o')] at h2
          generalize hL : (near tab l st).map (lg (schG tab l1 f) (near tab l2) ends d (!decide (sd = 1))) = L
          have e2 : ((near tab l st).map fun o' => vO (lg (schG tab l1 f) (near tab l2) ends d (!decide (sd = 1)) o')) = L.map vO := by rw [← hL, List.map_map]; rfl
          rw [e2] at h2
          have hln : 0 < L.length := by rw [← hL, List.length_map]; exact List.length_pos_iff.mpr hne
          have eK : lg (schG tab l1 f) (near tab l2) ends (d + 1) (decide (sd = 1)) (some st) = one L := by
            have z : lg (schG tab l1 f) (near tab l2) ends (d + 1) (decide (sd = 1)) (some st) = one (((if decide (sd = 1) = true then near tab l2 else schG tab l1 f) st).map (lg (schG tab l1 f) (near tab l2) ends d (!decide (sd = 1)))) := if_neg c
            rw [z, ← hl.eq, hL]
          have k := k H2 s12
          unfold lgR at k
          rw [eK] at k
          dsimp only
          refine ⟨_, rfl, D2, _, rfl, .inl (lst_of h2), rfl, opts_flat _, _, rfl, ?_⟩
          rw [if_neg Bool.false_ne_true, none_in]
          by_cases hn : none ∈ L
          · rw [decide_eq_true hn]
            refine iteT ?_
            unfold one at k
            rw [if_pos hn] at k
            exact k
          · rw [decide_eq_false hn]
            obtain ⟨n1, n2⟩ := no_none hn
            unfold one at k
            rw [if_neg hn] at k
            refine iteF ⟨_, rfl, D2, _, rfl, lst_of (by rw [← n1]; exact h2), by rw [List.length_map]; omega, fun m hm hle => ⟨_, _, rfl, rfl, ?_⟩⟩
            rw [max_of hm hle]
            exact k
theorem ok_never_of (T : Txt K mg A) (U : Funs K A fd) (d : Nat) {spp : Sp} (G_l_never : FnOk P w K mg base CX0 (3 * d + 1) A.l_never fd.l_never p_l_never spp) (himp : ∀ e, d = e + 1 → spp = spGo K 1 nvR e) :
    FnOk P w K mg base CX0 (3 * d + 4) A.l_never fd.l_never p_l_never (spGo K 1 nvR d) := by
  have G_l_near := ok_l_near (P := P) (w := w) (base := base) T U
  have b_l_near := U.b_l_near
  have b_l_never := U.b_l_never
  refine U.F_l_never.ok sc_l_never (fun vs H Q E h => ?_) (fun cdv A0 outer s H vs Q E hr h => ?_)
  · obtain ⟨v, lv, a, n, tab, ends, l1, l2, f, o, sd, rfl, _⟩ := h
    rfl
  · have hu := hu_of hr
    obtain ⟨v, lv, a, n, tab, ends, l1, l2, f, o, sd, rfl, Tr, Lt, hx, gt, ge, g1, g2, hf, ho, hsd, k⟩ := h
    refine ⟨_, (pss_cons (ps_if (pt_cmpR (w_in (K := K)) (pv 3) (pe_ix (w_ixT (K := K)) (pv 0) pe_int (fun _ _ => rfl)) (by rfl)) (pss_one (ps_ret pe_bl)) pss_nil)
       (pss_cons (ps_if (PW.pt (pw_or (pt_cmpR op_isN (pv 3) pe_non (nomark _)) (pw_or1 (pt_cmpR op_eq (pv 5) pe_int (nomark _))))) (pss_one (ps_ret pe_bl)) pss_nil)
       (pss_cons (ps_set (i := 6) sc_l_never.nd rfl (Or.inl rfl) (pe_ifExp (PW.pt (pw_or (pt_cmpR op_eq (pv 4) pe_int (nomark _)) (pw_or1 (pt_cmpR op_isN (pe_ix (w_ixT (K := K)) (pv 2) (pv 3) (fun _ _ => rfl)) pe_non (nomark _))))) (pe_ix (w_ixL (K := K)) (pv 1) (pv 4) (fun _ _ => rfl)) (pe_ix (w_ixT (K := K)) (pv 2) (pv 3) (fun _ _ => rfl))))
       (pss_cons (ps_setLc (i := 7) (own := [("_law_goal", 8)]) (g := gName 8) (tt := tYes) (by rfl) sc_l_never.nd rfl rfl (sw_true rfl rfl rfl (by decide +kernel)) (w_piL (K := K) (pe_call G_l_near (hr.mono (by omega)) (by rfl) T.m_l_near T.k_l_near b_l_near .nil pass0 (pa_cons (pv 0) (pa_cons (pv 3) (pa_cons (pv 6) pa_nil))))) (blkOk_by (own := [("_law_goal", 8)]) (by rfl)) (fun _ _ _ _ _ => (pg_name (i := 8) sc_l_never.nd rfl (Or.inl rfl))) (fun _ _ _ _ _ => pts_nil) (fun _ _ _ _ _ => (pe_call G_l_never (hr.mono (by omega)) (by rfl) T.m_l_never T.k_l_never b_l_never .nil pass0 (pa_cons (pv 0) (pa_cons (pv 1) (pa_cons (pv 2) (pa_cons (pv 8) (pa_cons (pe_op op_sub pe_int (pv 4)) (pa_cons (pe_op op_sub (pv 5) pe_int) pa_nil)))))))))
       (pss_one (ps_ret (pe_cmpR (w_notIn (K := K)) pe_bl (pv 7) (by rfl)))))))), ?_⟩
    obtain ⟨t, aa, e, rfl, ht, ha, he⟩ := Tr.ob
    obtain ⟨lp, rfl, hlp⟩ := Lt.ob
    have he2 := he
    unfold dNats at he2
    rw [nats_int] at he2
    obtain ⟨e', ys, e2, hy, hdy⟩ := dp_tup he2
    obtain rfl := dps_ints hdy
    obtain rfl := V.ref.inj e2
    refine ⟨_, rfl, _, rfl, t, _, _, _, rfl, rfl, ht, rfl, e, _, rfl, .inr hy, vO_flat o, ends_flat ends, _, rfl, ?_⟩
    rw [if_neg Bool.false_ne_true, in_ends]
    cases o with
    | none =>
      refine iteF (g_next ?_)
      refine ⟨_, rfl, rfl, true, rfl, iteT (iteT ?_)⟩
      have := k H (Same.refl _)
      unfold nvR at this
      rw [nv_none] at this
      exact this
    | some st =>
      have hst := ho st rfl
      by_cases c : st ∈ ends
      · show if decide (st ∈ ends) = true then _ else _
        rw [decide_eq_true c]
        refine iteT ?_
        have := k H (Same.refl _)
        unfold nvR at this
        rw [nv_end c] at this
        exact this
      · show if decide (st ∈ ends) = true then _ else _
        rw [decide_eq_false c]
        refine iteF (g_next ?_)
        cases d with
        | zero =>
          refine ⟨_, rfl, rfl, false, rfl, iteF ⟨_, rfl, rfl, _, rfl, ?_⟩⟩
          refine iteT ?_
          have := k H (Same.refl _)
          have e0 : nv (near tab l1) (schG tab l2 f) ends 0 (decide (sd = 1)) (some st) = true := decide_eq_true c
          unfold nvR at this
          rw [e0] at this
          exact this
        | succ d =>
          obtain rfl := himp d rfl
          refine ⟨_, rfl, rfl, false, rfl, iteF ⟨_, rfl, rfl, _, rfl, ?_⟩⟩
          rw [decide_eq_false (show ¬ V.int ((d + 1 : Nat) : Int) = V.int 0 by intro z; have := V.int.inj z; omega)]
          refine iteF (g_next ?_)
          dsimp only
          refine g_seq (g_asg (g_viaP (fun v H2 => H2 = H ∧ ∃ l, Nxt tab n (if decide (sd = 1) = true then schG tab l2 f else near tab l1) st l ∧ v = .str (rowS l)) (fun Q' rest => ?_) ?_))
          · have : sd = 0 ∨ sd = 1 := by omega
            have ev := schV_at (f := f) hst
            rcases this with rfl | rfl
            · refine ⟨_, rfl, rfl, _, rfl, ?_⟩
              rw [decide_eq_true (show V.int ((0 : Nat) : Int) = V.int 0 from rfl)]
              exact iteT (iteT ⟨_, rfl, _, rfl, lp, _, _, _, rfl, rfl, hlp, atI_nat (j := 0) rfl, rest _ _ ⟨rfl, l1, by rw [if_neg (by decide)]; exact nxt_lot g1, rfl⟩⟩)
            · refine ⟨_, rfl, rfl, _, rfl, ?_⟩
              rw [decide_eq_false (show ¬ V.int ((1 : Nat) : Int) = V.int 0 by intro z; have := V.int.inj z; omega)]
              refine iteF ?_
              cases e : f st with
              | none =>
                rw [e] at ev
                exact ⟨_, rfl, _, rfl, a, _, _, _, rfl, rfl, hx, atI_nat ev, rfl, true, rfl, iteT ⟨_, rfl, _, rfl, lp, _, _, _, rfl, rfl, hlp, atI_nat (j := 1) rfl, rest _ _ ⟨rfl, l2, by rw [if_pos (by decide)]; exact nxt_all g2 e, rfl⟩⟩⟩
              | some g =>
                rw [e] at ev
                exact ⟨_, rfl, _, rfl, a, _, _, _, rfl, rfl, hx, atI_nat ev, rfl, false, rfl, iteF ⟨_, rfl, _, rfl, a, _, _, _, rfl, rfl, hx, atI_nat ev, rest _ _ ⟨rfl, [g], by rw [if_pos (by decide)]; exact nxt_one g2 (hf st g hst e) e, rfl⟩⟩⟩
          rintro v H2 ⟨rfl, l, hl, rfl⟩
          have hne : near tab l st ≠ [] := fun z => by
            have := near_len tab l st
            rw [z] at this
            exact hl.ne (List.length_eq_zero_iff.mp this.symm)
          dsimp only
          refine ⟨_, rfl, _, rfl, _, rfl, .ref t, n, tab, ends, st, l, rfl, Tr, gt, hst, hl.lt, hl.len, fun D H1 hD s1 h1 => ⟨D, rfl, ⟨_, lst_of h1⟩, ?_⟩⟩
          refine lL (xs := (near tab l st).map vO) (fun i => [V.bl (nv (near tab l1) (schG tab l2 f) ends d (!decide (sd = 1)) ((near tab l st).getD i none))]) (lst_of h1) (fun _ => Nat.le_refl 1) (by rw [List.length_map, near_len]; have := hl.len; omega) ?_ (fun i x hi => turn_yes fun H2 R s2 r => ?_) (fun D2 H2 hD2 s2 h2 => ?_)
          · exact fun _ => rfl
          · obtain ⟨o', ho', rfl⟩ := goal_cases hi
            have eo : (near tab l st).getD i none = o' := by rw [List.getD_eq_getElem?_getD, ho']; rfl
            rw [eo] at r
            have s12 := s1.trans s2
            refine ⟨_, rfl, _, rfl, _, rfl, _, rfl, _, rfl, _, _, rfl, rfl, _, rfl, _, _, rfl, rfl, ?_⟩
            refine ⟨.ref t, .ref lp, a, n, tab, ends, l1, l2, f, o', 1 - sd, ?_, Tr.mono s12, Lt.mono s12, sqT_mono s12 hx, gt, ge, g1, g2, hf, fun g hg => near_good gt st hst g (by rw [← hg]; exact List.mem_of_getElem? ho'), by omega, fun H3 s3 => ?_⟩
            · show [V.ref t, .ref lp, .ref a, vO o', .int (1 - (sd : Int)), .int (((d + 1 : Nat) : Int) - 1)] = _
              rw [show (1 - (sd : Int)) = ((1 - sd : Nat) : Int) by omega, show (((d + 1 : Nat) : Int) - 1) = (d : Int) by omega]
            · have es : decide (1 - sd = 1) = !decide (sd = 1) := by
                have : sd = 0 ∨ sd = 1 := by omega
                rcases this with rfl | rfl <;> rfl
              rw [es]
              exact r H3 s3
          have s12 := s1.trans s2
          rw [List.length_map, pre_at (near tab l st) none fun o' => V.bl (nv (near tab l1) (schG tab l2 f) ends d (!decide (sd = 1)) o')] at h2
          have eK : nv (near tab l1) (schG tab l2 f) ends (d + 1) (decide (sd = 1)) (some st) = (near tab l st).all (nv (near tab l1) (schG tab l2 f) ends d (!decide (sd = 1))) := by
            have z : nv (near tab l1) (schG tab l2 f) ends (d + 1) (decide (sd = 1)) (some st) = (decide (st ∉ ends) && ((if decide (sd = 1) = true then schG tab l2 f else near tab l1) st).all (nv (near tab l1) (schG tab l2 f) ends d (!decide (sd = 1)))) := rfl
            rw [z, decide_eq_true c, Bool.true_and, ← hl.eq]
          have k := k H2 s12
          unfold nvR at k
          rw [eK] at k
          dsimp only
          refine ⟨_, rfl, D2, _, rfl, .inl (lst_of h2), rfl, told_flat _ _, ?_⟩
          rw [if_pos rfl, all_told]
          exact k
/-- any of so many turns -/
def spAny (sp : Nat → Sp) : Sp := fun vs H Q E => ∃ d, d ≤ 7 ∧ sp d vs H Q E
theorem ok_any {x : Addr} {f : FuncData} {ps : List Str} {sp : Nat → Sp} (h : ∀ d, FnOk P w K mg base CX0 (3 * d + 4) x f ps (sp d)) : FnOk P w K mg base CX0 40 x f ps (spAny sp) where
  len := fun vs H Q E ⟨d, _, q⟩ => (h d).len vs H Q E q
  run := fun A0 outer s H args us vs Q E hr he hb hv ⟨d, hd, q⟩ => (h d).run A0 outer s H args us vs Q E (hr.mono (by omega)) he hb hv q
theorem ok_no {x : Addr} {f : FuncData} {ps : List Str} : FnOk P w K mg base CX0 1 x f ps (fun _ _ _ _ => False) where
  len := fun vs H Q E q => q.elim
  run := fun A0 outer s H args us vs Q E hr he hb hv q => q.elim
theorem ok_longest_all (T : Txt K mg A) (U : Funs K A fd) : ∀ d, FnOk P w K mg base CX0 (3 * d + 4) A.l_longest fd.l_longest p_l_longest (spGo K 0 lgR d)
  | 0 => ok_longest_of T U 0 ok_no fun e h => by omega
  | d + 1 => ok_longest_of T U (d + 1) (ok_longest_all T U d) fun e h => Nat.succ.inj h ▸ rfl
theorem ok_never_all (T : Txt K mg A) (U : Funs K A fd) : ∀ d, FnOk P w K mg base CX0 (3 * d + 4) A.l_never fd.l_never p_l_never (spGo K 1 nvR d)
  | 0 => ok_never_of T U 0 ok_no fun e h => by omega
  | d + 1 => ok_never_of T U (d + 1) (ok_never_all T U d) fun e h => Nat.succ.inj h ▸ rfl
theorem ok_l_longest (T : Txt K mg A) (U : Funs K A fd) : FnOk P w K mg base CX0 40 A.l_longest fd.l_longest p_l_longest (spAny (spGo K 0 lgR)) := ok_any (ok_longest_all T U)
theorem ok_l_never (T : Txt K mg A) (U : Funs K A fd) : FnOk P w K mg base CX0 40 A.l_never fd.l_never p_l_never (spAny (spGo K 1 nvR)) := ok_any (ok_never_all T U)
end K6


set_option Elab.async false
set_option linter.all false
set_option maxRecDepth 100000
set_option maxHeartbeats 4000000
namespace K6
open PySem PySem.Spec PyProof.Rows L2 Rw
variable {P : Program} {w : World} {K : PySem.W.Frag} {mg : Str → Option Value} {base : Heap} {A : Ad} {fd : Fds}
/-! ### calls by name -/
def gR3 {α : Type} : List α → List α → List α
  | [], [a, b, c] => [c, b, a]
  | _, _ => []
theorem gR3_rel {vs : List V} {us : List Value} {zs : List V} {ws : List Value} (r : Vals vs us) (q : Vals zs ws) : Vals (gR3 vs zs) (gR3 us ws) := by
  cases r with
  | cons a b => exact .nil
  | nil =>
    cases q with
    | nil => exact .nil
    | cons a q =>
      cases q with
      | nil => exact .nil
      | cons b q =>
        cases q with
        | nil => exact .nil
        | cons c q =>
          cases q with
          | nil => exact .cons c (.cons b (.cons a .nil))
          | cons e f => exact .nil
theorem gR3_three {us ws : List Value} (h : (gR3 us ws).length = 3) : ∃ a b c, us = [] ∧ ws = [a, b, c] := by
  cases us with
  | cons a b => simp [gR3] at h
  | nil =>
    match ws, h with
    | [a, b, c], _ => exact ⟨a, b, c, rfl, rfl⟩
    | [], h => simp [gR3] at h
    | [_], h => simp [gR3] at h
    | [_, _], h => simp [gR3] at h
    | _ :: _ :: _ :: _ :: _, h => simp [gR3] at h
theorem kb_plan_0_second_first_reader_of {f : Addr} {fd : FuncData} (F : Fun K "plan" "plan" s_plan f fd) : KBinds K fd p_plan ["second", "first", "reader"] gR3 gR3 := by
  obtain ⟨oc, od, kV, doc, pm, an, cdv, ct, osl, rfl, lk, hcd⟩ := F.ex
  refine ⟨fun s us ws _ hl => ?_, gR3_rel⟩
  obtain ⟨a, b, c, rfl, rfl⟩ := gR3_three hl
  exact .of_eq rfl
theorem kb_barring_0_second_first_reader_of {f : Addr} {fd : FuncData} (F : Fun K "barring" "barring" s_barring f fd) : KBinds K fd p_barring ["second", "first", "reader"] gR3 gR3 := by
  obtain ⟨oc, od, kV, doc, pm, an, cdv, ct, osl, rfl, lk, hcd⟩ := F.ex
  refine ⟨fun s us ws _ hl => ?_, gR3_rel⟩
  obtain ⟨a, b, c, rfl, rfl⟩ := gR3_three hl
  exact .of_eq rfl
def gR4 {α : Type} : List α → List α → List α
  | [], [a, b, c, d] => [d, c, b, a]
  | _, _ => []
theorem gR4_rel {vs : List V} {us : List Value} {zs : List V} {ws : List Value} (r : Vals vs us) (q : Vals zs ws) : Vals (gR4 vs zs) (gR4 us ws) := by
  cases r with
  | cons a b => exact .nil
  | nil =>
    cases q with
    | nil => exact .nil
    | cons a q =>
      cases q with
      | nil => exact .nil
      | cons b q =>
        cases q with
        | nil => exact .nil
        | cons c q =>
          cases q with
          | nil => exact .nil
          | cons d q =>
            cases q with
            | nil => exact .cons d (.cons c (.cons b (.cons a .nil)))
            | cons e f => exact .nil
theorem gR4_four {us ws : List Value} (h : (gR4 us ws).length = 4) : ∃ a b c d, us = [] ∧ ws = [a, b, c, d] := by
  cases us with
  | cons a b => simp [gR4] at h
  | nil =>
    match ws, h with
    | [a, b, c, d], _ => exact ⟨a, b, c, d, rfl, rfl⟩
    | [], h => simp [gR4] at h
    | [_], h => simp [gR4] at h
    | [_, _], h => simp [gR4] at h
    | [_, _, _], h => simp [gR4] at h
    | _ :: _ :: _ :: _ :: _ :: _, h => simp [gR4] at h
theorem kb_turns_of_0_plan_second_first_reader_of {f : Addr} {fd : FuncData} (F : Fun K "turns_of" "turns_of" s_turns_of f fd) : KBinds K fd p_turns_of ["plan", "second", "first", "reader"] gR4 gR4 := by
  obtain ⟨oc, od, kV, doc, pm, an, cdv, ct, osl, rfl, lk, hcd⟩ := F.ex
  refine ⟨fun s us ws _ hl => ?_, gR4_rel⟩
  obtain ⟨a, b, c, d, rfl, rfl⟩ := gR4_four hl
  exact .of_eq rfl
/-! ### a walk with numbers -/
theorem lE {H : Hp} {σ : L2.St} {tt : TT} {te : TE} {vs : List Nat} {i8 i9 : Nat} {Qd : Addr → Hp → Prop} {a : Addr} {xs : List V} (st : Nat → List V) (hx : SqL K H a xs) (hst : ∀ i, (st i).length ≤ 1) (hn : xs.length < 100000)
    (hw : ∀ x y, wipe (((wipe σ vs).set i8 (some x)).set i9 (some y)) vs = wipe σ vs) (turn : ∀ (i : Nat) (x : V), xs[i]? = some x → Turn1 tt te (((wipe σ vs).set i8 (some (.int (i : Int)))).set i9 (some x)) H (st i))
    (fin : ∀ D H1, H D = none → Same H H1 → H1 D = some (.lst (pre st xs.length)) → Qd D H1) :
    ∀ D, H D = none → ∃ W : Nat → Nat → Hp → Prop, (∃ m, W 0 m (upd H D (.lst []))) ∧ ∀ i m H, W i m H →
      ((Ite K a).stop i H ∧ Qd D H) ∨ ((Ite K a).go i H ∧ ∃ Nx : Hp → Prop, (∀ H', Nx H' → ∃ m', m' < m ∧ W (i + 1) m' H') ∧ ∀ x H', (Ite K a).yld i H x H' → gTup K 2 (gCons (gName i8) (gCons (gName i9) gNil)) x (wipe σ vs) H' fun σ2 H2 => wipe σ2 vs = wipe σ vs ∧ tt σ2 H2 fun b H3 =>
        if b = true then te σ2 H3 fun y H4 => ∃ acc, H4 D = some (.lst acc) ∧ acc.length < sizeLine ∧ Nx (upd H4 D (.lst (acc ++ [y]))) else Nx H3) := by
  intro D hD
  refine ⟨fun i m H1 => m = xs.length - i ∧ i ≤ xs.length ∧ Same H H1 ∧ H1 D = some (.lst (pre st i)), ⟨xs.length, rfl, Nat.zero_le _, same_upd hD, upd_same⟩, ?_⟩
  rintro i m H1 ⟨rfl, hi, s1, h1⟩
  by_cases c : i < xs.length
  · have ex : xs[i]? = some xs[i] := List.getElem?_eq_getElem c
    refine .inr ⟨⟨xs, xs[i], sqL_mono s1 hx, ex⟩, fun H2 => Same H H2 ∧ H2 D = some (.lst (pre st (i + 1))), fun H2 h2 => ⟨xs.length - (i + 1), by omega, rfl, c, h2.1, h2.2⟩, fun x H' hy => ?_⟩
    obtain ⟨T, y, rfl, hT, rfl, hy⟩ := hy
    have ey := hy xs (sqL_mono s1 hx)
    have sT := same_upd (o := .tup [.int (i : Nat), y]) hT
    refine ⟨T, _, rfl, tup_of upd_same, rfl, _, _, rfl, _, _, rfl, rfl, ?_⟩
    refine ⟨hw _ _, ?_⟩
    refine turn i y ey _ _ _ (s1.trans sT) (fun y H2 hs s2 => ?_) (fun H2 hs s2 => ?_)
    · refine ⟨pre st i, s2 D _ (sT _ _ h1), szt (by have := pre_len hst i; omega), ?_, ?_⟩
      · exact same_put (s1.trans (sT.trans s2)) hD
      · rw [pre_succ, hs]
        exact upd_same
    · refine ⟨s1.trans (sT.trans s2), ?_⟩
      rw [pre_succ, hs, List.append_nil]
      exact s2 D _ (sT _ _ h1)
  · have e : i = xs.length := by omega
    subst e
    exact .inl ⟨⟨xs, sqL_mono s1 hx, Nat.le_refl _⟩, fin D H1 hD s1 h1⟩
/-! ### what plans do -/
theorem fit_head {l : List Nat} {f : Nat → Bool} (h : ∃ g ∈ l, f g = true) : ∃ g, (l.filter f).head? = some g ∧ g ∈ l ∧ f g = true := by
  obtain ⟨g, hg, hf⟩ := h
  cases e : l.filter f with
  | nil =>
    have := List.filter_eq_nil_iff.mp e g hg
    exact absurd hf this
  | cons x r =>
    have hx : x ∈ l.filter f := by rw [e]; exact List.mem_cons_self ..
    exact ⟨x, rfl, (List.mem_filter.mp hx).1, (List.mem_filter.mp hx).2⟩
theorem head_mem {l : List Nat} {f : Nat → Bool} {g : Nat} (h : (l.filter f).head? = some g) : g ∈ l := by
  cases e : l.filter f with
  | nil => rw [e] at h; cases h
  | cons x r =>
    rw [e] at h
    obtain rfl := Option.some.inj h
    have hx : x ∈ l.filter f := by rw [e]; exact List.mem_cons_self ..
    exact (List.mem_filter.mp hx).1
theorem near_ne {tab : Tab} {w : Nat} {l : List Nat} (g : GoodLot w l) (s : Nat) : near tab l s ≠ [] := fun z => by
  have := near_len tab l s
  rw [z] at this
  exact g.ne (List.length_eq_zero_iff.mp this.symm)
section
variable {tab : Tab} {ends l1 l2 : List Nat} {w : Nat}
theorem plan_in (s g : Nat) (h : planO tab ends l1 l2 s = some g) : g ∈ l1 := head_mem h
theorem bar_in (s g : Nat) (h : barO tab ends l1 l2 s = some g) : g ∈ l2 := head_mem h
theorem fits_plan (gt : GoodT w tab) (g1 : GoodLot w l1) (g2 : GoodLot w l2) : Fits (near tab l1) (schG tab l1 (planO tab ends l1 l2)) (near tab l2) ends tab.length where
  sub := fun s _ => schG_sub fun g h => plan_in s g h
  ne := schG_ne g1
  good := fun s r hs hr o ho => by
    have hr' := lk_some.mp hr
    have a1 := hr'.2.1
    have a0 := hr'.2.2 r (Nat.lt_succ_self r)
    rw [a_succ, a0, Bool.false_or] at a1
    unfold hasSome at a1
    rw [List.any_eq_true] at a1
    obtain ⟨o1, ho1, z⟩ := a1
    obtain ⟨g, hg, rfl⟩ := List.mem_map.mp ho1
    have hfit : fitP tab ends l1 l2 s g = true := by
      have e : hD tab ends l1 l2 s = some (r + 1) := hr
      unfold fitP
      rw [e]
      show inB (leB (tD tab ends l1 l2) (r : Int)) (goal tab s g) = true
      have z : inB (fun g => bP hasSome (near tab l1) (near tab l2) ends g r) (goal tab s g) = true := z
      cases eg : goal tab s g with
      | none => rw [eg] at z; cases z
      | some q =>
        rw [eg] at z
        have z : bP hasSome (near tab l1) (near tab l2) ends q r = true := z
        have hq : q < tab.length := goal_lt gt hs eg
        show leB (tD tab ends l1 l2) (r : Int) q = true
        unfold leB
        cases et : tD tab ends l1 l2 q with
        | none =>
          have hm := lk_none.mp et
          have r2 : r ≤ 2 * tab.length := by have := hr'.1; omega
          rw [hm r r2] at z
          cases z
        | some r' =>
          have ht := lk_some.mp et
          show decide ((r' : Int) ≤ (r : Int)) = true
          refine decide_eq_true ?_
          apply Classical.byContradiction
          intro w
          have := ht.2.2 r (by omega)
          rw [this] at z
          cases z
    obtain ⟨x, hx1, hx2, hx3⟩ := fit_head ⟨g, hg, hfit⟩
    have ep : planO tab ends l1 l2 s = some x := hx1
    unfold schG at ho
    rw [ep] at ho
    obtain rfl := List.mem_singleton.mp ho
    have e : hD tab ends l1 l2 s = some (r + 1) := hr
    unfold fitP at hx3
    rw [e] at hx3
    have hx3 : inB (leB (tD tab ends l1 l2) (r : Int)) (goal tab s x) = true := hx3
    cases eg : goal tab s x with
    | none => rw [eg] at hx3; cases hx3
    | some q =>
      rw [eg] at hx3
      have hx3 : leB (tD tab ends l1 l2) (r : Int) q = true := hx3
      unfold leB at hx3
      cases et : tD tab ends l1 l2 q with
      | none => rw [et] at hx3; cases hx3
      | some r' =>
        rw [et] at hx3
        have := of_decide_eq_true hx3
        exact ⟨q, r', rfl, et, by omega⟩
theorem bar_good (gt : GoodT w tab) (s : Nat) (hs : s < tab.length) (h : tR hasSome (near tab l1) (near tab l2) ends tab.length s = none) (g : Nat) (hg : some g ∈ schG tab l2 (barO tab ends l1 l2) s) :
    hR hasSome (near tab l1) (near tab l2) ends tab.length g = none := by
  obtain ⟨_, h2⟩ := t_none looks_some (near_good gt) (near_good gt) hs h
  unfold hasAll at h2
  rw [List.all_eq_false] at h2
  obtain ⟨o, ho, z⟩ := h2
  obtain ⟨x, hx, rfl⟩ := List.mem_map.mp ho
  have et : tD tab ends l1 l2 s = none := h
  have hfit : fitB tab ends l1 l2 s x = true := by
    unfold fitB
    rw [et]
    have z : ¬ inB (fun g => (hD tab ends l1 l2 g).isSome) (goal tab s x) = true := z
    cases eb : inB (fun g => (hD tab ends l1 l2 g).isSome) (goal tab s x) with
    | true => exact absurd eb z
    | false => rfl
  obtain ⟨y, hy1, hy2, hy3⟩ := fit_head ⟨x, hx, hfit⟩
  have ep : barO tab ends l1 l2 s = some y := hy1
  unfold schG at hg
  rw [ep] at hg
  have hg := List.mem_singleton.mp hg
  unfold fitB at hy3
  rw [et, ← hg] at hy3
  have hy3 : (true && !(hD tab ends l1 l2 g).isSome) = true := hy3
  show hD tab ends l1 l2 g = none
  cases e : hD tab ends l1 l2 g with
  | none => rfl
  | some r => rw [e] at hy3; cases hy3
/-- the longest of all plays by a plan -/
theorem lg_is (gt : GoodT w tab) (g1 : GoodLot w l1) (g2 : GoodLot w l2) {f : Nat → Option Nat} (hf : ∀ s g, s < tab.length → f s = some g → g ∈ l1) :
    lg (schG tab l1 f) (near tab l2) ends (2 * tab.length + 1) false (some 0) = hR hasAll (schG tab l1 f) (near tab l2) ends tab.length 0 := by
  have n1 := gt.n1
  rw [(lg_rank (schG_ne g1) (near_ne g2) _ 0).1]
  exact lk_more looks_all (schG_good gt hf) (near_good gt) (by omega) (by omega)
theorem plan_lg (gt : GoodT w tab) (g1 : GoodLot w l1) (g2 : GoodLot w l2) : hR hasAll (schG tab l1 (planO tab ends l1 l2)) (near tab l2) ends tab.length 0 = hD tab ends l1 l2 0 :=
  fits_rank (near_good gt) (near_good gt) (fits_plan gt g1 g2) (by have := gt.n1; omega)
theorem bar_nv (gt : GoodT w tab) (h : hD tab ends l1 l2 0 = none) (l : Nat) : nv (near tab l1) (schG tab l2 (barO tab ends l1 l2)) ends l false (some 0) = true :=
  (nv_ok (near_good gt) (near_good gt) (schG_good gt fun s g _ h => bar_in s g h) (fun s hs ht g hg => bar_good gt s hs ht g hg) l 0 (by have := gt.n1; omega)).1 h
theorem few_none (h : hD tab ends l1 l2 0 = none) : (List.range (2 * tab.length + 1)).filter (aP hasSome (near tab l1) (near tab l2) ends 0) = [] := by
  rw [List.filter_eq_nil_iff]
  intro k hk
  rw [lk_none.mp h k (by have := List.mem_range.mp hk; omega)]
  exact Bool.false_ne_true
theorem few_some {r : Nat} (h : hD tab ends l1 l2 0 = some r) : ∃ rest, (List.range (2 * tab.length + 1)).filter (aP hasSome (near tab l1) (near tab l2) ends 0) = r :: rest := by
  obtain ⟨h1, h2, h3⟩ := lk_some.mp h
  have e : List.range (2 * tab.length + 1) = List.range r ++ (List.range (2 * tab.length + 1 - r)).map (r + ·) := by
    rw [← List.range_add]
    congr 1
    omega
  have e2 : List.range (2 * tab.length + 1 - r) = 0 :: (List.range (2 * tab.length - r)).map Nat.succ := by
    rw [show 2 * tab.length + 1 - r = (2 * tab.length - r) + 1 by omega, List.range_succ_eq_map]
  rw [e, List.filter_append, e2, List.map_cons, List.filter_cons]
  have e3 : (List.range r).filter (aP hasSome (near tab l1) (near tab l2) ends 0) = [] := by
    rw [List.filter_eq_nil_iff]
    intro k hk
    rw [h3 k (List.mem_range.mp hk)]
    exact Bool.false_ne_true
  rw [e3, Nat.add_zero, if_pos h2]
  exact ⟨_, rfl⟩
end
theorem ints_lay : ∀ l : List Nat, PyData.canLayAll0 (l.map fun (k : Nat) => PyData.int (k : Int)) = true
  | [] => rfl
  | p :: l => by
    show (true && PyData.canLayAll0 (l.map fun (k : Nat) => PyData.int (k : Int))) = true
    rw [ints_lay l]
    rfl
theorem ints_depth : ∀ l : List Nat, PyData.depthAll (l.map fun (k : Nat) => PyData.int (k : Int)) = 0
  | [] => rfl
  | p :: l => by
    show max 0 (PyData.depthAll (l.map fun (k : Nat) => PyData.int (k : Int))) = 0
    rw [ints_depth l]
    rfl
theorem ints_shaped (l : List Nat) : SeqAt.shaped (.list (l.map fun (k : Nat) => PyData.int (k : Int))) = true := by
  unfold SeqAt.shaped
  rw [Bool.and_eq_true]
  refine ⟨ints_lay l, decide_eq_true ?_⟩
  show PyData.depthAll (l.map fun (k : Nat) => PyData.int (k : Int)) + 1 ≤ 64
  rw [ints_depth l]
  decide
theorem dps_nat {H : Hp} (ns : List Nat) : DpAll K H (ns.map nV) (ns.map fun (k : Nat) => PyData.int (k : Int)) := by
  have := ints_dps (K := K) (H := H) (ns.map Int.ofNat)
  rw [List.map_map, List.map_map] at this
  exact this
end K6


set_option Elab.async false
set_option linter.all false
set_option maxRecDepth 100000
set_option maxHeartbeats 4000000
namespace K6
open PySem PySem.Spec PyProof.Rows L2 Rw
variable {P : Program} {w : World} {K : PySem.W.Frag} {mg : Str → Option Value} {base : Heap} {A : Ad} {fd : Fds}
def spTold (K : PySem.W.Frag) (C : Addr) : Sp := fun vs H Q _ => ∃ (v lv : V) (p : Addr) (w : Nat) (tab : Tab) (ends l1 l2 : List Nat), vs = [v, .ref p, lv] ∧ TrAt K H v w tab ends ∧ LtAt K H lv l1 l2 ∧ Duel K C H p w tab ends l1 l2 ∧ w ≤ 3 ∧ tab.length ≤ 3 ∧
  ∀ H', Same H H' → Q (.bl true) H'
theorem ok_l_told_right (T : Txt K mg A) (U : Funs K A fd) : FnOk P w K mg base CX0 43 A.l_told_right fd.l_told_right p_l_told_right (spTold K A.C) := by
  have G_turns_of := ok_turns_of (P := P) (w := w) (base := base) T U
  have b_turns_of := U.b_turns_of
  have G_l_longest := ok_l_longest (P := P) (w := w) (base := base) T U
  have b_l_longest := U.b_l_longest
  have G_l_is_scheme := ok_l_is_scheme (P := P) (w := w) (base := base) T U
  have b_l_is_scheme := U.b_l_is_scheme
  have G_least_turns := ok_least_turns (P := P) (w := w) (base := base) T U
  have b_least_turns := U.b_least_turns
  have G_l_never := ok_l_never (P := P) (w := w) (base := base) T U
  have b_l_never := U.b_l_never
  have G_barring := ok_barring (P := P) (w := w) (base := base) T U
  have b_barring := U.b_barring
  have G_plan := ok_plan (P := P) (w := w) (base := base) T U
  have b_plan := U.b_plan
  have G_l_layers := ok_l_layers (P := P) (w := w) (base := base) T U
  have b_l_layers := U.b_l_layers
  have kb_barring_0_second_first_reader := kb_barring_0_second_first_reader_of (U.F_barring)
  have kb_plan_0_second_first_reader := kb_plan_0_second_first_reader_of (U.F_plan)
  refine U.F_l_told_right.ok sc_l_told_right (fun vs H Q E h => ?_) (fun cdv A0 outer s H vs Q E hr h => ?_)
  · obtain ⟨v, lv, p, n, tab, ends, l1, l2, rfl, _⟩ := h
    rfl
  · have hu := hu_of hr
    obtain ⟨v, lv, p, n, tab, ends, l1, l2, rfl, Tr, Lt, Du, w3, h3, k⟩ := h
    refine ⟨_, (pss_cons (ps_par (i := 3) (j := 4) (by rfl) sc_l_told_right.nd rfl rfl (by decide) rfl rfl (pa_cons (pe_op op_add (pe_op op_mul pe_int (pe_callB (w_len (K := K)) (by rfl) T.b_len (by decide +kernel) (pa_cons (pe_ix (w_ixT (K := K)) (pv 0) pe_int (fun _ _ => rfl)) pa_nil))) pe_int) (pa_cons (pe_lc (own := [("_law_k", 8), ("_law_layer", 9)]) (by rfl) sc_l_told_right.nd (pi_enum (by rfl) T.b_enumerate (pa_cons (pe_call G_l_layers (hr.mono (by decide)) (by rfl) T.m_l_layers T.k_l_layers b_l_layers .nil pass0 (pa_cons (pv 0) (pa_cons (pv 2) pa_nil))) pa_nil)) (blkOk_by (own := [("_law_k", 8), ("_law_layer", 9)]) (by rfl)) (fun _ _ _ _ _ => (w_tup (K := K) (n := 2) rfl (pgs_cons (pg_name (i := 8) sc_l_told_right.nd rfl (Or.inl rfl)) (pgs_cons (pg_name (i := 9) sc_l_told_right.nd rfl (Or.inl rfl)) pgs_nil)))) (fun _ _ _ _ _ => (pts_one (pt_cmpR (w_inD (K := K) (units65 hr)) (pe_tup (pa_cons pe_int (pa_cons pe_int pa_nil))) (pv 9) (by rfl)))) (fun _ _ _ _ _ => (pv 8))) pa_nil)) (by rfl))
       (pss_cons (ps_set (i := 5) sc_l_told_right.nd rfl (Or.inl rfl) (pe_lst (pa_cons (pe_call G_plan (hr.mono (by decide)) (by rfl) T.m_plan T.k_plan b_plan .nil pass0 (pa_cons (pv 1) (pa_cons (pe_ix (w_ixL (K := K)) (pv 2) pe_int (fun _ _ => rfl)) (pa_cons (pe_ix (w_ixL (K := K)) (pv 2) pe_int (fun _ _ => rfl)) pa_nil)))) (pa_cons (pe_callK0 G_plan (hr.mono (by decide)) (by rfl) T.m_plan T.k_plan kb_plan_0_second_first_reader pass0 (pk_cons (pe_ix (w_ixL (K := K)) (pv 2) pe_int (fun _ _ => rfl)) (pk_cons (pe_ix (w_ixL (K := K)) (pv 2) pe_int (fun _ _ => rfl)) (pk_cons (pv 1) pk_nil)))) pa_nil))))
       (pss_cons (ps_set (i := 6) sc_l_told_right.nd rfl (Or.inl rfl) (pe_lst (pa_cons (pe_call G_barring (hr.mono (by decide)) (by rfl) T.m_barring T.k_barring b_barring .nil pass0 (pa_cons (pv 1) (pa_cons (pe_ix (w_ixL (K := K)) (pv 2) pe_int (fun _ _ => rfl)) (pa_cons (pe_ix (w_ixL (K := K)) (pv 2) pe_int (fun _ _ => rfl)) pa_nil)))) (pa_cons (pe_callK0 G_barring (hr.mono (by decide)) (by rfl) T.m_barring T.k_barring kb_barring_0_second_first_reader pass0 (pk_cons (pe_ix (w_ixL (K := K)) (pv 2) pe_int (fun _ _ => rfl)) (pk_cons (pe_ix (w_ixL (K := K)) (pv 2) pe_int (fun _ _ => rfl)) (pk_cons (pv 1) pk_nil)))) pa_nil))))
       (pss_cons (ps_if (pt_cmpR (w_eqD (K := K) hr.units) (pv 4) (pe_lst pa_nil) (nomark _)) (pss_cons (ps_if (pt_cmpR (w_neD (K := K) hr.units) (pv 5) (pe_lst (pa_cons pe_non (pa_cons pe_non pa_nil))) (nomark _)) (pss_one (ps_ret pe_bl)) pss_nil)
       (pss_cons (ps_for PassesOwn.never rfl (w_piL (K := K) (pv 6)) (pg_name (i := 7) sc_l_told_right.nd rfl (Or.inl rfl))
       (pss_one (ps_if (PW.pt (pw_or (pt_not (pt_val (pe_call G_l_is_scheme (hr.mono (by decide)) (by rfl) T.m_l_is_scheme T.k_l_is_scheme b_l_is_scheme .nil pass0 (pa_cons (pv 7) (pa_cons (pv 0) (pa_cons (pe_ix (w_ixL (K := K)) (pv 2) pe_int (fun _ _ => rfl)) pa_nil)))))) (pw_or1 (pt_not (pt_val (pe_call G_l_never (hr.mono (by decide)) (by rfl) T.m_l_never T.k_l_never b_l_never .nil pass0 (pa_cons (pv 0) (pa_cons (pv 2) (pa_cons (pv 7) (pa_cons pe_int (pa_cons pe_int (pa_cons (pv 3) pa_nil)))))))))))) (pss_one (ps_ret pe_bl)) pss_nil)))
       (pss_one (ps_ret (pe_cmpR op_isN (pe_call G_least_turns (hr.mono (by decide)) (by rfl) T.m_least_turns T.k_least_turns b_least_turns .nil pass0 (pa_cons (pv 1) (pa_cons (pe_ix (w_ixL (K := K)) (pv 2) pe_int (fun _ _ => rfl)) (pa_cons (pe_ix (w_ixL (K := K)) (pv 2) pe_int (fun _ _ => rfl)) pa_nil)))) pe_non (nomark _)))))) pss_nil)
       (pss_cons (ps_if (PW.pt (pw_or (pt_cmpR (w_neD (K := K) hr.units) (pv 6) (pe_lst (pa_cons pe_non (pa_cons pe_non pa_nil))) (nomark _)) (pw_or1 (pt_cmpR op_ne (pe_call G_least_turns (hr.mono (by decide)) (by rfl) T.m_least_turns T.k_least_turns b_least_turns .nil pass0 (pa_cons (pv 1) (pa_cons (pe_ix (w_ixL (K := K)) (pv 2) pe_int (fun _ _ => rfl)) (pa_cons (pe_ix (w_ixL (K := K)) (pv 2) pe_int (fun _ _ => rfl)) pa_nil)))) (pe_ix (w_ixL (K := K)) (pv 4) pe_int (fun _ _ => rfl)) (nomark _))))) (pss_one (ps_ret pe_bl)) pss_nil)
       (pss_cons (ps_for PassesOwn.never rfl (w_piL (K := K) (pv 5)) (pg_name (i := 7) sc_l_told_right.nd rfl (Or.inl rfl))
       (pss_cons (ps_if (PW.pt (pw_or (pt_not (pt_val (pe_call G_l_is_scheme (hr.mono (by decide)) (by rfl) T.m_l_is_scheme T.k_l_is_scheme b_l_is_scheme .nil pass0 (pa_cons (pv 7) (pa_cons (pv 0) (pa_cons (pe_ix (w_ixL (K := K)) (pv 2) pe_int (fun _ _ => rfl)) pa_nil)))))) (pw_or1 (pt_cmpR op_ne (pe_call G_l_longest (hr.mono (by decide)) (by rfl) T.m_l_longest T.k_l_longest b_l_longest .nil pass0 (pa_cons (pv 0) (pa_cons (pv 2) (pa_cons (pv 7) (pa_cons pe_int (pa_cons pe_int (pa_cons (pv 3) pa_nil))))))) (pe_ix (w_ixL (K := K)) (pv 4) pe_int (fun _ _ => rfl)) (nomark _))))) (pss_one (ps_ret pe_bl)) pss_nil)
       (pss_one (ps_if (pt_cmpR op_ne (pe_call G_turns_of (hr.mono (by decide)) (by rfl) T.m_turns_of T.k_turns_of b_turns_of .nil pass0 (pa_cons (pv 1) (pa_cons (pe_ix (w_ixL (K := K)) (pv 2) pe_int (fun _ _ => rfl)) (pa_cons (pe_ix (w_ixL (K := K)) (pv 2) pe_int (fun _ _ => rfl)) (pa_cons (pv 7) pa_nil))))) (pe_ix (w_ixL (K := K)) (pv 4) pe_int (fun _ _ => rfl)) (nomark _)) (pss_one (ps_ret pe_bl)) pss_nil))))
       (pss_one (ps_ret pe_bl)))))))), ?_⟩
    have gt := Du.gt
    have g1 := Du.g1
    have g2 := Du.g2
    have n1 := gt.n1
    have a8 := g1.len
    have b8 := g2.len
    obtain ⟨t, a, e, rfl, ht, ha, he⟩ := Tr.ob
    obtain ⟨lp, rfl, hlp⟩ := Lt.ob
    obtain ⟨a', xs, e1, hx, hds⟩ := dp_tup ha
    obtain rfl := V.ref.inj e1
    have hxl : xs.length = tab.length := by rw [dps_len hds, List.length_map]
    refine g_seq (g_par ?_)
    refine ⟨_, rfl, t, _, _, _, rfl, rfl, ht, rfl, _, _, rfl, .inr ⟨_, hx, rfl⟩, _, _, rfl, rfl, .inl ⟨by decide, by decide⟩, _, _, rfl, rfl, ?_⟩
    refine ⟨_, rfl, _, rfl, .ref t, .ref lp, n, tab, ends, l1, l2, rfl, Tr, Lt, gt, Du.ge, g1, g2, h3, fun L refs H1 s1 hL hl hlay => ⟨L, refs, rfl, hL, ?_⟩⟩
    refine lE (xs := refs) (selAt (aP hasSome (near tab l1) (near tab l2) ends 0)) hL (fun i => by unfold selAt; split <;> simp) (by omega) ?_ (fun i x hi H2 R N s2 ry rn => ?_) (fun fe H2 hfe s2 h2 => ?_)
    · exact fun _ _ => rfl
    · have hin : i < 2 * tab.length + 1 := by have := lt_of_get hi; omega
      obtain ⟨q, ds, eq, hd, sd, hv⟩ := hlay i (by omega)
      rw [hi] at eq
      obtain rfl := Option.some.inj eq
      refine ⟨by show 2 ≤ sizeLine; decide, fun u hu => ⟨_, rfl, .tuple [.int 0, .int 0], ds, .tup (tup_of upd_same) (.cons (.int _) (.cons (.int _) .nil)), dp_mono (s2.trans (same_upd hu)) _ _ hd, rfl, sd, _, rfl, ?_⟩⟩
      rw [hv]
      cases eb : aP hasSome (near tab l1) (near tab l2) ends 0 i with
      | true => exact iteT ⟨_, rfl, ry _ _ (if_pos eb) (same_upd hu)⟩
      | false => exact iteF (rn _ (if_neg (by rw [eb]; exact Bool.false_ne_true)) (same_upd hu))
    rw [pre_sel, hl] at h2
    have s02 := s1.trans s2
    have Du2 := Du.mono s02
    have hlp2 := sqL_mono s02 hlp
    refine ⟨_, _, rfl, ?_⟩
    dsimp only
    cases e0 : hD tab ends l1 l2 0 with
    | none =>
      rw [few_none e0] at h2
      -- told
      refine ⟨_, rfl, _, rfl, lp, _, _, _, rfl, rfl, hlp2, rfl, _, rfl, lp, _, _, _, rfl, rfl, hlp2, rfl, p, n, tab, ends, l1, l2, rfl, Du2, (fun _ H3 s3 => ?_), (fun r h => by rw [e0] at h; cases h)⟩
      have hlp3 := sqL_mono s3 hlp2
      refine ⟨_, rfl, lp, _, _, _, rfl, rfl, hlp3, rfl, _, rfl, lp, _, _, _, rfl, rfl, hlp3, rfl, _, rfl, p, n, tab, ends, l1, l2, rfl, Du2.mono s3, (fun _ H4 s4 => ?_), (fun r h => by rw [e0] at h; cases h)⟩
      refine ⟨by show 2 ≤ sizeLine; decide, fun T1 hT1 => ?_⟩
      have s5 := (s3.trans s4).trans (same_upd (o := .lst [.non, .non]) hT1)
      have hT : (upd H4 T1 (.lst [.non, .non])) T1 = some (.lst [.non, .non]) := upd_same
      generalize upd H4 T1 (.lst [.non, .non]) = H5 at s5 hT
      have hlp5 := sqL_mono s5 hlp2
      have Du5 := Du2.mono s5
      -- bars
      refine ⟨_, rfl, _, rfl, lp, _, _, _, rfl, rfl, hlp5, rfl, _, rfl, lp, _, _, _, rfl, rfl, hlp5, rfl, p, n, tab, ends, l1, l2, rfl, Du5, (fun r h => by rw [e0] at h; cases h), (fun _ b1 H6 s6 hb1 => ?_)⟩
      have hlp6 := sqL_mono s6 hlp5
      refine ⟨_, rfl, lp, _, _, _, rfl, rfl, hlp6, rfl, _, rfl, lp, _, _, _, rfl, rfl, hlp6, rfl, _, rfl, p, n, tab, ends, l1, l2, rfl, Du5.mono s6, (fun r h => by rw [e0] at h; cases h), (fun _ b2 H7 s7 hb2 => ?_)⟩
      refine ⟨by show 2 ≤ sizeLine; decide, fun B1 hB1 => ?_⟩
      have s78 := s7.trans (same_upd (o := .lst [.ref b1, .ref b2]) hB1)
      have s8 := s6.trans s78
      have hB : (upd H7 B1 (.lst [.ref b1, .ref b2])) B1 = some (.lst [.ref b1, .ref b2]) := upd_same
      have hb1' := s78 _ _ hb1
      have hb2' := (same_upd (o := .lst [.ref b1, .ref b2]) hB1) _ _ hb2
      generalize upd H7 B1 (.lst [.ref b1, .ref b2]) = H8 at s8 hB hb1' hb2'
      -- fewest == []
      refine ⟨_, rfl, Nat.zero_le _, fun E1 hE1 => ?_⟩
      have s9 := same_upd (o := .lst []) hE1
      refine ⟨.list [], .list [], .lst (lst_of (s9 _ _ (s8 _ _ (s5 _ _ h2)))) .nil, .lst (lst_of upd_same) .nil, rfl, rfl, _, rfl, iteT ?_⟩
      refine ⟨_, rfl, by show 2 ≤ sizeLine; decide, fun E2 hE2 => ?_⟩
      have s10 := s9.trans (same_upd (o := .lst [.non, .non]) hE2)
      refine ⟨.list [.none, .none], .list [.none, .none], .lst (lst_of (s10 _ _ (s8 _ _ hT))) (.cons .non (.cons .non .nil)), .lst (lst_of upd_same) (.cons .non (.cons .non .nil)), rfl, rfl, _, rfl, iteF (g_next ?_)⟩
      have hB10 := s10 _ _ hB
      have sAll : Same H _ := s02.trans (s5.trans (s8.trans s10))
      have hb1'' := s10 _ _ hb1'
      have hb2'' := s10 _ _ hb2'
      generalize upd (upd H8 E1 (.lst [])) E2 (.lst [.non, .non]) = Hx at hB10 sAll hb1'' hb2''
      refine ⟨_, rfl, B1, rfl, ⟨_, lst_of hB10⟩, ?_⟩
      refine for_list (xs := [.ref b1, .ref b2]) (fun i σ H' => ∃ y7, σ = [some (.ref t), some (.ref p), some (.ref lp), some (.int (2 * (xs.length : Int) + 1)), some (.ref fe), some (.ref T1), some (.ref B1), y7, none, none] ∧ Same Hx H') ?_ ?_ ?_ ?_
      · exact ⟨none, rfl, Same.refl _⟩
      · rintro i σ H' _ ⟨_, _, s⟩
        exact lst_of (s _ _ hB10)
      · rintro i x σ H' hi ⟨y7, rfl, s⟩
        obtain ⟨bb, rfl, hbb⟩ : ∃ bb, x = .ref bb ∧ Hx bb = some (.tup (schV tab.length (barO tab ends l1 l2))) := by
          have := List.mem_of_getElem? hi
          simp at this
          rcases this with rfl | rfl
          · exact ⟨b1, rfl, hb1''⟩
          · exact ⟨b2, rfl, hb2''⟩
        have sH := sAll.trans s
        refine ⟨_, rfl, _, rfl, _, rfl, lp, _, _, _, rfl, rfl, sqL_mono sH hlp, rfl, bb, .ref t, n, tab, ends, barO tab ends l1 l2, l2, rfl, Tr.mono sH, by omega, by omega, tup_of (s _ _ hbb), (fun s g _ h => bar_in s g h), fun H'' s'' => ⟨_, rfl, iteF ?_⟩⟩
        have sH2 := sH.trans s''
        refine ⟨_, rfl, _, rfl, _, rfl, _, rfl, 2 * tab.length + 1, by omega, .ref t, .ref lp, bb, n, tab, ends, l1, l2, barO tab ends l1 l2, some 0, 0, ?_, Tr.mono sH2, Lt.mono sH2, tup_of (s'' _ _ (s _ _ hbb)), gt, Du.ge, g1, g2, (fun s g _ h => by rw [if_neg (by decide)]; exact bar_in s g h), (fun g hg => by obtain rfl := Option.some.inj hg; omega), by decide, fun H3' s3' => ?_⟩
        · show [V.ref t, .ref lp, .ref bb, .int 0, .int 0, .int (2 * (xs.length : Int) + 1)] = _
          rw [show (2 * (xs.length : Int) + 1) = ((2 * tab.length + 1 : Nat) : Int) by omega]
          rfl
        · have e : nvR (2 * tab.length + 1) tab ends l1 l2 (barO tab ends l1 l2) (decide (0 = 1)) (some 0) = .bl true := congrArg V.bl (bar_nv gt e0 _)
          rw [e]
          exact ⟨_, rfl, iteF (g_next ⟨_, rfl, s.trans (s''.trans s3')⟩)⟩
      · rintro σ H' ⟨y7, rfl, s⟩
        have sH := sAll.trans s
        refine ⟨_, rfl, _, rfl, lp, _, _, _, rfl, rfl, sqL_mono sH hlp, rfl, _, rfl, lp, _, _, _, rfl, rfl, sqL_mono sH hlp, rfl, p, n, tab, ends, l1, l2, rfl, Du.mono sH, fun H'' s'' => ?_⟩
        rw [e0]
        exact ⟨rfl, k H'' (sH.trans s'')⟩
    | some r =>
      obtain ⟨rest, ef⟩ := few_some e0
      rw [ef] at h2
      -- told
      refine ⟨_, rfl, _, rfl, lp, _, _, _, rfl, rfl, hlp2, rfl, _, rfl, lp, _, _, _, rfl, rfl, hlp2, rfl, p, n, tab, ends, l1, l2, rfl, Du2, (fun h => by rw [e0] at h; cases h), (fun _ _ b1 H3 s3 hb1 => ?_)⟩
      have hlp3 := sqL_mono s3 hlp2
      refine ⟨_, rfl, lp, _, _, _, rfl, rfl, hlp3, rfl, _, rfl, lp, _, _, _, rfl, rfl, hlp3, rfl, _, rfl, p, n, tab, ends, l1, l2, rfl, Du2.mono s3, (fun h => by rw [e0] at h; cases h), (fun _ _ b2 H4 s4 hb2 => ?_)⟩
      refine ⟨by show 2 ≤ sizeLine; decide, fun T1 hT1 => ?_⟩
      have s45 := same_upd (o := .lst [.ref b1, .ref b2]) hT1
      have s5 := (s3.trans s4).trans s45
      have hT : (upd H4 T1 (.lst [.ref b1, .ref b2])) T1 = some (.lst [.ref b1, .ref b2]) := upd_same
      have hb1' := s45 _ _ (s4 _ _ hb1)
      have hb2' := s45 _ _ hb2
      clear s45
      generalize upd H4 T1 (.lst [.ref b1, .ref b2]) = H5 at s5 hT hb1' hb2'
      have hlp5 := sqL_mono s5 hlp2
      have Du5 := Du2.mono s5
      -- bars
      refine ⟨_, rfl, _, rfl, lp, _, _, _, rfl, rfl, hlp5, rfl, _, rfl, lp, _, _, _, rfl, rfl, hlp5, rfl, p, n, tab, ends, l1, l2, rfl, Du5, (fun _ _ H6 s6 => ?_), (fun h => by rw [e0] at h; cases h)⟩
      have hlp6 := sqL_mono s6 hlp5
      refine ⟨_, rfl, lp, _, _, _, rfl, rfl, hlp6, rfl, _, rfl, lp, _, _, _, rfl, rfl, hlp6, rfl, _, rfl, p, n, tab, ends, l1, l2, rfl, Du5.mono s6, (fun _ _ H7 s7 => ?_), (fun h => by rw [e0] at h; cases h)⟩
      refine ⟨by show 2 ≤ sizeLine; decide, fun B1 hB1 => ?_⟩
      have s8 := s6.trans (s7.trans (same_upd (o := .lst [.non, .non]) hB1))
      have hB : (upd H7 B1 (.lst [.non, .non])) B1 = some (.lst [.non, .non]) := upd_same
      generalize upd H7 B1 (.lst [.non, .non]) = H8 at s8 hB
      -- fewest == []
      have hfe8 := s8 _ _ (s5 _ _ h2)
      refine ⟨_, rfl, Nat.zero_le _, fun E1 hE1 => ?_⟩
      have s9 := same_upd (o := .lst []) hE1
      refine ⟨.list ((r :: rest).map fun (k : Nat) => .int (k : Int)), .list [], .lst (lst_of (s9 _ _ hfe8)) (dps_nat _), .lst (lst_of upd_same) .nil, ints_shaped _, rfl, _, rfl, iteF (g_next ?_)⟩
      refine ⟨_, rfl, by show 2 ≤ sizeLine; decide, fun E2 hE2 => ?_⟩
      have s10 := s9.trans (same_upd (o := .lst [.non, .non]) hE2)
      refine ⟨.list [.none, .none], .list [.none, .none], .lst (lst_of (s10 _ _ hB)) (.cons .non (.cons .non .nil)), .lst (lst_of upd_same) (.cons .non (.cons .non .nil)), rfl, rfl, _, rfl, iteF ?_⟩
      have hT10 := s10 _ _ (s8 _ _ hT)
      have hfe10 := s10 _ _ hfe8
      have sAll : Same H _ := s02.trans (s5.trans (s8.trans s10))
      have hb1'' := s10 _ _ (s8 _ _ hb1')
      have hb2'' := s10 _ _ (s8 _ _ hb2')
      generalize upd (upd H8 E1 (.lst [])) E2 (.lst [.non, .non]) = Hx at hT10 hfe10 sAll hb1'' hb2''
      refine ⟨_, rfl, _, rfl, lp, _, _, _, rfl, rfl, sqL_mono sAll hlp, rfl, _, rfl, lp, _, _, _, rfl, rfl, sqL_mono sAll hlp, rfl, p, n, tab, ends, l1, l2, rfl, Du.mono sAll, fun Hy sy => ?_⟩
      rw [e0]
      refine ⟨_, rfl, fe, _, _, _, rfl, rfl, lst_of (sy _ _ hfe10), atI_nat (j := 0) (show ((r :: rest).map nV)[0]? = some (nV r) from rfl), rfl, _, rfl, ?_⟩
      rw [decide_eq_true (show vO (some r) = nV r from rfl)]
      refine iteF (g_next ?_)
      refine ⟨_, rfl, T1, rfl, ⟨_, lst_of (sy _ _ hT10)⟩, ?_⟩
      refine for_list (xs := [.ref b1, .ref b2]) (fun i σ H' => ∃ y7, σ = [some (.ref t), some (.ref p), some (.ref lp), some (.int (2 * (xs.length : Int) + 1)), some (.ref fe), some (.ref T1), some (.ref B1), y7, none, none] ∧ Same Hx H') ?_ ?_ ?_ ?_
      · exact ⟨none, rfl, sy⟩
      · rintro i σ H' _ ⟨_, _, s⟩
        exact lst_of (s _ _ hT10)
      · rintro i x σ H' hi ⟨y7, rfl, s⟩
        obtain ⟨bb, rfl, hbb⟩ : ∃ bb, x = .ref bb ∧ Hx bb = some (.tup (schV tab.length (planO tab ends l1 l2))) := by
          have := List.mem_of_getElem? hi
          simp at this
          rcases this with rfl | rfl
          · exact ⟨b1, rfl, hb1''⟩
          · exact ⟨b2, rfl, hb2''⟩
        have sH := sAll.trans s
        refine ⟨_, rfl, _, rfl, _, rfl, lp, _, _, _, rfl, rfl, sqL_mono sH hlp, rfl, bb, .ref t, n, tab, ends, planO tab ends l1 l2, l1, rfl, Tr.mono sH, by omega, by omega, tup_of (s _ _ hbb), (fun s g _ h => plan_in s g h), fun H'' s'' => ⟨_, rfl, iteF ?_⟩⟩
        have sH2 := sH.trans s''
        refine ⟨_, rfl, _, rfl, _, rfl, _, rfl, 2 * tab.length + 1, by omega, .ref t, .ref lp, bb, n, tab, ends, l1, l2, planO tab ends l1 l2, some 0, 0, ?_, Tr.mono sH2, Lt.mono sH2, tup_of (s'' _ _ (s _ _ hbb)), gt, Du.ge, g1, g2, (fun s g _ h => by rw [if_pos rfl]; exact plan_in s g h), (fun g hg => by obtain rfl := Option.some.inj hg; omega), by decide, fun H3' s3' => ?_⟩
        · show [V.ref t, .ref lp, .ref bb, .int 0, .int 0, .int (2 * (xs.length : Int) + 1)] = _
          rw [show (2 * (xs.length : Int) + 1) = ((2 * tab.length + 1 : Nat) : Int) by omega]
          rfl
        · have e : lgR (2 * tab.length + 1) tab ends l1 l2 (planO tab ends l1 l2) (decide (0 = 1)) (some 0) = vO (some r) := by
            unfold lgR
            rw [← e0, ← plan_lg gt g1 g2, ← lg_is gt g1 g2 fun s g _ h => plan_in s g h]
            rfl
          have sx3 := s.trans (s''.trans s3')
          have sH3 := sAll.trans sx3
          rw [e]
          refine ⟨_, rfl, fe, _, _, _, rfl, rfl, lst_of (sx3 _ _ hfe10), atI_nat (j := 0) (show ((r :: rest).map nV)[0]? = some (nV r) from rfl), rfl, _, rfl, ?_⟩
          rw [decide_eq_true (show vO (some r) = nV r from rfl)]
          refine iteF (g_next ?_)
          refine ⟨_, rfl, _, rfl, lp, _, _, _, rfl, rfl, sqL_mono sH3 hlp, rfl, _, rfl, lp, _, _, _, rfl, rfl, sqL_mono sH3 hlp, rfl, _, rfl, p, bb, n, tab, ends, l1, l2, planO tab ends l1 l2, rfl, Du.mono sH3, w3, tup_of (sx3 _ _ hbb), (fun s g _ h => plan_in s g h), fun H4' s4' => ?_⟩
          rw [plan_lg gt g1 g2, e0]
          refine ⟨_, rfl, fe, _, _, _, rfl, rfl, lst_of (s4' _ _ (sx3 _ _ hfe10)), atI_nat (j := 0) (show ((r :: rest).map nV)[0]? = some (nV r) from rfl), rfl, _, rfl, ?_⟩
          rw [decide_eq_true (show vO (some r) = nV r from rfl)]
          exact iteF (g_next ⟨_, rfl, sx3.trans s4'⟩)
      · rintro σ H' ⟨y7, rfl, s⟩
        exact k H' (sAll.trans s)
end K6


set_option Elab.async false
set_option linter.all false
set_option maxRecDepth 100000
set_option maxHeartbeats 4000000
namespace K6
open PySem PySem.Spec PyProof.Rows L2 Rw
variable {P : Program} {w : World} {K : PySem.W.Frag} {mg : Str → Option Value} {base : Heap} {A : Ad} {fd : Fds}
theorem eqv_same {d : PyData} (h : SeqAt.shaped d = true) : PyData.eqv d d = true := SeqAt.eqv_refl d (SeqAt.canLay_of_shaped h)
theorem pair_shaped (o : Option Nat) : SeqAt.shaped (.list [dO o, dO o]) = true := by cases o <;> rfl
theorem sch_mem {l : List Nat} {x : V} (h : x ∈ (List.replicate (2 : Int).toNat (signV (rowS l))).flatten ++ [V.non]) : ∃ o : Option Nat, (∀ g, o = some g → g ∈ l) ∧ x = sV o := by
  rcases List.mem_append.mp h with h | h
  · obtain ⟨z, hz, hx⟩ := List.mem_flatten.mp h
    obtain rfl := List.eq_of_mem_replicate hz
    unfold signV rowS at hx
    rw [List.toList_toArray, List.map_map] at hx
    obtain ⟨g, hg, rfl⟩ := List.mem_map.mp hx
    exact ⟨some g, (fun y e => by obtain rfl := Option.some.inj e; exact hg), rfl⟩
  · exact ⟨none, (fun g z => nomatch z), List.mem_singleton.mp h⟩
theorem signV_len (l : List Nat) : (signV (rowS l)).length = l.length := by unfold signV; rw [List.length_map, Array.length_toList, rowS_size]
def spRight : Sp := fun vs H Q _ => ∃ b : Addr, vs = [.ref b] ∧ BarAt H b ∧ ∀ H', Keep b H H' → Q (.bl true) H'
theorem ok_l_right (T : Txt K mg A) (U : Funs K A fd) : FnOk P w K mg base CX0 46 A.l_right fd.l_right p_l_right (spRight) := by
  have G_l_pull := ok_l_pull (P := P) (w := w) (base := base) T U
  have b_l_pull := U.b_l_pull
  have G_turns_of := ok_turns_of (P := P) (w := w) (base := base) T U
  have b_turns_of := U.b_turns_of
  have G_l_longest := ok_l_longest (P := P) (w := w) (base := base) T U
  have b_l_longest := U.b_l_longest
  have G_l_one_of := ok_l_one_of (P := P) (w := w) (base := base) T U
  have b_l_one_of := U.b_l_one_of
  have G_l_told_right := ok_l_told_right (P := P) (w := w) (base := base) T U
  have b_l_told_right := U.b_l_told_right
  have G_l_lots := ok_l_lots (P := P) (w := w) (base := base) T U
  have b_l_lots := U.b_l_lots
  have G_Reader_init := ok_Reader_init (P := P) (w := w) (base := base) T U
  have b_Reader_init := U.b_Reader_init
  have G_l_trio := ok_l_trio (P := P) (w := w) (base := base) T U
  have b_l_trio := U.b_l_trio
  have kb_turns_of_0_plan_second_first_reader := kb_turns_of_0_plan_second_first_reader_of (U.F_turns_of)
  refine U.F_l_right.ok sc_l_right (fun vs H Q E h => ?_) (fun cdv A0 outer s H vs Q E hr h => ?_)
  · obtain ⟨b, rfl, _⟩ := h
    rfl
  · have hu := hu_of hr
    obtain ⟨b, rfl, B, k⟩ := h
    refine ⟨_, (pss_cons (ps_for PassesOwn.never rfl (pi_range1 (by rfl) T.b_range (pa_cons (pe_op op_add pe_int (pe_callTy call_int1 (by rfl) T.b_int (by decide +kernel) (pa_cons (pe_cmpR op_eq (pe_call G_l_pull (hr.mono (by decide)) (by rfl) T.m_l_pull T.k_l_pull b_l_pull .nil pass0 (pa_cons (pv 0) (pa_cons pe_int pa_nil))) pe_int (nomark _)) pa_nil))) pa_nil)) (pg_name (i := 1) sc_l_right.nd rfl (Or.inl rfl))
       (pss_cons (ps_set (i := 2) sc_l_right.nd rfl (Or.inl rfl) (pe_call G_l_one_of (hr.mono (by decide)) (by rfl) T.m_l_one_of T.k_l_one_of b_l_one_of .nil pass0 (pa_cons (pv 0) (pa_cons (pe_lst (pa_cons pe_int (pa_cons pe_int (pa_cons pe_int (pa_cons pe_int (pa_cons pe_int pa_nil)))))) pa_nil))))
       (pss_cons (ps_set (i := 3) sc_l_right.nd rfl (Or.inl rfl) (pe_call G_l_trio (hr.mono (by decide)) (by rfl) T.m_l_trio T.k_l_trio b_l_trio .nil pass0 (pa_cons (pv 0) (pa_cons (pv 2) (pa_cons (pe_ifExp (pt_cmpR op_lt (pv 2) pe_int (nomark _)) pe_int pe_int) pa_nil)))))
       (pss_cons (ps_asg (pe_tup (pa_cons (pe_make T.mk_Reader G_Reader_init (hr.mono (by decide)) (by rfl) T.m_Reader b_Reader_init .nil pass0 (pa_cons (pe_ix (w_ixT (K := K)) (pv 3) pe_int (fun _ _ => rfl)) (pa_cons (pe_ix (w_ixT (K := K)) (pv 3) pe_int (fun _ _ => rfl)) (pa_cons (pe_ix (w_ixT (K := K)) (pv 3) pe_int (fun _ _ => rfl)) pa_nil)))) (pa_cons (pe_call G_l_lots (hr.mono (by decide)) (by rfl) T.m_l_lots T.k_l_lots b_l_lots .nil pass0 (pa_cons (pv 0) (pa_cons (pv 2) pa_nil))) pa_nil))) (w_tup (K := K) (n := 2) rfl (pgs_cons (pg_name (i := 4) sc_l_right.nd rfl (Or.inl rfl)) (pgs_cons (pg_name (i := 5) sc_l_right.nd rfl (Or.inr rfl)) pgs_nil))))
       (pss_cons (ps_if (pt_not (pt_val (pe_call G_l_told_right (hr.mono (by decide)) (by rfl) T.m_l_told_right T.k_l_told_right b_l_told_right .nil pass0 (pa_cons (pv 3) (pa_cons (pv 4) (pa_cons (pv 5) pa_nil)))))) (pss_one (ps_ret pe_bl)) pss_nil)
       (pss_one (ps_for PassesOwn.never rfl (pi_range1 (by rfl) T.b_range (pa_cons pe_int pa_nil)) (pg_name (i := 6) sc_l_right.nd rfl (Or.inl rfl))
       (pss_cons (ps_set (i := 7) sc_l_right.nd rfl (Or.inl rfl) (pe_callTy (w_tuple (K := K)) (by rfl) T.b_tuple (by decide +kernel) (pa_cons (pe_lc (own := [("_law_k", 10)]) (g := gName 10) (tt := tYes) (by rfl) sc_l_right.nd (w_piT (K := K) (pe_ix (w_ixT (K := K)) (pv 3) pe_int (fun _ _ => rfl))) (blkOk_by (own := [("_law_k", 10)]) (by rfl)) (fun _ _ _ _ _ => (pg_name (i := 10) sc_l_right.nd rfl (Or.inl rfl))) (fun _ _ _ _ _ => pts_nil) (fun _ _ _ _ _ => (pe_call G_l_one_of (hr.mono (by decide)) (by rfl) T.m_l_one_of T.k_l_one_of b_l_one_of .nil pass0 (pa_cons (pv 0) (pa_cons (pe_op op_cat (pe_op op_rep (pe_callTy (call_listS rfl) (by rfl) T.b_list (by decide +kernel) (pa_cons (pe_ix (w_ixL (K := K)) (pv 5) pe_int (fun _ _ => rfl)) pa_nil)) pe_int) (pe_lst (pa_cons pe_non pa_nil))) pa_nil))))) pa_nil)))
       (pss_cons (ps_set (i := 8) sc_l_right.nd rfl (Or.inl rfl) (pe_call G_l_longest (hr.mono (by decide)) (by rfl) T.m_l_longest T.k_l_longest b_l_longest .nil pass0 (pa_cons (pv 3) (pa_cons (pv 5) (pa_cons (pv 7) (pa_cons pe_int (pa_cons pe_int (pa_cons (pe_op op_add (pe_op op_mul pe_int (pe_callB (w_len (K := K)) (by rfl) T.b_len (by decide +kernel) (pa_cons (pe_ix (w_ixT (K := K)) (pv 3) pe_int (fun _ _ => rfl)) pa_nil))) pe_int) pa_nil))))))))
       (pss_cons (ps_set (i := 9) sc_l_right.nd rfl (Or.inl rfl) (pe_lst (pa_cons (pe_call G_turns_of (hr.mono (by decide)) (by rfl) T.m_turns_of T.k_turns_of b_turns_of .nil pass0 (pa_cons (pv 4) (pa_cons (pe_ix (w_ixL (K := K)) (pv 5) pe_int (fun _ _ => rfl)) (pa_cons (pe_ix (w_ixL (K := K)) (pv 5) pe_int (fun _ _ => rfl)) (pa_cons (pv 7) pa_nil))))) pa_nil)))
       (pss_cons (ps_expr (w_bm (K := K) PySem.F.plainAttrs_list PySem.F.slot_list_append PySem.F.type_list_append mt_append (pv 9) (pa_cons (pe_callK0 G_turns_of (hr.mono (by decide)) (by rfl) T.m_turns_of T.k_turns_of kb_turns_of_0_plan_second_first_reader pass0 (pk_cons (pv 7) (pk_cons (pe_ix (w_ixL (K := K)) (pv 5) pe_int (fun _ _ => rfl)) (pk_cons (pe_ix (w_ixL (K := K)) (pv 5) pe_int (fun _ _ => rfl)) (pk_cons (pv 4) pk_nil))))) pa_nil)))
       (pss_one (ps_if (pt_cmpR (w_neD (K := K) hr.units) (pv 9) (pe_lst (pa_cons (pv 8) (pa_cons (pv 8) pa_nil))) (nomark _)) (pss_one (ps_ret pe_bl)) pss_nil)))))))))))))
       (pss_one (ps_ret pe_bl))), ?_⟩
    refine ⟨_, rfl, b, 6, rfl, B, by decide, by decide, fun r0 H1 hr0 k1 B1 => ⟨rfl, .inr ⟨_, rfl, _, _, rfl, rfl, ?_⟩⟩⟩
    refine ⟨_, rfl, by split <;> omega, by split <;> omega, ?_⟩
    refine for_range (lo := 0) (fun i σ H' => ∃ y1 y2 y3 y4 y5 y6 y7 y8 y9, σ = [some (.ref b), y1, y2, y3, y4, y5, y6, y7, y8, y9, none] ∧ Keep b H H' ∧ BarAt H' b) ?_ ?_ ?_
    · exact ⟨_, _, _, _, _, _, _, _, _, rfl, k1, B1⟩
    · rintro i σ H1 hi ⟨y1, y2, y3, y4, y5, y6, y7, y8, y9, rfl, k1, B1⟩
      refine ⟨_, rfl, by show 5 ≤ sizeLine; decide, fun q hq => ?_⟩
      have bq := bar_ne B1 hq
      refine ⟨b, q, _, rfl, bar_upd B1 bq, lst_of (by rw [del_ne bq]; exact upd_same), by decide, by decide, fun x H2 hx k2 B2 => ?_⟩
      obtain ⟨n, hn1, hn3, rfl⟩ : ∃ n : Nat, 1 ≤ n ∧ n ≤ 3 ∧ x = .int (n : Int) := by
        simp at hx
        rcases hx with rfl | rfl | rfl
        · exact ⟨2, by decide, by decide, rfl⟩
        · exact ⟨1, by decide, by decide, rfl⟩
        · exact ⟨3, by decide, by decide, rfl⟩
      have k02 : Keep b H H2 := k1.trans ((Keep.of (same_upd hq)).trans k2)
      clear k2 hx
      -- the trio
      refine ⟨_, rfl, _, rfl, ?_⟩
      refine g_cons2 (g_viaP (fun v H' => H' = H2 ∧ ∃ m : Nat, 1 ≤ m ∧ m ≤ 3 ∧ v = .int (m : Int)) (fun Q' rest => ?_) ?_)
      · refine ⟨_, rfl, _, _, rfl, rfl, _, rfl, ?_⟩
        by_cases c : (n : Int) < 3
        · rw [decide_eq_true c]
          exact iteT (rest _ _ ⟨rfl, 3, by decide, by decide, rfl⟩)
        · rw [decide_eq_false c]
          exact iteF (rest _ _ ⟨rfl, 2, by decide, by decide, rfl⟩)
      rintro v H2' ⟨rfl, m, hm1, hm3, rfl⟩
      refine ⟨b, n, m, rfl, B2, hn1, hn3, hm1, hm3, fun v H3 tab ends k3 B3 Tr gt ge h3 => ?_⟩
      have k03 := k02.trans k3
      obtain ⟨t, a, e, rfl, ht, ha, he⟩ := Tr.ob
      have ht3 := sqT_mono (del_same b) ht
      -- the reader
      refine ⟨_, rfl, t, _, _, _, rfl, rfl, ht3, rfl, _, rfl, t, _, _, _, rfl, rfl, ht3, rfl, _, rfl, t, _, _, _, rfl, rfl, ht3, rfl, fun p dx hp hdx hne => ?_⟩
      have sM : Same H3 (upd (upd H3 dx (.own p)) p (.ins A.C dx [])) := (same_upd hdx).trans (same_upd (by rw [upd_ne (fun z => hne z.symm)]; exact hp))
      refine ⟨p, dx, a, e, n, tab, ends, rfl, upd_same, dp_mono ((del_same b).trans sM) _ _ ha, dp_mono ((del_same b).trans sM) _ _ he, hn1, gt, ge, fun H6 keep6 ob6 => ⟨rfl, ?_⟩⟩
      have s6 : Same H3 H6 := fun x o hx => keep6 x o (sM x o hx) (ne_of_none hx hp)
      have B6 : BarAt H6 b := bar_same B3 s6
      have npb : p ≠ b := bar_ne B3 hp
      have k6 : Keep b H3 H6 := Keep.of s6
      have R6 : RdAt K A.C (del b H6) p n tab ends := ⟨dx, a, e, by rw [del_ne npb]; exact ob6, dp_mono k6 _ _ ha, dp_mono k6 _ _ he⟩
      -- the lots
      refine ⟨_, rfl, _, rfl, b, n, rfl, B6, hn1, hn3, fun lv H7 l1 l2 k7 B7 Lt g1 g2 => ⟨by show 2 ≤ sizeLine; decide, fun T hT => ?_⟩⟩
      have k8 : Keep b H3 (upd H7 T (.tup [.ref p, lv])) := k6.trans (k7.trans (Keep.of (same_upd hT)))
      have k78 : Keep b H7 (upd H7 T (.tup [.ref p, lv])) := Keep.of (same_upd hT)
      have B8 := bar_upd (o := .tup [.ref p, lv]) B7 (bar_ne B7 hT)
      refine ⟨T, _, rfl, tup_of upd_same, rfl, _, _, rfl, _, _, rfl, rfl, ?_⟩
      have Tr8 := Tr.mono k8
      have R8 := R6.mono (k7.trans k78)
      have Lt8 := Lt.mono k78
      have k08 := k03.trans k8
      generalize upd H7 T (.tup [.ref p, lv]) = H8 at k08 B8 Tr8 R8 Lt8
      clear k8 k78 k7 k6 k3 k03 k02
      -- told right
      refine ⟨_, rfl, _, rfl, _, rfl, .ref t, lv, p, n, tab, ends, l1, l2, rfl, Tr8.mono (del_same b), Lt8.mono (del_same b), ⟨R8.mono (del_same b), gt, ge, g1, g2⟩, hn3, h3, fun H9 s9 => ⟨_, rfl, iteF (g_next ?_)⟩⟩
      have k89 : Keep b H8 H9 := Keep.of s9
      refine ⟨2, rfl, by decide, by decide, ?_⟩
      refine for_range (lo := 0) (n := 2) (fun j σ H' => ∃ y6 y7 y8 y9, σ = [some (.ref b), some (.int (0 + (i : Int))), some (.int (n : Int)), some (.ref t), some (.ref p), some lv, y6, y7, y8, y9, none] ∧ Keep b H8 H' ∧ BarAt H' b) ?_ ?_ ?_
      · exact ⟨_, _, _, _, rfl, k89, bar_same B8 s9⟩
      · rintro j σ H10 hj ⟨y6, y7, y8, y9, rfl, k10, B10⟩
        have Tr10 := Tr8.mono k10
        have Lt10 := Lt8.mono k10
        have R10 := R8.mono k10
        obtain ⟨t', a', e', et, ht10, ha10, he10⟩ := Tr10.ob
        obtain rfl := V.ref.inj et
        obtain ⟨a'', xs, e1, hx, hds⟩ := dp_tup ha10
        obtain rfl := V.ref.inj e1
        obtain ⟨lp, rfl, hlp⟩ := Lt10.ob
        have hxl : xs.length = tab.length := by rw [dps_len hds, List.length_map]
        have n2 := gt.n2
        have a8 := g1.len
        dsimp only
        refine g_seq (g_asg (g_cb (cTD (b := b) (xs := xs) (fun v => ∃ o : Option Nat, (∀ g, o = some g → g ∈ l1) ∧ v = sV o) (fun _ => False) B10 (fun R r => ⟨_, rfl, t, _, _, _, rfl, rfl, sqT_mono (del_same b) ht10, rfl, r⟩) hx (by omega) ?_ (fun i' x hi' H11 R11 k11 B11 r11 => ?_) (fun D acc H11 hD k11 B11 h11 hl11 hi11 => ?_))))
        · exact fun _ => rfl
        · have hlp11 := sqL_mono (del_same b) (sqL_mono k11 hlp)
          refine ⟨_, rfl, _, rfl, lp, _, _, _, rfl, rfl, hlp11, rfl, _, rfl, szl (by rw [rowS_len]; omega), fun q1 hq1 => ?_⟩
          have C1 := bar_upd (o := .lst (signV (rowS l1))) B11 (bar_ne B11 hq1)
          have ll : (List.replicate (2 : Int).toNat (signV (rowS l1))).flatten.length ≤ 6 := by
            rw [show (2 : Int).toNat = 2 from rfl]
            simp [signV_len]
            omega
          refine ⟨q1, 2, _, rfl, rfl, upd_same, by decide, by decide, szl (by rw [signV_len]; show _ * 2 ≤ 100000; omega), fun q2 hq2 => ?_⟩
          have C2 := bar_upd (o := .lst (List.replicate (2 : Int).toNat (signV (rowS l1))).flatten) C1 (bar_ne C1 hq2)
          refine ⟨by show 1 ≤ sizeLine; decide, fun q3 hq3 => ?_⟩
          have C3 := bar_upd (o := .lst [.non]) C2 (bar_ne C2 hq3)
          have n23 : q2 ≠ q3 := ne_of_none upd_same hq3
          refine ⟨q2, q3, _, _, rfl, rfl, by rw [upd_ne n23]; exact upd_same, upd_same, szl (by show _ + 1 ≤ 100000; omega), fun q4 hq4 => ?_⟩
          have b4 := bar_ne C3 hq4
          have C4 := bar_upd (o := .lst ((List.replicate (2 : Int).toNat (signV (rowS l1))).flatten ++ [.non])) C3 b4
          have sm := ((((same_upd (o := .lst (signV (rowS l1))) hq1).trans (same_upd (o := .lst (List.replicate (2 : Int).toNat (signV (rowS l1))).flatten) hq2)).trans (same_upd (o := .lst [.non]) hq3)).trans (same_upd (o := .lst ((List.replicate (2 : Int).toNat (signV (rowS l1))).flatten ++ [.non])) hq4))
          refine ⟨b, q4, _, rfl, C4, lst_of (by rw [del_ne b4]; exact upd_same), by rw [List.length_append]; show 0 < _ + 1; omega, by rw [List.length_append]; show _ + 1 ≤ 1000; omega, fun x H' hx kp B' => ?_⟩
          exact r11 x H' ((Keep.of sm).trans kp) B' (.inl (sch_mem hx))
        obtain ⟨os, rfl, hos⟩ := exists_map (f := sV) (Pp := fun o : Option Nat => ∀ g, o = some g → g ∈ l1) (l := acc) fun v hv => by
          rcases hi11 v hv with h | ⟨p, ys, _, _, _, _, h⟩
          · exact h
          · exact h.elim
        rw [List.length_map] at hl11
        refine ⟨D, _, rfl, .inl ⟨lst_of h11, fun sc hsc => ?_⟩⟩
        obtain ⟨f, ef⟩ : ∃ f : Nat → Option Nat, f = fun s => os.getD s none := ⟨_, rfl⟩
        have hf : ∀ s g, s < tab.length → f s = some g → g ∈ l1 := by
          intro s g hs e
          rw [ef] at e
          have hs2 : s < os.length := by omega
          have e : os.getD s none = some g := e
          rw [List.getD_eq_getElem?_getD, List.getElem?_eq_getElem hs2] at e
          exact hos _ (List.getElem_mem hs2) g e
        have esch : os.map sV = schV tab.length f := by
          unfold schV
          rw [ef, show tab.length = os.length by omega]
          exact (range_getD os none sV).symm
        rw [esch] at h11 ⊢
        have bsc := bar_ne B11 hsc
        have B12 := bar_upd (o := .tup (schV tab.length f)) B11 bsc
        have k12 : Keep b H10 (upd H11 sc (.tup (schV tab.length f))) := k11.trans (Keep.of (same_upd hsc))
        have hsc12 : (upd H11 sc (.tup (schV tab.length f))) sc = some (.tup (schV tab.length f)) := upd_same
        generalize upd H11 sc (.tup (schV tab.length f)) = H12 at B12 k12 hsc12
        have Tr12 := (Tr10.mono k12).mono (del_same b)
        have Lt12 := (Lt10.mono k12).mono (del_same b)
        have Du12 : Duel K A.C H12 p n tab ends l1 l2 := ⟨(R10.mono k12).mono (del_same b), gt, ge, g1, g2⟩
        have ht12 := sqT_mono (del_same b) (sqT_mono k12 ht10)
        have hx12 := sqT_mono (del_same b) (sqT_mono k12 hx)
        have hlp12 := sqL_mono (del_same b) (sqL_mono k12 hlp)
        -- due
        dsimp only
        refine ⟨_, rfl, _, rfl, _, rfl, _, rfl, t, _, _, _, rfl, rfl, ht12, rfl, _, _, rfl, .inr ⟨_, hx12, rfl⟩, _, _, rfl, rfl, .inl ⟨by decide, by decide⟩, _, _, rfl, rfl, ?_⟩
        refine ⟨2 * tab.length + 1, by omega, .ref t, .ref lp, sc, n, tab, ends, l1, l2, f, some 0, 0, ?_, Tr12, Lt12, tup_of hsc12, gt, ge, g1, g2, (fun s g hs h => by rw [if_pos rfl]; exact hf s g hs h), (fun g hg => by have := gt.n1; obtain rfl := Option.some.inj hg; omega), by decide, fun H13 s13 => ?_⟩
        · show [V.ref t, .ref lp, .ref sc, .int 0, .int 0, .int (2 * (xs.length : Int) + 1)] = _
          rw [show (2 * (xs.length : Int) + 1) = ((2 * tab.length + 1 : Nat) : Int) by omega]
          rfl
        obtain ⟨X, eX⟩ : ∃ X, X = hR hasAll (schG tab l1 f) (near tab l2) ends tab.length 0 := ⟨_, rfl⟩
        have e : lgR (2 * tab.length + 1) tab ends l1 l2 f (decide (0 = 1)) (some 0) = vO X := by
          unfold lgR
          rw [eX, ← lg_is gt g1 g2 hf]
          rfl
        rw [e]
        have hlp13 := sqL_mono s13 hlp12
        -- told
        refine ⟨_, rfl, _, rfl, lp, _, _, _, rfl, rfl, hlp13, rfl, _, rfl, lp, _, _, _, rfl, rfl, hlp13, rfl, _, rfl, p, sc, n, tab, ends, l1, l2, f, rfl, Du12.mono s13, hn3, tup_of (s13 _ _ hsc12), hf, fun H14 s14 => ?_⟩
        rw [← eX]
        refine ⟨by show 1 ≤ sizeLine; decide, fun W hW => ?_⟩
        have s14' := s13.trans (s14.trans (same_upd (o := .lst [vO X]) hW))
        have nW : H12 W = none := Same.free (s13.trans s14) hW
        have hW14 : (upd H14 W (.lst [vO X])) W = some (.lst [vO X]) := upd_same
        generalize upd H14 W (.lst [vO X]) = H15 at s14' hW14
        have hlp15 := sqL_mono s14' hlp12
        refine ⟨_, rfl, .inl ⟨rfl, _, lst_of hW14⟩, _, rfl, _, rfl, lp, _, _, _, rfl, rfl, hlp15, rfl, _, rfl, lp, _, _, _, rfl, rfl, hlp15, rfl, _, rfl, p, sc, n, tab, ends, l1, l2, f, rfl, Du12.mono s14', hn3, tup_of (s14' _ _ hsc12), hf, fun H16 s16 => ?_⟩
        rw [← eX]
        refine ⟨W, _, _, rfl, rfl, s16 _ _ hW14, szt (by show 1 < 100000; decide), ?_⟩
        have s17 : Same H12 (upd H16 W (.lst ([vO X] ++ [vO X]))) := same_put (s14'.trans s16) nW
        have hW17 : (upd H16 W (.lst ([vO X] ++ [vO X]))) W = some (.lst [vO X, vO X]) := upd_same
        generalize upd H16 W (.lst ([vO X] ++ [vO X])) = H17 at s17 hW17
        refine ⟨_, rfl, _, rfl, _, rfl, by show 2 ≤ sizeLine; decide, fun Z hZ => ?_⟩
        have s18 := same_upd (o := .lst [vO X, vO X]) hZ
        refine ⟨.list [dO X, dO X], .list [dO X, dO X], .lst (lst_of (s18 _ _ hW17)) (.cons (dp_opt X) (.cons (dp_opt X) .nil)), .lst (lst_of upd_same) (.cons (dp_opt X) (.cons (dp_opt X) .nil)), pair_shaped X, pair_shaped X, _, rfl, ?_⟩
        rw [eqv_same (pair_shaped X)]
        refine iteF (g_next ?_)
        exact ⟨_, _, _, _, rfl, k10.trans (k12.trans (Keep.of (s17.trans s18))), bar_same B12 (s17.trans s18)⟩
      · rintro σ H10 ⟨y6, y7, y8, y9, rfl, k10, B10⟩
        exact ⟨_, _, _, _, _, _, _, _, _, rfl, k08.trans k10, B10⟩
    · rintro σ H1 ⟨y1, y2, y3, y4, y5, y6, y7, y8, y9, rfl, k1, B1⟩
      exact k H1 k1
def spLaw (K : PySem.W.Frag) : Sp := fun vs H Q _ => ∃ (a : Addr) (ns : List Int), vs = [.ref a] ∧ SqL K H a (ns.map V.int) ∧ ns.length ≤ 63 ∧ ∀ H', Q (.bl true) H'
theorem ok_law (T : Txt K mg A) (U : Funs K A fd) : FnOk P w K mg base CX0 49 A.law fd.law p_law (spLaw K) := by
  have G_l_right := ok_l_right (P := P) (w := w) (base := base) T U
  have b_l_right := U.b_l_right
  have G_l_cask := ok_l_cask (P := P) (w := w) (base := base) T U
  have b_l_cask := U.b_l_cask
  refine U.F_law.ok sc_law (fun vs H Q E h => ?_) (fun cdv A0 outer s H vs Q E hr h => ?_)
  · obtain ⟨a, ns, rfl, _⟩ := h
    rfl
  · have hu := hu_of hr
    obtain ⟨a, ns, rfl, hS, hn, k⟩ := h
    refine ⟨_, (pss_cons (ps_for PassesOwn.never rfl (pi_range1 (by rfl) T.b_range (pa_cons (pe_callB (call_max2 rfl) (by rfl) T.b_max (by decide +kernel) (pa_cons pe_int (pa_cons (pe_callB (call_min2 rfl) (by rfl) T.b_min (by decide +kernel) (pa_cons (pe_callB (w_len (K := K)) (by rfl) T.b_len (by decide +kernel) (pa_cons (pv 0) pa_nil)) (pa_cons pe_int pa_nil))) pa_nil))) pa_nil)) (pg_name (i := 1) sc_law.nd rfl (Or.inl rfl))
       (pss_one (ps_if (pt_not (pt_val (pe_call G_l_right (hr.mono (by decide)) (by rfl) T.m_l_right T.k_l_right b_l_right .nil pass0 (pa_cons (pe_call G_l_cask (hr.mono (by decide)) (by rfl) T.m_l_cask T.k_l_cask b_l_cask .nil pass0 (pa_cons (pv 0) (pa_cons (pv 1) pa_nil))) pa_nil)))) (pss_one (ps_ret pe_bl)) pss_nil)))
       (pss_one (ps_ret pe_bl))), ?_⟩
    refine ⟨_, rfl, _, _, rfl, .inl ⟨_, hS, rfl⟩, _, _, rfl, _, _, rfl, ?_⟩
    obtain ⟨m, hm, em⟩ : ∃ m : Nat, m ≤ 3 ∧ (if (if (3 : Int) < ((ns.map V.int).length : Int) then (3 : Int) else ((ns.map V.int).length : Int)) > 1 then (if (3 : Int) < ((ns.map V.int).length : Int) then (3 : Int) else ((ns.map V.int).length : Int)) else 1) = (m : Int) := by
      by_cases c : (3 : Int) < ((ns.map V.int).length : Int)
      · exact ⟨3, by decide, by rw [if_pos c]; rfl⟩
      · rw [if_neg c]
        by_cases c2 : ((ns.map V.int).length : Int) > 1
        · exact ⟨(ns.map V.int).length, by omega, if_pos c2⟩
        · exact ⟨1, by decide, if_neg c2⟩
    refine ⟨(m : Int), by rw [← em] <;> rfl, by omega, by omega, ?_⟩
    rw [Int.toNat_natCast]
    refine for_range (lo := 0) (n := m) (fun i σ H' => ∃ y1, σ = [some (.ref a), y1] ∧ Same H H') ?_ ?_ ?_
    · exact ⟨none, rfl, Same.refl _⟩
    · rintro i σ H1 hi ⟨y1, rfl, s1⟩
      rw [show (0 : Int) + (i : Int) = (i : Int) by omega]
      refine ⟨_, rfl, _, rfl, a, ns, i, rfl, sqL_mono s1 hS, hn, by omega, fun b H2 hb s2 B2 => ?_⟩
      refine ⟨b, rfl, B2, fun H3 kp => ⟨_, rfl, iteF (g_next ?_)⟩⟩
      exact ⟨_, rfl, fun x o hx => kp.get (ne_of_none (s1 _ _ hx) hb) (s2 _ _ (s1 _ _ hx))⟩
    · rintro σ H1 ⟨y1, rfl, s1⟩
      exact k H1
end K6


set_option Elab.async false
set_option linter.all false
set_option maxRecDepth 100000
set_option maxHeartbeats 4000000
namespace K6
open PySem PySem.Spec PyProof.Rows L2 Rw
/-! ### what the top has written -/
theorem FnOkG.of {P : Program} {w : World} {K : PySem.W.Frag} {mg : Str → Option Value} {base : Heap} {k : Nat} {f : Addr} {fd : FuncData} {ps : List Str} {sp : Sp} (h : FnOk P w K mg base CX0 k f fd ps sp) : FnOkG P w K mg base k f fd ps sp :=
  ⟨h.len, fun A outer s H args us vs Q E _ hr e0 hb r q => h.run A outer s H args us vs Q E hr e0 hb r q⟩
theorem all_mk {P : Program} {w : World} {K : PySem.W.Frag} {h : Heap} {mg : Str → Option Value} {fa C p1 p2 p3 f0 f1 f2 f3 f4 f5 f6 f7 f8 f9 f10 f11 f12 f13 f14 f15 f16 f17 f18 f19 f20 f21 f22 f23 f24 f25 f26 f27 f28 f29 f30 f31 f32 f33 f34 f35 f36 f37 f38 f39 f40 f41 f42 f43 : Addr} (X : K.In h) (G : h.Ns mainGlobals mg) (hfa : mg "law" = some (.ref fa))
    {od0 an0 : Option Addr} {sl0 : Array (Option Value)} {oc0 kV0 dc0 pm0 cd0 ct0 : Value}
    {od1 an1 : Option Addr} {sl1 : Array (Option Value)} {oc1 kV1 dc1 pm1 cd1 ct1 : Value}
    {od2 an2 : Option Addr} {sl2 : Array (Option Value)} {oc2 kV2 dc2 pm2 cd2 ct2 : Value}
    {od3 an3 : Option Addr} {sl3 : Array (Option Value)} {oc3 kV3 dc3 pm3 cd3 ct3 : Value}
    {od4 an4 : Option Addr} {sl4 : Array (Option Value)} {oc4 kV4 dc4 pm4 cd4 ct4 : Value}
    {od5 an5 : Option Addr} {sl5 : Array (Option Value)} {oc5 kV5 dc5 pm5 cd5 ct5 : Value}
    {od6 an6 : Option Addr} {sl6 : Array (Option Value)} {oc6 kV6 dc6 pm6 cd6 ct6 : Value}
    {od7 an7 : Option Addr} {sl7 : Array (Option Value)} {oc7 kV7 dc7 pm7 cd7 ct7 : Value}
    {od8 an8 : Option Addr} {sl8 : Array (Option Value)} {oc8 kV8 dc8 pm8 cd8 ct8 : Value}
    {od9 an9 : Option Addr} {sl9 : Array (Option Value)} {oc9 kV9 dc9 pm9 cd9 ct9 : Value}
    {od10 an10 : Option Addr} {sl10 : Array (Option Value)} {oc10 kV10 dc10 pm10 cd10 ct10 : Value}
    {od11 an11 : Option Addr} {sl11 : Array (Option Value)} {oc11 kV11 dc11 pm11 cd11 ct11 : Value}
    {od12 an12 : Option Addr} {sl12 : Array (Option Value)} {oc12 kV12 dc12 pm12 cd12 ct12 : Value}
    {od13 an13 : Option Addr} {sl13 : Array (Option Value)} {oc13 kV13 dc13 pm13 cd13 ct13 : Value}
    {od14 an14 : Option Addr} {sl14 : Array (Option Value)} {oc14 kV14 dc14 pm14 cd14 ct14 : Value}
    {od15 an15 : Option Addr} {sl15 : Array (Option Value)} {oc15 kV15 dc15 pm15 cd15 ct15 : Value}
    {od16 an16 : Option Addr} {sl16 : Array (Option Value)} {oc16 kV16 dc16 pm16 cd16 ct16 : Value}
    {od17 an17 : Option Addr} {sl17 : Array (Option Value)} {oc17 kV17 dc17 pm17 cd17 ct17 : Value}
    {od18 an18 : Option Addr} {sl18 : Array (Option Value)} {oc18 kV18 dc18 pm18 cd18 ct18 : Value}
    {od19 an19 : Option Addr} {sl19 : Array (Option Value)} {oc19 kV19 dc19 pm19 cd19 ct19 : Value}
    {od20 an20 : Option Addr} {sl20 : Array (Option Value)} {oc20 kV20 dc20 pm20 cd20 ct20 : Value}
    {od21 an21 : Option Addr} {sl21 : Array (Option Value)} {oc21 kV21 dc21 pm21 cd21 ct21 : Value}
    {od22 an22 : Option Addr} {sl22 : Array (Option Value)} {oc22 kV22 dc22 pm22 cd22 ct22 : Value}
    {od23 an23 : Option Addr} {sl23 : Array (Option Value)} {oc23 kV23 dc23 pm23 cd23 ct23 : Value}
    {od24 an24 : Option Addr} {sl24 : Array (Option Value)} {oc24 kV24 dc24 pm24 cd24 ct24 : Value}
    {od25 an25 : Option Addr} {sl25 : Array (Option Value)} {oc25 kV25 dc25 pm25 cd25 ct25 : Value}
    {od26 an26 : Option Addr} {sl26 : Array (Option Value)} {oc26 kV26 dc26 pm26 cd26 ct26 : Value}
    {od27 an27 : Option Addr} {sl27 : Array (Option Value)} {oc27 kV27 dc27 pm27 cd27 ct27 : Value}
    {od28 an28 : Option Addr} {sl28 : Array (Option Value)} {oc28 kV28 dc28 pm28 cd28 ct28 : Value}
    {od29 an29 : Option Addr} {sl29 : Array (Option Value)} {oc29 kV29 dc29 pm29 cd29 ct29 : Value}
    {od30 an30 : Option Addr} {sl30 : Array (Option Value)} {oc30 kV30 dc30 pm30 cd30 ct30 : Value}
    {od31 an31 : Option Addr} {sl31 : Array (Option Value)} {oc31 kV31 dc31 pm31 cd31 ct31 : Value}
    {od32 an32 : Option Addr} {sl32 : Array (Option Value)} {oc32 kV32 dc32 pm32 cd32 ct32 : Value}
    {od33 an33 : Option Addr} {sl33 : Array (Option Value)} {oc33 kV33 dc33 pm33 cd33 ct33 : Value}
    {od34 an34 : Option Addr} {sl34 : Array (Option Value)} {oc34 kV34 dc34 pm34 cd34 ct34 : Value}
    {od35 an35 : Option Addr} {sl35 : Array (Option Value)} {oc35 kV35 dc35 pm35 cd35 ct35 : Value}
    {od36 an36 : Option Addr} {sl36 : Array (Option Value)} {oc36 kV36 dc36 pm36 cd36 ct36 : Value}
    {od37 an37 : Option Addr} {sl37 : Array (Option Value)} {oc37 kV37 dc37 pm37 cd37 ct37 : Value}
    {od38 an38 : Option Addr} {sl38 : Array (Option Value)} {oc38 kV38 dc38 pm38 cd38 ct38 : Value}
    {od39 an39 : Option Addr} {sl39 : Array (Option Value)} {oc39 kV39 dc39 pm39 cd39 ct39 : Value}
    {od40 an40 : Option Addr} {sl40 : Array (Option Value)} {oc40 kV40 dc40 pm40 cd40 ct40 : Value}
    {od41 an41 : Option Addr} {sl41 : Array (Option Value)} {oc41 kV41 dc41 pm41 cd41 ct41 : Value}
    {od42 an42 : Option Addr} {sl42 : Array (Option Value)} {oc42 kV42 dc42 pm42 cd42 ct42 : Value}
    {od43 an43 : Option Addr} {sl43 : Array (Option Value)} {oc43 kV43 dc43 pm43 cd43 ct43 : Value}
    (aC : PySem.W.nsIn K mainGlobals "Reader" = some (some (.ref C)))
    (a0 : PySem.W.nsIn K mainGlobals "is_integer" = some (some (.ref f0)))
    (a1 : PySem.W.nsIn K mainGlobals "is_between" = some (some (.ref f1)))
    (a2 : PySem.W.nsIn K mainGlobals "is_row" = some (some (.ref f2)))
    (a3 : PySem.W.nsIn K mainGlobals "is_ascending" = some (some (.ref f3)))
    (a4 : PySem.W.nsIn K mainGlobals "is_stands" = some (some (.ref f4)))
    (a5 : PySem.W.nsIn K mainGlobals "is_arrows" = some (some (.ref f5)))
    (a6 : PySem.W.nsIn K mainGlobals "is_goals" = some (some (.ref f6)))
    (a7 : PySem.W.nsIn K mainGlobals "is_lot" = some (some (.ref f7)))
    (a8 : PySem.W.nsIn K mainGlobals "check_signs" = some (some (.ref f8)))
    (a9 : PySem.W.nsIn K mainGlobals "flags_of" = some (some (.ref f9)))
    (a10 : PySem.W.findIn K (.ref C) "__init__" = some (some (.ref f10)))
    (i10 : PySem.W.isFn K (.ref f10) = true)
    (a14 : PySem.W.findIn K (.ref C) "__len__" = some (some (.ref f14)))
    (i14 : PySem.W.isFn K (.ref f14) = true)
    (a15 : PySem.W.nsIn K mainGlobals "check_reader" = some (some (.ref f15)))
    (a16 : PySem.W.nsIn K mainGlobals "end_flags" = some (some (.ref f16)))
    (a17 : PySem.W.nsIn K mainGlobals "check_duel" = some (some (.ref f17)))
    (a18 : PySem.W.nsIn K mainGlobals "goals_by" = some (some (.ref f18)))
    (a19 : PySem.W.nsIn K mainGlobals "has_some" = some (some (.ref f19)))
    (a20 : PySem.W.nsIn K mainGlobals "has_all" = some (some (.ref f20)))
    (a21 : PySem.W.nsIn K mainGlobals "signs_left" = some (some (.ref f21)))
    (a22 : PySem.W.nsIn K mainGlobals "least_left" = some (some (.ref f22)))
    (a23 : PySem.W.nsIn K mainGlobals "least_turns" = some (some (.ref f23)))
    (a24 : PySem.W.nsIn K mainGlobals "plan" = some (some (.ref f24)))
    (a25 : PySem.W.nsIn K mainGlobals "leaves" = some (some (.ref f25)))
    (a26 : PySem.W.nsIn K mainGlobals "barring" = some (some (.ref f26)))
    (a27 : PySem.W.nsIn K mainGlobals "bars" = some (some (.ref f27)))
    (a28 : PySem.W.nsIn K mainGlobals "turns_of" = some (some (.ref f28)))
    (a29 : PySem.W.nsIn K mainGlobals "goals_by_plan" = some (some (.ref f29)))
    (a30 : PySem.W.nsIn K mainGlobals "is_plan" = some (some (.ref f30)))
    (a31 : PySem.W.nsIn K mainGlobals "_law_cask" = some (some (.ref f31)))
    (a32 : PySem.W.nsIn K mainGlobals "_law_pull" = some (some (.ref f32)))
    (a33 : PySem.W.nsIn K mainGlobals "_law_one_of" = some (some (.ref f33)))
    (a34 : PySem.W.nsIn K mainGlobals "_law_trio" = some (some (.ref f34)))
    (a35 : PySem.W.nsIn K mainGlobals "_law_lots" = some (some (.ref f35)))
    (a36 : PySem.W.nsIn K mainGlobals "_law_near" = some (some (.ref f36)))
    (a37 : PySem.W.nsIn K mainGlobals "_law_layers" = some (some (.ref f37)))
    (a38 : PySem.W.nsIn K mainGlobals "_law_is_scheme" = some (some (.ref f38)))
    (a39 : PySem.W.nsIn K mainGlobals "_law_longest" = some (some (.ref f39)))
    (a40 : PySem.W.nsIn K mainGlobals "_law_never" = some (some (.ref f40)))
    (a41 : PySem.W.nsIn K mainGlobals "_law_told_right" = some (some (.ref f41)))
    (a42 : PySem.W.nsIn K mainGlobals "_law_right" = some (some (.ref f42)))
    (a43 : PySem.W.nsIn K mainGlobals "law" = some (some (.ref f43)))
    {q1 q2 q3 : List Value}
    (u1 : PySem.W.findIn K (.ref C) "signs" = some (some (.ref p1)))
    (v1 : PySem.W.specialIn K (.ref p1) "__get__" = some (some (.builtin "property.__get__")))
    (w1 : PySem.W.takesIn K (.ref p1) = some true)
    (x1 : PySem.W.recIn K p1 "property" = some (.ref f11 :: q1))
    (u2 : PySem.W.findIn K (.ref C) "arrows" = some (some (.ref p2)))
    (v2 : PySem.W.specialIn K (.ref p2) "__get__" = some (some (.builtin "property.__get__")))
    (w2 : PySem.W.takesIn K (.ref p2) = some true)
    (x2 : PySem.W.recIn K p2 "property" = some (.ref f12 :: q2))
    (u3 : PySem.W.findIn K (.ref C) "ends" = some (some (.ref p3)))
    (v3 : PySem.W.specialIn K (.ref p3) "__get__" = some (some (.builtin "property.__get__")))
    (w3 : PySem.W.takesIn K (.ref p3) = some true)
    (x3 : PySem.W.recIn K p3 "property" = some (.ref f13 :: q3))
    (l0 : K.lookup f0 = some ⟨oc0, od0, .func (PySem.W.fnOf "is_integer" "is_integer" (defArgs s_is_integer) (defBody s_is_integer) (defScope s_is_integer) .none kV0 dc0 pm0 an0 cd0 ct0), sl0⟩)
    (c0 : PySem.W.codeIn K cd0 "is_integer" = true)
    (k0 : PySem.W.keepIn K (.ref f0) = true)
    (l1 : K.lookup f1 = some ⟨oc1, od1, .func (PySem.W.fnOf "is_between" "is_between" (defArgs s_is_between) (defBody s_is_between) (defScope s_is_between) .none kV1 dc1 pm1 an1 cd1 ct1), sl1⟩)
    (c1 : PySem.W.codeIn K cd1 "is_between" = true)
    (k1 : PySem.W.keepIn K (.ref f1) = true)
    (l2 : K.lookup f2 = some ⟨oc2, od2, .func (PySem.W.fnOf "is_row" "is_row" (defArgs s_is_row) (defBody s_is_row) (defScope s_is_row) .none kV2 dc2 pm2 an2 cd2 ct2), sl2⟩)
    (c2 : PySem.W.codeIn K cd2 "is_row" = true)
    (k2 : PySem.W.keepIn K (.ref f2) = true)
    (l3 : K.lookup f3 = some ⟨oc3, od3, .func (PySem.W.fnOf "is_ascending" "is_ascending" (defArgs s_is_ascending) (defBody s_is_ascending) (defScope s_is_ascending) .none kV3 dc3 pm3 an3 cd3 ct3), sl3⟩)
    (c3 : PySem.W.codeIn K cd3 "is_ascending" = true)
    (k3 : PySem.W.keepIn K (.ref f3) = true)
    (l4 : K.lookup f4 = some ⟨oc4, od4, .func (PySem.W.fnOf "is_stands" "is_stands" (defArgs s_is_stands) (defBody s_is_stands) (defScope s_is_stands) .none kV4 dc4 pm4 an4 cd4 ct4), sl4⟩)
    (c4 : PySem.W.codeIn K cd4 "is_stands" = true)
    (k4 : PySem.W.keepIn K (.ref f4) = true)
    (l5 : K.lookup f5 = some ⟨oc5, od5, .func (PySem.W.fnOf "is_arrows" "is_arrows" (defArgs s_is_arrows) (defBody s_is_arrows) (defScope s_is_arrows) .none kV5 dc5 pm5 an5 cd5 ct5), sl5⟩)
    (c5 : PySem.W.codeIn K cd5 "is_arrows" = true)
    (k5 : PySem.W.keepIn K (.ref f5) = true)
    (l6 : K.lookup f6 = some ⟨oc6, od6, .func (PySem.W.fnOf "is_goals" "is_goals" (defArgs s_is_goals) (defBody s_is_goals) (defScope s_is_goals) .none kV6 dc6 pm6 an6 cd6 ct6), sl6⟩)
    (c6 : PySem.W.codeIn K cd6 "is_goals" = true)
    (k6 : PySem.W.keepIn K (.ref f6) = true)
    (l7 : K.lookup f7 = some ⟨oc7, od7, .func (PySem.W.fnOf "is_lot" "is_lot" (defArgs s_is_lot) (defBody s_is_lot) (defScope s_is_lot) .none kV7 dc7 pm7 an7 cd7 ct7), sl7⟩)
    (c7 : PySem.W.codeIn K cd7 "is_lot" = true)
    (k7 : PySem.W.keepIn K (.ref f7) = true)
    (l8 : K.lookup f8 = some ⟨oc8, od8, .func (PySem.W.fnOf "check_signs" "check_signs" (defArgs s_check_signs) (defBody s_check_signs) (defScope s_check_signs) .none kV8 dc8 pm8 an8 cd8 ct8), sl8⟩)
    (c8 : PySem.W.codeIn K cd8 "check_signs" = true)
    (k8 : PySem.W.keepIn K (.ref f8) = true)
    (l9 : K.lookup f9 = some ⟨oc9, od9, .func (PySem.W.fnOf "flags_of" "flags_of" (defArgs s_flags_of) (defBody s_flags_of) (defScope s_flags_of) .none kV9 dc9 pm9 an9 cd9 ct9), sl9⟩)
    (c9 : PySem.W.codeIn K cd9 "flags_of" = true)
    (k9 : PySem.W.keepIn K (.ref f9) = true)
    (l10 : K.lookup f10 = some ⟨oc10, od10, .func (PySem.W.fnOf "__init__" "Reader.__init__" (defArgs s_Reader_init) (defBody s_Reader_init) (defScope s_Reader_init) .none kV10 dc10 pm10 an10 cd10 ct10), sl10⟩)
    (c10 : PySem.W.codeIn K cd10 "Reader.__init__" = true)
    (k10 : PySem.W.keepIn K (.ref f10) = true)
    (l11 : K.lookup f11 = some ⟨oc11, od11, .func (PySem.W.fnOf "signs" "Reader.signs" (defArgs s_Reader_signs) (defBody s_Reader_signs) (defScope s_Reader_signs) .none kV11 dc11 pm11 an11 cd11 ct11), sl11⟩)
    (c11 : PySem.W.codeIn K cd11 "Reader.signs" = true)
    (k11 : PySem.W.keepIn K (.ref f11) = true)
    (l12 : K.lookup f12 = some ⟨oc12, od12, .func (PySem.W.fnOf "arrows" "Reader.arrows" (defArgs s_Reader_arrows) (defBody s_Reader_arrows) (defScope s_Reader_arrows) .none kV12 dc12 pm12 an12 cd12 ct12), sl12⟩)
    (c12 : PySem.W.codeIn K cd12 "Reader.arrows" = true)
    (k12 : PySem.W.keepIn K (.ref f12) = true)
    (l13 : K.lookup f13 = some ⟨oc13, od13, .func (PySem.W.fnOf "ends" "Reader.ends" (defArgs s_Reader_ends) (defBody s_Reader_ends) (defScope s_Reader_ends) .none kV13 dc13 pm13 an13 cd13 ct13), sl13⟩)
    (c13 : PySem.W.codeIn K cd13 "Reader.ends" = true)
    (k13 : PySem.W.keepIn K (.ref f13) = true)
    (l14 : K.lookup f14 = some ⟨oc14, od14, .func (PySem.W.fnOf "__len__" "Reader.__len__" (defArgs s_Reader_len) (defBody s_Reader_len) (defScope s_Reader_len) .none kV14 dc14 pm14 an14 cd14 ct14), sl14⟩)
    (c14 : PySem.W.codeIn K cd14 "Reader.__len__" = true)
    (k14 : PySem.W.keepIn K (.ref f14) = true)
    (l15 : K.lookup f15 = some ⟨oc15, od15, .func (PySem.W.fnOf "check_reader" "check_reader" (defArgs s_check_reader) (defBody s_check_reader) (defScope s_check_reader) .none kV15 dc15 pm15 an15 cd15 ct15), sl15⟩)
    (c15 : PySem.W.codeIn K cd15 "check_reader" = true)
    (k15 : PySem.W.keepIn K (.ref f15) = true)
    (l16 : K.lookup f16 = some ⟨oc16, od16, .func (PySem.W.fnOf "end_flags" "end_flags" (defArgs s_end_flags) (defBody s_end_flags) (defScope s_end_flags) .none kV16 dc16 pm16 an16 cd16 ct16), sl16⟩)
    (c16 : PySem.W.codeIn K cd16 "end_flags" = true)
    (k16 : PySem.W.keepIn K (.ref f16) = true)
    (l17 : K.lookup f17 = some ⟨oc17, od17, .func (PySem.W.fnOf "check_duel" "check_duel" (defArgs s_check_duel) (defBody s_check_duel) (defScope s_check_duel) .none kV17 dc17 pm17 an17 cd17 ct17), sl17⟩)
    (c17 : PySem.W.codeIn K cd17 "check_duel" = true)
    (k17 : PySem.W.keepIn K (.ref f17) = true)
    (l18 : K.lookup f18 = some ⟨oc18, od18, .func (PySem.W.fnOf "goals_by" "goals_by" (defArgs s_goals_by) (defBody s_goals_by) (defScope s_goals_by) .none kV18 dc18 pm18 an18 cd18 ct18), sl18⟩)
    (c18 : PySem.W.codeIn K cd18 "goals_by" = true)
    (k18 : PySem.W.keepIn K (.ref f18) = true)
    (l19 : K.lookup f19 = some ⟨oc19, od19, .func (PySem.W.fnOf "has_some" "has_some" (defArgs s_has_some) (defBody s_has_some) (defScope s_has_some) .none kV19 dc19 pm19 an19 cd19 ct19), sl19⟩)
    (c19 : PySem.W.codeIn K cd19 "has_some" = true)
    (k19 : PySem.W.keepIn K (.ref f19) = true)
    (l20 : K.lookup f20 = some ⟨oc20, od20, .func (PySem.W.fnOf "has_all" "has_all" (defArgs s_has_all) (defBody s_has_all) (defScope s_has_all) .none kV20 dc20 pm20 an20 cd20 ct20), sl20⟩)
    (c20 : PySem.W.codeIn K cd20 "has_all" = true)
    (k20 : PySem.W.keepIn K (.ref f20) = true)
    (l21 : K.lookup f21 = some ⟨oc21, od21, .func (PySem.W.fnOf "signs_left" "signs_left" (defArgs s_signs_left) (defBody s_signs_left) (defScope s_signs_left) .none kV21 dc21 pm21 an21 cd21 ct21), sl21⟩)
    (c21 : PySem.W.codeIn K cd21 "signs_left" = true)
    (k21 : PySem.W.keepIn K (.ref f21) = true)
    (l22 : K.lookup f22 = some ⟨oc22, od22, .func (PySem.W.fnOf "least_left" "least_left" (defArgs s_least_left) (defBody s_least_left) (defScope s_least_left) .none kV22 dc22 pm22 an22 cd22 ct22), sl22⟩)
    (c22 : PySem.W.codeIn K cd22 "least_left" = true)
    (k22 : PySem.W.keepIn K (.ref f22) = true)
    (l23 : K.lookup f23 = some ⟨oc23, od23, .func (PySem.W.fnOf "least_turns" "least_turns" (defArgs s_least_turns) (defBody s_least_turns) (defScope s_least_turns) .none kV23 dc23 pm23 an23 cd23 ct23), sl23⟩)
    (c23 : PySem.W.codeIn K cd23 "least_turns" = true)
    (k23 : PySem.W.keepIn K (.ref f23) = true)
    (l24 : K.lookup f24 = some ⟨oc24, od24, .func (PySem.W.fnOf "plan" "plan" (defArgs s_plan) (defBody s_plan) (defScope s_plan) .none kV24 dc24 pm24 an24 cd24 ct24), sl24⟩)
    (c24 : PySem.W.codeIn K cd24 "plan" = true)
    (k24 : PySem.W.keepIn K (.ref f24) = true)
    (l25 : K.lookup f25 = some ⟨oc25, od25, .func (PySem.W.fnOf "leaves" "leaves" (defArgs s_leaves) (defBody s_leaves) (defScope s_leaves) .none kV25 dc25 pm25 an25 cd25 ct25), sl25⟩)
    (c25 : PySem.W.codeIn K cd25 "leaves" = true)
    (k25 : PySem.W.keepIn K (.ref f25) = true)
    (l26 : K.lookup f26 = some ⟨oc26, od26, .func (PySem.W.fnOf "barring" "barring" (defArgs s_barring) (defBody s_barring) (defScope s_barring) .none kV26 dc26 pm26 an26 cd26 ct26), sl26⟩)
    (c26 : PySem.W.codeIn K cd26 "barring" = true)
    (k26 : PySem.W.keepIn K (.ref f26) = true)
    (l27 : K.lookup f27 = some ⟨oc27, od27, .func (PySem.W.fnOf "bars" "bars" (defArgs s_bars) (defBody s_bars) (defScope s_bars) .none kV27 dc27 pm27 an27 cd27 ct27), sl27⟩)
    (c27 : PySem.W.codeIn K cd27 "bars" = true)
    (k27 : PySem.W.keepIn K (.ref f27) = true)
    (l28 : K.lookup f28 = some ⟨oc28, od28, .func (PySem.W.fnOf "turns_of" "turns_of" (defArgs s_turns_of) (defBody s_turns_of) (defScope s_turns_of) .none kV28 dc28 pm28 an28 cd28 ct28), sl28⟩)
    (c28 : PySem.W.codeIn K cd28 "turns_of" = true)
    (k28 : PySem.W.keepIn K (.ref f28) = true)
    (l29 : K.lookup f29 = some ⟨oc29, od29, .func (PySem.W.fnOf "goals_by_plan" "goals_by_plan" (defArgs s_goals_by_plan) (defBody s_goals_by_plan) (defScope s_goals_by_plan) .none kV29 dc29 pm29 an29 cd29 ct29), sl29⟩)
    (c29 : PySem.W.codeIn K cd29 "goals_by_plan" = true)
    (k29 : PySem.W.keepIn K (.ref f29) = true)
    (l30 : K.lookup f30 = some ⟨oc30, od30, .func (PySem.W.fnOf "is_plan" "is_plan" (defArgs s_is_plan) (defBody s_is_plan) (defScope s_is_plan) .none kV30 dc30 pm30 an30 cd30 ct30), sl30⟩)
    (c30 : PySem.W.codeIn K cd30 "is_plan" = true)
    (k30 : PySem.W.keepIn K (.ref f30) = true)
    (l31 : K.lookup f31 = some ⟨oc31, od31, .func (PySem.W.fnOf "_law_cask" "_law_cask" (defArgs s_l_cask) (defBody s_l_cask) (defScope s_l_cask) .none kV31 dc31 pm31 an31 cd31 ct31), sl31⟩)
    (c31 : PySem.W.codeIn K cd31 "_law_cask" = true)
    (k31 : PySem.W.keepIn K (.ref f31) = true)
    (l32 : K.lookup f32 = some ⟨oc32, od32, .func (PySem.W.fnOf "_law_pull" "_law_pull" (defArgs s_l_pull) (defBody s_l_pull) (defScope s_l_pull) .none kV32 dc32 pm32 an32 cd32 ct32), sl32⟩)
    (c32 : PySem.W.codeIn K cd32 "_law_pull" = true)
    (k32 : PySem.W.keepIn K (.ref f32) = true)
    (l33 : K.lookup f33 = some ⟨oc33, od33, .func (PySem.W.fnOf "_law_one_of" "_law_one_of" (defArgs s_l_one_of) (defBody s_l_one_of) (defScope s_l_one_of) .none kV33 dc33 pm33 an33 cd33 ct33), sl33⟩)
    (c33 : PySem.W.codeIn K cd33 "_law_one_of" = true)
    (k33 : PySem.W.keepIn K (.ref f33) = true)
    (l34 : K.lookup f34 = some ⟨oc34, od34, .func (PySem.W.fnOf "_law_trio" "_law_trio" (defArgs s_l_trio) (defBody s_l_trio) (defScope s_l_trio) .none kV34 dc34 pm34 an34 cd34 ct34), sl34⟩)
    (c34 : PySem.W.codeIn K cd34 "_law_trio" = true)
    (k34 : PySem.W.keepIn K (.ref f34) = true)
    (l35 : K.lookup f35 = some ⟨oc35, od35, .func (PySem.W.fnOf "_law_lots" "_law_lots" (defArgs s_l_lots) (defBody s_l_lots) (defScope s_l_lots) .none kV35 dc35 pm35 an35 cd35 ct35), sl35⟩)
    (c35 : PySem.W.codeIn K cd35 "_law_lots" = true)
    (k35 : PySem.W.keepIn K (.ref f35) = true)
    (l36 : K.lookup f36 = some ⟨oc36, od36, .func (PySem.W.fnOf "_law_near" "_law_near" (defArgs s_l_near) (defBody s_l_near) (defScope s_l_near) .none kV36 dc36 pm36 an36 cd36 ct36), sl36⟩)
    (c36 : PySem.W.codeIn K cd36 "_law_near" = true)
    (k36 : PySem.W.keepIn K (.ref f36) = true)
    (l37 : K.lookup f37 = some ⟨oc37, od37, .func (PySem.W.fnOf "_law_layers" "_law_layers" (defArgs s_l_layers) (defBody s_l_layers) (defScope s_l_layers) .none kV37 dc37 pm37 an37 cd37 ct37), sl37⟩)
    (c37 : PySem.W.codeIn K cd37 "_law_layers" = true)
    (k37 : PySem.W.keepIn K (.ref f37) = true)
    (l38 : K.lookup f38 = some ⟨oc38, od38, .func (PySem.W.fnOf "_law_is_scheme" "_law_is_scheme" (defArgs s_l_is_scheme) (defBody s_l_is_scheme) (defScope s_l_is_scheme) .none kV38 dc38 pm38 an38 cd38 ct38), sl38⟩)
    (c38 : PySem.W.codeIn K cd38 "_law_is_scheme" = true)
    (k38 : PySem.W.keepIn K (.ref f38) = true)
    (l39 : K.lookup f39 = some ⟨oc39, od39, .func (PySem.W.fnOf "_law_longest" "_law_longest" (defArgs s_l_longest) (defBody s_l_longest) (defScope s_l_longest) .none kV39 dc39 pm39 an39 cd39 ct39), sl39⟩)
    (c39 : PySem.W.codeIn K cd39 "_law_longest" = true)
    (k39 : PySem.W.keepIn K (.ref f39) = true)
    (l40 : K.lookup f40 = some ⟨oc40, od40, .func (PySem.W.fnOf "_law_never" "_law_never" (defArgs s_l_never) (defBody s_l_never) (defScope s_l_never) .none kV40 dc40 pm40 an40 cd40 ct40), sl40⟩)
    (c40 : PySem.W.codeIn K cd40 "_law_never" = true)
    (k40 : PySem.W.keepIn K (.ref f40) = true)
    (l41 : K.lookup f41 = some ⟨oc41, od41, .func (PySem.W.fnOf "_law_told_right" "_law_told_right" (defArgs s_l_told_right) (defBody s_l_told_right) (defScope s_l_told_right) .none kV41 dc41 pm41 an41 cd41 ct41), sl41⟩)
    (c41 : PySem.W.codeIn K cd41 "_law_told_right" = true)
    (k41 : PySem.W.keepIn K (.ref f41) = true)
    (l42 : K.lookup f42 = some ⟨oc42, od42, .func (PySem.W.fnOf "_law_right" "_law_right" (defArgs s_l_right) (defBody s_l_right) (defScope s_l_right) .none kV42 dc42 pm42 an42 cd42 ct42), sl42⟩)
    (c42 : PySem.W.codeIn K cd42 "_law_right" = true)
    (k42 : PySem.W.keepIn K (.ref f42) = true)
    (l43 : K.lookup f43 = some ⟨oc43, od43, .func (PySem.W.fnOf "law" "law" (defArgs s_law) (defBody s_law) (defScope s_law) .none kV43 dc43 pm43 an43 cd43 ct43), sl43⟩)
    (c43 : PySem.W.codeIn K cd43 "law" = true)
    (k43 : PySem.W.keepIn K (.ref f43) = true)
    (pg : PySem.W.plainGet K C Str.empty = true)
    (hd : PySem.W.hasDictIn K C = true)
    (po : PySem.W.plainOver K C = true)
    (sa : PySem.W.findIn K (.ref C) "__setattr__" = some (some (.builtin "object.__setattr__")))
    (mk : PySem.W.makesIn K C = true)
    (kc : PySem.W.keepIn K (.ref C) = true)
    (n1 : PySem.W.findIn K (.ref C) "_signs" = some none)
    (n2 : PySem.W.findIn K (.ref C) "_arrows" = some none)
    (n3 : PySem.W.findIn K (.ref C) "_ends" = some none)
    (tha : PySem.W.findIn K (.ref C) "__class__" = some (some (.builtin "object.__class__")))
    (thn : PySem.W.specialIn K (.builtin "object.__class__") "__get__" = some (some (.builtin "getset_descriptor.__get__")))
    (ttk : PySem.W.takesIn K (.builtin "object.__class__") = some true)
    (tmo : PySem.W.mroIn K C (.type "object") = some true)
    {t0 t1 t2 : Tok}
    (yg0 : PySem.W.nsIn K mainGlobals "MOST_SIGNS" = some (some (.int 8 t0)))
    (yg1 : PySem.W.nsIn K mainGlobals "MOST_STANDS" = some (some (.int 200 t1)))
    (yg2 : PySem.W.nsIn K mainGlobals "ALPHABET" = some (some (.str "abcdefgh" t2)))
    (yz0 : PySem.W.nsIn K mainGlobals "abs" = some none)
    (yz1 : PySem.W.nsIn K mainGlobals "all" = some none)
    (yz2 : PySem.W.nsIn K mainGlobals "any" = some none)
    (yz3 : PySem.W.nsIn K mainGlobals "bool" = some none)
    (yz4 : PySem.W.nsIn K mainGlobals "enumerate" = some none)
    (yz5 : PySem.W.nsIn K mainGlobals "int" = some none)
    (yz6 : PySem.W.nsIn K mainGlobals "isinstance" = some none)
    (yz7 : PySem.W.nsIn K mainGlobals "len" = some none)
    (yz8 : PySem.W.nsIn K mainGlobals "list" = some none)
    (yz9 : PySem.W.nsIn K mainGlobals "max" = some none)
    (yz10 : PySem.W.nsIn K mainGlobals "min" = some none)
    (yz11 : PySem.W.nsIn K mainGlobals "range" = some none)
    (yz12 : PySem.W.nsIn K mainGlobals "str" = some none)
    (yz13 : PySem.W.nsIn K mainGlobals "tuple" = some none)
    : ∃ fd : FuncData, (∀ (s : Shared) (u : Value), BindsTo s fd ⟨[u], []⟩ [("_law_cells", u)]) ∧ ∀ base : Heap, K.In base → base.Ns mainGlobals mg → FnOkG P w K mg base 49 fa fd ["_law_cells"] (spLaw K) := by
  have e := hfa.symm.trans (PySem.W.mg_of X G a43)
  cases e
  let A : Ad := { is_integer := f0, is_between := f1, is_row := f2, is_ascending := f3, is_stands := f4, is_arrows := f5, is_goals := f6, is_lot := f7, check_signs := f8, flags_of := f9, Reader_init := f10, Reader_signs := f11, Reader_arrows := f12, Reader_ends := f13, Reader_len := f14, check_reader := f15, end_flags := f16, check_duel := f17, goals_by := f18, has_some := f19, has_all := f20, signs_left := f21, least_left := f22, least_turns := f23, plan := f24, leaves := f25, barring := f26, bars := f27, turns_of := f28, goals_by_plan := f29, is_plan := f30, l_cask := f31, l_pull := f32, l_one_of := f33, l_trio := f34, l_lots := f35, l_near := f36, l_layers := f37, l_is_scheme := f38, l_longest := f39, l_never := f40, l_told_right := f41, l_right := f42, law := fa, C := C, pr_signs := p1, pr_arrows := p2, pr_ends := p3 }
  let fd : Fds := { is_integer := PySem.W.fnOf "is_integer" "is_integer" (defArgs s_is_integer) (defBody s_is_integer) (defScope s_is_integer) .none kV0 dc0 pm0 an0 cd0 ct0, is_between := PySem.W.fnOf "is_between" "is_between" (defArgs s_is_between) (defBody s_is_between) (defScope s_is_between) .none kV1 dc1 pm1 an1 cd1 ct1, is_row := PySem.W.fnOf "is_row" "is_row" (defArgs s_is_row) (defBody s_is_row) (defScope s_is_row) .none kV2 dc2 pm2 an2 cd2 ct2, is_ascending := PySem.W.fnOf "is_ascending" "is_ascending" (defArgs s_is_ascending) (defBody s_is_ascending) (defScope s_is_ascending) .none kV3 dc3 pm3 an3 cd3 ct3, is_stands := PySem.W.fnOf "is_stands" "is_stands" (defArgs s_is_stands) (defBody s_is_stands) (defScope s_is_stands) .none kV4 dc4 pm4 an4 cd4 ct4, is_arrows := PySem.W.fnOf "is_arrows" "is_arrows" (defArgs s_is_arrows) (defBody s_is_arrows) (defScope s_is_arrows) .none kV5 dc5 pm5 an5 cd5 ct5, is_goals := PySem.W.fnOf "is_goals" "is_goals" (defArgs s_is_goals) (defBody s_is_goals) (defScope s_is_goals) .none kV6 dc6 pm6 an6 cd6 ct6, is_lot := PySem.W.fnOf "is_lot" "is_lot" (defArgs s_is_lot) (defBody s_is_lot) (defScope s_is_lot) .none kV7 dc7 pm7 an7 cd7 ct7, check_signs := PySem.W.fnOf "check_signs" "check_signs" (defArgs s_check_signs) (defBody s_check_signs) (defScope s_check_signs) .none kV8 dc8 pm8 an8 cd8 ct8, flags_of := PySem.W.fnOf "flags_of" "flags_of" (defArgs s_flags_of) (defBody s_flags_of) (defScope s_flags_of) .none kV9 dc9 pm9 an9 cd9 ct9, Reader_init := PySem.W.fnOf "__init__" "Reader.__init__" (defArgs s_Reader_init) (defBody s_Reader_init) (defScope s_Reader_init) .none kV10 dc10 pm10 an10 cd10 ct10, Reader_signs := PySem.W.fnOf "signs" "Reader.signs" (defArgs s_Reader_signs) (defBody s_Reader_signs) (defScope s_Reader_signs) .none kV11 dc11 pm11 an11 cd11 ct11, Reader_arrows := PySem.W.fnOf "arrows" "Reader.arrows" (defArgs s_Reader_arrows) (defBody s_Reader_arrows) (defScope s_Reader_arrows) .none kV12 dc12 pm12 an12 cd12 ct12, Reader_ends := PySem.W.fnOf "ends" "Reader.ends" (defArgs s_Reader_ends) (defBody s_Reader_ends) (defScope s_Reader_ends) .none kV13 dc13 pm13 an13 cd13 ct13, Reader_len := PySem.W.fnOf "__len__" "Reader.__len__" (defArgs s_Reader_len) (defBody s_Reader_len) (defScope s_Reader_len) .none kV14 dc14 pm14 an14 cd14 ct14, check_reader := PySem.W.fnOf "check_reader" "check_reader" (defArgs s_check_reader) (defBody s_check_reader) (defScope s_check_reader) .none kV15 dc15 pm15 an15 cd15 ct15, end_flags := PySem.W.fnOf "end_flags" "end_flags" (defArgs s_end_flags) (defBody s_end_flags) (defScope s_end_flags) .none kV16 dc16 pm16 an16 cd16 ct16, check_duel := PySem.W.fnOf "check_duel" "check_duel" (defArgs s_check_duel) (defBody s_check_duel) (defScope s_check_duel) .none kV17 dc17 pm17 an17 cd17 ct17, goals_by := PySem.W.fnOf "goals_by" "goals_by" (defArgs s_goals_by) (defBody s_goals_by) (defScope s_goals_by) .none kV18 dc18 pm18 an18 cd18 ct18, has_some := PySem.W.fnOf "has_some" "has_some" (defArgs s_has_some) (defBody s_has_some) (defScope s_has_some) .none kV19 dc19 pm19 an19 cd19 ct19, has_all := PySem.W.fnOf "has_all" "has_all" (defArgs s_has_all) (defBody s_has_all) (defScope s_has_all) .none kV20 dc20 pm20 an20 cd20 ct20, signs_left := PySem.W.fnOf "signs_left" "signs_left" (defArgs s_signs_left) (defBody s_signs_left) (defScope s_signs_left) .none kV21 dc21 pm21 an21 cd21 ct21, least_left := PySem.W.fnOf "least_left" "least_left" (defArgs s_least_left) (defBody s_least_left) (defScope s_least_left) .none kV22 dc22 pm22 an22 cd22 ct22, least_turns := PySem.W.fnOf "least_turns" "least_turns" (defArgs s_least_turns) (defBody s_least_turns) (defScope s_least_turns) .none kV23 dc23 pm23 an23 cd23 ct23, plan := PySem.W.fnOf "plan" "plan" (defArgs s_plan) (defBody s_plan) (defScope s_plan) .none kV24 dc24 pm24 an24 cd24 ct24, leaves := PySem.W.fnOf "leaves" "leaves" (defArgs s_leaves) (defBody s_leaves) (defScope s_leaves) .none kV25 dc25 pm25 an25 cd25 ct25, barring := PySem.W.fnOf "barring" "barring" (defArgs s_barring) (defBody s_barring) (defScope s_barring) .none kV26 dc26 pm26 an26 cd26 ct26, bars := PySem.W.fnOf "bars" "bars" (defArgs s_bars) (defBody s_bars) (defScope s_bars) .none kV27 dc27 pm27 an27 cd27 ct27, turns_of := PySem.W.fnOf "turns_of" "turns_of" (defArgs s_turns_of) (defBody s_turns_of) (defScope s_turns_of) .none kV28 dc28 pm28 an28 cd28 ct28, goals_by_plan := PySem.W.fnOf "goals_by_plan" "goals_by_plan" (defArgs s_goals_by_plan) (defBody s_goals_by_plan) (defScope s_goals_by_plan) .none kV29 dc29 pm29 an29 cd29 ct29, is_plan := PySem.W.fnOf "is_plan" "is_plan" (defArgs s_is_plan) (defBody s_is_plan) (defScope s_is_plan) .none kV30 dc30 pm30 an30 cd30 ct30, l_cask := PySem.W.fnOf "_law_cask" "_law_cask" (defArgs s_l_cask) (defBody s_l_cask) (defScope s_l_cask) .none kV31 dc31 pm31 an31 cd31 ct31, l_pull := PySem.W.fnOf "_law_pull" "_law_pull" (defArgs s_l_pull) (defBody s_l_pull) (defScope s_l_pull) .none kV32 dc32 pm32 an32 cd32 ct32, l_one_of := PySem.W.fnOf "_law_one_of" "_law_one_of" (defArgs s_l_one_of) (defBody s_l_one_of) (defScope s_l_one_of) .none kV33 dc33 pm33 an33 cd33 ct33, l_trio := PySem.W.fnOf "_law_trio" "_law_trio" (defArgs s_l_trio) (defBody s_l_trio) (defScope s_l_trio) .none kV34 dc34 pm34 an34 cd34 ct34, l_lots := PySem.W.fnOf "_law_lots" "_law_lots" (defArgs s_l_lots) (defBody s_l_lots) (defScope s_l_lots) .none kV35 dc35 pm35 an35 cd35 ct35, l_near := PySem.W.fnOf "_law_near" "_law_near" (defArgs s_l_near) (defBody s_l_near) (defScope s_l_near) .none kV36 dc36 pm36 an36 cd36 ct36, l_layers := PySem.W.fnOf "_law_layers" "_law_layers" (defArgs s_l_layers) (defBody s_l_layers) (defScope s_l_layers) .none kV37 dc37 pm37 an37 cd37 ct37, l_is_scheme := PySem.W.fnOf "_law_is_scheme" "_law_is_scheme" (defArgs s_l_is_scheme) (defBody s_l_is_scheme) (defScope s_l_is_scheme) .none kV38 dc38 pm38 an38 cd38 ct38, l_longest := PySem.W.fnOf "_law_longest" "_law_longest" (defArgs s_l_longest) (defBody s_l_longest) (defScope s_l_longest) .none kV39 dc39 pm39 an39 cd39 ct39, l_never := PySem.W.fnOf "_law_never" "_law_never" (defArgs s_l_never) (defBody s_l_never) (defScope s_l_never) .none kV40 dc40 pm40 an40 cd40 ct40, l_told_right := PySem.W.fnOf "_law_told_right" "_law_told_right" (defArgs s_l_told_right) (defBody s_l_told_right) (defScope s_l_told_right) .none kV41 dc41 pm41 an41 cd41 ct41, l_right := PySem.W.fnOf "_law_right" "_law_right" (defArgs s_l_right) (defBody s_l_right) (defScope s_l_right) .none kV42 dc42 pm42 an42 cd42 ct42, law := PySem.W.fnOf "law" "law" (defArgs s_law) (defBody s_law) (defScope s_law) .none kV43 dc43 pm43 an43 cd43 ct43 }
  have T : Txt K mg A := {
    b_abs := PySem.W.mg_none_of X G yz0,
    b_all := PySem.W.mg_none_of X G yz1,
    b_any := PySem.W.mg_none_of X G yz2,
    b_bool := PySem.W.mg_none_of X G yz3,
    b_enumerate := PySem.W.mg_none_of X G yz4,
    b_int := PySem.W.mg_none_of X G yz5,
    b_isinstance := PySem.W.mg_none_of X G yz6,
    b_len := PySem.W.mg_none_of X G yz7,
    b_list := PySem.W.mg_none_of X G yz8,
    b_max := PySem.W.mg_none_of X G yz9,
    b_min := PySem.W.mg_none_of X G yz10,
    b_range := PySem.W.mg_none_of X G yz11,
    b_str := PySem.W.mg_none_of X G yz12,
    b_tuple := PySem.W.mg_none_of X G yz13,
    c_MOST_SIGNS := ⟨_, PySem.W.mg_of X G yg0⟩,
    c_MOST_STANDS := ⟨_, PySem.W.mg_of X G yg1⟩,
    c_ALPHABET := ⟨_, PySem.W.mg_of X G yg2⟩,
    m_is_integer := PySem.W.mg_of X G a0, k_is_integer := k0,
    m_is_between := PySem.W.mg_of X G a1, k_is_between := k1,
    m_is_row := PySem.W.mg_of X G a2, k_is_row := k2,
    m_is_ascending := PySem.W.mg_of X G a3, k_is_ascending := k3,
    m_is_stands := PySem.W.mg_of X G a4, k_is_stands := k4,
    m_is_arrows := PySem.W.mg_of X G a5, k_is_arrows := k5,
    m_is_goals := PySem.W.mg_of X G a6, k_is_goals := k6,
    m_is_lot := PySem.W.mg_of X G a7, k_is_lot := k7,
    m_check_signs := PySem.W.mg_of X G a8, k_check_signs := k8,
    m_flags_of := PySem.W.mg_of X G a9, k_flags_of := k9,
    m_check_reader := PySem.W.mg_of X G a15, k_check_reader := k15,
    m_end_flags := PySem.W.mg_of X G a16, k_end_flags := k16,
    m_check_duel := PySem.W.mg_of X G a17, k_check_duel := k17,
    m_goals_by := PySem.W.mg_of X G a18, k_goals_by := k18,
    m_has_some := PySem.W.mg_of X G a19, k_has_some := k19,
    m_has_all := PySem.W.mg_of X G a20, k_has_all := k20,
    m_signs_left := PySem.W.mg_of X G a21, k_signs_left := k21,
    m_least_left := PySem.W.mg_of X G a22, k_least_left := k22,
    m_least_turns := PySem.W.mg_of X G a23, k_least_turns := k23,
    m_plan := PySem.W.mg_of X G a24, k_plan := k24,
    m_leaves := PySem.W.mg_of X G a25, k_leaves := k25,
    m_barring := PySem.W.mg_of X G a26, k_barring := k26,
    m_bars := PySem.W.mg_of X G a27, k_bars := k27,
    m_turns_of := PySem.W.mg_of X G a28, k_turns_of := k28,
    m_goals_by_plan := PySem.W.mg_of X G a29, k_goals_by_plan := k29,
    m_is_plan := PySem.W.mg_of X G a30, k_is_plan := k30,
    m_l_cask := PySem.W.mg_of X G a31, k_l_cask := k31,
    m_l_pull := PySem.W.mg_of X G a32, k_l_pull := k32,
    m_l_one_of := PySem.W.mg_of X G a33, k_l_one_of := k33,
    m_l_trio := PySem.W.mg_of X G a34, k_l_trio := k34,
    m_l_lots := PySem.W.mg_of X G a35, k_l_lots := k35,
    m_l_near := PySem.W.mg_of X G a36, k_l_near := k36,
    m_l_layers := PySem.W.mg_of X G a37, k_l_layers := k37,
    m_l_is_scheme := PySem.W.mg_of X G a38, k_l_is_scheme := k38,
    m_l_longest := PySem.W.mg_of X G a39, k_l_longest := k39,
    m_l_never := PySem.W.mg_of X G a40, k_l_never := k40,
    m_l_told_right := PySem.W.mg_of X G a41, k_l_told_right := k41,
    m_l_right := PySem.W.mg_of X G a42, k_l_right := k42,
    m_law := PySem.W.mg_of X G a43, k_law := k43,
    m_Reader := PySem.W.mg_of X G aC, cl := ⟨pg, hd, po, sa⟩, mk_Reader := ⟨mk, a10, i10, kc⟩, na_signs := n1, na_arrows := n2, na_ends := n3,
    p_Reader_signs := ⟨u1, v1, w1, _, x1⟩, p_Reader_arrows := ⟨u2, v2, w2, _, x2⟩, p_Reader_ends := ⟨u3, v3, w3, _, x3⟩, own_len := a14, isf_len := i14, t_ha := tha, t_hn := thn, t_tk := ttk, t_mo := tmo }
  have F0 := fun_mk (st := s_is_integer) l0 c0 k0
  have b0 := F0.binds (ps := p_is_integer) fun _ _ _ _ _ _ us hl => match us, hl with | [_], _ => rfl
  have F1 := fun_mk (st := s_is_between) l1 c1 k1
  have b1 := F1.binds (ps := p_is_between) fun _ _ _ _ _ _ us hl => match us, hl with | [_, _, _], _ => rfl
  have F2 := fun_mk (st := s_is_row) l2 c2 k2
  have b2 := F2.binds (ps := p_is_row) fun _ _ _ _ _ _ us hl => match us, hl with | [_, _, _], _ => rfl
  have F3 := fun_mk (st := s_is_ascending) l3 c3 k3
  have b3 := F3.binds (ps := p_is_ascending) fun _ _ _ _ _ _ us hl => match us, hl with | [_], _ => rfl
  have F4 := fun_mk (st := s_is_stands) l4 c4 k4
  have b4 := F4.binds (ps := p_is_stands) fun _ _ _ _ _ _ us hl => match us, hl with | [_, _], _ => rfl
  have F5 := fun_mk (st := s_is_arrows) l5 c5 k5
  have b5 := F5.binds (ps := p_is_arrows) fun _ _ _ _ _ _ us hl => match us, hl with | [_, _], _ => rfl
  have F6 := fun_mk (st := s_is_goals) l6 c6 k6
  have b6 := F6.binds (ps := p_is_goals) fun _ _ _ _ _ _ us hl => match us, hl with | [_, _, _], _ => rfl
  have F7 := fun_mk (st := s_is_lot) l7 c7 k7
  have b7 := F7.binds (ps := p_is_lot) fun _ _ _ _ _ _ us hl => match us, hl with | [_, _], _ => rfl
  have F8 := fun_mk (st := s_check_signs) l8 c8 k8
  have b8 := F8.binds (ps := p_check_signs) fun _ _ _ _ _ _ us hl => match us, hl with | [_], _ => rfl
  have F9 := fun_mk (st := s_flags_of) l9 c9 k9
  have b9 := F9.binds (ps := p_flags_of) fun _ _ _ _ _ _ us hl => match us, hl with | [_, _], _ => rfl
  have F10 := fun_mk (st := s_Reader_init) l10 c10 k10
  have b10 := F10.binds (ps := p_Reader_init) fun _ _ _ _ _ _ us hl => match us, hl with | [_, _, _, _], _ => rfl
  have F11 := fun_mk (st := s_Reader_signs) l11 c11 k11
  have b11 := F11.binds (ps := p_Reader_signs) fun _ _ _ _ _ _ us hl => match us, hl with | [_], _ => rfl
  have F12 := fun_mk (st := s_Reader_arrows) l12 c12 k12
  have b12 := F12.binds (ps := p_Reader_arrows) fun _ _ _ _ _ _ us hl => match us, hl with | [_], _ => rfl
  have F13 := fun_mk (st := s_Reader_ends) l13 c13 k13
  have b13 := F13.binds (ps := p_Reader_ends) fun _ _ _ _ _ _ us hl => match us, hl with | [_], _ => rfl
  have F14 := fun_mk (st := s_Reader_len) l14 c14 k14
  have b14 := F14.binds (ps := p_Reader_len) fun _ _ _ _ _ _ us hl => match us, hl with | [_], _ => rfl
  have F15 := fun_mk (st := s_check_reader) l15 c15 k15
  have b15 := F15.binds (ps := p_check_reader) fun _ _ _ _ _ _ us hl => match us, hl with | [_], _ => rfl
  have F16 := fun_mk (st := s_end_flags) l16 c16 k16
  have b16 := F16.binds (ps := p_end_flags) fun _ _ _ _ _ _ us hl => match us, hl with | [_], _ => rfl
  have F17 := fun_mk (st := s_check_duel) l17 c17 k17
  have b17 := F17.binds (ps := p_check_duel) fun _ _ _ _ _ _ us hl => match us, hl with | [_, _, _], _ => rfl
  have F18 := fun_mk (st := s_goals_by) l18 c18 k18
  have b18 := F18.binds (ps := p_goals_by) fun _ _ _ _ _ _ us hl => match us, hl with | [_, _], _ => rfl
  have F19 := fun_mk (st := s_has_some) l19 c19 k19
  have b19 := F19.binds (ps := p_has_some) fun _ _ _ _ _ _ us hl => match us, hl with | [_, _], _ => rfl
  have F20 := fun_mk (st := s_has_all) l20 c20 k20
  have b20 := F20.binds (ps := p_has_all) fun _ _ _ _ _ _ us hl => match us, hl with | [_, _], _ => rfl
  have F21 := fun_mk (st := s_signs_left) l21 c21 k21
  have b21 := F21.binds (ps := p_signs_left) fun _ _ _ _ _ _ us hl => match us, hl with | [_, _, _, _], _ => rfl
  have F22 := fun_mk (st := s_least_left) l22 c22 k22
  have b22 := F22.binds (ps := p_least_left) fun _ _ _ _ _ _ us hl => match us, hl with | [_, _, _], _ => rfl
  have F23 := fun_mk (st := s_least_turns) l23 c23 k23
  have b23 := F23.binds (ps := p_least_turns) fun _ _ _ _ _ _ us hl => match us, hl with | [_, _, _], _ => rfl
  have F24 := fun_mk (st := s_plan) l24 c24 k24
  have b24 := F24.binds (ps := p_plan) fun _ _ _ _ _ _ us hl => match us, hl with | [_, _, _], _ => rfl
  have F25 := fun_mk (st := s_leaves) l25 c25 k25
  have b25 := F25.binds (ps := p_leaves) fun _ _ _ _ _ _ us hl => match us, hl with | [_, _, _], _ => rfl
  have F26 := fun_mk (st := s_barring) l26 c26 k26
  have b26 := F26.binds (ps := p_barring) fun _ _ _ _ _ _ us hl => match us, hl with | [_, _, _], _ => rfl
  have F27 := fun_mk (st := s_bars) l27 c27 k27
  have b27 := F27.binds (ps := p_bars) fun _ _ _ _ _ _ us hl => match us, hl with | [_, _], _ => rfl
  have F28 := fun_mk (st := s_turns_of) l28 c28 k28
  have b28 := F28.binds (ps := p_turns_of) fun _ _ _ _ _ _ us hl => match us, hl with | [_, _, _, _], _ => rfl
  have F29 := fun_mk (st := s_goals_by_plan) l29 c29 k29
  have b29 := F29.binds (ps := p_goals_by_plan) fun _ _ _ _ _ _ us hl => match us, hl with | [_, _, _], _ => rfl
  have F30 := fun_mk (st := s_is_plan) l30 c30 k30
  have b30 := F30.binds (ps := p_is_plan) fun _ _ _ _ _ _ us hl => match us, hl with | [_, _, _], _ => rfl
  have F31 := fun_mk (st := s_l_cask) l31 c31 k31
  have b31 := F31.binds (ps := p_l_cask) fun _ _ _ _ _ _ us hl => match us, hl with | [_, _], _ => rfl
  have F32 := fun_mk (st := s_l_pull) l32 c32 k32
  have b32 := F32.binds (ps := p_l_pull) fun _ _ _ _ _ _ us hl => match us, hl with | [_, _], _ => rfl
  have F33 := fun_mk (st := s_l_one_of) l33 c33 k33
  have b33 := F33.binds (ps := p_l_one_of) fun _ _ _ _ _ _ us hl => match us, hl with | [_, _], _ => rfl
  have F34 := fun_mk (st := s_l_trio) l34 c34 k34
  have b34 := F34.binds (ps := p_l_trio) fun _ _ _ _ _ _ us hl => match us, hl with | [_, _, _], _ => rfl
  have F35 := fun_mk (st := s_l_lots) l35 c35 k35
  have b35 := F35.binds (ps := p_l_lots) fun _ _ _ _ _ _ us hl => match us, hl with | [_, _], _ => rfl
  have F36 := fun_mk (st := s_l_near) l36 c36 k36
  have b36 := F36.binds (ps := p_l_near) fun _ _ _ _ _ _ us hl => match us, hl with | [_, _, _], _ => rfl
  have F37 := fun_mk (st := s_l_layers) l37 c37 k37
  have b37 := F37.binds (ps := p_l_layers) fun _ _ _ _ _ _ us hl => match us, hl with | [_, _], _ => rfl
  have F38 := fun_mk (st := s_l_is_scheme) l38 c38 k38
  have b38 := F38.binds (ps := p_l_is_scheme) fun _ _ _ _ _ _ us hl => match us, hl with | [_, _, _], _ => rfl
  have F39 := fun_mk (st := s_l_longest) l39 c39 k39
  have b39 := F39.binds (ps := p_l_longest) fun _ _ _ _ _ _ us hl => match us, hl with | [_, _, _, _, _, _], _ => rfl
  have F40 := fun_mk (st := s_l_never) l40 c40 k40
  have b40 := F40.binds (ps := p_l_never) fun _ _ _ _ _ _ us hl => match us, hl with | [_, _, _, _, _, _], _ => rfl
  have F41 := fun_mk (st := s_l_told_right) l41 c41 k41
  have b41 := F41.binds (ps := p_l_told_right) fun _ _ _ _ _ _ us hl => match us, hl with | [_, _, _], _ => rfl
  have F42 := fun_mk (st := s_l_right) l42 c42 k42
  have b42 := F42.binds (ps := p_l_right) fun _ _ _ _ _ _ us hl => match us, hl with | [_], _ => rfl
  have F43 := fun_mk (st := s_law) l43 c43 k43
  have b43 := F43.binds (ps := p_law) fun _ _ _ _ _ _ us hl => match us, hl with | [_], _ => rfl
  have U : Funs K A fd := {
    F_is_integer := F0, b_is_integer := b0,
    F_is_between := F1, b_is_between := b1,
    F_is_row := F2, b_is_row := b2,
    F_is_ascending := F3, b_is_ascending := b3,
    F_is_stands := F4, b_is_stands := b4,
    F_is_arrows := F5, b_is_arrows := b5,
    F_is_goals := F6, b_is_goals := b6,
    F_is_lot := F7, b_is_lot := b7,
    F_check_signs := F8, b_check_signs := b8,
    F_flags_of := F9, b_flags_of := b9,
    F_Reader_init := F10, b_Reader_init := b10,
    F_Reader_signs := F11, b_Reader_signs := b11,
    F_Reader_arrows := F12, b_Reader_arrows := b12,
    F_Reader_ends := F13, b_Reader_ends := b13,
    F_Reader_len := F14, b_Reader_len := b14,
    F_check_reader := F15, b_check_reader := b15,
    F_end_flags := F16, b_end_flags := b16,
    F_check_duel := F17, b_check_duel := b17,
    F_goals_by := F18, b_goals_by := b18,
    F_has_some := F19, b_has_some := b19,
    F_has_all := F20, b_has_all := b20,
    F_signs_left := F21, b_signs_left := b21,
    F_least_left := F22, b_least_left := b22,
    F_least_turns := F23, b_least_turns := b23,
    F_plan := F24, b_plan := b24,
    F_leaves := F25, b_leaves := b25,
    F_barring := F26, b_barring := b26,
    F_bars := F27, b_bars := b27,
    F_turns_of := F28, b_turns_of := b28,
    F_goals_by_plan := F29, b_goals_by_plan := b29,
    F_is_plan := F30, b_is_plan := b30,
    F_l_cask := F31, b_l_cask := b31,
    F_l_pull := F32, b_l_pull := b32,
    F_l_one_of := F33, b_l_one_of := b33,
    F_l_trio := F34, b_l_trio := b34,
    F_l_lots := F35, b_l_lots := b35,
    F_l_near := F36, b_l_near := b36,
    F_l_layers := F37, b_l_layers := b37,
    F_l_is_scheme := F38, b_l_is_scheme := b38,
    F_l_longest := F39, b_l_longest := b39,
    F_l_never := F40, b_l_never := b40,
    F_l_told_right := F41, b_l_told_right := b41,
    F_l_right := F42, b_l_right := b42,
    F_law := F43, b_law := b43 }
  exact ⟨PySem.W.fnOf "law" "law" (defArgs s_law) (defBody s_law) (defScope s_law) .none kV43 dc43 pm43 an43 cd43 ct43, fun s u => .of_eq rfl, fun base _ _ => FnOkG.of (ok_law T U)⟩
end K6
open PySem PySem.W PyProof.Rows
set_option maxRecDepth 100000 in
set_option maxHeartbeats 0 in
theorem PySem.Challenge.cw_rowreaders_k30_whole_plans_holds : PySem.Challenge.rw_rowreaders_k30_whole_plans.Holds := by
  w_on; o_law; k_head; (case hw => w_witness2)
  k_fill
  refine Rw.walkG (l := PySem.Challenge.rw_rowreaders_k30_whole_plans) (n := 63) (k := 49) (x := "_law_cells") (sp := K6.spLaw) rfl (by decide) rfl ⟨rfl, by decide, by decide⟩ (fun w h Y => PySem.W.kIn_of Y) ?F (fun K H a ns hl _ hS => ⟨a, ns, rfl, hS, hl, fun _ => rfl⟩)
  case F =>
    intro w mg fa h KX G hmg
    refine' K6.all_mk KX G hmg ?aC ?a0 ?a1 ?a2 ?a3 ?a4 ?a5 ?a6 ?a7 ?a8 ?a9 ?a10 ?i10 ?a14 ?i14 ?a15 ?a16 ?a17 ?a18 ?a19 ?a20 ?a21 ?a22 ?a23 ?a24 ?a25 ?a26 ?a27 ?a28 ?a29 ?a30 ?a31 ?a32 ?a33 ?a34 ?a35 ?a36 ?a37 ?a38 ?a39 ?a40 ?a41 ?a42 ?a43 ?u1 ?v1 ?w1 ?x1 ?u2 ?v2 ?w2 ?x2 ?u3 ?v3 ?w3 ?x3 ?l0 ?c0 ?k0 ?l1 ?c1 ?k1 ?l2 ?c2 ?k2 ?l3 ?c3 ?k3 ?l4 ?c4 ?k4 ?l5 ?c5 ?k5 ?l6 ?c6 ?k6 ?l7 ?c7 ?k7 ?l8 ?c8 ?k8 ?l9 ?c9 ?k9 ?l10 ?c10 ?k10 ?l11 ?c11 ?k11 ?l12 ?c12 ?k12 ?l13 ?c13 ?k13 ?l14 ?c14 ?k14 ?l15 ?c15 ?k15 ?l16 ?c16 ?k16 ?l17 ?c17 ?k17 ?l18 ?c18 ?k18 ?l19 ?c19 ?k19 ?l20 ?c20 ?k20 ?l21 ?c21 ?k21 ?l22 ?c22 ?k22 ?l23 ?c23 ?k23 ?l24 ?c24 ?k24 ?l25 ?c25 ?k25 ?l26 ?c26 ?k26 ?l27 ?c27 ?k27 ?l28 ?c28 ?k28 ?l29 ?c29 ?k29 ?l30 ?c30 ?k30 ?l31 ?c31 ?k31 ?l32 ?c32 ?k32 ?l33 ?c33 ?k33 ?l34 ?c34 ?k34 ?l35 ?c35 ?k35 ?l36 ?c36 ?k36 ?l37 ?c37 ?k37 ?l38 ?c38 ?k38 ?l39 ?c39 ?k39 ?l40 ?c40 ?k40 ?l41 ?c41 ?k41 ?l42 ?c42 ?k42 ?l43 ?c43 ?k43 ?pg ?hd ?po ?sa ?mk ?kc ?n1 ?n2 ?n3 ?tha ?thn ?ttk ?tmo ?yg0 ?yg1 ?yg2 ?yz0 ?yz1 ?yz2 ?yz3 ?yz4 ?yz5 ?yz6 ?yz7 ?yz8 ?yz9 ?yz10 ?yz11 ?yz12 ?yz13
    (case aC => k_is)
    (case a0 => k_is)
    (case a1 => k_is)
    (case a2 => k_is)
    (case a3 => k_is)
    (case a4 => k_is)
    (case a5 => k_is)
    (case a6 => k_is)
    (case a7 => k_is)
    (case a8 => k_is)
    (case a9 => k_is)
    (case a10 => k_is)
    (case i10 => k_is)
    (case a14 => k_is)
    (case i14 => k_is)
    (case a15 => k_is)
    (case a16 => k_is)
    (case a17 => k_is)
    (case a18 => k_is)
    (case a19 => k_is)
    (case a20 => k_is)
    (case a21 => k_is)
    (case a22 => k_is)
    (case a23 => k_is)
    (case a24 => k_is)
    (case a25 => k_is)
    (case a26 => k_is)
    (case a27 => k_is)
    (case a28 => k_is)
    (case a29 => k_is)
    (case a30 => k_is)
    (case a31 => k_is)
    (case a32 => k_is)
    (case a33 => k_is)
    (case a34 => k_is)
    (case a35 => k_is)
    (case a36 => k_is)
    (case a37 => k_is)
    (case a38 => k_is)
    (case a39 => k_is)
    (case a40 => k_is)
    (case a41 => k_is)
    (case a42 => k_is)
    (case a43 => k_is)
    (case u1 => k_is)
    (case v1 => k_is)
    (case w1 => k_is)
    (case x1 => k_is)
    (case u2 => k_is)
    (case v2 => k_is)
    (case w2 => k_is)
    (case x2 => k_is)
    (case u3 => k_is)
    (case v3 => k_is)
    (case w3 => k_is)
    (case x3 => k_is)
    (case l0 => k_is)
    (case c0 => k_is)
    (case k0 => k_is)
    (case l1 => k_is)
    (case c1 => k_is)
    (case k1 => k_is)
    (case l2 => k_is)
    (case c2 => k_is)
    (case k2 => k_is)
    (case l3 => k_is)
    (case c3 => k_is)
    (case k3 => k_is)
    (case l4 => k_is)
    (case c4 => k_is)
    (case k4 => k_is)
    (case l5 => k_is)
    (case c5 => k_is)
    (case k5 => k_is)
    (case l6 => k_is)
    (case c6 => k_is)
    (case k6 => k_is)
    (case l7 => k_is)
    (case c7 => k_is)
    (case k7 => k_is)
    (case l8 => k_is)
    (case c8 => k_is)
    (case k8 => k_is)
    (case l9 => k_is)
    (case c9 => k_is)
    (case k9 => k_is)
    (case l10 => k_is)
    (case c10 => k_is)
    (case k10 => k_is)
    (case l11 => k_is)
    (case c11 => k_is)
    (case k11 => k_is)
    (case l12 => k_is)
    (case c12 => k_is)
    (case k12 => k_is)
    (case l13 => k_is)
    (case c13 => k_is)
    (case k13 => k_is)
    (case l14 => k_is)
    (case c14 => k_is)
    (case k14 => k_is)
    (case l15 => k_is)
    (case c15 => k_is)
    (case k15 => k_is)
    (case l16 => k_is)
    (case c16 => k_is)
    (case k16 => k_is)
    (case l17 => k_is)
    (case c17 => k_is)
    (case k17 => k_is)
    (case l18 => k_is)
    (case c18 => k_is)
    (case k18 => k_is)
    (case l19 => k_is)
    (case c19 => k_is)
    (case k19 => k_is)
    (case l20 => k_is)
    (case c20 => k_is)
    (case k20 => k_is)
    (case l21 => k_is)
    (case c21 => k_is)
    (case k21 => k_is)
    (case l22 => k_is)
    (case c22 => k_is)
    (case k22 => k_is)
    (case l23 => k_is)
    (case c23 => k_is)
    (case k23 => k_is)
    (case l24 => k_is)
    (case c24 => k_is)
    (case k24 => k_is)
    (case l25 => k_is)
    (case c25 => k_is)
    (case k25 => k_is)
    (case l26 => k_is)
    (case c26 => k_is)
    (case k26 => k_is)
    (case l27 => k_is)
    (case c27 => k_is)
    (case k27 => k_is)
    (case l28 => k_is)
    (case c28 => k_is)
    (case k28 => k_is)
    (case l29 => k_is)
    (case c29 => k_is)
    (case k29 => k_is)
    (case l30 => k_is)
    (case c30 => k_is)
    (case k30 => k_is)
    (case l31 => k_is)
    (case c31 => k_is)
    (case k31 => k_is)
    (case l32 => k_is)
    (case c32 => k_is)
    (case k32 => k_is)
    (case l33 => k_is)
    (case c33 => k_is)
    (case k33 => k_is)
    (case l34 => k_is)
    (case c34 => k_is)
    (case k34 => k_is)
    (case l35 => k_is)
    (case c35 => k_is)
    (case k35 => k_is)
    (case l36 => k_is)
    (case c36 => k_is)
    (case k36 => k_is)
    (case l37 => k_is)
    (case c37 => k_is)
    (case k37 => k_is)
    (case l38 => k_is)
    (case c38 => k_is)
    (case k38 => k_is)
    (case l39 => k_is)
    (case c39 => k_is)
    (case k39 => k_is)
    (case l40 => k_is)
    (case c40 => k_is)
    (case k40 => k_is)
    (case l41 => k_is)
    (case c41 => k_is)
    (case k41 => k_is)
    (case l42 => k_is)
    (case c42 => k_is)
    (case k42 => k_is)
    (case l43 => k_is)
    (case c43 => k_is)
    (case k43 => k_is)
    (case pg => k_is)
    (case hd => k_is)
    (case po => k_is)
    (case sa => k_is)
    (case mk => k_is)
    (case kc => k_is)
    (case n1 => k_is)
    (case n2 => k_is)
    (case n3 => k_is)
    (case tha => k_is)
    (case thn => k_is)
    (case ttk => k_is)
    (case tmo => k_is)
    (case yg0 => k_is)
    (case yg1 => k_is)
    (case yg2 => k_is)
    (case yz0 => k_is)
    (case yz1 => k_is)
    (case yz2 => k_is)
    (case yz3 => k_is)
    (case yz4 => k_is)
    (case yz5 => k_is)
    (case yz6 => k_is)
    (case yz7 => k_is)
    (case yz8 => k_is)
    (case yz9 => k_is)
    (case yz10 => k_is)
    (case yz11 => k_is)
    (case yz12 => k_is)
    (case yz13 => k_is)


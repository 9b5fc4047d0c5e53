import PyProof.Rows.All
import Wide.All
import OpenK.AllK
import Wide.FinOn
import PyProof.EqAt
import PyProof.EqKinds
import PyProof.TupleCall
import HandS.ForMost
import HandS.Property
import HandS.IsInst
import HandS.Replace
import HandS.Evl
import HandS.FStrTup
import PyProof.Rows.StrStep
import PyProof.StrBlock2
import KE.DataMinMax
import HandS.Text
import HandS.WideBits
import HandS.StrMore
import HandS.TupMul
import PyProof.StrBlockL
import PySem.Challenge.RW_rowreaders_k62_numbers_and_their_rows
set_option Elab.async false
set_option linter.all false
set_option maxRecDepth 100000
set_option maxHeartbeats 2000000
/-! rules of our own beside the hand layer's: calls by keywords alone, len of an own instance, repr of data, defs that are entered where no repr is under way -/
namespace Rw
open PySem PySem.Spec PyProof.Rows L2
section
variable {X : Cx} {CX : CXT} {k : Nat} {f C : Addr} {fd : FuncData} {ps ks : List Str} {sp : Sp} {E : XK} {x : Str} {p pos : Pos} {kws : List Keyword} {tk : TA} {ta : TE} {e : Expr}
  {g : List Value → List Value → List Value} {gV : List V → List V → List V}

theorem pe_callK0 (F : FnOk X.prog X.w X.K X.mg X.base CX k f fd ps sp) (room : Room k X.A) (glob : Gl X x) (known : X.mg x = some (.ref f))
    (keep : PySem.W.keepIn X.K (.ref f) = true) (kb : KBinds X.K fd ps ks g gV) (pass : Passes CX X E) (hkw : PK X kws tk)
    (hall : (backToKw pos (keywordEach kws X.env)).all (·.1.isSome) = true := by rfl)
    (hks : (backToKw pos (keywordEach kws X.env)).filterMap (·.1) = ks := by rfl)
    (hdb : (x == ("__debug__" : Str)) = false := by decide)
    (hpl : ((backTo pos (starEach [] X.env)).any (·.1) || (backToKw pos (keywordEach kws X.env)).any (·.1.isNone)) = false := by rfl) :
    PE X (.Call (.Name x p) [] kws pos) (tCallK sp gV E tNil tk) := by
  constructor
  intro pins s σ H Q I h
  refine wpAny_Call_Name_kw (ld_glob I glob known ?_ hdb)
  refine PySem.W.callWith_KW0 (h₀ := X.base) I.ok.mod.kin keep hall
    (thn (hkw.run pos pins s σ H _ I h) fun ws s2 hh => ?_) hpl
  obtain ⟨zs, H2, I2, rz, q2⟩ := hh
  refine ⟨I2.kIn, ?_⟩
  rw [hks]
  exact run_fnk (us := []) F room kb pass I2 .nil rz q2

/-- len(o), o an instance of the class at C whose __len__ is the def at f -/
def rLenO (C : Addr) (sp : Sp) (E : XK) : List V → Hp → VK → Prop := fun vs H Q => ∃ a dx fs, vs = [.ref a] ∧ H a = some (.ins C dx fs) ∧
  sp [.ref a] H (fun v H2 => ∃ n : Nat, v = .int (n : Int) ∧ (n : Int) < 2 ^ 63 ∧ Q (.int (n : Int)) H2) E
theorem call_lenO (F : FnOk X.prog X.w X.K X.mg X.base CX k f fd ps sp) (room : Room (k + 1) X.A)
    (own : PySem.W.findIn X.K (.ref C) "__len__" = some (some (.ref f))) (isf : PySem.W.isFn X.K (.ref f) = true)
    (b : L2.Binds X.K fd ps []) (pass : Passes CX X E) : CallR X (.builtin "len") (rLenO C sp E) := by
  intro pins s σ H xs us Q I r h
  obtain ⟨a, dx, fs, rfl, ha, hsp⟩ := h
  obtain ⟨u, rfl⟩ : ∃ u, us = [u] := by
    cases r with
    | cons p q => cases q; exact ⟨_, rfl⟩
  have ru : u = Value.ref a := by
    cases r with
    | cons p q => exact p
  subst ru
  obtain ⟨mA, O, _, _, _, _⟩ := ins_get I.hok ha
  obtain ⟨od, J, _⟩ := O.look
  obtain ⟨m, hF⟩ := I.fr
  refine PySem.W.len_K hF I.ok.mod.kin J own isf ?_
  have hl := F.len _ _ _ _ hsp
  refine wpAny_call (codeAny_mono (F.run X.A.in1 X.stack s H ⟨[.ref a], []⟩ [.ref a] [.ref a] _ E room.in1 I.env0.in1 (by
    have := b s [.ref a] I.kIn (by simpa using hl)
    simpa using this) (.cons rfl .nil) hsp) fun r s' hq => ?_)
  cases r with
  | error e => exact pass pins σ H s e s' I hq
  | ok fl =>
    cases fl with
    | ret w =>
      obtain ⟨z, H', I', rz, n, ez, hn, hQ⟩ := I.after hq
      subst ez
      obtain ⟨t, rfl⟩ := rz
      refine ⟨⟨Int.natCast_nonneg n, hn⟩, ?_⟩
      exact ⟨.int n, H', I'.tok _, ⟨_, rfl⟩, hQ⟩
    | next => exact False.elim hq
    | brk => exact False.elim hq
    | cont => exact False.elim hq

mutual
theorem noDict {K : PySem.W.Frag} {H : Hp} : ∀ (d : PyData) (v : V), Dp K H v d → d.hasDict = false
  | .none, _, _ => by simp only [PyData.hasDict]
  | .bool _, _, _ => by simp only [PyData.hasDict]
  | .int _, _, _ => by simp only [PyData.hasDict]
  | .str _, _, _ => by simp only [PyData.hasDict]
  | .list ds, _, h => by
    cases h with
    | lst _ a => simp only [PyData.hasDict]; exact noDicts ds _ a
  | .tuple ds, _, h => by
    cases h with
    | tup _ a => simp only [PyData.hasDict]; exact noDicts ds _ a
  | .dict _, _, h => by cases h
theorem noDicts {K : PySem.W.Frag} {H : Hp} : ∀ (ds : List PyData) (vs : List V), DpAll K H vs ds → PyData.hasDictAll ds = false
  | [], _, _ => by simp only [PyData.hasDictAll]
  | d :: ds, _, h => by
    cases h with
    | cons a b => simp only [PyData.hasDictAll, noDict d _ a, noDicts ds _ b, Bool.or_false]
end

/-- repr(x), x a list or a tuple of data, where no repr is under way -/
def rReprD (K : PySem.W.Frag) : List V → Hp → VK → Prop := fun vs H Q => ∃ a d, vs = [.ref a] ∧ Dp K H (.ref a) d ∧ d.showable = true ∧ d.depth ≤ 10 ∧ d.shown.length ≤ sizeLine ∧ Q (.str d.shown) H
theorem call_reprD (hg : X.A.guards = some []) (hr : Room k X.A) : CallR X (.builtin "repr") (rReprD X.K) := by
  intro pins s σ H xs us Q I r h
  obtain ⟨a, d, rfl, hd, hs, hdep, hsz, hQ⟩ := h
  obtain ⟨u, rfl⟩ : ∃ u, us = [u] := by
    cases r with
    | cons p q => cases q; exact ⟨_, rfl⟩
  have ru : u = Value.ref a := by
    cases r with
    | cons p q => exact p
  subst ru
  obtain ⟨as, R⟩ := Dp.reads I d _ _ hd rfl
  have hu := hr.units
  refine repr_of_reads' R hs (PyData.noDict_hsm (noDict d _ hd)) hg (by omega) (fun b o e => e) (fun h' u tk hk => ?_) hsz
  exact ⟨.str d.shown, H, I.kept hk, ⟨_, rfl⟩, hQ⟩
end

/-! ### the layer's rules with the written part named -/
section
variable {X : Cx} {K : PySem.W.Frag} {tg l a : Expr} {tl ta : TE} {pos : Pos}
theorem w_ixL (h : X.K = K := by rfl) : IxR X (rIxL K) := by subst h; exact ix_list
theorem w_ixT (h : X.K = K := by rfl) : IxR X (rIxT K) := by subst h; exact ix_tup
def rLenK (K : PySem.W.Frag) : List V → Hp → VK → Prop := fun xs H Q => ∃ x n, xs = [x] ∧ LenV K x H n ∧ Q (.int n) H
theorem w_len (h : X.K = K := by rfl) : CallR X (.builtin "len") (rLenK K) := by subst h; exact call_len
theorem w_in (h : X.K = K := by rfl) : OpR X (compareOp .In) (rIn K false) := by subst h; exact op_in_seq
theorem w_notIn (h : X.K = K := by rfl) : OpR X (compareOp .NotIn) (rIn K true) := by subst h; exact op_notIn_seq
theorem w_sum (hc : X.calm = true) (h : X.K = K := by rfl) : CallR X (.builtin "sum") (rSum K) := by subst h; exact cr_sum hc
theorem w_all (hc : X.calm = true) (h : X.K = K := by rfl) : CallR X (.builtin "all") (rAll K) := by subst h; exact cr_all hc
theorem w_any (hc : X.calm = true) (h : X.K = K := by rfl) : CallR X (.builtin "any") (rAny K) := by subst h; exact cr_any hc
def rListK (K : PySem.W.Frag) : List V → Hp → VK → Prop := fun xs H Q => ∃ p ys, xs = [.ref p] ∧ (SqL K H p ys ∨ SqT K H p ys) ∧ ∀ l, H l = none → Q (.ref l) (upd H l (.lst ys))
theorem w_list (h : X.K = K := by rfl) : CallR X (.type "list") (rListK K) := by subst h; exact call_list_of
def rTupK (K : PySem.W.Frag) : List V → Hp → VK → Prop := fun xs H Q => ∃ p ys, xs = [.ref p] ∧ ((SqL K H p ys ∧ ∀ l, H l = none → Q (.ref l) (upd H l (.tup ys))) ∨ (SqT K H p ys ∧ Q (.ref p) H))
theorem w_tuple (h : X.K = K := by rfl) : CallR X (.type "tuple") (rTupK K) := by subst h; exact call_tuple_of
theorem w_isi (h : X.K = K := by rfl) : CallR X (.builtin "isinstance") (rIsi K) := by subst h; exact call_isi
theorem w_slL (h : X.K = K := by rfl) : SlR X (rSlL K) := by subst h; exact sl_list
theorem w_slT (h : X.K = K := by rfl) : SlR X (rSlT K) := by subst h; exact sl_tup
theorem w_piL (hl : PE X l tl) (h : X.K = K := by rfl) : PI X tg l (iList K tl) := by subst h; exact pi_list hl
theorem w_piT (hl : PE X l tl) (h : X.K = K := by rfl) : PI X tg l (iTup K tl) := by subst h; exact pi_tup hl
theorem w_tup {es : List Expr} {k : Nat} {t : TGs} {n : Nat} (hc : X.calm = true) (hs : PGs X es t) (h : X.K = K := by rfl)
    (hn : (assignEach es X.env).length = n := by rfl) (hst : (assignEach es X.env).findIdx? (·.1) = none := by rfl) : PG X (.Tuple es k pos) (gTup K n t) := by subst h; exact pg_tup hc hs hn hst
def tTruK (K : PySem.W.Frag) (ta : TE) : TT := fun σ H Q => ta σ H fun x H' => ∃ k, TruV K x H' k ∧ Q k H'
theorem w_truth (ha : PE X a ta) (he : ∀ whole, isTrue a X.env whole = (do let v ← whole; standAt a.pos; holding [v] (truthy v))) (h : X.K = K := by rfl) : PT X a (tTruK K ta) := by subst h; exact pt_truth ha he
theorem w_eqD (hu : X.A.units + 64 < cLine) (h : X.K = K := by rfl) : OpR X (compareOp .Eq) (rEqD K) := by subst h; exact op_eqD hu
theorem w_neD (hu : X.A.units + 64 < cLine) (h : X.K = K := by rfl) : OpR X (compareOp .NotEq) (rNeD K) := by subst h; exact op_neD hu
theorem w_reprD {k : Nat} (hg : X.A.guards = some []) (hr : Room k X.A) (h : X.K = K := by rfl) : CallR X (.builtin "repr") (rReprD K) := by subst h; exact call_reprD hg hr
end
/-! ### a def that is entered where no repr is under way -/
structure FnOkG (P : Program) (w : World) (K : PySem.W.Frag) (mg : Str → Option Value) (base : Heap) (k : Nat) (f : Addr) (fd : FuncData) (ps : List Str) (sp : Sp) : Prop where
  len : ∀ vs H Q E, sp vs H Q E → vs.length = ps.length
  run : ∀ (A : Around) (outer : List Env) (s : Shared) (H : Hp) (args : Args) (us : List Value) (vs : List V) (Q : VK) (E : XK), A.guards = some [] → Room k A →
    Env0 P w K mg base A outer s H → BindsTo s fd args (ps.zip us) → Vals vs us → sp vs H Q E → codeAny (model P w) A (.call (.ref f) args) (CR CX0 outer P w H s Q E) s
section
variable {P : Program} {w : World} {K : PySem.W.Frag} {mg : Str → Option Value} {base : Heap} {f : Addr} {fd : FuncData} {N ps : List Str} {k : Nat} {sp : Sp} {x qual : Str} {st : Stmt}
theorem okG (F : Fun K x qual st f fd) (S : FnScope N ps (defScope st)) (len : ∀ vs H Q E, sp vs H Q E → vs.length = ps.length)
    (hbody : ∀ (cdv : Value) (A : Around) (outer : List Env) (s : Shared) (H : Hp) (vs : List V) (Q : VK) (E : XK), A.guards = some [] →
      Room k (A.deeper (envOfC qual (defScope st) s.heap.objs.size f cdv)) → sp vs H Q E →
      ∃ t, PSs (cxOf CX0 P w K mg base N qual (defScope st) f cdv A outer s H E).nox (defBody st) t ∧ t { nx := fun _ H' => Q .non H', rt := Q } (start N vs) H) :
    FnOkG P w K mg base (k + 1) f fd ps sp := by
  obtain ⟨oc, od, kV, doc, pm, an, cdv, ct, osl, rfl, lk, hcd⟩ := F.ex
  refine ⟨len, fun A outer s H args us vs Q E hg hr e0 hb r hsp => ?_⟩
  have hl := len _ _ _ _ hsp
  have inn : K.In s.heap := e0.mod.kin.keeps (fun b o e => (e0.bs b o e).1)
  have nolim : s.heap.NoLimit := e0.mod.nolimit.keeps (fun b o e => (e0.bs b o e).1)
  have kinds : ∀ y ∈ ps.zip us, (defScope st).names.lookup y.1 = some .local ∨
      ((defScope st).names.lookup y.1 = some .cell ∧ ((cellsFrom (s.heap.objs.size + 1) (defScope st).names []).lookup y.1).isSome = true) := by
    rintro ⟨n, v⟩ hy
    rcases S.par n (List.of_mem_zip hy).1 with q | q
    · exact .inl q
    · exact .inr ⟨q, PySem.W.cellsFrom_some _ _ _ (.inl q)⟩
  refine codeAny_call_function hr.depth (inn _ _ lk) rfl S.co S.gen rfl (PySem.W.codeRec_of inn hcd) (hb _ _ _ _ ?_)
  refine wpAny_newFunctionEnv_cells S.kind kinds (fun env he s1 x => ?_)
  subst he
  refine ⟨nolim.keeps x.toInCall.keep, codeAny_func ?_⟩
  obtain ⟨t, ht, hq⟩ := hbody cdv A outer s H vs Q E hg (hr.deeper _) hsp
  have I := inv_start (CX := CX0) (P := P) (w := w) (K := K) (mg := mg) (base := base) (qual := qual) (f := f) (cd := cdv) (E := E) S hr.hd e0 hl r x
  refine wpAny_mono (ht.nox.run [] s1 (start N vs) H _ I hq) (fun fl s' hs => ?_) (fun e s' hs => hs)
  cases fl with
  | ret u =>
    obtain ⟨v, σ', H', J, rv, q⟩ := hs
    exact ⟨v, H', J.os, J.bare, J.base, J.hok, rv, q⟩
  | next =>
    obtain ⟨σ', H', J, q⟩ := hs
    exact ⟨V.non, H', J.os, J.bare, J.base, J.hok, rfl, q⟩
  | brk =>
    obtain ⟨_, _, _, q⟩ := hs
    exact False.elim q
  | cont =>
    obtain ⟨_, _, _, q⟩ := hs
    exact False.elim q
end
section
variable {X : Cx} {k : Nat} {f : Addr} {fd : FuncData} {ps : List Str} {sp : Sp} {x : Str} {p pos : Pos} {e : Expr} {es : List Expr} {t : TA}
theorem pe_callG (F : FnOkG X.prog X.w X.K X.mg X.base k f fd ps sp) (hgd : X.A.guards = some []) (room : Room k X.A) (glob : Gl X x) (known : X.mg x = some (.ref f))
    (keep : PySem.W.keepIn X.K (.ref f) = true) (b : L2.Binds X.K fd ps []) (ha : PA X (e :: es) t)
    (hdb : (x == ("__debug__" : Str)) = false := by decide) (he : starEach (e :: es) X.env = (false, eval e X.env) :: starEach es X.env := by rfl)
    (hpl : (backTo pos (starEach es X.env)).any (·.1) = false := by rfl) : PE X (.Call (.Name x p) (e :: es) [] pos) (tCall sp [] E0 t) := by
  constructor
  intro pins s σ H Q I h
  refine wpAny_Call_Name_kw (ld_glob I glob known ?_ hdb)
  refine PySem.W.callWith_K (h₀ := X.base) I.ok.mod.kin keep (thn (ha.run pos pins s σ H _ I h) fun us s1 hh => ?_) he hpl
  obtain ⟨vs, H1, I1, r, q⟩ := hh
  refine ⟨I1.kIn, ?_⟩
  have q : sp (vs ++ []) H1 Q E0 := q
  rw [List.append_nil] at q
  have hl : us.length = ps.length := by rw [← r.length]; exact F.len _ _ _ _ q
  refine wpAny_call (codeAny_mono (F.run X.A X.stack s1 H1 ⟨us, []⟩ us vs Q E0 hgd room I1.env0 (by
    have := b s1 us I1.kIn (by simpa using hl)
    simpa using this) r q) fun r s' hq => ?_)
  cases r with
  | error e => exact False.elim hq
  | ok fl =>
    cases fl with
    | ret u => exact I1.after hq
    | next => exact False.elim hq
    | brk => exact False.elim hq
    | cont => exact False.elim hq
end

/-! ### the law's call from above, for such a def -/
section
variable {P : Program} {w : World} {K : PySem.W.Frag} {mg mb : Str → Option Value} {k : Nat} {fa a : Addr} {fd : FuncData} {x : Str} {sp : Sp} {s1 : Shared} {vs : List Value} {ns : List Int}
abbrev Fin1 (s1 : Shared) (r : Result) (s' : Shared) : Prop := r = .ok (.ret (.bool true)) ∧ PySem.OldK s1.heap s'.heap ∧ s'.os = s1.os ∧ AllBare s'.gens
theorem callG_core (KX : K.In s1.heap) (nsg : s1.heap.Ns mainGlobals mg) (nsb : s1.heap.Ns builtinsNs mb) (boot : ∀ x : Str, x ≠ "__name__" → mb x = bootBuiltins x)
    (lim : s1.heap.NoLimit) (noGens : s1.gens = #[]) (obj : s1.heap.get? a = some { cls := .type "list", data := .seq vs.toArray }) (room : Room k callerA)
    (F : ∀ base : Heap, K.In base → base.Ns mainGlobals mg → FnOkG P w K mg base k fa fd [x] sp) (bind : ∀ (s : Shared) (u : Value), BindsTo s fd ⟨[u], []⟩ [(x, u)])
    (H : Hp) (only : Only H) (hsp : sp [.ref a] H (fun v _ => v = .bl true) fun _ _ _ => False) (ok : HOk P w H s1.heap) (onlyA : ∀ b, H b ≠ none → b = a) (outK : H a ≠ none → K.lookup a = none) :
    codeAny (model P w) callerA (.call (.ref fa) ⟨[.ref a], []⟩) (Fin1 s1) s1 := by
  have keepsB : ∀ {b : Addr} {o : Obj}, s1.heap.get? b = some o → H b = none → (hidT s1.heap H).get? b = some o := fun e n => hidT_get e n
  have isA : ∀ {b : Addr} {u : HO}, H b = some u → b = a := fun {b u} q => onlyA b (by rw [q]; simp)
  have dictNo : ∀ {b : Addr} {o : Obj} {es : Array DictEntry} {ep : Nat}, s1.heap.get? b = some o → o.data = .dict es ep → H b = none := by
    intro b o es ep e d
    cases q : H b with
    | none => rfl
    | some u =>
      have z := isA q
      subst z
      rw [obj] at e
      cases e
      exact absurd (show Data.seq vs.toArray _ = Data.dict es ep from d) (by intro y; cases y)
  have nsK : ∀ {b : Addr} {m : Str → Option Value}, s1.heap.Ns b m → (hidT s1.heap H).Ns b m := by
    rintro b m ⟨o, es, ep, e, d, r⟩
    exact ⟨o, es, ep, keepsB e (dictNo e d), d, r⟩
  have inB : K.In (hidT s1.heap H) := by
    intro b o e
    refine keepsB (KX b o e) ?_
    cases q : H b with
    | none => rfl
    | some u =>
      have z := isA q
      subst z
      rw [outK (by rw [q]; simp)] at e
      cases e
  have md : Mod K mg (hidT s1.heap H) := by
    obtain ⟨mc, h1, h2⟩ := lim
    exact ⟨inB, nsK nsg, ⟨mb, nsK nsb, boot⟩, ⟨mc, nsK h1, h2⟩⟩
  have e0 : Env0 P w K mg (hidT s1.heap H) callerA [] s1 H := by
    refine ⟨rfl, md, fun b o e => of_hidT e, Nat.le_of_eq (hidT_size _ _), trivial, ?_, ok, .of_eq noGens⟩
    intro b hb
    exact absurd (show b ∈ ([] : List Addr) from hb) (by simp)
  refine codeAny_mono ((F _ inB (nsK nsg)).run callerA [] s1 H ⟨[.ref a], []⟩ [.ref a] [.ref a] _ _ rfl room e0 (bind s1 (.ref a)) (.cons rfl .nil) hsp) ?_
  intro r s' h
  cases r with
  | error e => exact False.elim h
  | ok fl =>
    cases fl with
    | next => exact False.elim h
    | brk => exact False.elim h
    | cont => exact False.elim h
    | ret u =>
      obtain ⟨v, H', os, bare, un, ok', rv, q⟩ := h
      have q : v = .bl true := q
      subst q
      have ru : u = Value.bool true := rv
      subst ru
      refine ⟨rfl, PySem.OldK.of_keep (fun b o e => ?_), os, bare⟩
      cases q : H b with
      | none => exact un.keep b o e q (fun z => absurd (show b ∈ ([] : List Addr) from z) (by simp)) (by simp)
      | some u =>
        rcases only b with z | ⟨ob, xs, z⟩
        · rw [q] at z
          cases z
        · obtain ⟨e1, _⟩ := ok b _ z
          obtain ⟨e2, _⟩ := ok' b _ (un.frzs b ob _ z)
          rw [e] at e1
          cases e1
          exact e2
theorem callG (KX : K.In s1.heap) (nsg : s1.heap.Ns mainGlobals mg) (nsb : s1.heap.Ns builtinsNs mb) (boot : ∀ x : Str, x ≠ "__name__" → mb x = bootBuiltins x)
    (lim : s1.heap.NoLimit) (noGens : s1.gens = #[]) (obj : s1.heap.get? a = some { cls := .type "list", data := .seq vs.toArray }) (hi : IntsAre vs ns) (hl : ns.length ≤ sizeLine) (room : Room k callerA)
    (F : ∀ base : Heap, K.In base → base.Ns mainGlobals mg → FnOkG P w K mg base k fa fd [x] sp) (bind : ∀ (s : Shared) (u : Value), BindsTo s fd ⟨[u], []⟩ [(x, u)])
    (hsp : ∀ H : Hp, Only H → SqL K H a (ns.map V.int) → sp [.ref a] H (fun v _ => v = .bl true) fun _ _ _ => False) :
    codeAny (model P w) callerA (.call (.ref fa) ⟨[.ref a], []⟩) (Fin1 s1) s1 := by
  have rv := vals_ints hi
  have lenV := hi.length
  cases hk : K.lookup a with
  | some o =>
    have e := KX a o hk
    rw [obj] at e
    cases e
    have only : Only (fun _ => none) := fun _ => .inl rfl
    refine callG_core KX nsg nsb boot lim noGens obj room F bind (fun _ => none) only (hsp _ only ?_) (fun b u z => ?_) (fun b z => absurd rfl z) (fun z => absurd rfl z)
    · exact .inr ⟨_, vs.toArray, _, hk, rfl, rfl, rfl, by rw [List.size_toArray, lenV]; exact hl, by simpa using rv⟩
    · have z : (none : Option HO) = some u := z
      cases z
  | none =>
    have only : Only (fun b => if b = a then some (.frz { cls := .type "list", data := .seq vs.toArray } (.lst (ns.map V.int))) else none) := by
      intro b
      by_cases hb : b = a
      · exact .inr ⟨_, _, if_pos hb⟩
      · exact .inl (if_neg hb)
    refine callG_core KX nsg nsb boot lim noGens obj room F bind _ only (hsp _ only ?_) (fun b u z => ?_) (fun b z => ?_) (fun _ => hk)
    · exact .inl (.inr ⟨{ cls := .type "list", data := .seq vs.toArray }, if_pos rfl⟩)
    · by_cases hb : b = a
      · have z' := (if_pos hb).symm.trans z
        cases z'
        subst hb
        exact ⟨obj, by rw [List.length_map]; exact hl, vs, _, rv, obj⟩
      · have z' := (if_neg hb).symm.trans z
        cases z'
    · by_cases hb : b = a
      · exact hb
      · exact absurd (if_neg hb) z
theorem walkG {l : PySem.W.OpenLaw} {n k : Nat} {q : Program} {loose : List Str} {XP : (Str → Option Value) → Heap → Prop} {YP : World → Heap → Prop} {d : DefRec} {K : Params → PySem.W.Frag} {sp : PySem.W.Frag → Sp} {x : Str}
    (hn : l.most = some n) (hn2 : n ≤ sizeLine) (hdf : d.params.defaults = []) (room : Room k callerA) (hY : ∀ (w : World) (h : Heap), YP w h → (K w.params).In h)
    (F : ∀ (w : World) (mg : Str → Option Value) (fa : Addr) (h : Heap), (K w.params).In h → h.Ns mainGlobals mg → mg d.name = some (.ref fa) →
      ∃ fd : FuncData, (∀ (s : Shared) (u : Value), BindsTo s fd ⟨[u], []⟩ [(x, u)]) ∧
        ∀ base : Heap, (K w.params).In base → base.Ns mainGlobals mg → FnOkG l.prog w (K w.params) mg base k fa fd [x] (sp (K w.params)))
    (hsp : ∀ (K : PySem.W.Frag) (H : Hp) (a : Addr) (ns : List Int), ns.length ≤ n → Only H → SqL K H a (ns.map V.int) → sp K [.ref a] H (fun v _ => v = .bl true) fun _ _ _ => False) :
    PySem.W.WalkO q loose XP YP l.row.toRowW d [] (fun f vs => PySem.call f vs) := by
  refine Att.attach_call hn hdf (fun w s0 s1 mg mb fa o pm cd doc a vs ns G Y ho hd hcd hmg hobj hints hlen hg => ?_)
  have KX := hY w _ Y
  obtain ⟨fd, hb, hF⟩ := F w mg fa _ KX G.T.g hmg
  exact callG KX G.T.g G.T.b G.T.builtins G.T.nolimit hg hobj hints (Nat.le_trans hlen hn2) room hF hb (fun H hO hS => hsp (K w.params) H a ns hlen hO hS)
end
end Rw

set_option Elab.async false
set_option linter.all false
set_option maxRecDepth 100000
set_option maxHeartbeats 2000000
/-! rules of our own: s[::-1], the greatest of a tuple of ints, a text many times -/
namespace Rw
open PySem PySem.Spec PyProof.Rows L2
section
variable {X : Cx} {K : PySem.W.Frag} {e : Expr} {te : TE} {p2 p3 p4 pos : Pos} {j : Bool}
def tRevS (te : TE) : TE := fun σ H Q => te σ H fun x H1 => ∃ z, x = .str z ∧ z.length ≤ sizeLine ∧ ∀ u : Tok, Q (.str (Txt.sliceBy z none none (-1, u))) H1
theorem pe_revS {k1 : Nat} (he : PE X e te) : PE X (.Subscript e (.Slice none none (some (.UnaryOp .USub (.Constant (.int 1) k1 p3) p4)) p2) pos) (tRevS te) := by
  refine ⟨fun pins s σ H Q I h => ?_⟩
  refine Subscript_ (thn (he.run pins s σ H _ I h) fun v s1 ⟨x, H1, I1, r1, q1⟩ => ?_)
  obtain ⟨z, rfl, hz, q⟩ := q1
  obtain ⟨t, rfl⟩ := r1
  refine wpAny_Slice ?_
  rw [evalPart_none]
  refine wpAny_pure ?_
  refine wpAny_pure ?_
  rw [evalPart_some]
  have hm : PE X (.UnaryOp .USub (.Constant (.int 1) k1 p3) p4) _ := pe_un un_neg pe_int
  refine thn (hm.run pins s1 σ H1 (fun y H2 => y = .int (-1) ∧ H2 = H1) I1 ⟨1, rfl, rfl, rfl⟩) fun vs s3 ⟨y, H3, I3, r3, e1, e2⟩ => ?_
  subst e1
  subst e2
  obtain ⟨u, rfl⟩ := r3
  have I4 : Inv X pins σ H3 { s3 with heap := s3.heap.push { cls := .type "slice", data := .fields #[.none, .none, .int (-1) u] } } := I3.kept (t' := s3.toks) fun b ob q => Heap.get?_push_of_some _ q
  refine tail_any (ops := [.ref s3.heap.objs.size, .str z t]) (typeIs_str _ _ _) F.slot_str_getitem.lookup ?_ (by with_unfolding_all rfl)
  refine wpAny_getItem_str_slice (l := none) (u := none) (st := some (-1, u)) ⟨_, Heap.get?_push_size _ rfl, rfl, rfl⟩ rfl ?_
  refine post_val_or_str ⟨Nat.le_trans (Txt.sliceBy_le z none none (-1, u) (show (-1 : Int) ≠ 0 by decide)) hz, fun t' k => ?_⟩
  exact ⟨.str (Txt.sliceBy z none none (-1, u)), H3, I4.kept (t' := k) fun b ob q => q, ⟨t', rfl⟩, q u⟩
def rMaxT (K : PySem.W.Frag) : List V → Hp → VK → Prop := fun vs H Q => ∃ (a : Addr) (ns : List Int), vs = [V.ref a] ∧ SqT K H a (ns.map V.int) ∧ 0 < ns.length ∧ ∀ m, m ∈ ns → (∀ y, y ∈ ns → y ≤ m) → Q (.int m) H
theorem foldl_max : ∀ (ns : List Int) (n : Int), (ns.foldl max n ∈ n :: ns) ∧ ∀ y ∈ n :: ns, y ≤ ns.foldl max n
  | [], n => ⟨List.mem_cons_self .., fun y h => by simp at h; rw [h]; exact Int.le_refl _⟩
  | k :: r, n => by
    obtain ⟨h1, h2⟩ := foldl_max r (max n k)
    rw [List.foldl_cons]
    refine ⟨?_, fun y hy => ?_⟩
    · rcases List.mem_cons.mp h1 with e | e
      · rw [e]
        by_cases c : n ≤ k
        · rw [Int.max_eq_right c]
          exact List.mem_cons_of_mem _ (List.mem_cons_self ..)
        · rw [Int.max_eq_left (by omega)]
          exact List.mem_cons_self ..
      · exact List.mem_cons_of_mem _ (List.mem_cons_of_mem _ e)
    · have hm := h2 (max n k) (List.mem_cons_self ..)
      rcases List.mem_cons.mp hy with rfl | hy
      · exact Int.le_trans (Int.le_max_left _ _) hm
      · rcases List.mem_cons.mp hy with rfl | hy
        · exact Int.le_trans (Int.le_max_right _ _) hm
        · exact h2 y (List.mem_cons_of_mem _ hy)
theorem reads_of_ints {h : Heap} : ∀ {vs : List Value} {ns : List Int}, IntsAre vs ns → ReadsAll h vs (ns.map .int) []
  | [], [], _ => .nil
  | v :: vs, n :: ns, hi => by
    cases hi with
    | cons _ b => exact .cons (.int _ _) (reads_of_ints (by assumption))
theorem depth_ints : ∀ ns : List Int, PyData.depthAll (ns.map .int) ≤ 1
  | [] => by show PyData.depthAll [] ≤ 1; unfold PyData.depthAll; omega
  | n :: r => by
    rw [List.map_cons]
    unfold PyData.depthAll
    have := depth_ints r
    have : (PyData.int n).depth ≤ 1 := by unfold PyData.depth; omega
    omega
theorem alike_of_ints (ns : List Int) : PySem.W.AlikeAll (ns.map .int) := by
  refine ⟨fun x hx y hy => ?_, fun x hx => ?_⟩
  · obtain ⟨a, _, rfl⟩ := List.mem_map.mp hx
    obtain ⟨b, _, rfl⟩ := List.mem_map.mp hy
    rfl
  · obtain ⟨a, _, rfl⟩ := List.mem_map.mp hx
    intro z
    cases z
theorem cr_maxT (hc : X.calm = true) (hu : X.A.units + 64 < cLine) : CallR X (.builtin "max") (rMaxT X.K) := by
  intro pins s σ H vs us Q I r h
  obtain ⟨a, ns, rfl, hs, hne, q⟩ := h
  obtain ⟨its, rv, hl, _⟩ := I.tuple hs
  rw [Vals.ref1 r]
  obtain ⟨n, ns, rfl⟩ : ∃ n r, ns = n :: r := by
    cases ns with
    | nil => simp at hne
    | cons n r => exact ⟨n, r, rfl⟩
  have hd := depth_ints (n :: ns)
  refine PySem.W.max_tuple_data (x := .int n) (xs := ns.map .int) (I.ok.hd hc) hl (reads_of_ints (ns := n :: ns) rv.ints) (alike_of_ints (n :: ns)) (by
    have : PyData.depthAll (PyData.int n :: ns.map .int) ≤ 1 := hd
    omega) fun i v h' tk bs hi r hk => ?_
  rw [PySem.W.maxD_ints] at r
  cases r
  obtain ⟨h1, h2⟩ := foldl_max ns n
  exact ⟨.int _, H, I.kept hk, ⟨_, rfl⟩, q _ h1 h2⟩
theorem w_maxT (hc : X.calm = true) (hu : X.A.units + 64 < cLine) (h : X.K = K := by rfl) : CallR X (.builtin "max") (rMaxT K) := by subst h; exact cr_maxT hc hu
theorem w_maxL (hc : X.calm = true) (h : X.K = K := by rfl) : CallR X (.builtin "max") (rMax K) := by subst h; exact cr_max hc
/-- a text many times -/
theorem op_repS : OpR X (binaryOp .Mult) (fun x y H Q => ∃ (z : Str) (n : Nat), x = .str z ∧ y = .int (n : Int) ∧ n ≤ 100000 ∧ z.length ≤ 100 ∧ Q (.str (Txt.mul z (n : Int))) H) := by
  intro pins s σ H x y v u Q I rx ry h
  obtain ⟨z, n, rfl, rfl, hn, hz, q⟩ := h
  obtain ⟨t, rfl⟩ := rx
  obtain ⟨t2, rfl⟩ := ry
  refine SB.mul ⟨?_, fun _ _ => ?_, fun _ _ => ?_⟩ fun t' k => ⟨.str (Txt.mul z (n : Int)), H, I.kept (t' := k) fun b ob q => q, ⟨t', rfl⟩, q⟩
  · rw [decide_eq_false (by omega), decide_eq_false (by omega)] <;> rfl
  · intro w
    have w : ((2 : Int) ^ 63 - 1) / (n : Int) < (z.length : Int) := w
    have := (Int.ediv_lt_iff_lt_mul (by omega)).mp w
    have a1 : (z.length : Int) * (n : Int) ≤ 100 * 100000 := Int.mul_le_mul (by omega) (by omega) (by omega) (by omega)
    omega
  · unfold Builtin.Str.tooLong
    rw [sizeLine_eq]
    have a1 : z.length * (n : Int).toNat ≤ 100 * 100000 := Nat.mul_le_mul hz (by omega)
    exact decide_eq_false (by omega)
end
end Rw

set_option Elab.async false
set_option linter.all false
set_option maxRecDepth 100000
set_option maxHeartbeats 2000000
namespace Rw
open PySem PySem.Spec PyProof.Rows L2
section
variable {X : Cx} {K : PySem.W.Frag}
theorem op_shlS : OpR X (binaryOp .LShift) (fun x y H Q => ∃ i k : Nat, x = .int (i : Int) ∧ y = .int (k : Int) ∧ i < 1000000 ∧ k ≤ 1000 ∧ Q (.int ((i * 2 ^ k : Nat) : Int)) H) := by
  intro pins s σ H x y v u Q I rx ry h
  obtain ⟨i, k, rfl, rfl, hi, hk, q⟩ := h
  refine op_shl pins s σ H _ _ v u Q I rx ry ⟨_, _, rfl, rfl, ⟨by omega, by omega, by omega⟩, ?_⟩
  show Q (.int ((i : Int) * 2 ^ (k : Int).toNat)) H
  rw [Int.toNat_natCast]
  have : (i : Int) * 2 ^ k = ((i * 2 ^ k : Nat) : Int) := by push_cast; rfl
  rw [this]
  exact q
theorem op_shrS : OpR X (binaryOp .RShift) (fun x y H Q => ∃ n k : Nat, x = .int (n : Int) ∧ y = .int (k : Int) ∧ Q (.int ((n / 2 ^ k : Nat) : Int)) H) := by
  intro pins s σ H x y v u Q I rx ry h
  obtain ⟨n, k, rfl, rfl, q⟩ := h
  refine op_shrN pins s σ H _ _ v u Q I rx ry ⟨_, k, rfl, rfl, ?_⟩
  have : (n : Int) / 2 ^ k = ((n / 2 ^ k : Nat) : Int) := by push_cast; rfl
  rw [this]
  exact q
theorem tuple_mul1 (l : Addr) (items : Array Value) (n : Nat) (dd : Option Addr) (sl : Array (Option Value)) (u : Tok) :
    Meets (Builtin.«tuple.__mul__» ⟨[.ref l, .int 1 u], []⟩) (fun _ R s => s.heap.get? l = some { cls := .type "tuple", dict := dd, data := .seq items n, slots := sl } ∧ R (.ok (.ret (.ref l))) s) :=
  .of_wp fun prog w A R s h => by
    obtain ⟨hp, g, d, tk, os⟩ := s
    obtain ⟨hl, h⟩ := h
    have f1 := AutoSeq1.idx_int
    have c1 : (items.isEmpty || (1 : Int) == 1) = true := by rw [show ((1 : Int) == 1) = true from rfl, Bool.or_true]
    wp_walk using wpAny_loadPart' hl
    repeat (first
      | (refine wpAny_ite_true (decide_eq_true c1) ?_; wp_walk using wpAny_loadPart' hl)
      | (refine wpAny_ite_true c1 ?_; wp_walk using wpAny_loadPart' hl))
    exact ⟨_, rfl, h⟩
def rRepTO (K : PySem.W.Frag) : R2 := fun x y H Q => ∃ l k xs, x = .ref l ∧ y = .int k ∧ SqT K H l xs ∧ xs ≠ [] ∧ 1 ≤ k ∧ k ≤ 1000 ∧ xs.length ≤ 1000 ∧ ∀ p H', Same H H' → SqT K H' p (List.replicate k.toNat xs).flatten → Q (.ref p) H'
theorem op_repT1 : OpR X (binaryOp .Mult) (fun x y H Q => ∃ l xs, x = .ref l ∧ y = .int 1 ∧ SqT X.K H l xs ∧ Q (.ref l) H) := by
  intro pins s σ H x y v u Q I rx ry h
  obtain ⟨l, xs, rfl, rfl, hT, q⟩ := h
  cases rx
  obtain ⟨t, rfl⟩ := ry
  obtain ⟨its, r, ⟨⟨cls, dd, data, sl⟩, ho, hc, n, hd⟩, hs⟩ := I.tuple hT
  simp only at hc hd
  subst hc hd
  refine wpAny_binaryOp_repeat_ref (T := "tuple") (U := "int") (by decide) ⟨_, ho, rfl⟩ (fun s' => typeIs_int s' 1 t) noFill_tuple_mul F.fills_int_mul F.slot_int_rmul repeat_tuple F.slot_int_index.lookup
    (call_meets F.slot_int_rmul (typeIs_int s 1 t) F.entry_int_rmul (F.args_int_rmul_2 _ _) (int_rmul_tuple 1 t l its.toArray n dd sl)
      ⟨ho, rfl, ⟨_, ho, rfl⟩, call_meets F.slot_tuple_mul ⟨_, ho, rfl⟩ F.entry_tuple_mul (F.args_tuple_mul_2 _ _) (tuple_mul1 l its.toArray n dd sl t) ⟨ho, ?_⟩⟩)
  exact ⟨.ref l, H, I, rfl, q⟩
theorem op_repTO (h : X.K = K := by rfl) : OpR X (binaryOp .Mult) (rRepTO K) := by
  subst h
  intro pins s σ H x y v u Q I rx ry h
  obtain ⟨l, k, xs, rfl, rfl, hT, hne, h1, h2, hz, q⟩ := h
  by_cases c : k = 1
  · subst c
    refine op_repT1 pins s σ H _ _ v u Q I rx ry ⟨l, xs, rfl, rfl, hT, q l H (Same.refl _) ?_⟩
    show SqT X.K H l (List.replicate 1 xs).flatten
    rw [show (List.replicate 1 xs).flatten = xs by simp]
    exact hT
  · refine op_repT pins s σ H _ _ v u Q I rx ry ⟨l, k, xs, rfl, rfl, hT, hne, by omega, h2, hz, fun p hp => ?_⟩
    exact q p _ (fun b x e => by rw [upd_ne (ne_of_none e hp)]; exact e) (.inl (.inl upd_same))
end
end Rw

set_option Elab.async false
set_option linter.all false
set_option maxRecDepth 100000
set_option maxHeartbeats 4000000
namespace K6
open PySem PySem.Spec PyProof.Rows L2 Rw
/-! ### the text by places, the names of each def -/
def topS (i : Nat) : Stmt := PySem.Challenge.pw_rowreaders_k62_numbers_and_their_rows.main.body.getD i (.Pass ⟨0, 0, 0, 0⟩)

abbrev s_is_integer : Stmt := topS 9
abbrev n_is_integer : List Str := ["value"]
abbrev p_is_integer : List Str := ["value"]
theorem sc_is_integer : FnScope n_is_integer p_is_integer (defScope s_is_integer) := ⟨rfl, rfl, rfl, by decide +kernel, rfl, by decide +kernel, by decide +kernel⟩
abbrev s_is_between : Stmt := topS 10
abbrev n_is_between : List Str := ["value", "low", "high"]
abbrev p_is_between : List Str := ["value", "low", "high"]
theorem sc_is_between : FnScope n_is_between p_is_between (defScope s_is_between) := ⟨rfl, rfl, rfl, by decide +kernel, rfl, by decide +kernel, by decide +kernel⟩
abbrev s_is_row : Stmt := topS 11
abbrev n_is_row : List Str := ["value", "signs", "most", "letters", "sign"]
abbrev p_is_row : List Str := ["value", "signs", "most"]
theorem sc_is_row : FnScope n_is_row p_is_row (defScope s_is_row) := ⟨rfl, rfl, rfl, by decide +kernel, rfl, by decide +kernel, by decide +kernel⟩
abbrev s_check_row : Stmt := topS 12
abbrev n_check_row : List Str := ["signs", "row"]
abbrev p_check_row : List Str := ["signs", "row"]
theorem sc_check_row : FnScope n_check_row p_check_row (defScope s_check_row) := ⟨rfl, rfl, rfl, by decide +kernel, rfl, by decide +kernel, by decide +kernel⟩
abbrev s_figure : Stmt := topS 15
abbrev n_figure : List Str := ["sign", "track"]
abbrev p_figure : List Str := ["sign", "track"]
theorem sc_figure : FnScope n_figure p_figure (defScope s_figure) := ⟨rfl, rfl, rfl, by decide +kernel, rfl, by decide +kernel, by decide +kernel⟩
abbrev s_check_tracks : Stmt := topS 17
abbrev n_check_tracks : List Str := ["tracks"]
abbrev p_check_tracks : List Str := ["tracks"]
theorem sc_check_tracks : FnScope n_check_tracks p_check_tracks (defScope s_check_tracks) := ⟨rfl, rfl, rfl, by decide +kernel, rfl, by decide +kernel, by decide +kernel⟩
abbrev s_check_numbers : Stmt := topS 18
abbrev n_check_numbers : List Str := ["numbers", "least", "number"]
abbrev p_check_numbers : List Str := ["numbers", "least"]
theorem sc_check_numbers : FnScope n_check_numbers p_check_numbers (defScope s_check_numbers) := ⟨rfl, rfl, rfl, by decide +kernel, rfl, by decide +kernel, by decide +kernel⟩
abbrev s_numbers_by : Stmt := topS 19
abbrev n_numbers_by : List Str := ["tracks", "row"]
abbrev p_numbers_by : List Str := ["tracks", "row"]
theorem sc_numbers_by : FnScope n_numbers_by p_numbers_by (defScope s_numbers_by) := ⟨rfl, rfl, rfl, by decide +kernel, rfl, by decide +kernel, by decide +kernel⟩
abbrev s_numbers_of : Stmt := topS 20
abbrev n_numbers_of : List Str := ["tracks", "row", "numbers", "sign", "at", "track"]
abbrev p_numbers_of : List Str := ["tracks", "row"]
theorem sc_numbers_of : FnScope n_numbers_of p_numbers_of (defScope s_numbers_of) := ⟨rfl, rfl, rfl, by decide +kernel, rfl, by decide +kernel, by decide +kernel⟩
abbrev s_row_for : Stmt := topS 21
abbrev n_row_for : List Str := ["numbers"]
abbrev p_row_for : List Str := ["numbers"]
theorem sc_row_for : FnScope n_row_for p_row_for (defScope s_row_for) := ⟨rfl, rfl, rfl, by decide +kernel, rfl, by decide +kernel, by decide +kernel⟩
abbrev s_shortest_row : Stmt := topS 22
abbrev n_shortest_row : List Str := ["numbers", "row", "place", "figures", "number", "track"]
abbrev p_shortest_row : List Str := ["numbers"]
theorem sc_shortest_row : FnScope n_shortest_row p_shortest_row (defScope s_shortest_row) := ⟨rfl, rfl, rfl, by decide +kernel, rfl, by decide +kernel, by decide +kernel⟩
abbrev s_l_brook : Stmt := topS 24
abbrev n_l_brook : List Str := ["_law_script", "_law_spot", "_law_own", "_law_mixed", "_law_each"]
abbrev p_l_brook : List Str := ["_law_script", "_law_spot"]
theorem sc_l_brook : FnScope n_l_brook p_l_brook (defScope s_l_brook) := ⟨rfl, rfl, rfl, by decide +kernel, rfl, by decide +kernel, by decide +kernel⟩
abbrev s_l_scoop : Stmt := topS 25
abbrev n_l_scoop : List Str := ["_law_brook_here", "_law_many", "_law_digit", "_law_kept"]
abbrev p_l_scoop : List Str := ["_law_brook_here", "_law_many"]
theorem sc_l_scoop : FnScope n_l_scoop p_l_scoop (defScope s_l_scoop) := ⟨rfl, rfl, rfl, by decide +kernel, rfl, by decide +kernel, by decide +kernel⟩
abbrev s_l_choose : Stmt := topS 26
abbrev n_l_choose : List Str := ["_law_brook_here", "_law_some"]
abbrev p_l_choose : List Str := ["_law_brook_here", "_law_some"]
theorem sc_l_choose : FnScope n_l_choose p_l_choose (defScope s_l_choose) := ⟨rfl, rfl, rfl, by decide +kernel, rfl, by decide +kernel, by decide +kernel⟩
abbrev s_l_figures : Stmt := topS 27
abbrev n_l_figures : List Str := ["_law_lanes", "_law_rowlet", "_law_found", "_law_track", "_law_number", "_law_worth", "_law_sign"]
abbrev p_l_figures : List Str := ["_law_lanes", "_law_rowlet"]
theorem sc_l_figures : FnScope n_l_figures p_l_figures (defScope s_l_figures) := ⟨rfl, rfl, rfl, by decide +kernel, rfl, by decide +kernel, by decide +kernel⟩
abbrev s_l_shortest : Stmt := topS 28
abbrev n_l_shortest : List Str := ["_law_nums", "_law_rowlet", "_law_left", "_law_turn", "_law_k", "_law_number"]
abbrev p_l_shortest : List Str := ["_law_nums"]
theorem sc_l_shortest : FnScope n_l_shortest p_l_shortest (defScope s_l_shortest) := ⟨rfl, rfl, rfl, by decide +kernel, rfl, by decide +kernel, by decide +kernel⟩
abbrev s_l_row_right : Stmt := topS 29
abbrev n_l_row_right : List Str := ["_law_brook_here", "_law_lanes", "_law_signs", "_law_size", "_law_rowlet", "_law_told", "_law_k", "_law_number"]
abbrev p_l_row_right : List Str := ["_law_brook_here"]
theorem sc_l_row_right : FnScope n_l_row_right p_l_row_right (defScope s_l_row_right) := ⟨rfl, rfl, rfl, by decide +kernel, rfl, by decide +kernel, by decide +kernel⟩
abbrev s_l_numbers_right : Stmt := topS 30
abbrev n_l_numbers_right : List Str := ["_law_brook_here", "_law_many", "_law_found", "_law_k", "_law_some", "_law_nums", "_law_rowlet"]
abbrev p_l_numbers_right : List Str := ["_law_brook_here"]
theorem sc_l_numbers_right : FnScope n_l_numbers_right p_l_numbers_right (defScope s_l_numbers_right) := ⟨rfl, rfl, rfl, by decide +kernel, rfl, by decide +kernel, by decide +kernel⟩
abbrev s_l_right : Stmt := topS 31
abbrev n_l_right : List Str := ["_law_brook_here", "_law_turn", "_law_k"]
abbrev p_l_right : List Str := ["_law_brook_here"]
theorem sc_l_right : FnScope n_l_right p_l_right (defScope s_l_right) := ⟨rfl, rfl, rfl, by decide +kernel, rfl, by decide +kernel, by decide +kernel⟩
abbrev s_law : Stmt := topS 32
abbrev n_law : List Str := ["_law_script", "_law_spot"]
abbrev p_law : List Str := ["_law_script"]
theorem sc_law : FnScope n_law p_law (defScope s_law) := ⟨rfl, rfl, rfl, by decide +kernel, rfl, by decide +kernel, by decide +kernel⟩
/-! ### where the defs stand -/
structure Ad where
  is_integer : Addr
  is_between : Addr
  is_row : Addr
  check_row : Addr
  figure : Addr
  check_tracks : Addr
  check_numbers : Addr
  numbers_by : Addr
  numbers_of : Addr
  row_for : Addr
  shortest_row : Addr
  l_brook : Addr
  l_scoop : Addr
  l_choose : Addr
  l_figures : Addr
  l_shortest : Addr
  l_row_right : Addr
  l_numbers_right : Addr
  l_right : Addr
  law : Addr
structure Txt (K : PySem.W.Frag) (mg : Str → Option Value) (A : Ad) : Prop where
  b_abs : mg "abs" = none
  b_all : mg "all" = none
  b_bool : mg "bool" = none
  b_divmod : mg "divmod" = none
  b_int : mg "int" = none
  b_isinstance : mg "isinstance" = none
  b_len : mg "len" = none
  b_list : mg "list" = none
  b_max : mg "max" = none
  b_min : mg "min" = none
  b_range : mg "range" = none
  b_str : mg "str" = none
  b_sum : mg "sum" = none
  b_tuple : mg "tuple" = none
  c_ALPHABET : ∃ t, mg "ALPHABET" = some (.str "abcdefgh" t)
  c_MOST_ROW : ∃ t, mg "MOST_ROW" = some (.int 200 t)
  c_MOST_TRACKS : ∃ t, mg "MOST_TRACKS" = some (.int 3 t)
  c_NUMBERS : ∃ t, mg "NUMBERS" = some (.int 10000000000000000000000000000000000000000 t)
  m_is_integer : mg "is_integer" = some (.ref A.is_integer)
  k_is_integer : PySem.W.keepIn K (.ref A.is_integer) = true
  m_is_between : mg "is_between" = some (.ref A.is_between)
  k_is_between : PySem.W.keepIn K (.ref A.is_between) = true
  m_is_row : mg "is_row" = some (.ref A.is_row)
  k_is_row : PySem.W.keepIn K (.ref A.is_row) = true
  m_check_row : mg "check_row" = some (.ref A.check_row)
  k_check_row : PySem.W.keepIn K (.ref A.check_row) = true
  m_figure : mg "figure" = some (.ref A.figure)
  k_figure : PySem.W.keepIn K (.ref A.figure) = true
  m_check_tracks : mg "check_tracks" = some (.ref A.check_tracks)
  k_check_tracks : PySem.W.keepIn K (.ref A.check_tracks) = true
  m_check_numbers : mg "check_numbers" = some (.ref A.check_numbers)
  k_check_numbers : PySem.W.keepIn K (.ref A.check_numbers) = true
  m_numbers_by : mg "numbers_by" = some (.ref A.numbers_by)
  k_numbers_by : PySem.W.keepIn K (.ref A.numbers_by) = true
  m_numbers_of : mg "numbers_of" = some (.ref A.numbers_of)
  k_numbers_of : PySem.W.keepIn K (.ref A.numbers_of) = true
  m_row_for : mg "row_for" = some (.ref A.row_for)
  k_row_for : PySem.W.keepIn K (.ref A.row_for) = true
  m_shortest_row : mg "shortest_row" = some (.ref A.shortest_row)
  k_shortest_row : PySem.W.keepIn K (.ref A.shortest_row) = true
  m_l_brook : mg "_law_brook" = some (.ref A.l_brook)
  k_l_brook : PySem.W.keepIn K (.ref A.l_brook) = true
  m_l_scoop : mg "_law_scoop" = some (.ref A.l_scoop)
  k_l_scoop : PySem.W.keepIn K (.ref A.l_scoop) = true
  m_l_choose : mg "_law_choose" = some (.ref A.l_choose)
  k_l_choose : PySem.W.keepIn K (.ref A.l_choose) = true
  m_l_figures : mg "_law_figures" = some (.ref A.l_figures)
  k_l_figures : PySem.W.keepIn K (.ref A.l_figures) = true
  m_l_shortest : mg "_law_shortest" = some (.ref A.l_shortest)
  k_l_shortest : PySem.W.keepIn K (.ref A.l_shortest) = true
  m_l_row_right : mg "_law_row_right" = some (.ref A.l_row_right)
  k_l_row_right : PySem.W.keepIn K (.ref A.l_row_right) = true
  m_l_numbers_right : mg "_law_numbers_right" = some (.ref A.l_numbers_right)
  k_l_numbers_right : PySem.W.keepIn K (.ref A.l_numbers_right) = true
  m_l_right : mg "_law_right" = some (.ref A.l_right)
  k_l_right : PySem.W.keepIn K (.ref A.l_right) = true
  m_law : mg "law" = some (.ref A.law)
  k_law : PySem.W.keepIn K (.ref A.law) = true
/-! ### the defs themselves -/
structure Fds where
  is_integer : FuncData
  is_between : FuncData
  is_row : FuncData
  check_row : FuncData
  figure : FuncData
  check_tracks : FuncData
  check_numbers : FuncData
  numbers_by : FuncData
  numbers_of : FuncData
  row_for : FuncData
  shortest_row : FuncData
  l_brook : FuncData
  l_scoop : FuncData
  l_choose : FuncData
  l_figures : FuncData
  l_shortest : FuncData
  l_row_right : FuncData
  l_numbers_right : FuncData
  l_right : FuncData
  law : FuncData
structure Funs (K : PySem.W.Frag) (A : Ad) (fd : Fds) : Prop where
  F_is_integer : Fun K "is_integer" "is_integer" s_is_integer A.is_integer fd.is_integer
  b_is_integer : L2.Binds K fd.is_integer p_is_integer []
  F_is_between : Fun K "is_between" "is_between" s_is_between A.is_between fd.is_between
  b_is_between : L2.Binds K fd.is_between p_is_between []
  F_is_row : Fun K "is_row" "is_row" s_is_row A.is_row fd.is_row
  b_is_row : L2.Binds K fd.is_row p_is_row []
  F_check_row : Fun K "check_row" "check_row" s_check_row A.check_row fd.check_row
  b_check_row : L2.Binds K fd.check_row p_check_row []
  F_figure : Fun K "figure" "figure" s_figure A.figure fd.figure
  b_figure : L2.Binds K fd.figure p_figure []
  F_check_tracks : Fun K "check_tracks" "check_tracks" s_check_tracks A.check_tracks fd.check_tracks
  b_check_tracks : L2.Binds K fd.check_tracks p_check_tracks []
  F_check_numbers : Fun K "check_numbers" "check_numbers" s_check_numbers A.check_numbers fd.check_numbers
  b_check_numbers : L2.Binds K fd.check_numbers p_check_numbers []
  F_numbers_by : Fun K "numbers_by" "numbers_by" s_numbers_by A.numbers_by fd.numbers_by
  b_numbers_by : L2.Binds K fd.numbers_by p_numbers_by []
  F_numbers_of : Fun K "numbers_of" "numbers_of" s_numbers_of A.numbers_of fd.numbers_of
  b_numbers_of : L2.Binds K fd.numbers_of p_numbers_of []
  F_row_for : Fun K "row_for" "row_for" s_row_for A.row_for fd.row_for
  b_row_for : L2.Binds K fd.row_for p_row_for []
  F_shortest_row : Fun K "shortest_row" "shortest_row" s_shortest_row A.shortest_row fd.shortest_row
  b_shortest_row : L2.Binds K fd.shortest_row p_shortest_row []
  F_l_brook : Fun K "_law_brook" "_law_brook" s_l_brook A.l_brook fd.l_brook
  b_l_brook : L2.Binds K fd.l_brook p_l_brook []
  F_l_scoop : Fun K "_law_scoop" "_law_scoop" s_l_scoop A.l_scoop fd.l_scoop
  b_l_scoop : L2.Binds K fd.l_scoop p_l_scoop []
  F_l_choose : Fun K "_law_choose" "_law_choose" s_l_choose A.l_choose fd.l_choose
  b_l_choose : L2.Binds K fd.l_choose p_l_choose []
  F_l_figures : Fun K "_law_figures" "_law_figures" s_l_figures A.l_figures fd.l_figures
  b_l_figures : L2.Binds K fd.l_figures p_l_figures []
  F_l_shortest : Fun K "_law_shortest" "_law_shortest" s_l_shortest A.l_shortest fd.l_shortest
  b_l_shortest : L2.Binds K fd.l_shortest p_l_shortest []
  F_l_row_right : Fun K "_law_row_right" "_law_row_right" s_l_row_right A.l_row_right fd.l_row_right
  b_l_row_right : L2.Binds K fd.l_row_right p_l_row_right []
  F_l_numbers_right : Fun K "_law_numbers_right" "_law_numbers_right" s_l_numbers_right A.l_numbers_right fd.l_numbers_right
  b_l_numbers_right : L2.Binds K fd.l_numbers_right p_l_numbers_right []
  F_l_right : Fun K "_law_right" "_law_right" s_l_right A.l_right fd.l_right
  b_l_right : L2.Binds K fd.l_right p_l_right []
  F_law : Fun K "law" "law" s_law A.law fd.law
  b_law : L2.Binds K fd.law p_law []
end K6

set_option Elab.async false
set_option linter.all false
set_option maxRecDepth 100000
set_option maxHeartbeats 4000000
namespace K6
open PySem PySem.Spec PyProof.Rows L2 Rw
/-! ### data that stands in the heap -/
section
variable {K : PySem.W.Frag} {H H' H1 : Hp}
theorem sqL_mono (s : Same H H') {a : Addr} {xs : List V} (h : SqL K H a xs) : SqL K H' a xs := s.seq h
theorem sqT_mono (s : Same H H') {a : Addr} {xs : List V} (h : SqT K H a xs) : SqT K H' a xs := by
  rcases h with (h | ⟨o, h⟩) | h
  · exact .inl (.inl (s _ _ h))
  · exact .inl (.inr ⟨o, s _ _ h⟩)
  · exact .inr h
mutual
theorem dp_mono (s : Same H H') : ∀ (d : PyData) (v : V), Dp K H v d → Dp K H' v d
  | .none, _, h => by cases h; exact .non
  | .bool b, _, h => by cases h; exact .bl b
  | .int i, _, h => by cases h; exact .int i
  | .str x, _, h => by cases h; exact .str x
  | .list ds, _, h => by
    cases h with
    | lst a b => exact .lst (sqL_mono s a) (dps_mono s ds _ b)
  | .tuple ds, _, h => by
    cases h with
    | tup a b => exact .tup (sqT_mono s a) (dps_mono s ds _ b)
  | .dict _, _, h => by cases h
theorem dps_mono (s : Same H H') : ∀ (ds : List PyData) (vs : List V), DpAll K H vs ds → DpAll K H' vs ds
  | [], _, h => by cases h; exact .nil
  | d :: ds, _, h => by
    cases h with
    | cons a b => exact .cons (dp_mono s d _ a) (dps_mono s ds _ b)
end
theorem dps_len : ∀ {vs : List V} {ds : List PyData}, DpAll K H vs ds → vs.length = ds.length
  | _, _, .nil => rfl
  | _, _, .cons _ b => by
    show _ + 1 = _ + 1
    rw [dps_len b]
theorem dps_get : ∀ {vs : List V} {ds : List PyData} {i : Nat} {d : PyData}, DpAll K H vs ds → ds[i]? = some d → ∃ v, vs[i]? = some v ∧ Dp K H v d
  | _, _, _, _, .nil, h => by simp at h
  | _, _, 0, _, .cons a b, h => by
    have e := Option.some.inj h
    subst e
    exact ⟨_, rfl, a⟩
  | _, _, i + 1, _, .cons a b, h => dps_get (i := i) b h
theorem dps_getV : ∀ {vs : List V} {ds : List PyData} {i : Nat} {v : V}, DpAll K H vs ds → vs[i]? = some v → ∃ d, ds[i]? = some d ∧ Dp K H v d
  | _, _, _, _, .nil, h => by simp at h
  | _, _, 0, _, .cons a b, h => by
    have e := Option.some.inj h
    subst e
    exact ⟨_, rfl, a⟩
  | _, _, i + 1, _, .cons a b, h => dps_getV (i := i) b h
theorem dps_snoc : ∀ {vs : List V} {ds : List PyData} {v : V} {d : PyData}, DpAll K H vs ds → Dp K H v d → DpAll K H (vs ++ [v]) (ds ++ [d])
  | _, _, _, _, .nil, h => .cons h .nil
  | _, _, _, _, .cons a b, h => .cons a (dps_snoc b h)
theorem dps_app : ∀ {vs us : List V} {ds es : List PyData}, DpAll K H vs ds → DpAll K H us es → DpAll K H (vs ++ us) (ds ++ es)
  | _, _, _, _, .nil, h => h
  | _, _, _, _, .cons a b, h => .cons a (dps_app b h)
theorem dps_ints : ∀ {vs : List V} {ns : List Int}, DpAll K H vs (ns.map PyData.int) → vs = ns.map V.int
  | _, [], h => by cases h; rfl
  | _, n :: ns, h => by
    cases h with
    | cons a b =>
      cases a
      rw [dps_ints b]
      rfl
theorem ints_dps : ∀ (ns : List Int), DpAll K H (ns.map V.int) (ns.map PyData.int)
  | [] => .nil
  | n :: ns => .cons (.int n) (ints_dps ns)
theorem dps_strs : ∀ {vs : List V} {ns : List Str}, DpAll K H vs (ns.map PyData.str) → vs = ns.map V.str
  | _, [], h => by cases h; rfl
  | _, n :: ns, h => by
    cases h with
    | cons a b =>
      cases a
      rw [dps_strs b]
      rfl
theorem strs_dps : ∀ (ns : List Str), DpAll K H (ns.map V.str) (ns.map PyData.str)
  | [] => .nil
  | n :: ns => .cons (.str n) (strs_dps ns)
def vO : Option Nat → V
  | none => .non
  | some n => .int (n : Int)
def dO : Option Nat → PyData
  | none => .none
  | some n => .int (n : Int)
theorem dps_opts : ∀ {vs : List V} {ns : List (Option Nat)}, DpAll K H vs (ns.map dO) → vs = ns.map vO
  | _, [], h => by cases h; rfl
  | _, none :: ns, h => by
    cases h with
    | cons a b =>
      cases a
      rw [dps_opts b]
      rfl
  | _, some n :: ns, h => by
    cases h with
    | cons a b =>
      cases a
      rw [dps_opts b]
      rfl
theorem opts_dps : ∀ (ns : List (Option Nat)), DpAll K H (ns.map vO) (ns.map dO)
  | [] => .nil
  | none :: ns => .cons .non (opts_dps ns)
  | some n :: ns => .cons (.int n) (opts_dps ns)
theorem dp_tup {v : V} {ds : List PyData} (h : Dp K H v (.tuple ds)) : ∃ a xs, v = .ref a ∧ SqT K H a xs ∧ DpAll K H xs ds := by
  cases h with
  | tup a b => exact ⟨_, _, rfl, a, b⟩
theorem dp_lst {v : V} {ds : List PyData} (h : Dp K H v (.list ds)) : ∃ a xs, v = .ref a ∧ SqL K H a xs ∧ DpAll K H xs ds := by
  cases h with
  | lst a b => exact ⟨_, _, rfl, a, b⟩
/-! ### heaps -/
theorem same_upd {p : Addr} {o : HO} (h : H p = none) : Same H (upd H p o) := fun b x e => by
  rw [upd_ne (ne_of_none e h)]
  exact e
/-- a new object, changed later -/
theorem same_put {p : Addr} {o : HO} (s : Same H H1) (h : H p = none) : Same H (upd H1 p o) := fun b x e => by
  rw [upd_ne (ne_of_none e h)]
  exact s b x e
theorem lst_of {p : Addr} {xs : List V} (h : H p = some (.lst xs)) : SqL K H p xs := .inl (.inl h)
theorem tup_of {p : Addr} {xs : List V} (h : H p = some (.tup xs)) : SqT K H p xs := .inl (.inl h)
theorem szl {n : Nat} (h : n ≤ 100000) : n ≤ sizeLine := Nat.le_trans h (by decide)
theorem szt {n : Nat} (h : n < 100000) : n < sizeLine := Nat.lt_of_lt_of_le h (by decide)
/-- the heap without one object -/
def del (b : Addr) (H : Hp) : Hp := fun x => if x = b then none else H x
theorem del_same (b : Addr) : Same (del b H) H := fun x o e => by
  unfold del at e
  by_cases h : x = b
  · rw [if_pos h] at e
    cases e
  · rw [if_neg h] at e
    exact e
theorem del_ne {b x : Addr} (h : x ≠ b) : del b H x = H x := if_neg h
theorem del_mono {b : Addr} (s : Same H H') : Same (del b H) (del b H') := fun x o e => by
  unfold del at e ⊢
  by_cases h : x = b
  · rw [if_pos h] at e
    cases e
  · rw [if_neg h] at e ⊢
    exact s x o e
/-- what a draw may change: the barrel alone -/
def Keep (b : Addr) (H H' : Hp) : Prop := Same (del b H) (del b H')
theorem Keep.refl (b : Addr) (H : Hp) : Keep b H H := Same.refl _
theorem Keep.trans {b : Addr} {H2 : Hp} (a : Keep b H H1) (c : Keep b H1 H2) : Keep b H H2 := Same.trans a c
theorem Keep.of {b : Addr} (s : Same H H') : Keep b H H' := del_mono s
theorem keep_upd {b : Addr} {o : HO} : Keep b H (upd H b o) := fun x u e => by
  have hx : x ≠ b := by
    intro z
    unfold del at e
    rw [if_pos z] at e
    cases e
  rw [del_ne hx] at e ⊢
  rw [upd_ne hx]
  exact e
theorem del_none {b : Addr} : del b H b = none := if_pos rfl
/-- an object that is new is no barrel, and is not told ahead -/
theorem Keep.get {b x : Addr} {o : HO} (k : Keep b H H') (h : x ≠ b) (e : H x = some o) : H' x = some o := by
  have z := k x o (by rw [del_ne h]; exact e)
  rw [del_ne h] at z
  exact z
end
end K6

set_option Elab.async false
set_option linter.all false
set_option maxRecDepth 100000
set_option maxHeartbeats 4000000
namespace K6
open PySem PySem.Spec PyProof.Rows L2 Rw
/-! ### comprehensions: what a turn adds, and the whole -/
section
variable {K : PySem.W.Frag} {H : Hp} {σ : L2.St} {tt : TT} {te : TE} {vs : List Nat} {j : Nat} {Q : VK}
def pre (st : Nat → List V) (n : Nat) : List V := (List.range n).flatMap st
theorem pre_succ (st : Nat → List V) (n : Nat) : pre st (n + 1) = pre st n ++ st n := by
  unfold pre
  rw [List.range_succ, List.flatMap_append]
  simp
theorem pre_len {st : Nat → List V} (h : ∀ i, (st i).length ≤ 1) : ∀ n, (pre st n).length ≤ n
  | 0 => Nat.le_refl 0
  | n + 1 => by
    rw [pre_succ, List.length_append]
    have a := pre_len h n
    have b := h n
    omega
theorem pre_map {f : Nat → V} (n : Nat) : pre (fun i => [f i]) n = (List.range n).map f := by
  unfold pre
  induction n with
  | zero => rfl
  | succ n ih => rw [List.range_succ, List.flatMap_append, List.map_append, ih]; rfl
/-- a turn: what is added is [y], or nothing -/
def Turn1 (tt : TT) (te : TE) (σ : L2.St) (H : Hp) (s : List V) : Prop := ∀ H1 (R : V → Hp → Prop) (N : Hp → Prop), Same H H1 → (∀ y H2, s = [y] → Same H1 H2 → R y H2) → (∀ H2, s = [] → Same H1 H2 → N H2) →
  tt σ H1 (fun b H2 => if b = true then te σ H2 R else N H2)
theorem lcG (J : It) (n : Nat) (xs : Nat → V) (st : Nat → List V) (hst : ∀ i, (st i).length ≤ 1) (hn : n < 100000)
    (hgo : ∀ i H1, i < n → Same H H1 → J.go i H1) (hstop : ∀ H1, Same H H1 → J.stop n H1) (hyld : ∀ i H1 x H', i < n → Same H H1 → J.yld i H1 x H' → H' = H1 ∧ x = xs i)
    (hw : ∀ x, wipe ((wipe σ vs).set j (some x)) vs = wipe σ vs) (turn : ∀ i, i < n → Turn1 tt te ((wipe σ vs).set j (some (xs i))) H (st i))
    (fin : ∀ D H1, H D = none → Same H H1 → H1 D = some (.lst (pre st n)) → Q (.ref D) H1) :
    ∀ D, H D = none → ∃ W : Nat → Nat → Hp → Prop, (∃ m, W 0 m (upd H D (.lst []))) ∧ ∀ i m H, W i m H →
      (J.stop i H ∧ Q (.ref D) H) ∨ (J.go i H ∧ ∃ Nx : Hp → Prop, (∀ H', Nx H' → ∃ m', m' < m ∧ W (i + 1) m' H') ∧ ∀ x H', J.yld i H x H' → gName j x (wipe σ vs) H' fun σ2 H2 => wipe σ2 vs = wipe σ vs ∧ tt σ2 H2 fun b H3 =>
        if b = true then te σ2 H3 fun y H4 => ∃ acc, H4 D = some (.lst acc) ∧ acc.length < sizeLine ∧ Nx (upd H4 D (.lst (acc ++ [y]))) else Nx H3) := by
  intro D hD
  refine ⟨fun i m H1 => m = n - i ∧ i ≤ n ∧ Same H H1 ∧ H1 D = some (.lst (pre st i)), ⟨n, rfl, Nat.zero_le _, same_upd hD, upd_same⟩, ?_⟩
  rintro i m H1 ⟨rfl, hi, s1, h1⟩
  by_cases c : i < n
  · refine .inr ⟨hgo i H1 c s1, fun H2 => Same H H2 ∧ H2 D = some (.lst (pre st (i + 1))), fun H2 h2 => ⟨n - (i + 1), by omega, rfl, c, h2.1, h2.2⟩, fun x H' hy => ?_⟩
    obtain ⟨rfl, rfl⟩ := hyld i H1 x H' c s1 hy
    refine ⟨hw _, ?_⟩
    refine turn i c H' _ _ s1 (fun y H2 hs s2 => ?_) (fun H2 hs s2 => ?_)
    · refine ⟨pre st i, s2 D _ h1, szt (by have := pre_len hst i; omega), ?_, ?_⟩
      · exact same_put (s1.trans s2) hD
      · rw [pre_succ, hs]
        exact upd_same
    · refine ⟨s1.trans s2, ?_⟩
      rw [pre_succ, hs, List.append_nil]
      exact s2 D _ h1
  · have e : i = n := by omega
    subst e
    exact .inl ⟨hstop H1 s1, fin D H1 hD s1 h1⟩
theorem getD_of {xs : List V} {i : Nat} {x : V} (h : xs[i]? = some x) : xs.getD i .non = x := by
  rw [List.getD_eq_getElem?_getD, h]
  rfl
theorem lt_of_get {α : Type} {xs : List α} {i : Nat} {x : α} (h : xs[i]? = some x) : i < xs.length := (List.getElem?_eq_some_iff.mp h).1
/-- over a tuple -/
theorem cT {tl : TE} {a : Addr} {xs : List V} (st : Nat → List V) (htl : ∀ R : VK, R (.ref a) H → tl σ H R) (hx : SqT K H a xs) (hst : ∀ i, (st i).length ≤ 1) (hn : xs.length < 100000)
    (hw : ∀ x, wipe ((wipe σ vs).set j (some x)) vs = wipe σ vs) (turn : ∀ i x, xs[i]? = some x → Turn1 tt te ((wipe σ vs).set j (some x)) H (st i))
    (fin : ∀ D H1, H D = none → Same H H1 → H1 D = some (.lst (pre st xs.length)) → Q (.ref D) H1) : tLc (iTup K tl) (gName j) tt te vs σ H Q := by
  refine htl _ ⟨a, rfl, ⟨xs, hx⟩, ?_⟩
  refine lcG (Itt K a) xs.length (fun i => xs.getD i .non) st hst hn (fun i H1 hi s => ?_) (fun H1 s => ?_) (fun i H1 x H' hi s hy => ?_) hw (fun i hi => ?_) fin
  · exact ⟨xs, xs[i], sqT_mono s hx, by simp [hi]⟩
  · exact ⟨xs, sqT_mono s hx, Nat.le_refl _⟩
  · obtain ⟨e, y⟩ := hy
    exact ⟨e, (getD_of (y xs (sqT_mono s hx))).symm⟩
  · have h : xs[i]? = some (xs.getD i .non) := by
      rw [List.getElem?_eq_getElem hi, List.getD_eq_getElem?_getD, List.getElem?_eq_getElem hi]
      rfl
    exact turn i _ h
/-- over a list that a call has handed back -/
theorem lL {Qd : Addr → Hp → Prop} {a : Addr} {xs : List V} (st : Nat → List V) (hx : SqL K H a xs) (hst : ∀ i, (st i).length ≤ 1) (hn : xs.length < 100000)
    (hw : ∀ x, wipe ((wipe σ vs).set j (some x)) vs = wipe σ vs) (turn : ∀ i x, xs[i]? = some x → Turn1 tt te ((wipe σ vs).set j (some x)) H (st i))
    (fin : ∀ D H1, H D = none → Same H H1 → H1 D = some (.lst (pre st xs.length)) → Qd D H1) :
    ∀ D, H D = none → ∃ W : Nat → Nat → Hp → Prop, (∃ m, W 0 m (upd H D (.lst []))) ∧ ∀ i m H, W i m H →
      ((Itl K a).stop i H ∧ Qd D H) ∨ ((Itl K a).go i H ∧ ∃ Nx : Hp → Prop, (∀ H', Nx H' → ∃ m', m' < m ∧ W (i + 1) m' H') ∧ ∀ x H', (Itl K a).yld i H x H' → gName j x (wipe σ vs) H' fun σ2 H2 => wipe σ2 vs = wipe σ vs ∧ tt σ2 H2 fun b H3 =>
        if b = true then te σ2 H3 fun y H4 => ∃ acc, H4 D = some (.lst acc) ∧ acc.length < sizeLine ∧ Nx (upd H4 D (.lst (acc ++ [y]))) else Nx H3) := by
  refine lcG (Q := fun v H => match v with | .ref D => Qd D H | _ => False) (Itl K a) xs.length (fun i => xs.getD i .non) st hst hn (fun i H1 hi s => ?_) (fun H1 s => ?_) (fun i H1 x H' hi s hy => ?_) hw (fun i hi => ?_) fin
  · exact ⟨xs, xs[i], sqL_mono s hx, by simp [hi]⟩
  · exact ⟨xs, sqL_mono s hx, Nat.le_refl _⟩
  · obtain ⟨e, y⟩ := hy
    exact ⟨e, (getD_of (y xs (sqL_mono s hx))).symm⟩
  · have h : xs[i]? = some (xs.getD i .non) := by
      rw [List.getElem?_eq_getElem hi, List.getD_eq_getElem?_getD, List.getElem?_eq_getElem hi]
      rfl
    exact turn i _ h
/-- over a list -/
theorem cL {tl : TE} {a : Addr} {xs : List V} (st : Nat → List V) (htl : ∀ R : VK, R (.ref a) H → tl σ H R) (hx : SqL K H a xs) (hst : ∀ i, (st i).length ≤ 1) (hn : xs.length < 100000)
    (hw : ∀ x, wipe ((wipe σ vs).set j (some x)) vs = wipe σ vs) (turn : ∀ i x, xs[i]? = some x → Turn1 tt te ((wipe σ vs).set j (some x)) H (st i))
    (fin : ∀ D H1, H D = none → Same H H1 → H1 D = some (.lst (pre st xs.length)) → Q (.ref D) H1) : tLc (iList K tl) (gName j) tt te vs σ H Q := by
  refine htl _ ⟨a, rfl, ⟨xs, hx⟩, ?_⟩
  refine lcG (Itl K a) xs.length (fun i => xs.getD i .non) st hst hn (fun i H1 hi s => ?_) (fun H1 s => ?_) (fun i H1 x H' hi s hy => ?_) hw (fun i hi => ?_) fin
  · exact ⟨xs, xs[i], sqL_mono s hx, by simp [hi]⟩
  · exact ⟨xs, sqL_mono s hx, Nat.le_refl _⟩
  · obtain ⟨e, y⟩ := hy
    exact ⟨e, (getD_of (y xs (sqL_mono s hx))).symm⟩
  · have h : xs[i]? = some (xs.getD i .non) := by
      rw [List.getElem?_eq_getElem hi, List.getD_eq_getElem?_getD, List.getElem?_eq_getElem hi]
      rfl
    exact turn i _ h
/-- over range(n) -/
theorem cR {ta : TA} {n : Nat} {m : Int} (st : Nat → List V) (hm : m.toNat = n) (hb : -1000 ≤ m) (hta : ∀ R : List V → Hp → Prop, R [.int m] H → ta σ H R) (hst : ∀ i, (st i).length ≤ 1) (hn : n < 100000)
    (hw : ∀ x, wipe ((wipe σ vs).set j (some x)) vs = wipe σ vs) (turn : ∀ i : Nat, i < n → Turn1 tt te ((wipe σ vs).set j (some (.int (i : Int)))) H (st i))
    (fin : ∀ D H1, H D = none → Same H H1 → H1 D = some (.lst (pre st n)) → Q (.ref D) H1) : tLc (iRng1 ta) (gName j) tt te vs σ H Q := by
  refine hta _ ⟨m, rfl, by omega, by omega, ?_⟩
  rw [hm]
  refine lcG (Itr 0 n) n (fun i => .int (i : Int)) st hst hn (fun i H1 hi s => hi) (fun H1 s => Nat.le_refl _) (fun i H1 x H' hi s hy => ?_) hw turn fin
  obtain ⟨e, y⟩ := hy
  refine ⟨e, ?_⟩
  rw [y, Int.zero_add]
/-- over a text -/
theorem cS {tl : TE} {z : Str} (st : Nat → List V) (htl : ∀ R : VK, R (.str z) H → tl σ H R) (hst : ∀ i, (st i).length ≤ 1) (hn : z.cps.size < 100000)
    (hw : ∀ x, wipe ((wipe σ vs).set j (some x)) vs = wipe σ vs) (turn : ∀ i c, z.cps[i]? = some c → Turn1 tt te ((wipe σ vs).set j (some (.str ⟨#[c]⟩))) H (st i))
    (fin : ∀ D H1, H D = none → Same H H1 → H1 D = some (.lst (pre st z.cps.size)) → Q (.ref D) H1) : tLc (iStr tl) (gName j) tt te vs σ H Q := by
  refine htl _ ⟨z, rfl, ?_⟩
  refine lcG (Its z) z.cps.size (fun i => .str ⟨#[z.cps.getD i 0]⟩) st hst hn (fun i H1 hi s => hi) (fun H1 s => Nat.le_refl _) (fun i H1 x H' hi s hy => ?_) hw (fun i hi => ?_) fin
  · obtain ⟨e, c, hc, rfl⟩ := hy
    refine ⟨e, ?_⟩
    simp [Array.getD_eq_getD_getElem?, hc]
  · have h : z.cps[i]? = some (z.cps.getD i 0) := by
      simp [Array.getD_eq_getD_getElem?, hi]
    exact turn i _ h
/-- no test -/
theorem turn_yes {y : V} (h : ∀ H1 (R : V → Hp → Prop), Same H H1 → (∀ H2, Same H1 H2 → R y H2) → te σ H1 R) : Turn1 tYes te σ H [y] := by
  intro H1 R N s hy hn
  show (if true = true then te σ H1 R else N H1)
  rw [if_pos rfl]
  exact h H1 R s fun H2 s2 => hy y H2 rfl s2
theorem replicate_pre (n : Nat) (v : V) : pre (fun _ => [v]) n = List.replicate n v := by
  rw [pre_map]
  induction n with
  | zero => rfl
  | succ n ih => rw [List.range_succ, List.map_append, ih, List.replicate_succ']; rfl
theorem all_true (n : Nat) : (List.replicate n true).all id = true := by simp
theorem bls (n : Nat) : List.replicate n (V.bl true) = (List.replicate n true).map V.bl := by simp
end
/-! ### comprehensions whose items are new lists -/
section
variable {K : PySem.W.Frag} {H : Hp} {σ : L2.St} {te : TE} {vs : List Nat} {j : Nat} {Q : VK}
/-- lists that stand at the items of a list: what is at each place -/
def Hold (H : Hp) (acc : List V) (n : Nat) (ys : Nat → List V) : Prop := acc.length = n ∧ ∀ k, k < n → ∃ p, acc[k]? = some (.ref p) ∧ H p = some (.lst (ys k))
theorem Hold.mono {H H' : Hp} {acc : List V} {n : Nat} {ys : Nat → List V} (h : Hold H acc n ys) (s : Same H H') : Hold H' acc n ys :=
  ⟨h.1, fun k hk => let ⟨p, e, hp⟩ := h.2 k hk; ⟨p, e, s _ _ hp⟩⟩
theorem Hold.snoc {acc : List V} {n : Nat} {ys : Nat → List V} {p : Addr} (h : Hold H acc n ys) (hp : H p = some (.lst (ys n))) : Hold H (acc ++ [.ref p]) (n + 1) ys := by
  refine ⟨by rw [List.length_append, h.1]; rfl, fun k hk => ?_⟩
  by_cases c : k < n
  · obtain ⟨q, e, hq⟩ := h.2 k c
    exact ⟨q, by rw [List.getElem?_append_left (by rw [h.1]; exact c)]; exact e, hq⟩
  · have e : k = n := by omega
    subst e
    refine ⟨p, ?_, hp⟩
    rw [List.getElem?_append_right (by rw [h.1]; exact Nat.le_refl _), h.1, Nat.sub_self]
    rfl
theorem yes_go {σ : L2.St} {H : Hp} {f g : Hp → Prop} (h : f H) : tYes σ H (fun b H2 => if b = true then f H2 else g H2) := by
  show (if true = true then f H else g H)
  rw [if_pos rfl]
  exact h
def TurnN (te : TE) (σ : L2.St) (H : Hp) (ys : List V) : Prop := ∀ H1 (R : V → Hp → Prop), Same H H1 → (∀ p H2, H1 p = none → Same H1 H2 → H2 p = some (.lst ys) → R (.ref p) H2) → te σ H1 R
theorem lcN (J : It) (n : Nat) (xs : Nat → V) (ys : Nat → List V) (hn : n < 100000)
    (hgo : ∀ i H1, i < n → Same H H1 → J.go i H1) (hstop : ∀ H1, Same H H1 → J.stop n H1) (hyld : ∀ i H1 x H', i < n → Same H H1 → J.yld i H1 x H' → H' = H1 ∧ x = xs i)
    (hw : ∀ x, wipe ((wipe σ vs).set j (some x)) vs = wipe σ vs) (turn : ∀ i, i < n → TurnN te ((wipe σ vs).set j (some (xs i))) H (ys i))
    (fin : ∀ D acc H1, H D = none → Same H H1 → H1 D = some (.lst acc) → Hold (del D H1) acc n ys → Q (.ref D) H1) :
    ∀ D, H D = none → ∃ W : Nat → Nat → Hp → Prop, (∃ m, W 0 m (upd H D (.lst []))) ∧ ∀ i m H, W i m H →
      (J.stop i H ∧ Q (.ref D) H) ∨ (J.go i H ∧ ∃ Nx : Hp → Prop, (∀ H', Nx H' → ∃ m', m' < m ∧ W (i + 1) m' H') ∧ ∀ x H', J.yld i H x H' → gName j x (wipe σ vs) H' fun σ2 H2 => wipe σ2 vs = wipe σ vs ∧ tYes σ2 H2 fun b H3 =>
        if b = true then te σ2 H3 fun y H4 => ∃ acc, H4 D = some (.lst acc) ∧ acc.length < sizeLine ∧ Nx (upd H4 D (.lst (acc ++ [y]))) else Nx H3) := by
  intro D hD
  refine ⟨fun i m H1 => m = n - i ∧ i ≤ n ∧ Same H H1 ∧ ∃ acc, H1 D = some (.lst acc) ∧ Hold (del D H1) acc i ys, ⟨n, rfl, Nat.zero_le _, same_upd hD, [], upd_same, rfl, fun k hk => absurd hk (Nat.not_lt_zero k)⟩, ?_⟩
  rintro i m H1 ⟨rfl, hi, s1, acc, h1, hold⟩
  by_cases c : i < n
  · refine .inr ⟨hgo i H1 c s1, fun H2 => Same H H2 ∧ ∃ acc, H2 D = some (.lst acc) ∧ Hold (del D H2) acc (i + 1) ys, fun H2 h2 => ⟨n - (i + 1), by omega, rfl, c, h2.1, h2.2⟩, fun x H' hy => ?_⟩
    obtain ⟨rfl, rfl⟩ := hyld i H1 x H' c s1 hy
    refine ⟨hw _, ?_⟩
    refine yes_go ?_
    refine turn i c H' _ s1 (fun p H2 np s2 hp => ?_)
    refine ⟨acc, s2 D _ h1, szt (by rw [hold.1]; omega), same_put (s1.trans s2) hD, acc ++ [.ref p], upd_same, ?_⟩
    have ne : p ≠ D := fun e => by
      rw [e, h1] at np
      cases np
    have hdel : Same (del D H2) (del D (upd H2 D (.lst (acc ++ [.ref p])))) := keep_upd
    refine ((hold.mono (del_mono s2)).snoc ?_).mono hdel
    rw [del_ne ne]
    exact hp
  · have e : i = n := by omega
    subst e
    exact .inl ⟨hstop H1 s1, fin D acc H1 hD s1 h1 hold⟩
theorem cTN {tl : TE} {a : Addr} {xs : List V} (ys : Nat → List V) (htl : ∀ R : VK, R (.ref a) H → tl σ H R) (hx : SqT K H a xs) (hn : xs.length < 100000)
    (hw : ∀ x, wipe ((wipe σ vs).set j (some x)) vs = wipe σ vs) (turn : ∀ i x, xs[i]? = some x → TurnN te ((wipe σ vs).set j (some x)) H (ys i))
    (fin : ∀ D acc H1, H D = none → Same H H1 → H1 D = some (.lst acc) → Hold (del D H1) acc xs.length ys → Q (.ref D) H1) : tLc (iTup K tl) (gName j) tYes te vs σ H Q := by
  refine htl _ ⟨a, rfl, ⟨xs, hx⟩, ?_⟩
  refine lcN (Itt K a) xs.length (fun i => xs.getD i .non) ys hn (fun i H1 hi s => ?_) (fun H1 s => ?_) (fun i H1 x H' hi s hy => ?_) hw (fun i hi => ?_) fin
  · exact ⟨xs, xs[i], sqT_mono s hx, by simp [hi]⟩
  · exact ⟨xs, sqT_mono s hx, Nat.le_refl _⟩
  · obtain ⟨e, y⟩ := hy
    exact ⟨e, (getD_of (y xs (sqT_mono s hx))).symm⟩
  · have h : xs[i]? = some (xs.getD i .non) := by
      rw [List.getElem?_eq_getElem hi, List.getD_eq_getElem?_getD, List.getElem?_eq_getElem hi]
      rfl
    exact turn i _ h
end
/-! ### openers -/
section
variable {te ta : TE} {D : Ends} {σ : L2.St} {H : Hp} {Q : VK} {r : List V → Hp → VK → Prop} {i : Nat}
theorem g_ret (h : te σ H D.rt) : tRet te D σ H := h
theorem g_asg (h : te σ H fun x H1 => D.nx (σ.set i (some x)) H1) : tAsg te (gName i) D σ H := h
theorem g_cb (h : ta σ H fun x H1 => r [x] H1 Q) : tCB r (tCons ta tNil) σ H Q := h
theorem g_andV {tb : TE} (h : ta σ H fun x H1 => ∃ c, x = .bl c ∧ if c = true then tb σ H1 Q else Q (.bl false) H1) : tAndV ta tb σ H Q := h
theorem g_via {K : PySem.W.Frag} {d : PyData} (h : ∀ Q' : VK, (∀ vf H2, Same H H2 → Dp K H2 vf d → Q' vf H2) → te σ H Q') (rest : ∀ vf H2, Same H H2 → Dp K H2 vf d → Q vf H2) : te σ H Q := h Q rest
theorem g_arg {f : List V → Hp → Prop} (h : te σ H fun x H1 => f [x] H1) : tCons te tNil σ H f := h
theorem g_next (h : D.nx σ H) : tNext D σ H := h
theorem g_seq {t u : TS} (h : t { D with nx := u D } σ H) : tSeq t u D σ H := h
end
end K6

set_option linter.all false
set_option maxRecDepth 100000
namespace K6
open PySem
def rowS (l : List Nat) : Str := ⟨(l.map (97 + ·)).toArray⟩
def sgn (g : Nat) : Str := ⟨#[97 + g]⟩
theorem rowS_snoc (l : List Nat) (g : Nat) : rowS l ++ sgn g = rowS (l ++ [g]) := by
  show (⟨(l.map (97 + ·)).toArray ++ #[97 + g]⟩ : Str) = ⟨((l ++ [g]).map (97 + ·)).toArray⟩
  rw [List.map_append]
  simp
theorem rowS_app (l m : List Nat) : rowS l ++ rowS m = rowS (l ++ m) := by
  show (⟨(l.map (97 + ·)).toArray ++ (m.map (97 + ·)).toArray⟩ : Str) = ⟨((l ++ m).map (97 + ·)).toArray⟩
  rw [List.map_append]
  simp
theorem rowS_len (l : List Nat) : (rowS l).length = l.length := by
  show ((l.map (97 + ·)).toArray).size = _
  simp
theorem rowS_inj {l m : List Nat} (h : rowS l = rowS m) : l = m := by
  unfold rowS at h
  injection h with h
  have h2 := congrArg Array.toList h
  simp only [List.toList_toArray] at h2
  exact (List.map_inj_right (fun x y e => by omega)).mp h2
/-- the number of a row on a track -/
def num (t : Nat) : List Nat → Nat
  | [] => 0
  | k :: r => k / 2 ^ t % 2 + 2 * num t r
def nums (w : Nat) (l : List Nat) : List Nat := (List.range w).map fun t => num t l
def strip : List Nat → List Nat
  | [] => []
  | k :: r => if k = 0 ∧ strip r = [] then [] else k :: strip r
/-- the sign with these lowest figures -/
def sg (ns : List Nat) : Nat := ((List.range ns.length).map fun i => ns.getD i 0 % 2 * 2 ^ i).sum
def srt : Nat → List Nat → List Nat
  | 0, _ => []
  | f + 1, ns => if ∀ n ∈ ns, n = 0 then [] else sg ns :: srt f (ns.map (· / 2))
theorem num_zero (t : Nat) : ∀ m, num t (List.replicate m 0) = 0
  | 0 => rfl
  | m + 1 => by
    rw [List.replicate_succ]
    unfold num
    rw [num_zero t m]
    simp
theorem num_app (t m : Nat) : ∀ l : List Nat, num t (l ++ List.replicate m 0) = num t l
  | [] => by rw [List.nil_append, num_zero]; rfl
  | k :: r => by
    rw [List.cons_append]
    unfold num
    rw [num_app t m r]
theorem nums_app (w m : Nat) (l : List Nat) : nums w (l ++ List.replicate m 0) = nums w l := by
  unfold nums
  exact List.map_congr_left fun t _ => num_app t m l
theorem num_strip (t : Nat) : ∀ l : List Nat, num t (strip l) = num t l
  | [] => rfl
  | k :: r => by
    have ih := num_strip t r
    unfold strip
    by_cases c : k = 0 ∧ strip r = []
    · rw [if_pos c]
      obtain ⟨rfl, c2⟩ := c
      rw [c2] at ih
      have z : num t r = 0 := ih.symm
      show num t [] = 0 / 2 ^ t % 2 + 2 * num t r
      rw [z]
      simp [num]
    · rw [if_neg c]
      show k / 2 ^ t % 2 + 2 * num t (strip r) = k / 2 ^ t % 2 + 2 * num t r
      rw [ih]
theorem nums_strip (w : Nat) (l : List Nat) : nums w (strip l) = nums w l := by
  unfold nums
  exact List.map_congr_left fun t _ => num_strip t l
theorem num_lt (t : Nat) : ∀ l : List Nat, num t l < 2 ^ l.length
  | [] => by show 0 < 2 ^ 0; decide
  | k :: r => by
    have ih := num_lt t r
    have e : 2 ^ (k :: r).length = 2 * 2 ^ r.length := by rw [List.length_cons, Nat.pow_succ, Nat.mul_comm]
    rw [e]
    unfold num
    have : k / 2 ^ t % 2 < 2 := Nat.mod_lt _ (by decide)
    omega
theorem strip_len : ∀ l : List Nat, (strip l).length ≤ l.length
  | [] => Nat.le_refl _
  | k :: r => by
    have ih := strip_len r
    unfold strip
    split
    · exact Nat.zero_le _
    · rw [List.length_cons, List.length_cons]
      omega
theorem strip_mem : ∀ {l : List Nat} {x : Nat}, x ∈ strip l → x ∈ l
  | [], _, h => h
  | k :: r, x, h => by
    unfold strip at h
    split at h
    · simp at h
    · rcases List.mem_cons.mp h with h | h
      · exact List.mem_cons.mpr (.inl h)
      · exact List.mem_cons.mpr (.inr (strip_mem h))
/-- up to three numbers -/
theorem three {ns : List Nat} (h : ns.length ≤ 3) : ns = [] ∨ (∃ a, ns = [a]) ∨ (∃ a b, ns = [a, b]) ∨ ∃ a b c, ns = [a, b, c] := by
  match ns, h with
  | [], _ => exact .inl rfl
  | [a], _ => exact .inr (.inl ⟨a, rfl⟩)
  | [a, b], _ => exact .inr (.inr (.inl ⟨a, b, rfl⟩))
  | [a, b, c], _ => exact .inr (.inr (.inr ⟨a, b, c, rfl⟩))
  | _ :: _ :: _ :: _ :: _, h => simp at h
theorem sg1 (a : Nat) : sg [a] = a % 2 := by simp [sg, List.range_succ]
theorem sg2 (a b : Nat) : sg [a, b] = a % 2 + b % 2 * 2 := by simp [sg, List.range_succ]
theorem sg3 (a b c : Nat) : sg [a, b, c] = a % 2 + b % 2 * 2 + c % 2 * 4 := by simp [sg, List.range_succ]; omega
theorem sg_lt {ns : List Nat} (h : ns.length ≤ 3) : sg ns < 2 ^ ns.length := by
  rcases three h with rfl | ⟨a, rfl⟩ | ⟨a, b, rfl⟩ | ⟨a, b, c, rfl⟩
  · decide
  · rw [sg1]; show a % 2 < 2 ^ 1; omega
  · rw [sg2]; show a % 2 + b % 2 * 2 < 2 ^ 2; omega
  · rw [sg3]; show a % 2 + b % 2 * 2 + c % 2 * 4 < 2 ^ 3; omega
theorem sg_bit {ns : List Nat} (h : ns.length ≤ 3) {t : Nat} (ht : t < ns.length) : sg ns / 2 ^ t % 2 = ns[t] % 2 := by
  rcases three h with rfl | ⟨a, rfl⟩ | ⟨a, b, rfl⟩ | ⟨a, b, c, rfl⟩
  · simp at ht
  · rw [sg1]
    match t, ht with
    | 0, _ => show a % 2 / 1 % 2 = a % 2; omega
  · rw [sg2]
    match t, ht with
    | 0, _ => show (a % 2 + b % 2 * 2) / 1 % 2 = a % 2; omega
    | 1, _ => show (a % 2 + b % 2 * 2) / 2 % 2 = b % 2; omega
  · rw [sg3]
    match t, ht with
    | 0, _ => show (a % 2 + b % 2 * 2 + c % 2 * 4) / 1 % 2 = a % 2; omega
    | 1, _ => show (a % 2 + b % 2 * 2 + c % 2 * 4) / 2 % 2 = b % 2; omega
    | 2, _ => show (a % 2 + b % 2 * 2 + c % 2 * 4) / 4 % 2 = c % 2; omega
theorem num_srt : ∀ (f : Nat) (ns : List Nat), ns.length ≤ 3 → (∀ n ∈ ns, n < 2 ^ f) → ∀ t (ht : t < ns.length), num t (srt f ns) = ns[t]
  | 0, ns, _, h, t, ht => by
    have := h ns[t] (List.getElem_mem ht)
    show 0 = ns[t]
    simp at this
    exact this.symm
  | f + 1, ns, h3, h, t, ht => by
    unfold srt
    by_cases c : ∀ n ∈ ns, n = 0
    · rw [if_pos c]
      exact (c ns[t] (List.getElem_mem ht)).symm
    · rw [if_neg c]
      have ih := num_srt f (ns.map (· / 2)) (by rw [List.length_map]; exact h3) (fun n hn => by
        obtain ⟨m, hm, rfl⟩ := List.mem_map.mp hn
        have := h m hm
        rw [Nat.pow_succ] at this
        omega) t (by rw [List.length_map]; exact ht)
      show sg ns / 2 ^ t % 2 + 2 * num t (srt f (ns.map (· / 2))) = ns[t]
      rw [ih, sg_bit h3 ht, List.getElem_map]
      omega
theorem nums_srt {f : Nat} {ns : List Nat} (h3 : ns.length ≤ 3) (h : ∀ n ∈ ns, n < 2 ^ f) : nums ns.length (srt f ns) = ns := by
  unfold nums
  apply List.ext_getElem
  · simp
  · intro i h1 h2
    simp only [List.getElem_map, List.getElem_range]
    exact num_srt f ns h3 h i h2
theorem srt_len : ∀ (f : Nat) (ns : List Nat), (srt f ns).length ≤ f
  | 0, _ => Nat.le_refl _
  | f + 1, ns => by
    unfold srt
    split
    · exact Nat.zero_le _
    · rw [List.length_cons]
      have := srt_len f (ns.map (· / 2))
      omega
theorem srt_lt : ∀ (f : Nat) (ns : List Nat), ns.length ≤ 3 → ∀ k ∈ srt f ns, k < 2 ^ ns.length
  | 0, _, _, k, h => by simp [srt] at h
  | f + 1, ns, h3, k, h => by
    unfold srt at h
    split at h
    · simp at h
    · rcases List.mem_cons.mp h with rfl | h
      · exact sg_lt h3
      · have := srt_lt f (ns.map (· / 2)) (by rw [List.length_map]; exact h3) k h
        rw [List.length_map] at this
        exact this
theorem srt_nil {f : Nat} {ns : List Nat} (h : ∀ n ∈ ns, n < 2 ^ f) (e : srt f ns = []) : ∀ n ∈ ns, n = 0 := by
  cases f with
  | zero =>
    intro n hn
    have := h n hn
    simp at this
    exact this
  | succ f =>
    unfold srt at e
    split at e
    · assumption
    · cases e
theorem srt_zero {f : Nat} {ns : List Nat} (h : ∀ n ∈ ns, n = 0) : srt f ns = [] := by
  cases f with
  | zero => rfl
  | succ f => unfold srt; rw [if_pos h]
theorem half_lt {f : Nat} {ns : List Nat} (h : ∀ n ∈ ns, n < 2 ^ (f + 1)) : ∀ n ∈ ns.map (· / 2), n < 2 ^ f := by
  intro n hn
  obtain ⟨m, hm, rfl⟩ := List.mem_map.mp hn
  have := h m hm
  rw [Nat.pow_succ] at this
  omega
theorem sg_zero {ns : List Nat} (h3 : ns.length ≤ 3) (h : ∀ n ∈ ns, n < 2) (e : sg ns = 0) : ∀ n ∈ ns, n = 0 := by
  intro n hn
  obtain ⟨t, ht, rfl⟩ := List.getElem_of_mem hn
  have := sg_bit h3 ht
  rw [e] at this
  have b := h ns[t] (List.getElem_mem ht)
  simp at this
  omega
/-- a shortest row does not end with 0 -/
theorem srt_last : ∀ (f : Nat) (ns : List Nat), ns.length ≤ 3 → (∀ n ∈ ns, n < 2 ^ f) → (srt f ns).getLast? ≠ some 0
  | 0, _, _, _ => by simp [srt]
  | f + 1, ns, h3, h => by
    unfold srt
    by_cases c : ∀ n ∈ ns, n = 0
    · rw [if_pos c]
      simp
    · rw [if_neg c]
      have hh := half_lt h
      have ih := srt_last f (ns.map (· / 2)) (by rw [List.length_map]; exact h3) hh
      by_cases e : srt f (ns.map (· / 2)) = []
      · rw [e]
        have z := srt_nil hh e
        intro w
        have w : some (sg ns) = some 0 := w
        refine c (sg_zero h3 (fun n hn => ?_) (Option.some.inj w))
        have := z (n / 2) (List.mem_map.mpr ⟨n, hn, rfl⟩)
        omega
      · obtain ⟨x, r, er⟩ := List.exists_cons_of_ne_nil e
        rw [er] at ih ⊢
        rw [List.getLast?_cons_cons]
        exact ih
theorem nums_zero {w : Nat} {l : List Nat} (e : strip l = []) : ∀ n ∈ nums w l, n = 0 := by
  intro n hn
  obtain ⟨t, _, rfl⟩ := List.mem_map.mp hn
  rw [← num_strip t l, e]
  rfl
theorem bits_zero {w k : Nat} (hw : w ≤ 3) (hk : k < 2 ^ w) (h : ∀ t, t < w → k / 2 ^ t % 2 = 0) : k = 0 := by
  match w, hw with
  | 0, _ => simp at hk; exact hk
  | 1, _ => have := h 0 (by decide); simp at this hk; omega
  | 2, _ => have a := h 0 (by decide); have b := h 1 (by decide); simp at a b hk; omega
  | 3, _ => have a := h 0 (by decide); have b := h 1 (by decide); have c := h 2 (by decide); simp at a b c hk; omega
theorem sg_nums {w k : Nat} (hw : w ≤ 3) (hk : k < 2 ^ w) (r : List Nat) : sg (nums w (k :: r)) = k := by
  match w, hw with
  | 0, _ => simp at hk; subst hk; rfl
  | 1, _ =>
    show sg [num 0 (k :: r)] = k
    rw [sg1]
    simp [num] at hk ⊢
    omega
  | 2, _ =>
    show sg [num 0 (k :: r), num 1 (k :: r)] = k
    rw [sg2]
    simp [num] at hk ⊢
    omega
  | 3, _ =>
    show sg [num 0 (k :: r), num 1 (k :: r), num 2 (k :: r)] = k
    rw [sg3]
    simp [num] at hk ⊢
    omega
theorem half_nums (w k : Nat) (r : List Nat) : (nums w (k :: r)).map (· / 2) = nums w r := by
  unfold nums
  rw [List.map_map]
  refine List.map_congr_left fun t _ => ?_
  show (k / 2 ^ t % 2 + 2 * num t r) / 2 = num t r
  have : k / 2 ^ t % 2 < 2 := Nat.mod_lt _ (by decide)
  omega
theorem srt_nums {w : Nat} (hw : w ≤ 3) : ∀ (f : Nat) (l : List Nat), (∀ k ∈ l, k < 2 ^ w) → l.length ≤ f → srt f (nums w l) = strip l
  | f, [], _, _ => srt_zero (nums_zero rfl)
  | 0, k :: r, _, h => by simp at h
  | f + 1, k :: r, hl, h => by
    have hk := hl k (List.mem_cons_self ..)
    have hr : ∀ x ∈ r, x < 2 ^ w := fun x hx => hl x (List.mem_cons_of_mem _ hx)
    have hf : r.length ≤ f := by rw [List.length_cons] at h; omega
    have ih := srt_nums hw f r hr hf
    unfold srt
    by_cases c : k = 0 ∧ strip r = []
    · have e : strip (k :: r) = [] := by unfold strip; rw [if_pos c]
      rw [if_pos (nums_zero e), e]
    · have e : strip (k :: r) = k :: strip r := by
        show (if k = 0 ∧ strip r = [] then [] else k :: strip r) = _
        rw [if_neg c]
      have nz : ¬ ∀ n ∈ nums w (k :: r), n = 0 := by
        intro z
        apply c
        have zt : ∀ t, t < w → k / 2 ^ t % 2 = 0 ∧ num t r = 0 := by
          intro t ht
          have := z (num t (k :: r)) (List.mem_map.mpr ⟨t, List.mem_range.mpr ht, rfl⟩)
          unfold num at this
          omega
        refine ⟨bits_zero hw hk fun t ht => (zt t ht).1, ?_⟩
        rw [← ih]
        refine srt_zero fun n hn => ?_
        obtain ⟨t, ht, rfl⟩ := List.mem_map.mp hn
        exact (zt t (List.mem_range.mp ht)).2
      rw [if_neg nz, e, sg_nums hw hk, half_nums, ih]
/-! ### the shortest row, sign by sign -/
def mx (ns : List Nat) : Nat := ns.foldr max 0
theorem mx_le : ∀ {ns : List Nat} {n : Nat}, n ∈ ns → n ≤ mx ns
  | m :: r, n, h => by
    show n ≤ max m (mx r)
    rcases List.mem_cons.mp h with rfl | h
    · exact Nat.le_max_left _ _
    · exact Nat.le_trans (mx_le h) (Nat.le_max_right _ _)
theorem mx_half : ∀ ns : List Nat, mx (ns.map (· / 2)) = mx ns / 2
  | [] => rfl
  | n :: r => by
    show max (n / 2) (mx (r.map (· / 2))) = max n (mx r) / 2
    rw [mx_half r]
    omega
theorem mx_zero {ns : List Nat} : (∀ n ∈ ns, n = 0) ↔ mx ns = 0 := by
  constructor
  · intro h
    induction ns with
    | nil => rfl
    | cons n r ih =>
      show max n (mx r) = 0
      rw [h n (List.mem_cons_self ..), ih fun m hm => h m (List.mem_cons_of_mem _ hm)]
      rfl
  · intro h n hn
    have := mx_le hn
    omega
theorem mx_mem : ∀ {ns : List Nat}, ns ≠ [] → mx ns ∈ ns
  | [], h => absurd rfl h
  | [n], _ => by show max n 0 ∈ _; simp
  | n :: m :: r, _ => by
    have ih := mx_mem (ns := m :: r) (by simp)
    show max n (mx (m :: r)) ∈ _
    by_cases c : n ≤ mx (m :: r)
    · rw [Nat.max_eq_right c]
      exact List.mem_cons_of_mem _ ih
    · rw [Nat.max_eq_left (by omega)]
      exact List.mem_cons_self ..
def bits (n : Nat) : Nat := if n = 0 then 0 else n.log2 + 1
theorem bits_half {n : Nat} (h : n ≠ 0) : bits n = bits (n / 2) + 1 := by
  unfold bits
  rw [if_neg h]
  by_cases c : n / 2 = 0
  · have : n = 1 := by omega
    subst this
    rw [if_pos c]
    decide
  · rw [if_neg c, Nat.log2_def n, if_pos (by omega)]
theorem shift (ns : List Nat) (p : Nat) : (ns.map (· / 2)).map (· / 2 ^ p) = ns.map (· / 2 ^ (p + 1)) := by
  rw [List.map_map]
  refine List.map_congr_left fun n _ => ?_
  show n / 2 / 2 ^ p = n / 2 ^ (p + 1)
  rw [Nat.div_div_eq_div_mul, Nat.pow_succ, Nat.mul_comm]
theorem srt_range : ∀ (f : Nat) (ns : List Nat), (∀ n ∈ ns, n < 2 ^ f) → srt f ns = (List.range (bits (mx ns))).map fun p => sg (ns.map (· / 2 ^ p))
  | 0, ns, h => by
    have z : mx ns = 0 := mx_zero.mp fun n hn => by have := h n hn; simp at this; exact this
    rw [z]
    rfl
  | f + 1, ns, h => by
    unfold srt
    by_cases c : ∀ n ∈ ns, n = 0
    · rw [if_pos c, mx_zero.mp c]
      rfl
    · rw [if_neg c, srt_range f _ (half_lt h), mx_half, bits_half (fun e => c (mx_zero.mpr e)), List.range_succ_eq_map, List.map_cons, List.map_map]
      congr 1
      · congr 1
        simp
      · refine List.map_congr_left fun p _ => ?_
        show sg ((ns.map (· / 2)).map (· / 2 ^ p)) = sg (ns.map (· / 2 ^ (p + 1)))
        rw [shift]
/-! ### texts -/
theorem filterMap_all {α β : Type} {f : α → Option β} {g : α → β} : ∀ {l : List α}, (∀ x ∈ l, f x = some (g x)) → l.filterMap f = l.map g
  | [], _ => rfl
  | x :: r, h => by
    rw [List.filterMap_cons, h x (List.mem_cons_self ..), List.map_cons, filterMap_all fun y hy => h y (List.mem_cons_of_mem _ hy)]
theorem rev_row (l : List Nat) {u : Tok} : Txt.sliceBy (rowS l) none none (-1, u) = rowS l.reverse := by
  unfold Txt.sliceBy slicePicked Builtin.Str.strSliceIndices
  rw [if_neg (by simp)]
  simp only [Option.map_none, Option.map_some, Option.getD_some]
  rw [show (if (-1 : Int) > 0 then (0 : Int) else ((rowS l).length : Int) - 1) = ((rowS l).length : Int) - 1 from if_neg (by decide), show (if (-1 : Int) > 0 then ((rowS l).length : Int) else -1) = -1 from if_neg (by decide), rowS_len]
  unfold sliceRange
  have ec : (if (-1 : Int) > 0 then (if ((l.length : Int) - 1) < -1 then (-1 - ((l.length : Int) - 1) + -1 - 1) / -1 else 0) else (if ((l.length : Int) - 1) > -1 then ((l.length : Int) - 1 - -1 - -1 - 1) / (- -1) else 0)) = (l.length : Int) := by
    rw [if_neg (by decide)]
    split
    · have : (- -1 : Int) = 1 := by decide
      rw [this, Int.ediv_one]
      omega
    · omega
  simp only [ec, Int.toNat_natCast]
  have e2 : (List.map (fun (k : Nat) => ((l.length : Int) - 1 + -1 * (k : Int)).toNat) (List.range l.length)).filterMap ((rowS l).cps[·]?) = l.reverse.map (97 + ·) := by
    rw [List.filterMap_map]
    rw [filterMap_all (g := fun k => (l.reverse.map (97 + ·)).getD k 0) fun k hk => ?_]
    · apply List.ext_getElem
      · simp
      · intro i h1 h2
        simp at h1 h2
        simp [List.getD_eq_getElem?_getD, h2]
    · have hk := List.mem_range.mp hk
      show ((l.map (97 + ·)).toArray)[(((l.length : Int) - 1) + -1 * (k : Int)).toNat]? = _
      rw [show (((l.length : Int) - 1) + -1 * (k : Int)).toNat = l.length - 1 - k by omega]
      rw [List.getElem?_toArray, List.getElem?_map, List.getD_eq_getElem?_getD, List.getElem?_map, List.getElem?_reverse hk, List.getElem?_eq_getElem (show l.length - 1 - k < l.length by omega)]
      rfl
  show (⟨(List.filterMap ((rowS l).cps[·]?) _).toArray⟩ : Str) = ⟨(l.reverse.map (97 + ·)).toArray⟩
  rw [e2]
theorem mul_a (n : Nat) : Txt.mul ("a" : Str) (n : Int) = rowS (List.replicate n 0) := by
  unfold Txt.mul
  by_cases h : (n : Int) < 1
  · rw [if_pos h, show n = 0 by omega]
    rfl
  · rw [if_neg h]
    have fl : ∀ (m : Nat) (acc : Array Nat), (List.replicate m (("a" : Str).cps)).foldl (· ++ ·) acc = acc ++ (List.replicate m 97).toArray := by
      intro m
      induction m with
      | zero => intro acc; simp
      | succ m ih =>
        intro acc
        rw [List.replicate_succ, List.foldl_cons, ih]
        have : ("a" : Str).cps = #[97] := rfl
        rw [this]
        apply Array.ext'
        simp [List.replicate_succ]
    by_cases c : ((n : Int) == 1 || ("a" : Str).length == 0) = true
    · rw [if_pos c]
      have : n = 1 := by
        have c : ((n : Int) == 1 || false) = true := c
        rw [Bool.or_false] at c
        have := eq_of_beq c
        omega
      subst this
      rfl
    · rw [if_neg c, Int.toNat_natCast, fl]
      unfold rowS
      simp
theorem glue_rows : ∀ (ls : List (List Nat)) (acc : List Nat), (ls.map rowS).foldl (fun a p => a ++ (("" : Str)).cps ++ p.cps) (acc.map (97 + ·)).toArray = ((acc ++ ls.flatten).map (97 + ·)).toArray
  | [], acc => by simp
  | l :: ls, acc => by
    rw [List.map_cons, List.foldl_cons]
    have e : ((acc.map (97 + ·)).toArray ++ (("" : Str)).cps ++ (rowS l).cps) = ((acc ++ l).map (97 + ·)).toArray := by
      have : (("" : Str)).cps = #[] := rfl
      rw [this]
      unfold rowS
      simp
    rw [e, glue_rows ls (acc ++ l), List.flatten_cons, List.append_assoc]
theorem join_rows (ls : List (List Nat)) : Txt.join ("" : Str) (ls.map rowS) = rowS ls.flatten := by
  unfold Txt.join Builtin.Str.glued
  cases ls with
  | nil => rfl
  | cons l r =>
    rw [List.map_cons, List.drop_one, List.tail_cons, List.headD_cons]
    show (⟨(r.map rowS).foldl (fun acc p => acc ++ (("" : Str)).cps ++ p.cps) (l.map (97 + ·)).toArray⟩ : Str) = _
    rw [glue_rows r l]
    rfl
theorem join_signs (l : List Nat) : Txt.join ("" : Str) (l.map sgn) = rowS l := by
  have := join_rows (l.map fun g => [g])
  rw [List.map_map] at this
  have e : (l.map fun g => [g]).flatten = l := by induction l with
    | nil => rfl
    | cons a r ih => rw [List.map_cons, List.flatten_cons, ih (by rw [← List.map_map]; exact join_rows _)]; rfl
  rw [e] at this
  exact this
/-- behind the last sign that is no a -/
theorem strip_rev (l : List Nat) : strip l = (l.reverse.dropWhile (· == 0)).reverse := by
  induction l with
  | nil => rfl
  | cons k r ih =>
    unfold strip
    rw [List.reverse_cons, List.dropWhile_append]
    by_cases c : strip r = []
    · have e : (r.reverse.dropWhile (· == 0)) = [] := by
        rw [c] at ih
        exact List.reverse_eq_nil_iff.mp ih.symm
      rw [e]
      by_cases k0 : k = 0
      · rw [if_pos ⟨k0, c⟩]
        simp [k0]
      · rw [if_neg fun z => k0 z.1]
        simp [k0, c]
    · have e : (r.reverse.dropWhile (· == 0)) ≠ [] := fun z => c (by rw [ih, z]; rfl)
      rw [if_neg fun z => c z.2, ih]
      have e2 : (List.dropWhile (fun x => x == 0) r.reverse).isEmpty = false := by
        cases h : (List.dropWhile (fun x => x == 0) r.reverse) with
        | nil => exact absurd h e
        | cons _ _ => rfl
      rw [e2]
      simp
theorem rstrip_row (l : List Nat) : Txt.rstripChars (rowS l) ("a" : Str) = rowS (strip l) := by
  unfold Txt.rstripChars Txt.stripBy
  have hlo : stripLo (("a" : Str).cps.contains) false (rowS l) = 0 := rfl
  have tw : ∀ m : List Nat, ((m.map (97 + ·)).takeWhile (("a" : Str).cps.contains)).length = (m.takeWhile (· == 0)).length := by
    intro m
    induction m with
    | nil => rfl
    | cons k r ih =>
      rw [List.map_cons, List.takeWhile_cons, List.takeWhile_cons]
      have : (("a" : Str).cps.contains (97 + k)) = (k == 0) := by
        show (#[97] : Array Nat).contains (97 + k) = _
        by_cases e : k = 0
        · subst e; simp
        · rw [beq_eq_false_iff_ne.mpr e]
          simp [e]
      rw [this]
      split
      · rw [List.length_cons, List.length_cons, ih]
      · rfl
  have hhi : stripHi (("a" : Str).cps.contains) true (rowS l) 0 = l.length - (l.reverse.takeWhile (· == 0)).length := by
    unfold stripHi
    rw [if_pos rfl, rowS_len, List.drop_zero]
    unfold rowS
    rw [List.toList_toArray, ← List.map_reverse, tw]
  have el : l.length - (l.reverse.takeWhile (· == 0)).length = (strip l).length := by
    rw [strip_rev, List.length_reverse]
    have := congrArg List.length (List.takeWhile_append_dropWhile (p := (· == 0)) (l := l.reverse))
    rw [List.length_append, List.length_reverse] at this
    omega
  have pf : strip l = l.take (strip l).length := by
    have h1 : (strip l).reverse = l.reverse.dropWhile (· == 0) := by rw [strip_rev, List.reverse_reverse]
    have h2 : l = strip l ++ (l.reverse.takeWhile (· == 0)).reverse := by
      have := List.takeWhile_append_dropWhile (p := (· == 0)) (l := l.reverse)
      have := congrArg List.reverse this
      rw [List.reverse_append, List.reverse_reverse] at this
      rw [strip_rev]
      exact this.symm
    have h3 : l.take (strip l).length = (strip l ++ (l.reverse.takeWhile (· == 0)).reverse).take (strip l).length := by rw [← h2]
    rw [h3, List.take_left]
  by_cases c : stripSame (("a" : Str).cps.contains) false true (rowS l) = true
  · rw [if_pos c]
    unfold stripSame at c
    rw [hlo, hhi, el, rowS_len] at c
    have c2 : (strip l).length = l.length := by
      have := (Bool.and_eq_true_iff.mp c).2
      exact eq_of_beq this
    rw [c2, List.take_length] at pf
    rw [pf]
  · rw [if_neg c]
    unfold stripped
    rw [hlo, hhi, el]
    unfold Builtin.Str.strSub rowS
    rw [pf]
    congr 1
    apply Array.ext'
    simp
theorem strip_last : ∀ l : List Nat, (strip l).getLast? ≠ some 0 := by
  intro l
  rw [strip_rev, List.getLast?_reverse]
  intro h
  have := List.head?_dropWhile_not (p := (· == 0)) (l := l.reverse)
  rw [h] at this
  simp at this
end K6

set_option Elab.async false
set_option linter.all false
set_option maxRecDepth 100000
set_option maxHeartbeats 4000000
namespace K6
open PySem PySem.Spec PyProof.Rows L2 Rw
variable {P : Program} {w : World} {K : PySem.W.Frag} {mg : Str → Option Value} {base : Heap} {A : Ad} {fd : Fds}
def spIsInt : Sp := fun vs H Q _ => ∃ i : Int, vs = [.int i] ∧ Q (.bl true) H
theorem ok_is_integer (T : Txt K mg A) (U : Funs K A fd) : FnOk P w K mg base CX0 1 A.is_integer fd.is_integer p_is_integer (spIsInt) := by
  refine U.F_is_integer.ok sc_is_integer (fun vs H Q E h => ?_) (fun cdv A0 outer s H vs Q E hr h => ?_)
  · obtain ⟨i, rfl, _⟩ := h
    rfl
  · have hu := hu_of hr
    obtain ⟨i, rfl, q⟩ := h
    refine ⟨_, (pss_one (ps_ret (pe_and (pe_callB (w_isi (K := K)) (by rfl) T.b_isinstance (by decide +kernel) (pa_cons (pv 0) (pa_cons (pe_bltn (v := .ty "int") (u := .type "int") (by rfl) T.b_int (by decide +kernel) rfl) pa_nil))) (pe_one (pe_not (pe_callB (w_isi (K := K)) (by rfl) T.b_isinstance (by decide +kernel) (pa_cons (pv 0) (pa_cons (pe_bltn (v := .ty "bool") (u := .type "bool") (by rfl) T.b_bool (by decide +kernel) rfl) pa_nil)))))))), ?_⟩
    refine ⟨_, rfl, .int i, .ty "int", .type "int", .type "int", true, rfl, .ty _, .base (.int i), kit_ty (by decide +kernel), true, rfl, ?_⟩
    refine iteT ?_
    refine ⟨_, rfl, .int i, .ty "bool", .type "int", .type "bool", false, rfl, .ty _, .base (.int i), kit_ty (by decide +kernel), false, rfl, ?_⟩
    exact q
def spBetween : Sp := fun vs H Q _ => ∃ i lo hi : Int, vs = [.int i, .int lo, .int hi] ∧ Q (.bl (decide (lo ≤ i) && decide (i ≤ hi))) H
theorem ok_is_between (T : Txt K mg A) (U : Funs K A fd) : FnOk P w K mg base CX0 4 A.is_between fd.is_between p_is_between (spBetween) := by
  have G_is_integer := ok_is_integer (P := P) (w := w) (base := base) T U
  have b_is_integer := U.b_is_integer
  refine U.F_is_between.ok sc_is_between (fun vs H Q E h => ?_) (fun cdv A0 outer s H vs Q E hr h => ?_)
  · obtain ⟨i, lo, hi, rfl, _⟩ := h
    rfl
  · have hu := hu_of hr
    obtain ⟨i, lo, hi, rfl, q⟩ := h
    refine ⟨_, (pss_one (ps_ret (pe_and (pe_call G_is_integer (hr.mono (by decide)) (by rfl) T.m_is_integer T.k_is_integer b_is_integer .nil pass0 (pa_cons (pv 0) pa_nil)) (pe_one (pe_chain op_le op_le (pv 1) (pv 0) (pv 2)))))), ?_⟩
    refine ⟨_, rfl, i, rfl, true, rfl, ?_⟩
    refine iteT ?_
    refine ⟨_, rfl, _, rfl, lo, i, rfl, rfl, _, rfl, ?_⟩
    by_cases c : lo ≤ i
    · rw [decide_eq_true c] at q ⊢
      refine iteT ?_
      exact ⟨_, rfl, i, hi, rfl, rfl, q⟩
    · rw [decide_eq_false c] at q ⊢
      exact iteF q
theorem cut_at : ∀ n : Nat, n ≤ 8 → cutS ("abcdefgh" : Str) none (some (n : Int)) = rowS (List.range n)
  | 0, _ => by decide +kernel
  | 1, _ => by decide +kernel
  | 2, _ => by decide +kernel
  | 3, _ => by decide +kernel
  | 4, _ => by decide +kernel
  | 5, _ => by decide +kernel
  | 6, _ => by decide +kernel
  | 7, _ => by decide +kernel
  | 8, _ => by decide +kernel
  | n + 9, h => by omega
theorem rowS_at {l : List Nat} {i c : Nat} (h : (rowS l).cps[i]? = some c) : ∃ g, l[i]? = some g ∧ c = 97 + g := by
  unfold rowS at h
  simp only [List.getElem?_toArray, List.getElem?_map] at h
  cases e : l[i]? with
  | none => rw [e] at h; cases h
  | some g =>
    rw [e] at h
    exact ⟨g, rfl, (Option.some.inj h).symm⟩
theorem rowS_size (l : List Nat) : (rowS l).cps.size = l.length := rowS_len l
theorem in_range {g n : Nat} (h : g < n) : decide (97 + g ∈ (rowS (List.range n)).cps.toList) = true := by
  refine decide_eq_true ?_
  unfold rowS
  rw [List.toList_toArray]
  exact List.mem_map.mpr ⟨g, List.mem_range.mpr h, rfl⟩
def spIsRow : Sp := fun vs H Q _ => ∃ (l : List Nat) (n m : Nat), vs = [.str (rowS l), .int (n : Int), .int (m : Int)] ∧ n ≤ 8 ∧ l.length ≤ m ∧ m ≤ 1000 ∧ (∀ g ∈ l, g < n) ∧ ∀ H', Same H H' → Q (.bl true) H'
theorem ok_is_row (T : Txt K mg A) (U : Funs K A fd) : FnOk P w K mg base CX0 1 A.is_row fd.is_row p_is_row (spIsRow) := by
  refine U.F_is_row.ok sc_is_row (fun vs H Q E h => ?_) (fun cdv A0 outer s H vs Q E hr h => ?_)
  · obtain ⟨l, n, m, rfl, _⟩ := h
    rfl
  · have hu := hu_of hr
    obtain ⟨l, n, m, rfl, hn, hl, hm, hg, q⟩ := h
    refine ⟨_, (pss_cons (ps_if (PW.pt (pw_or (pt_not (pt_val (pe_callB (w_isi (K := K)) (by rfl) T.b_isinstance (by decide +kernel) (pa_cons (pv 0) (pa_cons (pe_bltn (v := .ty "str") (u := .type "str") (by rfl) T.b_str (by decide +kernel) rfl) pa_nil))))) (pw_or1 (pt_cmpR op_gt (pe_callB (w_len (K := K)) (by rfl) T.b_len (by decide +kernel) (pa_cons (pv 0) pa_nil)) (pv 2) (nomark _))))) (pss_one (ps_ret pe_bl)) pss_nil)
       (pss_cons (ps_set (i := 3) sc_is_row.nd rfl (Or.inr rfl) (pe_slice sl_str (pe_glob (v := .str "abcdefgh") (by rfl) T.c_ALPHABET.choose_spec ⟨_, rfl⟩) po_none (po_some (pv 1))))
       (pss_one (ps_ret (pe_callB (w_all (K := K) rfl) (by rfl) T.b_all (by decide +kernel) (pa_cons (pe_lc (own := [("sign", 4)]) (g := gName 4) (tt := tYes) (by rfl) sc_is_row.nd (pi_str (pv 0)) (blkOk_by (own := [("sign", 4)]) (by rfl)) (fun _ _ _ _ _ => (pg_name (i := 4) sc_is_row.nd rfl (Or.inl rfl))) (fun _ _ _ _ _ => pts_nil) (fun _ _ _ _ _ => (pe_cmpR op_in_sign (pv 4) (pv 3) (by rfl)))) pa_nil)))))), ?_⟩
    refine ⟨_, rfl, .str (rowS l), .ty "str", .type "str", .type "str", true, rfl, .ty _, .base (.str _), kit_ty (by decide +kernel), true, rfl, ?_⟩
    refine iteF ?_
    refine ⟨_, rfl, _, _, rfl, ⟨szl (by rw [rowS_len]; omega), rfl⟩, _, rfl, _, _, rfl, rfl, _, rfl, ?_⟩
    rw [decide_eq_false (show ¬ (((rowS l).length : Int) > (m : Int)) by rw [rowS_len]; omega)]
    refine iteF (g_next ?_)
    refine ⟨_, rfl, (n : Int), rfl, _, rfl, szl (by decide +kernel), ?_⟩
    rw [cut_at n hn]
    dsimp only
    refine g_ret (g_cb (cS (z := rowS l) (fun _ => [.bl true]) (fun R r => ?_) (fun _ => Nat.le_refl 1) (by rw [rowS_size]; omega) ?_ (fun i c hi => turn_yes fun H1 R s1 r => ?_) (fun D H1 _ s1 h1 => ?_)))
    · exact ⟨_, rfl, r⟩
    · exact fun _ => rfl
    · obtain ⟨g, hg1, rfl⟩ := rowS_at hi
      refine ⟨_, rfl, _, rfl, _, _, rfl, rfl, ?_⟩
      rw [in_range (hg g (List.mem_of_getElem? hg1))]
      exact r H1 (Same.refl _)
    · rw [replicate_pre] at h1
      refine ⟨D, List.replicate (rowS l).cps.size true, rfl, lst_of (by rw [← bls]; exact h1), ?_⟩
      rw [all_true]
      exact q H1 s1
def spCkRow : Sp := fun vs H Q _ => ∃ (l : List Nat) (n : Nat), vs = [.int (n : Int), .str (rowS l)] ∧ n ≤ 8 ∧ l.length ≤ 200 ∧ (∀ g ∈ l, g < n) ∧ ∀ H', Same H H' → Q .non H'
theorem ok_check_row (T : Txt K mg A) (U : Funs K A fd) : FnOk P w K mg base CX0 4 A.check_row fd.check_row p_check_row (spCkRow) := by
  have G_is_row := ok_is_row (P := P) (w := w) (base := base) T U
  have b_is_row := U.b_is_row
  refine U.F_check_row.ok sc_check_row (fun vs H Q E h => ?_) (fun cdv A0 outer s H vs Q E hr h => ?_)
  · obtain ⟨l, n, rfl, _⟩ := h
    rfl
  · have hu := hu_of hr
    obtain ⟨l, n, rfl, hn, hl, hg, q⟩ := h
    refine ⟨_, (pss_one (ps_if (pt_not (pt_val (pe_call G_is_row (hr.mono (by decide)) (by rfl) T.m_is_row T.k_is_row b_is_row .nil pass0 (pa_cons (pv 1) (pa_cons (pv 0) (pa_cons (pe_glob (v := .int 200) (by rfl) T.c_MOST_ROW.choose_spec ⟨_, rfl⟩) pa_nil)))))) (pss_one ps_never) pss_nil)), ?_⟩
    refine ⟨_, rfl, _, rfl, l, n, 200, rfl, hn, hl, by decide, hg, fun H1 s1 => ?_⟩
    exact ⟨_, rfl, iteF (g_next (q H1 s1))⟩
def spFigure : Sp := fun vs H Q _ => ∃ s t : Nat, vs = [.int (s : Int), .int (t : Int)] ∧ Q (.int ((s / 2 ^ t % 2 : Nat) : Int)) H
theorem ok_figure (T : Txt K mg A) (U : Funs K A fd) : FnOk P w K mg base CX0 1 A.figure fd.figure p_figure (spFigure) := by
  refine U.F_figure.ok sc_figure (fun vs H Q E h => ?_) (fun cdv A0 outer s H vs Q E hr h => ?_)
  · obtain ⟨s, t, rfl, _⟩ := h
    rfl
  · have hu := hu_of hr
    obtain ⟨s, t, rfl, q⟩ := h
    refine ⟨_, (pss_one (ps_ret (pe_op op_odd (pe_op op_shrS (pv 0) (pv 1)) pe_int))), ?_⟩
    exact ⟨_, rfl, _, rfl, s, t, rfl, rfl, _, rfl, rfl, q⟩
def spTracks : Sp := fun vs H Q _ => ∃ n : Nat, vs = [.int (n : Int)] ∧ 1 ≤ n ∧ n ≤ 3 ∧ Q .non H
theorem ok_check_tracks (T : Txt K mg A) (U : Funs K A fd) : FnOk P w K mg base CX0 7 A.check_tracks fd.check_tracks p_check_tracks (spTracks) := by
  have G_is_between := ok_is_between (P := P) (w := w) (base := base) T U
  have b_is_between := U.b_is_between
  refine U.F_check_tracks.ok sc_check_tracks (fun vs H Q E h => ?_) (fun cdv A0 outer s H vs Q E hr h => ?_)
  · obtain ⟨n, rfl, _⟩ := h
    rfl
  · have hu := hu_of hr
    obtain ⟨n, rfl, h1, h2, q⟩ := h
    refine ⟨_, (pss_one (ps_if (pt_not (pt_val (pe_call G_is_between (hr.mono (by decide)) (by rfl) T.m_is_between T.k_is_between b_is_between .nil pass0 (pa_cons (pv 0) (pa_cons pe_int (pa_cons (pe_glob (v := .int 3) (by rfl) T.c_MOST_TRACKS.choose_spec ⟨_, rfl⟩) pa_nil)))))) (pss_one ps_never) pss_nil)), ?_⟩
    refine ⟨_, rfl, _, _, _, rfl, ?_⟩
    rw [decide_eq_true (show (1 : Int) ≤ (n : Int) by omega), decide_eq_true (show (n : Int) ≤ 3 by omega)]
    exact ⟨_, rfl, iteF (g_next q)⟩
theorem tupTy {H : Hp} {a : Addr} {xs : List V} (h : SqT K H a xs) : TyX K H (.ref a) (.type "tuple") := by
  rcases h with (h | ⟨o, h⟩) | h
  · exact .base (.tup h)
  · exact .fTuple h
  · obtain ⟨o, vs, n, h1, h2, _⟩ := h
    exact .kTuple h1 h2
def vN (ns : List Nat) : List V := ns.map fun (k : Nat) => .int (k : Int)
theorem vN_len (ns : List Nat) : (vN ns).length = ns.length := List.length_map _
theorem vN_get {ns : List Nat} {i : Nat} {v : V} (h : (vN ns)[i]? = some v) : ∃ n, ns[i]? = some n ∧ v = .int (n : Int) := by
  unfold vN at h
  rw [List.getElem?_map] at h
  cases e : ns[i]? with
  | none => rw [e] at h; cases h
  | some n =>
    rw [e] at h
    exact ⟨n, rfl, (Option.some.inj h).symm⟩
theorem vN_at {ns : List Nat} {i : Nat} (h : i < ns.length) : (vN ns)[i]? = some (.int ((ns[i] : Nat) : Int)) := by
  unfold vN
  simp [h]
def big : Nat := 10000000000000000000000000000000000000000
def spNumbers (K : PySem.W.Frag) : Sp := fun vs H Q _ => ∃ (a : Addr) (ns : List Nat), vs = [.ref a, .int 1] ∧ SqT K H a (vN ns) ∧ 1 ≤ ns.length ∧ ns.length ≤ 3 ∧ (∀ n ∈ ns, n < big) ∧ ∀ H', Same H H' → Q .non H'
theorem ok_check_numbers (T : Txt K mg A) (U : Funs K A fd) : FnOk P w K mg base CX0 7 A.check_numbers fd.check_numbers p_check_numbers (spNumbers K) := by
  have G_is_between := ok_is_between (P := P) (w := w) (base := base) T U
  have b_is_between := U.b_is_between
  refine U.F_check_numbers.ok sc_check_numbers (fun vs H Q E h => ?_) (fun cdv A0 outer s H vs Q E hr h => ?_)
  · obtain ⟨a, ns, rfl, _⟩ := h
    rfl
  · have hu := hu_of hr
    obtain ⟨a, ns, rfl, hx, h1, h3, hb, q⟩ := h
    refine ⟨_, (pss_cons (ps_if (PW.pt (pw_or (pt_not (pt_val (pe_callB (w_isi (K := K)) (by rfl) T.b_isinstance (by decide +kernel) (pa_cons (pv 0) (pa_cons (pe_bltn (v := .ty "tuple") (u := .type "tuple") (by rfl) T.b_tuple (by decide +kernel) rfl) pa_nil))))) (pw_or1 (pt_not (pt_chain op_le op_le (pv 1) (pe_callB (w_len (K := K)) (by rfl) T.b_len (by decide +kernel) (pa_cons (pv 0) pa_nil)) (pe_glob (v := .int 3) (by rfl) T.c_MOST_TRACKS.choose_spec ⟨_, rfl⟩)))))) (pss_one ps_never) pss_nil)
       (pss_one (ps_if (pt_not (pt_val (pe_callB (w_all (K := K) rfl) (by rfl) T.b_all (by decide +kernel) (pa_cons (pe_lc (own := [("number", 2)]) (g := gName 2) (tt := tYes) (by rfl) sc_check_numbers.nd (w_piT (K := K) (pv 0)) (blkOk_by (own := [("number", 2)]) (by rfl)) (fun _ _ _ _ _ => (pg_name (i := 2) sc_check_numbers.nd rfl (Or.inl rfl))) (fun _ _ _ _ _ => pts_nil) (fun _ _ _ _ _ => (pe_call G_is_between (hr.mono (by decide)) (by rfl) T.m_is_between T.k_is_between b_is_between .nil pass0 (pa_cons (pv 2) (pa_cons pe_int (pa_cons (pe_op op_sub (pe_glob (v := .int 10000000000000000000000000000000000000000) (by rfl) T.c_NUMBERS.choose_spec ⟨_, rfl⟩) pe_int) pa_nil)))))) pa_nil)))) (pss_one ps_never) pss_nil))), ?_⟩
    refine ⟨_, rfl, _, _, _, .type "tuple", true, rfl, .ty _, tupTy hx, kit_ty (by decide +kernel), true, rfl, ?_⟩
    refine iteF ?_
    refine ⟨_, rfl, _, rfl, _, _, rfl, .inr ⟨_, hx, rfl⟩, _, _, rfl, rfl, _, rfl, ?_⟩
    rw [vN_len, decide_eq_true (show (1 : Int) ≤ (ns.length : Int) by omega)]
    refine iteT ?_
    refine ⟨_, _, rfl, rfl, _, rfl, ?_⟩
    rw [decide_eq_true (show (ns.length : Int) ≤ 3 by omega)]
    refine iteF (g_next ?_)
    dsimp only
    refine g_cb (cT (xs := vN ns) (fun _ => [.bl true]) (fun R r => ?_) hx (fun _ => Nat.le_refl 1) (by rw [vN_len]; omega) ?_ (fun i x hi => turn_yes fun H1 R s1 r => ?_) (fun D H1 _ s1 h1 => ?_))
    · exact ⟨_, rfl, r⟩
    · exact fun _ => rfl
    · obtain ⟨n, hn, rfl⟩ := vN_get hi
      have hlt := hb n (List.mem_of_getElem? hn)
      unfold big at hlt
      refine ⟨_, rfl, _, _, rfl, rfl, _, _, _, rfl, ?_⟩
      rw [decide_eq_true (show (0 : Int) ≤ (n : Int) by omega), decide_eq_true (show (n : Int) ≤ 10000000000000000000000000000000000000000 - 1 by omega)]
      exact r H1 (Same.refl _)
    · rw [replicate_pre] at h1
      refine ⟨D, List.replicate (vN ns).length true, rfl, lst_of (by rw [← bls]; exact h1), ?_⟩
      rw [all_true]
      exact ⟨_, rfl, iteF (g_next (q H1 s1))⟩
theorem for_str {z : Str} {g : TG} {tb : TS} {D : Ends} {σ : L2.St} {H : Hp} (Pv : Nat → L2.St → Hp → Prop) (h0 : Pv 0 σ H)
    (hs : ∀ i c σ H, z.cps[i]? = some c → Pv i σ H → g (.str ⟨#[c]⟩) σ H fun σ2 H2 => tb { D with nx := Pv (i + 1), ct := Pv (i + 1), bk := D.nx } σ2 H2) (hd : ∀ σ H, Pv z.cps.size σ H → D.nx σ H) :
    ∃ W : Nat → Nat → L2.St → Hp → Prop, (∃ m, W 0 m σ H) ∧ ∀ i m σ H, W i m σ H →
      ((Its z).stop i H ∧ D.nx σ H) ∨ ((Its z).go i H ∧ ∃ N : L2.St → Hp → Prop, (∀ σ' H', N σ' H' → ∃ m', m' < m ∧ W (i + 1) m' σ' H') ∧ ∀ x H', (Its z).yld i H x H' → g x σ H' fun σ2 H2 => tb { D with nx := N, ct := N, bk := D.nx } σ2 H2) := by
  refine ⟨fun i m σ H => m = z.cps.size - i ∧ i ≤ z.cps.size ∧ Pv i σ H, ⟨z.cps.size, by simp, Nat.zero_le _, h0⟩, ?_⟩
  rintro i m σ H ⟨rfl, hi, p⟩
  by_cases hlt : i < z.cps.size
  · refine .inr ⟨hlt, Pv (i + 1), fun σ' H' p' => ⟨z.cps.size - (i + 1), by omega, rfl, hlt, p'⟩, fun x H' y => ?_⟩
    obtain ⟨e, c, hc, rfl⟩ := y
    subst e
    exact hs i c σ _ hc p
  · have e : i = z.cps.size := by omega
    subst e
    exact .inl ⟨Nat.le_refl _, hd σ H p⟩
theorem index_at : ∀ g : Nat, g < 8 → ∃ rest, Builtin.Str.occurrences ("abcdefgh" : Str) ⟨#[97 + g]⟩ 0 ("abcdefgh" : Str).length 1 = g :: rest
  | 0, _ => ⟨[], by decide +kernel⟩
  | 1, _ => ⟨[], by decide +kernel⟩
  | 2, _ => ⟨[], by decide +kernel⟩
  | 3, _ => ⟨[], by decide +kernel⟩
  | 4, _ => ⟨[], by decide +kernel⟩
  | 5, _ => ⟨[], by decide +kernel⟩
  | 6, _ => ⟨[], by decide +kernel⟩
  | 7, _ => ⟨[], by decide +kernel⟩
  | n + 8, h => by omega
theorem sign_at : ∀ g : Nat, g < 8 → ("abcdefgh" : Str).cps.toList[g]? = some (97 + g)
  | 0, _ => by decide +kernel
  | 1, _ => by decide +kernel
  | 2, _ => by decide +kernel
  | 3, _ => by decide +kernel
  | 4, _ => by decide +kernel
  | 5, _ => by decide +kernel
  | 6, _ => by decide +kernel
  | 7, _ => by decide +kernel
  | n + 8, h => by omega
theorem zeros (n : Nat) : (List.replicate n [V.int 0]).flatten = vN (nums n []) := by
  unfold vN nums
  rw [List.map_map]
  induction n with
  | zero => rfl
  | succ n ih =>
    rw [List.replicate_succ', List.flatten_append, ih, List.range_succ, List.map_append]
    rfl
theorem pre_nums (n : Nat) (l : List Nat) : pre (fun t => [V.int ((num t l : Nat) : Int)]) n = vN (nums n l) := by
  rw [pre_map]
  unfold vN nums
  rw [List.map_map]
  rfl
theorem nums_len (n : Nat) (l : List Nat) : (nums n l).length = n := by unfold nums; simp
theorem nums_at {n t : Nat} (l : List Nat) (h : t < n) : (vN (nums n l))[t]? = some (.int ((num t l : Nat) : Int)) := by
  unfold vN nums
  simp [h]
theorem drop_rev {l : List Nat} {i g : Nat} (h : l.reverse[i]? = some g) : l.drop (l.length - (i + 1)) = g :: l.drop (l.length - i) := by
  have hi : i < l.length := by have := lt_of_get h; rwa [List.length_reverse] at this
  rw [List.getElem?_reverse hi] at h
  have e : l.length - (i + 1) = l.length - 1 - i := by omega
  have hlt : l.length - 1 - i < l.length := by omega
  rw [e, List.drop_eq_getElem_cons hlt]
  rw [List.getElem?_eq_getElem hlt] at h
  rw [Option.some.inj h, show l.length - 1 - i + 1 = l.length - i by omega]
def spNumsOf : Sp := fun vs H Q _ => ∃ (n : Nat) (l : List Nat), vs = [.int (n : Int), .str (rowS l)] ∧ n ≤ 3 ∧ l.length ≤ 1000 ∧ (∀ g ∈ l, g < 8) ∧ ∀ a H', H a = none → Same H H' → H' a = some (.tup (vN (nums n l))) → Q (.ref a) H'
theorem ok_numbers_of (T : Txt K mg A) (U : Funs K A fd) : FnOk P w K mg base CX0 4 A.numbers_of fd.numbers_of p_numbers_of (spNumsOf) := by
  have G_figure := ok_figure (P := P) (w := w) (base := base) T U
  have b_figure := U.b_figure
  refine U.F_numbers_of.ok sc_numbers_of (fun vs H Q E h => ?_) (fun cdv A0 outer s H vs Q E hr h => ?_)
  · obtain ⟨n, l, rfl, _⟩ := h
    rfl
  · have hu := hu_of hr
    obtain ⟨n, l, rfl, hn, hl, hg, k⟩ := h
    refine ⟨_, (pss_cons (ps_set (i := 2) sc_numbers_of.nd rfl (Or.inr rfl) (pe_op op_rep (pe_lst (pa_cons pe_int pa_nil)) (pv 0)))
       (pss_cons (ps_for PassesOwn.never rfl (pi_str (pe_revS (pv 1))) (pg_name (i := 3) sc_numbers_of.nd rfl (Or.inl rfl))
       (pss_cons (ps_set (i := 4) sc_numbers_of.nd rfl (Or.inr rfl) (pe_bm PySem.F.plainAttrs_str PySem.F.slot_str_index PySem.F.type_str_index mt_sindex (pe_glob (v := .str "abcdefgh") (by rfl) T.c_ALPHABET.choose_spec ⟨_, rfl⟩) (pa_cons (pv 3) pa_nil)))
       (pss_one (ps_set (i := 2) sc_numbers_of.nd rfl (Or.inr rfl) (pe_lc (own := [("track", 5)]) (g := gName 5) (tt := tYes) (by rfl) sc_numbers_of.nd (pi_range1 (by rfl) T.b_range (pa_cons (pv 0) pa_nil)) (blkOk_by (own := [("track", 5)]) (by rfl)) (fun _ _ _ _ _ => (pg_name (i := 5) sc_numbers_of.nd rfl (Or.inl rfl))) (fun _ _ _ _ _ => pts_nil) (fun _ _ _ _ _ => (pe_op op_add (pe_op op_mul pe_int (pe_ix (w_ixL (K := K)) (pv 2) (pv 5) (fun _ _ => rfl))) (pe_call G_figure (hr.mono (by decide)) (by rfl) T.m_figure T.k_figure b_figure .nil pass0 (pa_cons (pv 4) (pa_cons (pv 5) pa_nil))))))))))
       (pss_one (ps_ret (pe_callTy (w_tuple (K := K)) (by rfl) T.b_tuple (by decide +kernel) (pa_cons (pv 2) pa_nil)))))), ?_⟩
    refine ⟨by show 1 ≤ sizeLine; decide, fun p0 hp0 => ⟨_, rfl, p0, _, _, rfl, rfl, upd_same, by omega, by omega, szl (by simp; omega), fun p hp => ?_⟩⟩
    rw [Int.toNat_natCast, zeros]
    have s0 : Same H (upd (upd H p0 (.lst [.int 0])) p (.lst (vN (nums n [])))) := (same_upd hp0).trans (same_upd hp)
    have np : H p = none := Same.free (same_upd hp0) hp
    refine ⟨_, rfl, rowS l, rfl, szl (by rw [rowS_len]; omega), fun u => ?_⟩
    rw [rev_row]
    refine ⟨_, rfl, ?_⟩
    refine for_str (z := rowS l.reverse) (fun i σ H' => ∃ p y3 y4, σ = [some (.int (n : Int)), some (.str (rowS l)), some (.ref p), y3, y4, none] ∧ H p = none ∧ Same H H' ∧ H' p = some (.lst (vN (nums n (l.drop (l.length - i)))))) ?_ ?_ ?_
    · refine ⟨p, none, none, rfl, np, s0, ?_⟩
      rw [Nat.sub_zero, List.drop_length]
      exact upd_same
    · rintro i c σ H1 hi ⟨p, y3, y4, rfl, np, s1, h1⟩
      obtain ⟨g, hgi, rfl⟩ := rowS_at hi
      have hg8 : g < 8 := hg g (List.mem_reverse.mp (List.mem_of_getElem? hgi))
      obtain ⟨rest, hr⟩ := index_at g hg8
      refine ⟨rfl, _, rfl, _, _, g, rest, rfl, rfl, hr, ?_⟩
      dsimp only [gName]
      refine g_asg (cR (n := n) (m := (n : Int)) (fun t => [.int ((num t (l.drop (l.length - (i + 1))) : Nat) : Int)]) (by omega) (by omega) (fun R r => ?_) (fun _ => Nat.le_refl 1) (by omega) ?_ (fun t ht => turn_yes fun H2 R s2 r => ?_) (fun D H2 hD s2 h2 => ?_))
      · exact ⟨_, rfl, r⟩
      · exact fun _ => rfl
      · refine ⟨_, rfl, _, rfl, p, _, _, _, rfl, rfl, lst_of (s2 _ _ h1), atI_nat (nums_at _ ht), _, _, rfl, rfl, .inl ⟨by decide, by decide⟩, _, rfl, _, rfl, g, t, rfl, _, _, rfl, rfl, ?_⟩
        have e : (2 * ((num t (l.drop (l.length - i)) : Nat) : Int) + ((g / 2 ^ t % 2 : Nat) : Int)) = ((num t (l.drop (l.length - (i + 1))) : Nat) : Int) := by
          rw [drop_rev hgi]
          show _ = ((g / 2 ^ t % 2 + 2 * num t (l.drop (l.length - i)) : Nat) : Int)
          omega
        dsimp only
        rw [e]
        exact r H2 (Same.refl _)
      · rw [pre_nums] at h2
        exact ⟨D, _, _, rfl, Same.free s1 hD, s1.trans s2, h2⟩
    · rintro σ H1 ⟨p, y3, y4, rfl, np, s1, h1⟩
      rw [rowS_size, List.length_reverse, Nat.sub_self, List.drop_zero] at h1
      refine ⟨_, rfl, p, _, rfl, .inl ⟨lst_of h1, fun a ha => ?_⟩⟩
      exact k a _ (Same.free s1 ha) (s1.trans (same_upd ha)) upd_same
def spNumsBy : Sp := fun vs H Q _ => ∃ (n : Nat) (l : List Nat), vs = [.int (n : Int), .str (rowS l)] ∧ 1 ≤ n ∧ n ≤ 3 ∧ l.length ≤ 200 ∧ (∀ g ∈ l, g < 2 ^ n) ∧ ∀ a H', H a = none → Same H H' → H' a = some (.tup (vN (nums n l))) → Q (.ref a) H'
theorem pow8 {n : Nat} (h : n ≤ 3) : 2 ^ n ≤ 8 := Nat.pow_le_pow_right (by decide) h
theorem ok_numbers_by (T : Txt K mg A) (U : Funs K A fd) : FnOk P w K mg base CX0 10 A.numbers_by fd.numbers_by p_numbers_by (spNumsBy) := by
  have G_numbers_of := ok_numbers_of (P := P) (w := w) (base := base) T U
  have b_numbers_of := U.b_numbers_of
  have G_check_row := ok_check_row (P := P) (w := w) (base := base) T U
  have b_check_row := U.b_check_row
  have G_check_tracks := ok_check_tracks (P := P) (w := w) (base := base) T U
  have b_check_tracks := U.b_check_tracks
  refine U.F_numbers_by.ok sc_numbers_by (fun vs H Q E h => ?_) (fun cdv A0 outer s H vs Q E hr h => ?_)
  · obtain ⟨n, l, rfl, _⟩ := h
    rfl
  · have hu := hu_of hr
    obtain ⟨n, l, rfl, h1, h3, hl, hg, k⟩ := h
    refine ⟨_, (pss_cons (ps_expr (pe_call G_check_tracks (hr.mono (by decide)) (by rfl) T.m_check_tracks T.k_check_tracks b_check_tracks .nil pass0 (pa_cons (pv 0) pa_nil)))
       (pss_cons (ps_expr (pe_call G_check_row (hr.mono (by decide)) (by rfl) T.m_check_row T.k_check_row b_check_row .nil pass0 (pa_cons (pe_op op_shlS pe_int (pv 0)) (pa_cons (pv 1) pa_nil))))
       (pss_one (ps_ret (pe_call G_numbers_of (hr.mono (by decide)) (by rfl) T.m_numbers_of T.k_numbers_of b_numbers_of .nil pass0 (pa_cons (pv 0) (pa_cons (pv 1) pa_nil))))))), ?_⟩
    have p8 := pow8 h3
    refine ⟨_, rfl, n, rfl, h1, h3, ?_⟩
    refine ⟨_, rfl, 1, n, rfl, rfl, by decide, by omega, _, rfl, ?_⟩
    rw [Nat.one_mul]
    refine ⟨l, 2 ^ n, rfl, p8, hl, hg, fun H1 s1 => ?_⟩
    refine ⟨_, rfl, _, rfl, n, l, rfl, h3, by omega, fun g hgl => by have := hg g hgl; omega, fun a H2 ha s2 h2 => ?_⟩
    exact k a H2 (Same.free s1 ha) (s1.trans s2) h2
theorem bits_eq (n : Nat) : Builtin.Int.intBits (n : Int) = bits n := by
  unfold Builtin.Int.intBits bits
  by_cases c : n = 0
  · subst c; rfl
  · rw [if_neg c, if_neg]
    · rw [Int.natAbs_natCast]
    · intro z
      have := eq_of_beq z
      omega
theorem mx_of {ns : List Nat} {m : Int} (hm : m ∈ ns.map Int.ofNat) (hg : ∀ y ∈ ns.map Int.ofNat, y ≤ m) : m = ((mx ns : Nat) : Int) := by
  obtain ⟨n, hn, rfl⟩ := List.mem_map.mp hm
  have h1 := mx_le hn
  have h2 : mx ns ≤ n := by
    have := mx_mem (ns := ns) (fun z => by rw [z] at hn; simp at hn)
    have := hg _ (List.mem_map.mpr ⟨_, this, rfl⟩)
    exact Int.ofNat_le.mp this
  show Int.ofNat n = Int.ofNat (mx ns)
  rw [Nat.le_antisymm h1 h2]
theorem vN_ints (ns : List Nat) : vN ns = (ns.map Int.ofNat).map V.int := by
  unfold vN
  rw [List.map_map]
  rfl
theorem bits_le {n f : Nat} (h : n < 2 ^ f) : bits n ≤ f := by
  unfold bits
  by_cases c : n = 0
  · rw [if_pos c]; exact Nat.zero_le _
  · rw [if_neg c]
    have := (Nat.log2_lt c).mpr h
    omega
theorem sum_bits (ns : List Nat) (p : Nat) : (pre (fun i => [V.int ((ns.getD i 0 / 2 ^ p % 2 * 2 ^ i : Nat) : Int)]) ns.length) = ((List.range ns.length).map fun i => ((ns.map (· / 2 ^ p)).getD i 0 % 2 * 2 ^ i)).map fun (k : Nat) => V.int (k : Int) := by
  rw [pre_map, List.map_map]
  refine List.map_congr_left fun i hi => ?_
  have hi := List.mem_range.mp hi
  show V.int _ = V.int _
  simp [hi]
theorem sum_nat (l : List Nat) : (l.map Int.ofNat).sum = ((l.sum : Nat) : Int) := by
  induction l with
  | nil => rfl
  | cons a l ih =>
    rw [List.map_cons, List.sum_cons, List.sum_cons, ih]
    push_cast
    rfl
theorem g_opC {r : R2} {v : V} {tb : TE} {σ : L2.St} {H : Hp} {Q : VK} (h : tb σ H fun y H2 => r v y H2 Q) : tOp r (tC v) tb σ H Q := h
def spShort (K : PySem.W.Frag) : Sp := fun vs H Q _ => ∃ (a : Addr) (ns : List Nat), vs = [.ref a] ∧ SqT K H a (vN ns) ∧ 1 ≤ ns.length ∧ ns.length ≤ 3 ∧ (∀ n ∈ ns, n < 2 ^ 200) ∧ ∀ H', Same H H' → Q (.str (rowS (srt 200 ns))) H'
theorem ok_shortest_row (T : Txt K mg A) (U : Funs K A fd) : FnOk P w K mg base CX0 1 A.shortest_row fd.shortest_row p_shortest_row (spShort K) := by
  refine U.F_shortest_row.ok sc_shortest_row (fun vs H Q E h => ?_) (fun cdv A0 outer s H vs Q E hr h => ?_)
  · obtain ⟨a, ns, rfl, _⟩ := h
    rfl
  · have hu := hu_of hr
    obtain ⟨a, ns, rfl, hx, h1, h3, hb, k⟩ := h
    refine ⟨_, (pss_cons (ps_set (i := 1) sc_shortest_row.nd rfl (Or.inl rfl) (pe_lst pa_nil))
       (pss_cons (ps_for PassesOwn.never rfl (pi_range1 (by rfl) T.b_range (pa_cons (pe_bits (pe_callB (w_maxT (K := K) rfl hr.units) (by rfl) T.b_max (by decide +kernel) (pa_cons (pv 0) pa_nil))) pa_nil)) (pg_name (i := 2) sc_shortest_row.nd rfl (Or.inr rfl))
       (pss_cons (ps_set (i := 3) sc_shortest_row.nd rfl (Or.inr rfl) (pe_lc (own := [("number", 4)]) (g := gName 4) (tt := tYes) (by rfl) sc_shortest_row.nd (w_piT (K := K) (pv 0)) (blkOk_by (own := [("number", 4)]) (by rfl)) (fun _ _ _ _ _ => (pg_name (i := 4) sc_shortest_row.nd rfl (Or.inl rfl))) (fun _ _ _ _ _ => pts_nil) (fun _ _ _ _ _ => (pe_op op_odd (pe_op op_shrS (pv 4) (pv 2)) pe_int))))
       (pss_one (ps_expr (pe_bm PySem.F.plainAttrs_list PySem.F.slot_list_append PySem.F.type_list_append mt_append (pv 1) (pa_cons (pe_ix ix_str (pe_glob (v := .str "abcdefgh") (by rfl) T.c_ALPHABET.choose_spec ⟨_, rfl⟩) (pe_callB (w_sum (K := K) rfl) (by rfl) T.b_sum (by decide +kernel) (pa_cons (pe_lc (own := [("track", 5)]) (g := gName 5) (tt := tYes) (by rfl) sc_shortest_row.nd (pi_range1 (by rfl) T.b_range (pa_cons (pe_callB (w_len (K := K)) (by rfl) T.b_len (by decide +kernel) (pa_cons (pv 3) pa_nil)) pa_nil)) (blkOk_by (own := [("track", 5)]) (by rfl)) (fun _ _ _ _ _ => (pg_name (i := 5) sc_shortest_row.nd rfl (Or.inl rfl))) (fun _ _ _ _ _ => pts_nil) (fun _ _ _ _ _ => (pe_op op_shlS (pe_ix (w_ixL (K := K)) (pv 3) (pv 5) (fun _ _ => rfl)) (pv 5)))) pa_nil)) (fun _ _ => rfl)) pa_nil))))))
       (pss_one (ps_ret (pe_join pe_str (pv 1)))))), ?_⟩
    refine ⟨Nat.zero_le _, fun c hc => ?_⟩
    have s0 := same_upd (o := .lst []) hc
    refine ⟨_, rfl, a, ns.map Int.ofNat, rfl, by rw [← vN_ints]; exact sqT_mono s0 hx, by simp; omega, fun m hm1 hm2 => ?_⟩
    obtain rfl := mx_of hm1 hm2
    have ne : ns ≠ [] := fun z => by rw [z] at h1; simp at h1
    have hmx : mx ns < 2 ^ 200 := hb _ (mx_mem ne)
    have hbits := bits_le hmx
    refine ⟨_, rfl, _, rfl, by omega, by rw [bits_eq]; omega, ?_⟩
    rw [bits_eq, Int.toNat_natCast]
    rw [srt_range 200 ns hb] at k
    refine for_range (lo := 0) (n := bits (mx ns)) (fun i σ H' => ∃ y2 y3, σ = [some (.ref a), some (.ref c), y2, y3, none, none] ∧ Same H H' ∧ H' c = some (.lst (((List.range i).map fun p => sg (ns.map (· / 2 ^ p))).map fun g => V.str (sgn g)))) ?_ ?_ ?_
    · exact ⟨none, none, rfl, s0, upd_same⟩
    · rintro i σ H1 hi ⟨y2, y3, rfl, s1, h1c⟩
      rw [show (0 : Int) + (i : Int) = (i : Int) by omega]
      refine g_seq (g_asg (cT (xs := vN ns) (fun j => [.int ((ns.getD j 0 / 2 ^ i % 2 : Nat) : Int)]) (fun R r => ?_) (sqT_mono s1 hx) (fun _ => Nat.le_refl 1) (by rw [vN_len]; omega) ?_ (fun j x hj => turn_yes fun H2 R s2 r => ?_) (fun D H2 hD s2 h2 => ?_)))
      · exact ⟨_, rfl, r⟩
      · exact fun _ => rfl
      · obtain ⟨n, hn, rfl⟩ := vN_get hj
        have e : ns.getD j 0 = n := by rw [List.getD_eq_getElem?_getD, hn]; rfl
        rw [e] at r
        exact ⟨_, rfl, _, rfl, n, i, rfl, rfl, _, rfl, rfl, r H2 (Same.refl _)⟩
      · rw [vN_len] at h2
        have hc2 := s2 _ _ h1c
        refine ⟨_, rfl, .inl ⟨rfl, _, lst_of hc2⟩, ?_⟩
        have lD : (pre (fun j => [V.int ((ns.getD j 0 / 2 ^ i % 2 : Nat) : Int)]) ns.length).length = ns.length := by rw [pre_map]; simp
        refine g_opC (g_cb (cR (n := ns.length) (m := (ns.length : Int)) (fun j => [.int ((ns.getD j 0 / 2 ^ i % 2 * 2 ^ j : Nat) : Int)]) (by omega) (by omega) (fun R r => ?_) (fun _ => Nat.le_refl 1) (by omega) ?_ (fun j hj => turn_yes fun H3 R s3 r => ?_) (fun E H3 hE s3 h3' => ?_)))
        · exact ⟨_, rfl, _, _, rfl, .inl ⟨_, lst_of h2, rfl⟩, by rw [lD]; exact r⟩
        · exact fun _ => rfl
        · have ej : (pre (fun j => [V.int ((ns.getD j 0 / 2 ^ i % 2 : Nat) : Int)]) ns.length)[j]? = some (.int ((ns.getD j 0 / 2 ^ i % 2 : Nat) : Int)) := by rw [pre_map]; simp [hj]
          have b2 : ns.getD j 0 / 2 ^ i % 2 < 2 := Nat.mod_lt _ (by decide)
          refine ⟨_, rfl, _, rfl, D, _, _, _, rfl, rfl, lst_of (s3 _ _ h2), atI_nat ej, _, rfl, _, j, rfl, rfl, by omega, by omega, r H3 (Same.refl _)⟩
        · rw [sum_bits] at h3'
          have h3'' : H3 E = some (.lst ((((List.range ns.length).map fun j => ((ns.map (· / 2 ^ i)).getD j 0 % 2 * 2 ^ j)).map Int.ofNat).map V.int)) := by
            rw [h3']
            simp only [List.map_map]
            rfl
          refine ⟨E, _, rfl, lst_of h3'', ?_⟩
          rw [sum_nat]
          have es : ((List.range ns.length).map fun j => ((ns.map (· / 2 ^ i)).getD j 0 % 2 * 2 ^ j)).sum = sg (ns.map (· / 2 ^ i)) := by
            unfold sg
            rw [List.length_map]
          rw [es]
          have lt8 : sg (ns.map (· / 2 ^ i)) < 8 := by
            have := sg_lt (ns := ns.map (· / 2 ^ i)) (by rw [List.length_map]; exact h3)
            have p8 := pow8 (n := (ns.map (· / 2 ^ i)).length) (by rw [List.length_map]; exact h3)
            omega
          refine ⟨_, _, _, rfl, rfl, szl (by decide +kernel), atI_nat (sign_at _ lt8), c, _, _, rfl, rfl, s3 _ _ hc2, szt (by simp; omega), ?_⟩
          refine ⟨_, _, rfl, same_put (s1.trans (s2.trans s3)) hc, ?_⟩
          rw [upd_same, List.range_succ, List.map_append, List.map_append]
          rfl
    · rintro σ H1 ⟨y2, y3, rfl, s1, h1c⟩
      refine ⟨⟨_, rfl⟩, _, rfl, _, c, ((List.range (bits (mx ns))).map fun p => sg (ns.map (· / 2 ^ p))).map sgn, rfl, rfl, .inl (by rw [List.map_map]; exact lst_of h1c), ?_, ?_⟩
      · have : ∀ l : List Nat, ((l.map sgn).map (·.length)).sum = l.length := by
          intro l
          induction l with
          | nil => rfl
          | cons a l ih => rw [List.map_cons, List.map_cons, List.sum_cons, ih, List.length_cons]; show 1 + _ = _; omega
        rw [this]
        simp
        show _ + _ * 0 ≤ _
        omega
      · rw [join_signs]
        exact k H1 s1
def spRowFor (K : PySem.W.Frag) : Sp := fun vs H Q _ => ∃ (a : Addr) (ns : List Nat), vs = [.ref a] ∧ SqT K H a (vN ns) ∧ 1 ≤ ns.length ∧ ns.length ≤ 3 ∧ (∀ n ∈ ns, n < big) ∧ ∀ H', Same H H' → Q (.str (rowS (srt 200 ns))) H'
theorem big_lt : big < 2 ^ 200 := by decide
theorem ok_row_for (T : Txt K mg A) (U : Funs K A fd) : FnOk P w K mg base CX0 10 A.row_for fd.row_for p_row_for (spRowFor K) := by
  have G_shortest_row := ok_shortest_row (P := P) (w := w) (base := base) T U
  have b_shortest_row := U.b_shortest_row
  have G_check_numbers := ok_check_numbers (P := P) (w := w) (base := base) T U
  have b_check_numbers := U.b_check_numbers
  refine U.F_row_for.ok sc_row_for (fun vs H Q E h => ?_) (fun cdv A0 outer s H vs Q E hr h => ?_)
  · obtain ⟨a, ns, rfl, _⟩ := h
    rfl
  · have hu := hu_of hr
    obtain ⟨a, ns, rfl, hx, h1, h3, hb, k⟩ := h
    refine ⟨_, (pss_cons (ps_expr (pe_call G_check_numbers (hr.mono (by decide)) (by rfl) T.m_check_numbers T.k_check_numbers b_check_numbers .nil pass0 (pa_cons (pv 0) (pa_cons pe_int pa_nil))))
       (pss_one (ps_ret (pe_call G_shortest_row (hr.mono (by decide)) (by rfl) T.m_shortest_row T.k_shortest_row b_shortest_row .nil pass0 (pa_cons (pv 0) pa_nil))))), ?_⟩
    refine ⟨_, rfl, a, ns, rfl, hx, h1, h3, hb, fun H1 s1 => ?_⟩
    exact ⟨_, rfl, a, ns, rfl, sqT_mono s1 hx, h1, h3, fun n hn => Nat.lt_trans (hb n hn) big_lt, fun H2 s2 => k H2 (s1.trans s2)⟩
end K6


set_option Elab.async false
set_option linter.all false
set_option maxRecDepth 100000
set_option maxHeartbeats 4000000
namespace K6
open PySem PySem.Spec PyProof.Rows L2 Rw
variable {P : Program} {w : World} {K : PySem.W.Frag} {mg : Str → Option Value} {base : Heap} {A : Ad} {fd : Fds}
/-! ### draws -/
structure BarAt (H : Hp) (b : Addr) : Prop where
  ob : ∃ f s c : Int, H b = some (.lst [.int f, .int s, .int c]) ∧ 0 ≤ f ∧ 0 ≤ s
theorem g_viaP {te : TE} {σ : L2.St} {H : Hp} {Q : VK} (Pp : V → Hp → Prop) (h : ∀ Q' : VK, (∀ v H2, Pp v H2 → Q' v H2) → te σ H Q') (rest : ∀ v H2, Pp v H2 → Q v H2) : te σ H Q := h Q rest
theorem g_lst {te : TE} {tr : TA} {σ : L2.St} {H : Hp} {Q : VK} (h : te σ H fun x H1 => tr σ H1 fun xs H2 => (x :: xs).length ≤ sizeLine ∧ ∀ p, H2 p = none → Q (.ref p) (upd H2 p (.lst (x :: xs)))) : tLst (tCons te tr) σ H Q := h
theorem fmod_nn (x : Int) {m : Int} (h : 0 < m) : 0 ≤ x.fmod m := by
  rw [Int.fmod_eq_emod_of_nonneg x (by omega)]
  exact Int.emod_nonneg x (by omega)
theorem fmod_lt (x : Int) {m : Int} (h : 0 < m) : x.fmod m < m := by
  rw [Int.fmod_eq_emod_of_nonneg x (by omega)]
  exact Int.emod_lt_of_pos x h
theorem ints_getV {ns : List Int} {t : Nat} (h : t < ns.length) : (ns.map V.int)[t]? = some (.int ns[t]) := by simp [h]
def spBrook (K : PySem.W.Frag) : Sp := fun vs H Q _ => ∃ (a : Addr) (ns : List Int) (t : Nat), vs = [.ref a, .int (t : Int)] ∧ SqL K H a (ns.map V.int) ∧ ns.length ≤ 63 ∧ t ≤ 5 ∧
  ∀ b H', H b = none → Same H H' → BarAt H' b → Q (.ref b) H'
theorem cut_ints {ns : List Int} {k : Int} {x : V} (h : x ∈ cutV (ns.map V.int) none (some k)) : ∃ z : Int, x = .int z := by
  unfold cutV at h
  obtain ⟨z, _, rfl⟩ := List.mem_map.mp (List.mem_of_mem_drop (List.mem_of_mem_take h))
  exact ⟨z, rfl⟩
theorem ok_l_brook (T : Txt K mg A) (U : Funs K A fd) : FnOk P w K mg base CX0 1 A.l_brook fd.l_brook p_l_brook (spBrook K) := by
  refine U.F_l_brook.ok sc_l_brook (fun vs H Q E h => ?_) (fun cdv A0 outer s H vs Q E hr h => ?_)
  · obtain ⟨a, ns, t, rfl, _⟩ := h
    rfl
  · have hu := hu_of hr
    obtain ⟨a, ns, t, rfl, hS, hn, ht, k⟩ := h
    refine ⟨_, (pss_cons (ps_set (i := 2) sc_l_brook.nd rfl (Or.inl rfl) (pe_ifExp (pt_cmpR op_lt (pv 1) (pe_callB (w_len (K := K)) (by rfl) T.b_len (by decide +kernel) (pa_cons (pv 0) pa_nil)) (nomark _)) (pe_ix (w_ixL (K := K)) (pv 0) (pv 1) (fun _ _ => rfl)) (pe_op op_add (pe_op op_mul pe_int (pv 1)) pe_int)))
       (pss_cons (ps_set (i := 3) sc_l_brook.nd rfl (Or.inl rfl) (pe_op op_add pe_int (pe_op op_mul pe_int (pv 1))))
       (pss_cons (ps_for PassesOwn.never rfl (w_piL (K := K) (pe_op op_cat (pe_slice (w_slL (K := K)) (pv 0) po_none (po_some pe_int)) (pe_lst (pa_cons (pv 2) pa_nil)))) (pg_name (i := 4) sc_l_brook.nd rfl (Or.inl rfl))
       (pss_one (ps_set (i := 3) sc_l_brook.nd rfl (Or.inl rfl) (pe_op op_modN (pe_callTy call_int1 (by rfl) T.b_int (by decide +kernel) (pa_cons (pe_op op_add (pe_op op_add (pe_op op_mul (pv 3) pe_int) (pe_op op_modN (pe_callTy call_int1 (by rfl) T.b_int (by decide +kernel) (pa_cons (pv 4) pa_nil)) pe_int)) (pe_op op_mul pe_int (pv 1))) pa_nil)) pe_int))))
       (pss_one (ps_ret (pe_lst (pa_cons (pe_ifExp (PW.pt (pw_or (pt_cmpR op_lt (pv 2) pe_int (nomark _)) (pw_or1 (pt_cmpR op_ge (pv 2) (pe_op op_pow pe_int pe_int) (nomark _))))) (pe_callB call_abs (by rfl) T.b_abs (by decide +kernel) (pa_cons (pv 2) pa_nil)) pe_int) (pa_cons (pv 3) (pa_cons pe_int pa_nil))))))))), ?_⟩
    refine g_seq (g_asg (g_viaP (fun v H2 => H2 = H ∧ ∃ o : Int, v = .int o) (fun Q' rest => ?_) ?_))
    · refine ⟨_, rfl, _, rfl, _, _, rfl, .inl ⟨_, hS, rfl⟩, _, _, rfl, rfl, _, rfl, ?_⟩
      by_cases c : t < ns.length
      · rw [decide_eq_true (show (t : Int) < ((ns.map V.int).length : Int) by rw [List.length_map]; omega)]
        refine iteT ?_
        refine ⟨_, rfl, _, rfl, a, _, _, _, rfl, rfl, hS, atI_nat (ints_getV c), rest _ H ⟨rfl, _, rfl⟩⟩
      · rw [decide_eq_false (show ¬ ((t : Int) < ((ns.map V.int).length : Int)) by rw [List.length_map]; omega)]
        refine iteF ?_
        refine ⟨_, rfl, _, _, rfl, rfl, .inl ⟨by decide, by decide⟩, _, _, rfl, rfl, rest _ H ⟨rfl, _, rfl⟩⟩
    · rintro v H2 ⟨rfl, o, rfl⟩
      refine ⟨_, rfl, _, _, rfl, rfl, .inl ⟨by decide, by decide⟩, _, _, rfl, rfl, ?_⟩
      refine ⟨_, rfl, 6, rfl, a, _, rfl, hS, fun p hp => ⟨_, rfl, by show 1 ≤ sizeLine; decide, fun p2 hp2 => ?_⟩⟩
      have np2 : p ≠ p2 := ne_of_none upd_same hp2
      have hcl := cutV_length (ns.map V.int) none (some 6)
      rw [List.length_map] at hcl
      refine ⟨p, p2, _, _, rfl, rfl, by rw [upd_ne np2]; exact upd_same, upd_same, szl (by show _ + 1 ≤ 100000; omega), fun p3 hp3 => ⟨p3, rfl, ⟨_, lst_of upd_same⟩, ?_⟩⟩
      have s3 : Same H2 (upd (upd (upd H2 p (.lst (cutV (ns.map V.int) none (some 6)))) p2 (.lst [.int o])) p3 (.lst (cutV (ns.map V.int) none (some 6) ++ [.int o]))) := ((same_upd hp).trans (same_upd hp2)).trans (same_upd hp3)
      generalize hH3 : upd (upd (upd H2 p (.lst (cutV (ns.map V.int) none (some 6)))) p2 (.lst [.int o])) p3 (.lst (cutV (ns.map V.int) none (some 6) ++ [.int o])) = H3 at s3
      have h3 : H3 p3 = some (.lst (cutV (ns.map V.int) none (some 6) ++ [.int o])) := by rw [← hH3]; exact upd_same
      refine for_list (xs := cutV (ns.map V.int) none (some 6) ++ [.int o]) (fun i σ H' => ∃ (st : Int) (y4 : Option V), σ = [some (.ref a), some (.int (t : Int)), some (.int o), some (.int st), y4] ∧ 0 ≤ st ∧ H' = H3) ?_ ?_ ?_ ?_
      · exact ⟨_, none, rfl, by omega, rfl⟩
      · rintro i σ H' _ ⟨_, _, _, _, rfl⟩
        exact lst_of h3
      · rintro i x σ H' hi ⟨st, y4, rfl, h0, rfl⟩
        obtain ⟨z, rfl⟩ : ∃ z : Int, x = .int z := by
          rcases List.mem_append.mp (List.mem_of_getElem? hi) with h | h
          · exact cut_ints h
          · exact ⟨o, List.mem_singleton.mp h⟩
        refine ⟨_, rfl, _, _, rfl, rfl, .inr ⟨by decide, by decide⟩, _, rfl, .inl ⟨_, rfl, _, _, rfl, rfl, (by show (1000159 : Int) ≠ 0; decide), _, _, rfl, rfl, _, rfl, _, _, rfl, rfl, .inl ⟨by decide, by decide⟩, _, _, rfl, rfl, .inl ⟨_, rfl, _, _, rfl, rfl, (by show (2147483269 : Int) ≠ 0; decide), ?_⟩⟩⟩
        exact ⟨_, _, rfl, fmod_nn _ (by decide), rfl⟩
      · rintro σ H' ⟨st, y4, rfl, h0, rfl⟩
        dsimp only
        refine g_ret (g_lst (g_viaP (fun v H2' => H2' = H' ∧ ∃ f : Int, 0 ≤ f ∧ v = .int f) (fun Q' rest => ?_) ?_))
        · refine ⟨_, rfl, _, _, rfl, rfl, _, rfl, ?_⟩
          have absR : Q' (.int (if o < 0 then -o else o)) H' := rest _ H' ⟨rfl, _, by split <;> omega, rfl⟩
          by_cases c : o < 0
          · rw [decide_eq_true c]
            refine iteT (iteT ?_)
            exact ⟨_, rfl, _, rfl, absR⟩
          · rw [decide_eq_false c]
            refine iteF ?_
            refine ⟨_, rfl, _, _, rfl, rfl, ⟨by decide, by decide, by decide⟩, _, _, rfl, rfl, _, rfl, ?_⟩
            by_cases c2 : (10 : Int) ^ (17 : Int).toNat ≤ o
            · rw [decide_eq_true c2]
              refine iteT ?_
              exact ⟨_, rfl, _, rfl, absR⟩
            · rw [decide_eq_false c2]
              exact iteF (rest _ _ ⟨rfl, 0, by omega, rfl⟩)
        · rintro v H4 ⟨rfl, f, hf, rfl⟩
          refine ⟨_, rfl, by show 3 ≤ sizeLine; decide, fun b hb => ?_⟩
          exact k b _ (Same.free s3 hb) (s3.trans (same_upd hb)) ⟨f, _, 0, upd_same, hf, h0⟩
def spDip : Sp := fun vs H Q _ => ∃ (b : Addr) (top : Nat), vs = [.ref b, .int (top : Int)] ∧ BarAt H b ∧ 1 ≤ top ∧ top ≤ 1000000 ∧ ∀ (r : Nat) H', r < top → Keep b H H' → BarAt H' b → Q (.int (r : Int)) H'
theorem nat_of {z : Int} (h : 0 ≤ z) : ∃ r : Nat, z = (r : Int) := ⟨z.toNat, by omega⟩
theorem ok_l_scoop (T : Txt K mg A) (U : Funs K A fd) : FnOk P w K mg base CX0 1 A.l_scoop fd.l_scoop p_l_scoop (spDip) := by
  refine U.F_l_scoop.ok sc_l_scoop (fun vs H Q E h => ?_) (fun cdv A0 outer s H vs Q E hr h => ?_)
  · obtain ⟨b, top, rfl, _⟩ := h
    rfl
  · have hu := hu_of hr
    obtain ⟨b, top, rfl, B, h1, h2, k⟩ := h
    refine ⟨_, (pss_cons (ps_if (pt_cmpR op_gt (pe_ix (w_ixL (K := K)) (pv 0) pe_int (fun _ _ => rfl)) pe_int (nomark _)) (pss_cons (ps_asg (pe_callB call_divmod (by rfl) T.b_divmod (by decide +kernel) (pa_cons (pe_ix (w_ixL (K := K)) (pv 0) pe_int (fun _ _ => rfl)) (pa_cons (pv 1) pa_nil))) (w_tup (K := K) (n := 2) rfl (pgs_cons (pg_sub (pv 0) pe_int set_list) (pgs_cons (pg_name (i := 2) sc_l_scoop.nd rfl (Or.inl rfl)) pgs_nil))))
       (pss_one (ps_ret (pv 2)))) pss_nil)
       (pss_cons (ps_asg (pe_op op_add (pe_ix (w_ixL (K := K)) (pv 0) pe_int (fun _ _ => rfl)) pe_int) (pg_sub (pv 0) pe_int set_list))
       (pss_cons (ps_set (i := 3) sc_l_scoop.nd rfl (Or.inl rfl) (pe_op op_modN (pe_callTy call_int1 (by rfl) T.b_int (by decide +kernel) (pa_cons (pe_op op_add (pe_ix (w_ixL (K := K)) (pv 0) pe_int (fun _ _ => rfl)) (pe_op op_mul pe_int (pe_ix (w_ixL (K := K)) (pv 0) pe_int (fun _ _ => rfl)))) pa_nil)) pe_int))
       (pss_cons (ps_asg (pe_op op_modN (pe_callTy call_int1 (by rfl) T.b_int (by decide +kernel) (pa_cons (pe_op op_add (pe_op op_add (pe_op op_mul (pv 3) (pe_op op_add (pe_op op_modN (pe_callTy call_int1 (by rfl) T.b_int (by decide +kernel) (pa_cons (pv 3) pa_nil)) pe_int) pe_int)) (pe_op op_mul pe_int (pe_ix (w_ixL (K := K)) (pv 0) pe_int (fun _ _ => rfl)))) pe_int) pa_nil)) pe_int) (pg_sub (pv 0) pe_int set_list))
       (pss_one (ps_ret (pe_op op_modN (pe_op op_fdivN (pe_callTy call_int1 (by rfl) T.b_int (by decide +kernel) (pa_cons (pe_ix (w_ixL (K := K)) (pv 0) pe_int (fun _ _ => rfl)) pa_nil)) pe_int) (pv 1)))))))), ?_⟩
    obtain ⟨f, s0, c, hb, hf, hs⟩ := B.ob
    have fin : ∀ (x : Int) (H2 : Hp), Keep b H H2 → BarAt H2 b → Q (.int (x.fmod (top : Int))) H2 := by
      intro x H2 kp B2
      have hr0 := fmod_nn x (m := (top : Int)) (by omega)
      have hr1 := fmod_lt x (m := (top : Int)) (by omega)
      obtain ⟨r, er⟩ := nat_of hr0
      rw [er] at hr1 ⊢
      exact k r H2 (by omega) kp B2
    have fin2 : ∀ (H2 : Hp), Keep b H H2 → BarAt H2 b → Q (.int (f % (top : Int))) H2 := by
      intro H2 kp B2
      have hr0 : 0 ≤ f % (top : Int) := Int.emod_nonneg _ (by omega)
      have hr1 : f % (top : Int) < top := Int.emod_lt_of_pos _ (by omega)
      obtain ⟨r, er⟩ := nat_of hr0
      rw [er] at hr1 ⊢
      exact k r H2 (by omega) kp B2
    refine ⟨_, rfl, b, _, _, _, rfl, rfl, lst_of hb, rfl, _, _, rfl, rfl, _, rfl, ?_⟩
    by_cases cf : 0 < f
    · rw [decide_eq_true cf]
      refine iteT ?_
      refine ⟨_, rfl, b, _, _, _, rfl, rfl, lst_of hb, rfl, _, rfl, _, _, rfl, ⟨by omega, by omega⟩, fun T hT => ?_⟩
      have ne : b ≠ T := ne_of_none hb hT
      refine ⟨T, _, rfl, tup_of upd_same, rfl, _, _, rfl, _, rfl, b, _, _, 0, rfl, rfl, (by rw [upd_ne ne]; exact hb), rfl, _, _, rfl, rfl, ?_⟩
      have hq : 0 ≤ f / (top : Int) := Int.ediv_nonneg (by omega) (by omega)
      exact ⟨_, rfl, fin2 _ (Keep.trans (Keep.of (same_upd hT)) keep_upd) ⟨f / (top : Int), _, c, upd_same, hq, hs⟩⟩
    · rw [decide_eq_false cf]
      refine iteF (g_next ?_)
      refine ⟨_, rfl, b, _, _, _, rfl, rfl, lst_of hb, rfl, _, _, rfl, rfl, _, rfl, b, _, _, 2, rfl, rfl, hb, rfl, ?_⟩
      have b1 : (upd H b (.lst [.int f, .int s0, .int (c + 1)])) b = some (.lst [.int f, .int s0, .int (c + 1)]) := upd_same
      dsimp only
      refine g_seq (g_asg (g_viaP (fun v H2 => H2 = upd H b (.lst [.int f, .int s0, .int (c + 1)]) ∧ ∃ kp : Int, 0 ≤ kp ∧ kp < 2147483269 ∧ v = .int kp) (fun Q' rest => ?_) ?_))
      · refine ⟨_, rfl, b, _, _, _, rfl, rfl, lst_of b1, rfl, _, rfl, b, _, _, _, rfl, rfl, lst_of b1, rfl, _, _, rfl, rfl, .inl ⟨by decide, by decide⟩, _, _, rfl, rfl, .inl ⟨_, rfl, _, _, rfl, rfl, (by show (2147483269 : Int) ≠ 0; decide), ?_⟩⟩
        exact rest _ _ ⟨rfl, _, fmod_nn _ (by decide), fmod_lt _ (by decide), rfl⟩
      · rintro v H2 ⟨rfl, kp, hk0, hk1, rfl⟩
        refine ⟨_, rfl, _, rfl, .inl ⟨_, rfl, _, _, rfl, rfl, (by show (30011 : Int) ≠ 0; decide), _, _, rfl, rfl, _, _, rfl, rfl, .inl ⟨by omega, by omega⟩, _, rfl, b, _, _, _, rfl, rfl, lst_of b1, rfl, _, _, rfl, rfl, .inl ⟨by decide, by decide⟩, _, _, rfl, rfl, _, _, rfl, rfl, .inl ⟨_, rfl, _, _, rfl, rfl, (by show (2147483269 : Int) ≠ 0; decide), ?_⟩⟩⟩
        refine ⟨_, rfl, b, _, _, 1, rfl, rfl, b1, rfl, ?_⟩
        refine ⟨_, rfl, b, _, _, _, rfl, rfl, lst_of upd_same, rfl, .inl ⟨_, rfl, _, _, rfl, rfl, ⟨by decide, by decide⟩, _, rfl, _, _, rfl, rfl, (by show (top : Int) ≠ 0; omega), ?_⟩⟩
        exact fin _ _ (Keep.trans keep_upd keep_upd) ⟨f, _, c + 1, upd_same, hf, fmod_nn _ (by decide)⟩
/-- one of a list -/
def rOne (K : PySem.W.Frag) (b : Addr) (v : V) (H : Hp) (Q : VK) : Prop :=
  (∃ (a : Addr) (xs : List V), v = .ref a ∧ SqL K (del b H) a xs ∧ 0 < xs.length ∧ xs.length ≤ 1000 ∧ ∀ x H', x ∈ xs → Keep b H H' → BarAt H' b → Q x H') ∨
  ∃ n : Nat, v = .str (rowS (List.range n)) ∧ 0 < n ∧ n ≤ 8 ∧ ∀ g H', g < n → Keep b H H' → BarAt H' b → Q (.str (sgn g)) H'
def spOne (K : PySem.W.Frag) : Sp := fun vs H Q _ => ∃ (b : Addr) (v : V), vs = [.ref b, v] ∧ BarAt H b ∧ rOne K b v H Q
theorem range_sign {n g : Nat} (h : g < n) : (rowS (List.range n)).cps.toList[g]? = some (97 + g) := by
  unfold rowS
  simp [h]
theorem ok_l_choose (T : Txt K mg A) (U : Funs K A fd) : FnOk P w K mg base CX0 4 A.l_choose fd.l_choose p_l_choose (spOne K) := by
  have G_l_scoop := ok_l_scoop (P := P) (w := w) (base := base) T U
  have b_l_scoop := U.b_l_scoop
  refine U.F_l_choose.ok sc_l_choose (fun vs H Q E h => ?_) (fun cdv A0 outer s H vs Q E hr h => ?_)
  · obtain ⟨b, v, rfl, _⟩ := h
    rfl
  · have hu := hu_of hr
    obtain ⟨b, v, rfl, B, h⟩ := h
    refine ⟨_, (pss_one (ps_ret (pe_ix ix_seq (pv 1) (pe_call G_l_scoop (hr.mono (by decide)) (by rfl) T.m_l_scoop T.k_l_scoop b_l_scoop .nil pass0 (pa_cons (pv 0) (pa_cons (pe_callB (w_len (K := K)) (by rfl) T.b_len (by decide +kernel) (pa_cons (pv 1) pa_nil)) pa_nil))) (fun _ _ => rfl)))), ?_⟩
    rcases h with ⟨a, xs, rfl, hx, h1, h2, k⟩ | ⟨n, rfl, h1, h2, k⟩
    · refine ⟨_, rfl, _, rfl, _, rfl, _, _, rfl, .inl ⟨_, sqL_mono (del_same b) hx, rfl⟩, b, xs.length, rfl, B, by omega, by omega, fun r H1 hr kp B1 => ?_⟩
      have e : xs[r]? = some xs[r] := List.getElem?_eq_getElem hr
      exact .inl ⟨a, xs, _, _, rfl, rfl, sqL_mono (del_same b) (sqL_mono kp hx), atI_nat e, k _ H1 (List.getElem_mem hr) kp B1⟩
    · refine ⟨_, rfl, _, rfl, _, rfl, _, _, rfl, ⟨szl (by rw [rowS_len]; simp; omega), rfl⟩, b, n, by rw [rowS_len, List.length_range] <;> rfl, B, h1, by omega, fun r H1 hr kp B1 => ?_⟩
      exact .inr (.inr ⟨_, _, _, rfl, rfl, szl (by rw [rowS_len]; simp; omega), atI_nat (range_sign hr), k r H1 hr kp B1⟩)
/-- a new object beside the brook, changed -/
theorem keep_put {b p : Addr} {o : HO} {H H1 : Hp} (k : Keep b H H1) (h : H p = none) : Keep b H (upd H1 p o) := by
  by_cases e : p = b
  · subst e
    exact k.trans keep_upd
  · intro x u hx
    have hxb : x ≠ b := by
      intro z
      rw [z, del_none] at hx
      cases hx
    have z := k x u hx
    rw [del_ne hxb] at hx z ⊢
    rw [upd_ne (ne_of_none hx h)]
    exact z
theorem bar_ne {H : Hp} {b p : Addr} (B : BarAt H b) (h : H p = none) : p ≠ b := by
  obtain ⟨f, s, c, hb, _⟩ := B.ob
  intro z
  rw [z, hb] at h
  cases h
theorem bar_upd {H : Hp} {b p : Addr} {o : HO} (B : BarAt H b) (h : p ≠ b) : BarAt (upd H p o) b := by
  obtain ⟨f, s, c, hb, h1, h2⟩ := B.ob
  exact ⟨f, s, c, by rw [upd_ne (fun z => h z.symm)]; exact hb, h1, h2⟩
theorem bar_same {H H' : Hp} {b : Addr} (B : BarAt H b) (s : Same H H') : BarAt H' b := by
  obtain ⟨f, s0, c, hb, h1, h2⟩ := B.ob
  exact ⟨f, s0, c, s _ _ hb, h1, h2⟩
end K6


set_option Elab.async false
set_option linter.all false
set_option maxRecDepth 100000
set_option maxHeartbeats 4000000
namespace K6
open PySem PySem.Spec PyProof.Rows L2 Rw
variable {P : Program} {w : World} {K : PySem.W.Frag} {mg : Str → Option Value} {base : Heap} {A : Ad} {fd : Fds}
theorem num_snoc (t g : Nat) : ∀ l : List Nat, num t (l ++ [g]) = num t l + 2 ^ l.length * (g / 2 ^ t % 2)
  | [] => by
    show g / 2 ^ t % 2 + 2 * num t [] = num t [] + 2 ^ 0 * (g / 2 ^ t % 2)
    simp [num]
  | k :: r => by
    have ih := num_snoc t g r
    show k / 2 ^ t % 2 + 2 * num t (r ++ [g]) = k / 2 ^ t % 2 + 2 * num t r + 2 ^ (r.length + 1) * (g / 2 ^ t % 2)
    rw [ih, Nat.pow_succ, Nat.mul_add, Nat.mul_comm (2 ^ r.length) 2, Nat.mul_assoc]
    omega
theorem num_take {l : List Nat} {i g : Nat} (t : Nat) (h : l[i]? = some g) : num t (l.take (i + 1)) = num t (l.take i) + 2 ^ i * (g / 2 ^ t % 2) := by
  have hi := lt_of_get h
  rw [List.take_add_one, h]
  show num t (l.take i ++ [g]) = _
  rw [num_snoc, List.length_take, Nat.min_eq_left (by omega)]
theorem worth_at {t : Nat} (h : t < 3) : ([V.int 1, .int 2, .int 4])[t]? = some (.int ((2 ^ t : Nat) : Int)) := by
  match t, h with
  | 0, _ => rfl
  | 1, _ => rfl
  | 2, _ => rfl
theorem pow3 {t : Nat} (h : t < 3) : 1 ≤ 2 ^ t ∧ 2 ^ t ≤ 4 := by
  match t, h with
  | 0, _ => decide
  | 1, _ => decide
  | 2, _ => decide
theorem digit (g p : Nat) : ((g : Int).fdiv ((p : Nat) : Int)).fmod 2 = ((g / p % 2 : Nat) : Int) := by
  rw [Int.fdiv_eq_ediv_of_nonneg _ (by omega), Int.fmod_eq_emod_of_nonneg _ (by decide)]
  push_cast
  rfl
theorem nums_succ (t : Nat) (l : List Nat) : vN (nums (t + 1) l) = vN (nums t l) ++ [.int ((num t l : Nat) : Int)] := by
  unfold vN nums
  rw [List.range_succ, List.map_append, List.map_append]
  rfl
theorem ok_l_figures (T : Txt K mg A) (U : Funs K A fd) : FnOk P w K mg base CX0 1 A.l_figures fd.l_figures p_l_figures (spNumsOf) := by
  refine U.F_l_figures.ok sc_l_figures (fun vs H Q E h => ?_) (fun cdv A0 outer s H vs Q E hr h => ?_)
  · obtain ⟨n, l, rfl, _⟩ := h
    rfl
  · have hu := hu_of hr
    obtain ⟨n, l, rfl, hn, hl, hg, k⟩ := h
    refine ⟨_, (pss_cons (ps_set (i := 2) sc_l_figures.nd rfl (Or.inl rfl) (pe_lst pa_nil))
       (pss_cons (ps_for PassesOwn.never rfl (pi_range1 (by rfl) T.b_range (pa_cons (pv 0) pa_nil)) (pg_name (i := 3) sc_l_figures.nd rfl (Or.inl rfl))
       (pss_cons (ps_asg (pe_tup (pa_cons pe_int (pa_cons pe_int pa_nil))) (w_tup (K := K) (n := 2) rfl (pgs_cons (pg_name (i := 4) sc_l_figures.nd rfl (Or.inl rfl)) (pgs_cons (pg_name (i := 5) sc_l_figures.nd rfl (Or.inl rfl)) pgs_nil))))
       (pss_cons (ps_for PassesOwn.never rfl (pi_str (pv 1)) (pg_name (i := 6) sc_l_figures.nd rfl (Or.inl rfl))
       (pss_cons (ps_set (i := 4) sc_l_figures.nd rfl (Or.inl rfl) (pe_op op_add (pv 4) (pe_op op_mul (pv 5) (pe_op op_modN (pe_op op_fdivN (pe_callTy call_int1 (by rfl) T.b_int (by decide +kernel) (pa_cons (pe_bm PySem.F.plainAttrs_str PySem.F.slot_str_index PySem.F.type_str_index mt_sindex pe_str (pa_cons (pv 6) pa_nil)) pa_nil)) (pe_ix (w_ixL (K := K)) (pe_lst (pa_cons pe_int (pa_cons pe_int (pa_cons pe_int pa_nil)))) (pv 3) (fun _ _ => rfl))) pe_int))))
       (pss_one (ps_set (i := 5) sc_l_figures.nd rfl (Or.inl rfl) (pe_op op_mul pe_int (pv 5))))))
       (pss_one (ps_expr (pe_bm PySem.F.plainAttrs_list PySem.F.slot_list_append PySem.F.type_list_append mt_append (pv 2) (pa_cons (pv 4) pa_nil)))))))
       (pss_one (ps_ret (pe_callTy (w_tuple (K := K)) (by rfl) T.b_tuple (by decide +kernel) (pa_cons (pv 2) pa_nil)))))), ?_⟩
    refine ⟨Nat.zero_le _, fun c hc => ?_⟩
    have s0 := same_upd (o := .lst []) hc
    refine ⟨_, rfl, (n : Int), rfl, by omega, by omega, ?_⟩
    rw [Int.toNat_natCast]
    refine for_range (lo := 0) (n := n) (fun t σ H' => ∃ y3 y4 y5 y6, σ = [some (.int (n : Int)), some (.str (rowS l)), some (.ref c), y3, y4, y5, y6] ∧ Same H H' ∧ H' c = some (.lst (vN (nums t l)))) ?_ ?_ ?_
    · exact ⟨none, none, none, none, rfl, s0, upd_same⟩
    · rintro t σ H1 ht ⟨y3, y4, y5, y6, rfl, s1, h1⟩
      rw [show (0 : Int) + (t : Int) = (t : Int) by omega]
      refine ⟨by show 2 ≤ sizeLine; decide, fun T hT => ⟨T, _, rfl, tup_of upd_same, rfl, _, _, rfl, _, _, rfl, rfl, ?_⟩⟩
      have hcT : c ≠ T := ne_of_none h1 hT
      have s1' := s1.trans (same_upd (o := .tup [.int 0, .int 1]) hT)
      have h1' : (upd H1 T (.tup [.int 0, .int 1])) c = some (.lst (vN (nums t l))) := by rw [upd_ne hcT]; exact h1
      refine ⟨_, rfl, rowS l, rfl, ?_⟩
      refine for_str (z := rowS l) (fun i σ H' => ∃ y6, σ = [some (.int (n : Int)), some (.str (rowS l)), some (.ref c), some (.int (t : Int)), some (.int ((num t (l.take i) : Nat) : Int)), some (.int ((2 ^ i : Nat) : Int)), y6] ∧ Same H H' ∧ H' c = some (.lst (vN (nums t l)))) ?_ ?_ ?_
      · exact ⟨y6, rfl, s1', h1'⟩
      · rintro i ch σ H2 hi ⟨y6, rfl, s2, h2⟩
        obtain ⟨g, hgi, rfl⟩ := rowS_at hi
        obtain ⟨rest, hr⟩ := index_at g (hg g (List.mem_of_getElem? hgi))
        have p3 := pow3 (t := t) (by omega)
        refine ⟨_, rfl, _, rfl, rfl, _, rfl, _, _, g, rest, rfl, rfl, hr, .inl ⟨_, rfl, by show 3 ≤ sizeLine; decide, fun q hq => ⟨_, rfl, q, _, _, _, rfl, rfl, lst_of upd_same, atI_nat (worth_at (by omega)), _, _, rfl, rfl, ⟨by omega, by omega⟩, _, _, rfl, rfl, (by show (2 : Int) ≠ 0; decide), ?_⟩⟩⟩
        dsimp only
        rw [digit]
        have d2 : g / 2 ^ t % 2 < 2 := Nat.mod_lt _ (by decide)
        refine ⟨_, _, rfl, rfl, .inr ⟨by omega, by omega⟩, _, _, rfl, rfl, ?_⟩
        refine ⟨_, rfl, _, _, rfl, rfl, .inl ⟨by decide, by decide⟩, ?_⟩
        have e1 : (((num t (l.take i) : Nat) : Int) + ((2 ^ i : Nat) : Int) * ((g / 2 ^ t % 2 : Nat) : Int)) = ((num t (l.take (i + 1)) : Nat) : Int) := by
          rw [num_take t hgi]
          push_cast
          rfl
        have e2 : (2 * ((2 ^ i : Nat) : Int)) = ((2 ^ (i + 1) : Nat) : Int) := by
          rw [Nat.pow_succ]
          push_cast
          omega
        have nqc : c ≠ q := ne_of_none h2 hq
        refine ⟨some (.str ⟨#[97 + g]⟩), ?_, s2.trans (same_upd hq), by rw [upd_ne nqc]; exact h2⟩
        show ([some (.int (n : Int)), some (.str (rowS l)), some (.ref c), some (.int (t : Int)), some (.int (((num t (l.take i) : Nat) : Int) + ((2 ^ i : Nat) : Int) * ((g / 2 ^ t % 2 : Nat) : Int))), some (.int (2 * ((2 ^ i : Nat) : Int))), some (.str ⟨#[97 + g]⟩)] : L2.St) = _
        rw [e1, e2]
      · rintro σ H2 ⟨y6, rfl, s2, h2⟩
        rw [rowS_size, List.take_length]
        refine ⟨_, rfl, .inl ⟨rfl, _, lst_of h2⟩, _, rfl, c, _, _, rfl, rfl, h2, szt (by rw [vN_len, nums_len]; omega), ?_⟩
        refine ⟨_, _, _, _, rfl, same_put s2 hc, ?_⟩
        rw [upd_same, nums_succ]
    · rintro σ H1 ⟨y3, y4, y5, y6, rfl, s1, h1⟩
      refine ⟨_, rfl, c, _, rfl, .inl ⟨lst_of h1, fun a ha => ?_⟩⟩
      exact k a _ (Same.free s1 ha) (s1.trans (same_upd ha)) upd_same
theorem half (n : Nat) : (n : Int).fdiv 2 = ((n / 2 : Nat) : Int) := by
  rw [Int.fdiv_eq_ediv_of_nonneg _ (by decide)]
  push_cast
  rfl
theorem low (n : Nat) : (n : Int).fmod 2 = ((n % 2 : Nat) : Int) := by
  rw [Int.fmod_eq_emod_of_nonneg _ (by decide)]
  push_cast
  rfl
theorem sum_low (ns : List Nat) : (pre (fun i => [V.int ((ns.getD i 0 % 2 * 2 ^ i : Nat) : Int)]) ns.length) = (((List.range ns.length).map fun i => ns.getD i 0 % 2 * 2 ^ i).map Int.ofNat).map V.int := by
  rw [pre_map]
  simp only [List.map_map]
  rfl
theorem g_opV {r : R2} {v : V} {i : Nat} {tb : TE} {σ : L2.St} {H : Hp} {Q : VK} (e : σ[i]? = some (some v)) (h : tb σ H fun y H2 => r v y H2 Q) : tOp r (tVar i) tb σ H Q := ⟨v, e, h⟩
def spShortL (K : PySem.W.Frag) : Sp := spShort K
theorem ok_l_shortest (T : Txt K mg A) (U : Funs K A fd) : FnOk P w K mg base CX0 1 A.l_shortest fd.l_shortest p_l_shortest (spShort K) := by
  refine U.F_l_shortest.ok sc_l_shortest (fun vs H Q E h => ?_) (fun cdv A0 outer s H vs Q E hr h => ?_)
  · obtain ⟨a, ns, rfl, _⟩ := h
    rfl
  · have hu := hu_of hr
    obtain ⟨a, ns, rfl, hx, h1, h3, hb, k⟩ := h
    refine ⟨_, (pss_cons (ps_asg (pe_tup (pa_cons pe_str (pa_cons (pe_callTy (w_list (K := K)) (by rfl) T.b_list (by decide +kernel) (pa_cons (pv 0) pa_nil)) pa_nil))) (w_tup (K := K) (n := 2) rfl (pgs_cons (pg_name (i := 1) sc_l_shortest.nd rfl (Or.inl rfl)) (pgs_cons (pg_name (i := 2) sc_l_shortest.nd rfl (Or.inr rfl)) pgs_nil))))
       (pss_cons (ps_for PassesOwn.never rfl (pi_range1 (by rfl) T.b_range (pa_cons pe_int pa_nil)) (pg_name (i := 3) sc_l_shortest.nd rfl (Or.inl rfl))
       (pss_one (ps_if (pt_cmpR op_gt (pe_callB (w_maxL (K := K) rfl) (by rfl) T.b_max (by decide +kernel) (pa_cons (pe_op op_cat (pv 2) (pe_lst (pa_cons pe_int pa_nil))) pa_nil)) pe_int (nomark _)) (pss_cons (ps_set (i := 1) sc_l_shortest.nd rfl (Or.inl rfl) (pe_op op_add_str (pv 1) (pe_ix ix_str pe_str (pe_callB (w_sum (K := K) rfl) (by rfl) T.b_sum (by decide +kernel) (pa_cons (pe_lc (own := [("_law_k", 4)]) (g := gName 4) (tt := tYes) (by rfl) sc_l_shortest.nd (pi_range1 (by rfl) T.b_range (pa_cons (pe_callB (w_len (K := K)) (by rfl) T.b_len (by decide +kernel) (pa_cons (pv 2) pa_nil)) pa_nil)) (blkOk_by (own := [("_law_k", 4)]) (by rfl)) (fun _ _ _ _ _ => (pg_name (i := 4) sc_l_shortest.nd rfl (Or.inl rfl))) (fun _ _ _ _ _ => pts_nil) (fun _ _ _ _ _ => (pe_op op_mul (pe_op op_modN (pe_callTy call_int1 (by rfl) T.b_int (by decide +kernel) (pa_cons (pe_ix (w_ixL (K := K)) (pv 2) (pv 4) (fun _ _ => rfl)) pa_nil)) pe_int) (pe_ix (w_ixL (K := K)) (pe_lst (pa_cons pe_int (pa_cons pe_int (pa_cons pe_int pa_nil)))) (pv 4) (fun _ _ => rfl))))) pa_nil)) (fun _ _ => rfl))))
       (pss_one (ps_set (i := 2) sc_l_shortest.nd rfl (Or.inr rfl) (pe_lc (own := [("_law_number", 5)]) (g := gName 5) (tt := tYes) (by rfl) sc_l_shortest.nd (w_piL (K := K) (pv 2)) (blkOk_by (own := [("_law_number", 5)]) (by rfl)) (fun _ _ _ _ _ => (pg_name (i := 5) sc_l_shortest.nd rfl (Or.inl rfl))) (fun _ _ _ _ _ => pts_nil) (fun _ _ _ _ _ => (pe_op op_fdivN (pe_callTy call_int1 (by rfl) T.b_int (by decide +kernel) (pa_cons (pv 5) pa_nil)) pe_int)))))) pss_nil)))
       (pss_one (ps_ret (pv 1))))), ?_⟩
    refine ⟨_, rfl, a, _, rfl, .inr hx, fun p hp => ⟨by show 2 ≤ sizeLine; decide, fun T hT => ?_⟩⟩
    have npT : p ≠ T := ne_of_none upd_same hT
    refine ⟨T, _, rfl, tup_of upd_same, rfl, _, _, rfl, _, _, rfl, rfl, ?_⟩
    refine ⟨200, rfl, by decide, by decide, ?_⟩
    refine for_range (lo := 0) (n := 200) (fun i σ H' => ∃ (p : Addr) (y3 : Option V) (out nn : List Nat), σ = [some (.ref a), some (.str (rowS out)), some (.ref p), y3, none, none] ∧ Same H H' ∧ H' p = some (.lst (vN nn)) ∧
      nn.length = ns.length ∧ out ++ srt (200 - i) nn = srt 200 ns ∧ out.length ≤ i ∧ (∀ n ∈ nn, n < 2 ^ (200 - i))) ?_ ?_ ?_
    · exact ⟨p, none, [], ns, rfl, (same_upd hp).trans (same_upd hT), by rw [upd_ne npT]; exact upd_same, rfl, rfl, Nat.le_refl _, hb⟩
    · rintro i σ H1 hi ⟨p, y3, out, nn, rfl, s1, hp1, hlen, hout, hol, hnb⟩
      refine ⟨_, rfl, by show 1 ≤ sizeLine; decide, fun q hq => ?_⟩
      have npq : p ≠ q := ne_of_none hp1 hq
      refine ⟨p, q, _, _, rfl, rfl, by rw [upd_ne npq]; exact hp1, upd_same, szl (by simp [vN_len]; omega), fun c hc => ?_⟩
      refine ⟨c, (nn ++ [0]).map Int.ofNat, rfl, lst_of (by rw [upd_same, ← vN_ints]; unfold vN; rw [List.map_append]; rfl), by simp, fun m hm1 hm2 => ?_⟩
      have em := mx_of hm1 hm2
      have npc : p ≠ c := ne_of_none (by rw [upd_ne npq]; exact hp1) hc
      have s2 : Same H1 (upd (upd H1 q (.lst [.int 0])) c (.lst (vN nn ++ [.int 0]))) := (same_upd hq).trans (same_upd hc)
      generalize upd (upd H1 q (.lst [.int 0])) c (.lst (vN nn ++ [.int 0])) = H2 at s2
      have hp2 := s2 _ _ hp1
      refine ⟨_, _, rfl, rfl, _, rfl, ?_⟩
      have e200 : 200 - i = (200 - (i + 1)) + 1 := by omega
      by_cases cz : ∀ n ∈ nn, n = 0
      · have m0 : m = 0 := by
          rw [em]
          have : mx (nn ++ [0]) = 0 := mx_zero.mp fun n hn => by
            rcases List.mem_append.mp hn with h | h
            · exact cz n h
            · exact List.mem_singleton.mp h
          rw [this]
          rfl
        rw [decide_eq_false (show ¬ (m > 0) by omega)]
        refine iteF (g_next ?_)
        refine ⟨p, _, out, nn, rfl, s1.trans s2, hp2, hlen, ?_, by omega, fun n hn => ?_⟩
        · rw [srt_zero cz] at hout ⊢
          exact hout
        · rw [cz n hn]
          exact Nat.pow_pos (by decide)
      · have m1 : m > 0 := by
          rw [em]
          have : mx (nn ++ [0]) ≠ 0 := fun z => cz fun n hn => mx_zero.mpr z n (List.mem_append_left _ hn)
          omega
        rw [decide_eq_true m1]
        refine iteT ?_
        refine g_seq (g_asg (g_opV rfl (g_opC (g_cb (cR (n := nn.length) (m := (nn.length : Int)) (fun j => [.int ((nn.getD j 0 % 2 * 2 ^ j : Nat) : Int)]) (by omega) (by omega) (fun R r => ?_) (fun _ => Nat.le_refl 1) (by omega) ?_ (fun j hj => turn_yes fun H3 R s3 r => ?_) (fun E H3 hE s3 h3' => ?_))))))
        · exact ⟨_, rfl, _, _, rfl, .inl ⟨_, lst_of hp2, rfl⟩, by rw [vN_len]; exact r⟩
        · exact fun _ => rfl
        · refine ⟨_, rfl, _, rfl, p, _, _, _, rfl, rfl, lst_of (s3 _ _ hp2), atI_nat (vN_at hj), .inl ⟨_, rfl, _, _, rfl, rfl, (by show (2 : Int) ≠ 0; decide), by show 3 ≤ sizeLine; decide, fun q hq => ⟨_, rfl, q, _, _, _, rfl, rfl, lst_of upd_same, atI_nat (worth_at (by omega)), _, _, rfl, rfl, ?_, ?_⟩⟩⟩
          · have := pow3 (t := j) (by omega)
            exact .inr ⟨by omega, by omega⟩
          · have e : nn.getD j 0 = nn[j] := by simp [List.getD_eq_getElem?_getD, hj]
            rw [e] at r
            have := r _ (same_upd (o := .lst [.int 1, .int 2, .int 4]) hq)
            dsimp only
            rw [low]
            have e2 : ((nn[j] % 2 : Nat) : Int) * ((2 ^ j : Nat) : Int) = ((nn[j] % 2 * 2 ^ j : Nat) : Int) := by push_cast; rfl
            rw [e2]
            exact this
        · rw [sum_low] at h3'
          refine ⟨E, _, rfl, lst_of h3', ?_⟩
          rw [sum_nat]
          have es : ((List.range nn.length).map fun j => nn.getD j 0 % 2 * 2 ^ j).sum = sg nn := rfl
          rw [es]
          have lt8 : sg nn < 8 := by
            have := sg_lt (ns := nn) (by omega)
            have p8 := pow8 (n := nn.length) (by omega)
            omega
          refine ⟨_, _, _, rfl, rfl, szl (by decide +kernel), atI_nat (sign_at _ lt8), _, _, rfl, rfl, szl (by rw [rowS_len]; show out.length + 1 ≤ 100000; omega), ?_⟩
          have hp3 := s3 _ _ hp2
          dsimp only
          refine g_asg (cL (xs := vN nn) (fun j => [.int ((nn.getD j 0 / 2 : Nat) : Int)]) (fun R r => ?_) (lst_of hp3) (fun _ => Nat.le_refl 1) (by rw [vN_len]; omega) ?_ (fun j x hj => turn_yes fun H4 R s4 r => ?_) (fun D H4 hD s4 h4 => ?_))
          · exact ⟨_, rfl, r⟩
          · exact fun _ => rfl
          · obtain ⟨n, hn, rfl⟩ := vN_get hj
            have e : nn.getD j 0 = n := by rw [List.getD_eq_getElem?_getD, hn]; rfl
            rw [e, ← half] at r
            exact ⟨_, rfl, .inl ⟨_, rfl, _, _, rfl, rfl, ⟨by decide, by decide⟩, r H4 (Same.refl _)⟩⟩
          · have e4 : pre (fun j => [V.int ((nn.getD j 0 / 2 : Nat) : Int)]) (vN nn).length = vN (nn.map (· / 2)) := by
              rw [vN_len, pre_map]
              unfold vN
              rw [List.map_map]
              apply List.ext_getElem
              · simp
              · intro x h1 h2
                simp at h1 h2
                simp [h2]
            rw [e4] at h4
            refine ⟨D, some (.int (0 + (i : Int))), out ++ [sg nn], nn.map (· / 2), ?_, s1.trans (s2.trans (s3.trans s4)), h4, by rw [List.length_map]; exact hlen, ?_, by rw [List.length_append]; show out.length + 1 ≤ i + 1; omega, ?_⟩
            · rw [← rowS_snoc]
              rfl
            · rw [e200] at hout
              unfold srt at hout
              rw [if_neg cz] at hout
              rw [List.append_assoc]
              exact hout
            · rw [e200] at hnb
              exact half_lt hnb
    · rintro σ H1 ⟨p, y3, out, nn, rfl, s1, hp1, hlen, hout, hol, hnb⟩
      have e : out = srt 200 ns := by
        rw [← hout, Nat.sub_self]
        show out = out ++ []
        rw [List.append_nil]
      rw [← e] at k
      exact ⟨_, rfl, k H1 s1⟩
end K6


set_option Elab.async false
set_option linter.all false
set_option maxRecDepth 100000
set_option maxHeartbeats 4000000
namespace K6
open PySem PySem.Spec PyProof.Rows L2 Rw
variable {P : Program} {w : World} {K : PySem.W.Frag} {mg : Str → Option Value} {base : Heap} {A : Ad} {fd : Fds}
/-! ### calls by name -/
def gK {α : Type} : List α → List α → List α
  | [], [a, b] => [b, a]
  | _, _ => []
theorem gK_rel {vs : List V} {us : List Value} {zs : List V} {ws : List Value} (r : Vals vs us) (q : Vals zs ws) : Vals (gK vs zs) (gK us ws) := by
  cases r with
  | cons a b => exact .nil
  | nil =>
    cases q with
    | nil => exact .nil
    | cons a b =>
      cases b with
      | nil => exact .nil
      | cons c d =>
        cases d with
        | nil => exact .cons c (.cons a .nil)
        | cons e f => exact .nil
theorem gK_two {us ws : List Value} (h : (gK us ws).length = 2) : ∃ a b, us = [] ∧ ws = [a, b] := by
  cases us with
  | cons a b => simp [gK] at h
  | nil =>
    match ws, h with
    | [a, b], _ => exact ⟨a, b, rfl, rfl⟩
    | [], h => simp [gK] at h
    | [_], h => simp [gK] at h
    | _ :: _ :: _ :: _, h => simp [gK] at h
theorem kb_numbers_by_0_row_tracks_of {f : Addr} {fd : FuncData} (F : Fun K "numbers_by" "numbers_by" s_numbers_by f fd) : KBinds K fd p_numbers_by ["row", "tracks"] gK gK := by
  obtain ⟨oc, od, kV, doc, pm, an, cdv, ct, osl, rfl, lk, hcd⟩ := F.ex
  refine ⟨fun s us ws _ hl => ?_, gK_rel⟩
  obtain ⟨a, b, rfl, rfl⟩ := gK_two hl
  exact .of_eq rfl
def gI {α : Type} : List α → List α → List α
  | [], [a] => [a]
  | _, _ => []
theorem gI_rel {vs : List V} {us : List Value} {zs : List V} {ws : List Value} (r : Vals vs us) (q : Vals zs ws) : Vals (gI vs zs) (gI us ws) := by
  cases r with
  | cons a b => exact .nil
  | nil =>
    cases q with
    | nil => exact .nil
    | cons a b =>
      cases b with
      | nil => exact .cons a .nil
      | cons c d => exact .nil
theorem gI_one {us ws : List Value} (h : (gI us ws).length = 1) : ∃ a, us = [] ∧ ws = [a] := by
  cases us with
  | cons a b => simp [gI] at h
  | nil =>
    match ws, h with
    | [a], _ => exact ⟨a, rfl, rfl⟩
    | [], h => simp [gI] at h
    | _ :: _ :: _, h => simp [gI] at h
theorem kb_row_for_0_numbers_of {f : Addr} {fd : FuncData} (F : Fun K "row_for" "row_for" s_row_for f fd) : KBinds K fd p_row_for ["numbers"] gI gI := by
  obtain ⟨oc, od, kV, doc, pm, an, cdv, ct, osl, rfl, lk, hcd⟩ := F.ex
  refine ⟨fun s us ws _ hl => ?_, gI_rel⟩
  obtain ⟨a, rfl, rfl⟩ := gI_one hl
  exact .of_eq rfl
/-! ### data -/
def dN (ns : List Nat) : PyData := .tuple (ns.map fun (k : Nat) => .int (k : Int))
theorem dN_shaped {ns : List Nat} (h : ns.length ≤ 3) : SeqAt.shaped (dN ns) = true := by
  rcases three h with rfl | ⟨a, rfl⟩ | ⟨a, b, rfl⟩ | ⟨a, b, c, rfl⟩ <;> rfl
theorem eqv_same {d : PyData} (h : SeqAt.shaped d = true) : PyData.eqv d d = true := SeqAt.eqv_refl d (SeqAt.canLay_of_shaped h)
theorem dps_nat {H : Hp} (ns : List Nat) : DpAll K H (vN ns) (ns.map fun (k : Nat) => PyData.int (k : Int)) := by
  have := ints_dps (K := K) (H := H) (ns.map Int.ofNat)
  rw [List.map_map, List.map_map] at this
  exact this
theorem dp_tupN {H : Hp} {a : Addr} {ns : List Nat} (h : H a = some (.tup (vN ns))) : Dp K H (.ref a) (dN ns) := .tup (tup_of h) (dps_nat ns)
/-- == of equal tuples -/
theorem eq_ok {H : Hp} {a b : Addr} {ns : List Nat} {Q : VK} (h3 : ns.length ≤ 3) (ha : H a = some (.tup (vN ns))) (hb : H b = some (.tup (vN ns))) (q : Q (.bl true) H) : rEqD K (.ref a) (.ref b) H Q :=
  ⟨dN ns, dN ns, dp_tupN ha, dp_tupN hb, dN_shaped h3, dN_shaped h3, by rw [eqv_same (dN_shaped h3)]; exact q⟩
theorem ne_ok {H : Hp} {a b : Addr} {ns : List Nat} {Q : VK} (h3 : ns.length ≤ 3) (ha : H a = some (.tup (vN ns))) (hb : H b = some (.tup (vN ns))) (q : Q (.bl false) H) : rNeD K (.ref a) (.ref b) H Q :=
  ⟨dN ns, dN ns, dp_tupN ha, dp_tupN hb, dN_shaped h3, dN_shaped h3, by rw [eqv_same (dN_shaped h3)]; exact q⟩
theorem width_at {r : Nat} (h : r < 3) : ([V.int 2, .int 4, .int 8])[r]? = some (.int ((2 ^ (r + 1) : Nat) : Int)) := by
  match r, h with
  | 0, _ => rfl
  | 1, _ => rfl
  | 2, _ => rfl
theorem Keep.same_get {b x : Addr} {o : HO} {H H' : Hp} (s : Same H H') (e : H x = some o) : H' x = some o := s x o e
theorem num_small {w : Nat} {l : List Nat} (h : l.length ≤ 130) : ∀ n ∈ nums w l, n < big := by
  intro n hn
  obtain ⟨t, _, rfl⟩ := List.mem_map.mp hn
  refine Nat.lt_of_lt_of_le (num_lt t l) (Nat.le_trans (Nat.pow_le_pow_right (by decide) h) ?_)
  unfold big
  decide
/-- over a tuple that a call has handed back -/
theorem lT {H : Hp} {σ : L2.St} {tt : TT} {te : TE} {vs : List Nat} {j : Nat} {Qd : Addr → Hp → Prop} {a : Addr} {xs : List V} (st : Nat → List V) (hx : SqT K H a xs) (hst : ∀ i, (st i).length ≤ 1) (hn : xs.length < 100000)
    (hw : ∀ x, wipe ((wipe σ vs).set j (some x)) vs = wipe σ vs) (turn : ∀ i x, xs[i]? = some x → Turn1 tt te ((wipe σ vs).set j (some x)) H (st i))
    (fin : ∀ D H1, H D = none → Same H H1 → H1 D = some (.lst (pre st xs.length)) → Qd D H1) :
    ∀ D, H D = none → ∃ W : Nat → Nat → Hp → Prop, (∃ m, W 0 m (upd H D (.lst []))) ∧ ∀ i m H, W i m H →
      ((Itt K a).stop i H ∧ Qd D H) ∨ ((Itt K a).go i H ∧ ∃ Nx : Hp → Prop, (∀ H', Nx H' → ∃ m', m' < m ∧ W (i + 1) m' H') ∧ ∀ x H', (Itt K a).yld i H x H' → gName j x (wipe σ vs) H' fun σ2 H2 => wipe σ2 vs = wipe σ vs ∧ tt σ2 H2 fun b H3 =>
        if b = true then te σ2 H3 fun y H4 => ∃ acc, H4 D = some (.lst acc) ∧ acc.length < sizeLine ∧ Nx (upd H4 D (.lst (acc ++ [y]))) else Nx H3) := by
  refine lcG (Q := fun v H => match v with | .ref D => Qd D H | _ => False) (Itt K a) xs.length (fun i => xs.getD i .non) st hst hn (fun i H1 hi s => ?_) (fun H1 s => ?_) (fun i H1 x H' hi s hy => ?_) hw (fun i hi => ?_) fin
  · exact ⟨xs, xs[i], sqT_mono s hx, by simp [hi]⟩
  · exact ⟨xs, sqT_mono s hx, Nat.le_refl _⟩
  · obtain ⟨e, y⟩ := hy
    exact ⟨e, (getD_of (y xs (sqT_mono s hx))).symm⟩
  · have h : xs[i]? = some (xs.getD i .non) := by
      rw [List.getElem?_eq_getElem hi, List.getD_eq_getElem?_getD, List.getElem?_eq_getElem hi]
      rfl
    exact turn i _ h
def spRowRight : Sp := fun vs H Q _ => ∃ b : Addr, vs = [.ref b] ∧ BarAt H b ∧ ∀ H', Keep b H H' → BarAt H' b → Q (.bl true) H'
theorem ok_l_row_right (T : Txt K mg A) (U : Funs K A fd) : FnOk P w K mg base CX0 13 A.l_row_right fd.l_row_right p_l_row_right (spRowRight) := by
  have G_numbers_by := ok_numbers_by (P := P) (w := w) (base := base) T U
  have b_numbers_by := U.b_numbers_by
  have G_row_for := ok_row_for (P := P) (w := w) (base := base) T U
  have b_row_for := U.b_row_for
  have G_l_figures := ok_l_figures (P := P) (w := w) (base := base) T U
  have b_l_figures := U.b_l_figures
  have G_l_choose := ok_l_choose (P := P) (w := w) (base := base) T U
  have b_l_choose := U.b_l_choose
  have G_l_scoop := ok_l_scoop (P := P) (w := w) (base := base) T U
  have b_l_scoop := U.b_l_scoop
  have kb_numbers_by_0_row_tracks := kb_numbers_by_0_row_tracks_of (U.F_numbers_by)
  refine U.F_l_row_right.ok sc_l_row_right (fun vs H Q E h => ?_) (fun cdv A0 outer s H vs Q E hr h => ?_)
  · obtain ⟨b, rfl, _⟩ := h
    rfl
  · have hu := hu_of hr
    obtain ⟨b, rfl, B, k⟩ := h
    refine ⟨_, (pss_cons (ps_set (i := 1) sc_l_row_right.nd rfl (Or.inl rfl) (pe_op op_add pe_int (pe_call G_l_scoop (hr.mono (by decide)) (by rfl) T.m_l_scoop T.k_l_scoop b_l_scoop .nil pass0 (pa_cons (pv 0) (pa_cons pe_int pa_nil)))))
       (pss_cons (ps_asg (pe_tup (pa_cons (pe_slice sl_str pe_str po_none (po_some (pe_ix (w_ixL (K := K)) (pe_lst (pa_cons pe_int (pa_cons pe_int (pa_cons pe_int pa_nil)))) (pe_op op_sub (pv 1) pe_int) (fun _ _ => rfl)))) (pa_cons (pe_call G_l_choose (hr.mono (by decide)) (by rfl) T.m_l_choose T.k_l_choose b_l_choose .nil pass0 (pa_cons (pv 0) (pa_cons (pe_lst (pa_cons pe_int (pa_cons pe_int (pa_cons pe_int (pa_cons pe_int (pa_cons pe_int (pa_cons pe_int (pa_cons pe_int pa_nil)))))))) pa_nil))) pa_nil))) (w_tup (K := K) (n := 2) rfl (pgs_cons (pg_name (i := 2) sc_l_row_right.nd rfl (Or.inr rfl)) (pgs_cons (pg_name (i := 3) sc_l_row_right.nd rfl (Or.inl rfl)) pgs_nil))))
       (pss_cons (ps_set (i := 4) sc_l_row_right.nd rfl (Or.inl rfl) (pe_op op_add_str (pe_join pe_str (pe_lc (own := [("_law_k", 6)]) (g := gName 6) (tt := tYes) (by rfl) sc_l_row_right.nd (pi_range1 (by rfl) T.b_range (pa_cons (pv 3) pa_nil)) (blkOk_by (own := [("_law_k", 6)]) (by rfl)) (fun _ _ _ _ _ => (pg_name (i := 6) sc_l_row_right.nd rfl (Or.inl rfl))) (fun _ _ _ _ _ => pts_nil) (fun _ _ _ _ _ => (pe_call G_l_choose (hr.mono (by decide)) (by rfl) T.m_l_choose T.k_l_choose b_l_choose .nil pass0 (pa_cons (pv 0) (pa_cons (pv 2) pa_nil)))))) (pe_op op_repS pe_str (pe_call G_l_choose (hr.mono (by decide)) (by rfl) T.m_l_choose T.k_l_choose b_l_choose .nil pass0 (pa_cons (pv 0) (pa_cons (pe_lst (pa_cons pe_int (pa_cons pe_int (pa_cons pe_int (pa_cons pe_int pa_nil))))) pa_nil))))))
       (pss_cons (ps_set (i := 5) sc_l_row_right.nd rfl (Or.inl rfl) (pe_call G_l_figures (hr.mono (by decide)) (by rfl) T.m_l_figures T.k_l_figures b_l_figures .nil pass0 (pa_cons (pv 1) (pa_cons (pv 4) pa_nil))))
       (pss_cons (ps_if (PW.pt (pw_or (pt_cmpR (w_neD (K := K) hr.units) (pe_call G_numbers_by (hr.mono (by decide)) (by rfl) T.m_numbers_by T.k_numbers_by b_numbers_by .nil pass0 (pa_cons (pv 1) (pa_cons (pv 4) pa_nil))) (pv 5) (nomark _)) (pw_or1 (pt_cmpR (w_neD (K := K) hr.units) (pe_callK0 G_numbers_by (hr.mono (by decide)) (by rfl) T.m_numbers_by T.k_numbers_by kb_numbers_by_0_row_tracks pass0 (pk_cons (pv 4) (pk_cons (pv 1) pk_nil))) (pv 5) (nomark _))))) (pss_one (ps_ret pe_bl)) pss_nil)
       (pss_cons (ps_if (PW.pt (pw_or (pt_cmpR op_ne (pe_call G_row_for (hr.mono (by decide)) (by rfl) T.m_row_for T.k_row_for b_row_for .nil pass0 (pa_cons (pv 5) pa_nil)) (pe_bm PySem.F.plainAttrs_str PySem.F.slot_str_rstrip PySem.F.type_str_rstrip mt_rstripChars (pv 4) (pa_cons pe_str pa_nil)) (nomark _)) (pw_or1 (pt_cmpR (w_neD (K := K) hr.units) (pe_call G_numbers_by (hr.mono (by decide)) (by rfl) T.m_numbers_by T.k_numbers_by b_numbers_by .nil pass0 (pa_cons (pv 1) (pa_cons (pe_op op_add_str (pe_bm PySem.F.plainAttrs_str PySem.F.slot_str_rstrip PySem.F.type_str_rstrip mt_rstripChars (pv 4) (pa_cons pe_str pa_nil)) pe_str) pa_nil))) (pv 5) (nomark _))))) (pss_one (ps_ret pe_bl)) pss_nil)
       (pss_one (ps_ret (pe_cmpR (w_eqD (K := K) hr.units) (pe_lc (own := [("_law_number", 7)]) (g := gName 7) (by rfl) sc_l_row_right.nd (w_piT (K := K) (pe_call G_numbers_by (hr.mono (by decide)) (by rfl) T.m_numbers_by T.k_numbers_by b_numbers_by .nil pass0 (pa_cons (pv 1) (pa_cons (pv 4) pa_nil)))) (blkOk_by (own := [("_law_number", 7)]) (by rfl)) (fun _ _ _ _ _ => (pg_name (i := 7) sc_l_row_right.nd rfl (Or.inl rfl))) (fun _ _ _ _ _ => (pts_one (pt_not (pt_val (pe_callB (w_isi (K := K)) (by rfl) T.b_isinstance (by decide +kernel) (pa_cons (pv 7) (pa_cons (pe_bltn (v := .ty "int") (u := .type "int") (by rfl) T.b_int (by decide +kernel) rfl) pa_nil))))))) (fun _ _ _ _ _ => (pv 7))) (pe_lst pa_nil) (nomark _)))))))))), ?_⟩
    refine ⟨_, rfl, b, 3, rfl, B, by decide, by decide, fun r H1 hr k1 B1 => ⟨_, _, rfl, rfl, ?_⟩⟩
    have el : (1 : Int) + (r : Int) = ((r + 1 : Nat) : Int) := by omega
    dsimp only
    rw [el]
    generalize hw : r + 1 = n
    have p8 : 2 ^ n ≤ 8 := pow8 (by omega)
    have p1 : 1 ≤ 2 ^ n := Nat.pow_pos (by decide)
    -- signs, size
    refine ⟨by show 3 ≤ sizeLine; decide, fun q hq => ⟨_, rfl, _, _, rfl, rfl, q, [.int 2, .int 4, .int 8], _, .int ((2 ^ n : Nat) : Int), rfl, rfl, lst_of upd_same, ?_, _, rfl, _, rfl, szl (by decide +kernel), ?_⟩⟩
    · rw [show ((n : Nat) : Int) - 1 = ((r : Nat) : Int) by omega, ← hw]
      exact atI_nat (width_at hr)
    rw [cut_at _ p8]
    have nq : q ≠ b := bar_ne B1 hq
    have B2 := bar_upd (o := .lst [.int 2, .int 4, .int 8]) B1 nq
    have k2 : Keep b H (upd H1 q (.lst [.int 2, .int 4, .int 8])) := k1.trans (Keep.of (same_upd hq))
    refine ⟨_, rfl, by show 7 ≤ sizeLine; decide, fun q2 hq2 => ?_⟩
    have nq2 : q2 ≠ b := bar_ne B2 hq2
    have B3 := bar_upd (o := .lst [.int 0, .int 1, .int 2, .int 3, .int 6, .int 40, .int 130]) B2 nq2
    have k3 := k2.trans (Keep.of (same_upd (o := .lst [.int 0, .int 1, .int 2, .int 3, .int 6, .int 40, .int 130]) hq2))
    refine ⟨b, _, rfl, B3, .inl ⟨q2, [.int 0, .int 1, .int 2, .int 3, .int 6, .int 40, .int 130], rfl, lst_of (by rw [del_ne nq2]; exact upd_same), by decide, by decide, fun x H4 hx k4 B4 => ?_⟩⟩
    obtain ⟨size, hsz, rfl⟩ : ∃ m : Nat, m ≤ 130 ∧ x = .int (m : Int) := by
      simp at hx
      rcases hx with rfl | rfl | rfl | rfl | rfl | rfl | rfl
      · exact ⟨0, by decide, rfl⟩
      · exact ⟨1, by decide, rfl⟩
      · exact ⟨2, by decide, rfl⟩
      · exact ⟨3, by decide, rfl⟩
      · exact ⟨6, by decide, rfl⟩
      · exact ⟨40, by decide, rfl⟩
      · exact ⟨130, by decide, rfl⟩
    refine ⟨by show 2 ≤ sizeLine; decide, fun T hT => ⟨T, _, rfl, tup_of upd_same, rfl, _, _, rfl, _, _, rfl, rfl, ?_⟩⟩
    have nT : T ≠ b := bar_ne B4 hT
    have B5 := bar_upd (o := .tup [.str (rowS (List.range (2 ^ n))), .int (size : Int)]) B4 nT
    have k5 : Keep b H _ := (k3.trans k4).trans (Keep.of (same_upd (o := .tup [.str (rowS (List.range (2 ^ n))), .int (size : Int)]) hT))
    generalize upd H4 T (.tup [.str (rowS (List.range (2 ^ n))), .int (size : Int)]) = H5 at B5 k5
    -- the row
    refine ⟨⟨_, rfl⟩, _, rfl, (size : Int), rfl, by omega, by omega, fun D hD => ?_⟩
    rw [Int.toNat_natCast]
    have neD : D ≠ b := bar_ne B5 hD
    refine lc_range (lo := 0) (n := size) (fun j H' => Keep b H5 H' ∧ BarAt H' b ∧ ∃ l : List Nat, H' D = some (.lst ((l.map sgn).map V.str)) ∧ l.length = j ∧ ∀ g ∈ l, g < 2 ^ n) ?_ ?_ ?_
    · exact ⟨Keep.of (same_upd hD), bar_upd B5 neD, [], upd_same, rfl, fun g h => by simp at h⟩
    · rintro j H6 hj ⟨k6, B6, l, hl6, hlen, hlt⟩
      refine ⟨rfl, yes_go ?_⟩
      refine ⟨_, rfl, _, rfl, b, _, rfl, B6, .inr ⟨2 ^ n, rfl, by omega, p8, fun g H7 hg k7 B7 => ?_⟩⟩
      have hl7 := k7.get neD hl6
      refine ⟨_, hl7, szt (by simp; omega), keep_put (k6.trans k7) hD, bar_upd B7 neD, l ++ [g], ?_, by rw [List.length_append, hlen]; rfl, fun x hx => ?_⟩
      · rw [upd_same, List.map_append, List.map_append]
        rfl
      · rcases List.mem_append.mp hx with h | h
        · exact hlt x h
        · rw [List.mem_singleton.mp h]
          exact hg
    · rintro H6 ⟨k6, B6, l, hl6, hlen, hlt⟩
      refine ⟨_, D, l.map sgn, rfl, rfl, .inl (lst_of hl6), ?_, ?_⟩
      · have : ∀ l : List Nat, ((l.map sgn).map (·.length)).sum = l.length := by
          intro l
          induction l with
          | nil => rfl
          | cons a l ih => rw [List.map_cons, List.map_cons, List.sum_cons, ih, List.length_cons]; show 1 + _ = _; omega
        rw [this]
        show _ + _ * 0 ≤ _
        omega
      rw [join_signs]
      refine ⟨_, rfl, by show 4 ≤ sizeLine; decide, fun q3 hq3 => ?_⟩
      have nq3 : q3 ≠ b := bar_ne B6 hq3
      have B7 := bar_upd (o := .lst [.int 0, .int 0, .int 1, .int 60]) B6 nq3
      have k7 := (k5.trans k6).trans (Keep.of (same_upd (o := .lst [.int 0, .int 0, .int 1, .int 60]) hq3))
      refine ⟨b, _, rfl, B7, .inl ⟨q3, [.int 0, .int 0, .int 1, .int 60], rfl, lst_of (by rw [del_ne nq3]; exact upd_same), by decide, by decide, fun x H8 hx k8 B8 => ?_⟩⟩
      obtain ⟨z, hz, rfl⟩ : ∃ m : Nat, m ≤ 60 ∧ x = .int (m : Int) := by
        simp at hx
        rcases hx with rfl | rfl | rfl
        · exact ⟨0, by decide, rfl⟩
        · exact ⟨1, by decide, rfl⟩
        · exact ⟨60, by decide, rfl⟩
      refine ⟨_, z, rfl, rfl, by omega, by decide, ?_⟩
      rw [mul_a]
      refine ⟨_, _, rfl, rfl, szl (by rw [rowS_len, rowS_len]; simp; omega), ?_⟩
      rw [rowS_app]
      have kA : Keep b H H8 := k7.trans k8
      generalize hrow : l ++ List.replicate z 0 = row
      have rlen : row.length ≤ 190 := by rw [← hrow]; simp; omega
      have rlt : ∀ g ∈ row, g < 2 ^ n := by
        intro g hg
        rw [← hrow] at hg
        rcases List.mem_append.mp hg with h | h
        · exact hlt g h
        · rw [(List.mem_replicate.mp h).2]
          omega
      have enum : nums n row = nums n l := by rw [← hrow, nums_app]
      have rsmall : ∀ m ∈ nums n row, m < big := by rw [enum]; exact num_small (by omega)
      have n3 : n ≤ 3 := by omega
      have n1 : 1 ≤ n := by omega
      have nl : (nums n row).length ≤ 3 := by rw [nums_len]; exact n3
      -- told
      refine ⟨_, rfl, _, rfl, n, row, rfl, n3, by omega, fun g hg => by have := rlt g hg; omega, fun t H9 ht s9 h9 => ?_⟩
      -- numbers_by, both ways
      refine ⟨_, rfl, _, rfl, n, row, rfl, n1, n3, by omega, rlt, fun t1 H10 ht1 s10 h10 => ?_⟩
      have h9' := s10 _ _ h9
      refine ⟨_, rfl, ne_ok nl h10 h9' ⟨_, rfl, iteF ?_⟩⟩
      refine ⟨_, rfl, _, rfl, n, row, rfl, n1, n3, by omega, rlt, fun t2 H11 ht2 s11 h11 => ?_⟩
      have h9'' := s11 _ _ h9'
      refine ⟨_, rfl, ne_ok nl h11 h9'' ⟨_, rfl, iteF (g_next ?_)⟩⟩
      -- row_for
      refine ⟨_, rfl, t, nums n row, rfl, tup_of h9'', by rw [nums_len]; exact n1, nl, rsmall, fun H12 s12 => ?_⟩
      rw [srt_nums n3 200 row rlt (by omega)]
      refine ⟨_, rfl, rfl, _, _, rfl, rfl, szl (by rw [rowS_len]; omega), ?_⟩
      rw [rstrip_row]
      refine ⟨rfl, _, rfl, ?_⟩
      rw [decide_eq_true rfl]
      refine iteF ?_
      have slen := strip_len row
      refine ⟨_, rfl, _, rfl, rfl, _, _, rfl, rfl, szl (by rw [rowS_len]; omega), ?_⟩
      rw [rstrip_row]
      refine ⟨_, _, rfl, rfl, szl (by rw [rowS_len]; show _ + 3 ≤ 100000; omega), ?_⟩
      rw [show (rowS (strip row) ++ ("aaa" : Str) : Str) = rowS (strip row ++ List.replicate 3 0) from by rw [← rowS_app]; rfl]
      refine ⟨n, _, rfl, n1, n3, by simp; omega, fun g hg => ?_, fun t3 H13 ht3 s13 h13 => ?_⟩
      · rcases List.mem_append.mp hg with h | h
        · exact rlt g (strip_mem h)
        · rw [(List.mem_replicate.mp h).2]
          omega
      rw [nums_app, nums_strip] at h13
      have h9c := s13 _ _ (s12 _ _ h9'')
      refine ⟨_, rfl, ne_ok nl h13 h9c ⟨_, rfl, iteF (g_next ?_)⟩⟩
      refine ⟨_, rfl, _, rfl, n, row, rfl, n1, n3, by omega, rlt, fun t4 H14 ht4 s14 h14 => ⟨t4, rfl, ⟨_, tup_of h14⟩, ?_⟩⟩
      refine lT (xs := vN (nums n row)) (fun _ => []) (tup_of h14) (fun _ => Nat.zero_le _) (by rw [vN_len]; omega) ?_ (fun i x hi H15 R N s15 ry rn => ?_) (fun D2 H15 hD2 s15 h15 => ?_)
      · exact fun _ => rfl
      · obtain ⟨m, hm, rfl⟩ := vN_get hi
        refine ⟨_, rfl, .int _, .ty "int", .type "int", .type "int", true, rfl, .ty _, .base (.int _), kit_ty (by decide +kernel), true, rfl, ?_⟩
        exact iteF (rn H15 rfl (Same.refl _))
      · have e0 : pre (fun _ => ([] : List V)) (vN (nums n row)).length = [] := by
          unfold pre
          induction List.range (vN (nums n row)).length with
          | nil => rfl
          | cons a l ih => rw [List.flatMap_cons, ih]; rfl
        rw [e0] at h15
        refine ⟨Nat.zero_le _, fun e he => ⟨.list [], .list [], .lst (lst_of (same_upd he _ _ h15)) .nil, .lst (lst_of upd_same) .nil, rfl, rfl, ?_⟩⟩
        have sZ := s9.trans (s10.trans (s11.trans (s12.trans (s13.trans (s14.trans (s15.trans (same_upd (o := .lst []) he)))))))
        exact k _ (kA.trans (Keep.of sZ)) (bar_same B8 sZ)
def spNumRight : Sp := spRowRight
theorem big_pow : ((10 : Int) ^ (40 : Int).toNat - 1) = ((big - 1 : Nat) : Int) := by decide
theorem srt_signs {ns : List Nat} (h3 : ns.length ≤ 3) : ∀ g ∈ srt 200 ns, g < 8 := fun g hg => Nat.lt_of_lt_of_le (srt_lt 200 ns h3 g hg) (pow8 h3)
theorem sub_len {n : Nat} (h : n ≤ 200) : V.int (200 - (n : Int)) = V.int ((200 - n : Nat) : Int) := by
  rw [show (200 : Int) - (n : Int) = ((200 - n : Nat) : Int) by omega]
theorem last_sign {l : List Nat} (h : l.getLast? ≠ some 0) : decide (V.str (cutS (rowS l) (some (-1)) none) = V.str ("a" : Str)) = false := by
  refine decide_eq_false fun e => h ?_
  injection e with e
  unfold cutS at e
  rw [rowS_len] at e
  have e1 := congrArg Str.cps e
  have e2 := congrArg Array.toList e1
  rw [List.toList_toArray] at e2
  have ea : (("a" : Str)).cps.toList = [97] := rfl
  rw [ea] at e2
  unfold rowS at e2
  rw [List.toList_toArray] at e2
  have h1 : HT.sIx l.length 0 (some (-1)) = l.length - 1 := by
    show (if (-1 : Int) < 0 then (-1 + (l.length : Int)).toNat else min (-1 : Int).toNat l.length) = l.length - 1
    rw [if_pos (by decide)]
    omega
  have h2 : HT.sIx l.length l.length none = l.length := rfl
  rw [h1, h2] at e2
  cases hl : l.reverse with
  | nil =>
    have : l = [] := List.reverse_eq_nil_iff.mp hl
    subst this
    simp at e2
  | cons x r =>
    have el : l = r.reverse ++ [x] := by
      have := congrArg List.reverse hl
      rw [List.reverse_reverse, List.reverse_cons] at this
      exact this
    subst el
    rw [List.length_append, List.map_append] at e2
    have e3 : (r.reverse.length + [x].length - 1) = (r.reverse.map (97 + ·)).length := by simp
    rw [e3, List.drop_left] at e2
    simp at e2
    rw [List.getLast?_append]
    simp
    omega
theorem ok_l_numbers_right (T : Txt K mg A) (U : Funs K A fd) : FnOk P w K mg base CX0 13 A.l_numbers_right fd.l_numbers_right p_l_numbers_right (spNumRight) := by
  have G_numbers_by := ok_numbers_by (P := P) (w := w) (base := base) T U
  have b_numbers_by := U.b_numbers_by
  have G_row_for := ok_row_for (P := P) (w := w) (base := base) T U
  have b_row_for := U.b_row_for
  have G_l_shortest := ok_l_shortest (P := P) (w := w) (base := base) T U
  have b_l_shortest := U.b_l_shortest
  have G_l_choose := ok_l_choose (P := P) (w := w) (base := base) T U
  have b_l_choose := U.b_l_choose
  have G_l_scoop := ok_l_scoop (P := P) (w := w) (base := base) T U
  have b_l_scoop := U.b_l_scoop
  have kb_row_for_0_numbers := kb_row_for_0_numbers_of (U.F_row_for)
  refine U.F_l_numbers_right.ok sc_l_numbers_right (fun vs H Q E h => ?_) (fun cdv A0 outer s H vs Q E hr h => ?_)
  · obtain ⟨b, rfl, _⟩ := h
    rfl
  · have hu := hu_of hr
    obtain ⟨b, rfl, B, k⟩ := h
    refine ⟨_, (pss_cons (ps_par (i := 1) (j := 2) (by rfl) sc_l_numbers_right.nd rfl rfl (by decide) rfl rfl (pa_cons (pe_op op_add pe_int (pe_call G_l_scoop (hr.mono (by decide)) (by rfl) T.m_l_scoop T.k_l_scoop b_l_scoop .nil pass0 (pa_cons (pv 0) (pa_cons pe_int pa_nil)))) (pa_cons (pe_lst pa_nil) pa_nil)) (by rfl))
       (pss_cons (ps_for PassesOwn.never rfl (pi_range1 (by rfl) T.b_range (pa_cons (pv 1) pa_nil)) (pg_name (i := 3) sc_l_numbers_right.nd rfl (Or.inl rfl))
       (pss_cons (ps_set (i := 4) sc_l_numbers_right.nd rfl (Or.inl rfl) (pe_lst (pa_cons (pe_call G_l_scoop (hr.mono (by decide)) (by rfl) T.m_l_scoop T.k_l_scoop b_l_scoop .nil pass0 (pa_cons (pv 0) (pa_cons pe_int pa_nil))) (pa_cons (pe_call G_l_scoop (hr.mono (by decide)) (by rfl) T.m_l_scoop T.k_l_scoop b_l_scoop .nil pass0 (pa_cons (pv 0) (pa_cons pe_int pa_nil))) (pa_cons (pe_op op_sub (pe_op op_sub (pe_op op_pow pe_int pe_int) pe_int) (pe_call G_l_scoop (hr.mono (by decide)) (by rfl) T.m_l_scoop T.k_l_scoop b_l_scoop .nil pass0 (pa_cons (pv 0) (pa_cons pe_int pa_nil)))) (pa_cons (pe_op op_pow pe_int pe_int) pa_nil))))))
       (pss_one (ps_expr (pe_bm PySem.F.plainAttrs_list PySem.F.slot_list_append PySem.F.type_list_append mt_append (pv 2) (pa_cons (pe_call G_l_choose (hr.mono (by decide)) (by rfl) T.m_l_choose T.k_l_choose b_l_choose .nil pass0 (pa_cons (pv 0) (pa_cons (pv 4) pa_nil))) pa_nil))))))
       (pss_cons (ps_set (i := 5) sc_l_numbers_right.nd rfl (Or.inl rfl) (pe_callTy (w_tuple (K := K)) (by rfl) T.b_tuple (by decide +kernel) (pa_cons (pv 2) pa_nil)))
       (pss_cons (ps_set (i := 6) sc_l_numbers_right.nd rfl (Or.inl rfl) (pe_call G_row_for (hr.mono (by decide)) (by rfl) T.m_row_for T.k_row_for b_row_for .nil pass0 (pa_cons (pv 5) pa_nil)))
       (pss_cons (ps_if (PW.pt (pw_or (pt_cmpR op_ne (pv 6) (pe_call G_l_shortest (hr.mono (by decide)) (by rfl) T.m_l_shortest T.k_l_shortest b_l_shortest .nil pass0 (pa_cons (pv 5) pa_nil)) (nomark _)) (pw_or (pt_cmpR op_ne (pe_callK0 G_row_for (hr.mono (by decide)) (by rfl) T.m_row_for T.k_row_for kb_row_for_0_numbers pass0 (pk_cons (pv 5) pk_nil)) (pv 6) (nomark _)) (pw_or1 (pt_cmpR op_eq (pe_slice sl_str (pv 6) (po_some (pe_un un_neg pe_int)) po_none) pe_str (nomark _)))))) (pss_one (ps_ret pe_bl)) pss_nil)
       (pss_one (ps_ret (pe_and (pe_cmpR (w_eqD (K := K) hr.units) (pe_call G_numbers_by (hr.mono (by decide)) (by rfl) T.m_numbers_by T.k_numbers_by b_numbers_by .nil pass0 (pa_cons (pv 1) (pa_cons (pv 6) pa_nil))) (pv 5) (nomark _)) (pe_one (pe_cmpR (w_eqD (K := K) hr.units) (pe_call G_numbers_by (hr.mono (by decide)) (by rfl) T.m_numbers_by T.k_numbers_by b_numbers_by .nil pass0 (pa_cons (pv 1) (pa_cons (pe_op op_add_str (pv 6) (pe_op op_repS pe_str (pe_op op_sub pe_int (pe_callB (w_len (K := K)) (by rfl) T.b_len (by decide +kernel) (pa_cons (pv 6) pa_nil))))) pa_nil))) (pv 5) (nomark _))))))))))), ?_⟩
    refine ⟨_, rfl, b, 3, rfl, B, by decide, by decide, fun r H1 hr k1 B1 => ⟨_, _, rfl, rfl, Nat.zero_le _, fun c hc => ⟨_, _, rfl, ?_⟩⟩⟩
    have el : (1 : Int) + (r : Int) = ((r + 1 : Nat) : Int) := by omega
    dsimp only
    rw [el]
    have nc : c ≠ b := bar_ne B1 hc
    refine ⟨_, rfl, ((r + 1 : Nat) : Int), rfl, by omega, by omega, ?_⟩
    rw [Int.toNat_natCast]
    refine for_range (lo := 0) (n := r + 1) (fun i σ H' => ∃ y3 y4, σ = [some (.ref b), some (.int ((r + 1 : Nat) : Int)), some (.ref c), y3, y4, none, none] ∧ Keep b H1 H' ∧ BarAt H' b ∧
      ∃ ns : List Nat, H' c = some (.lst (vN ns)) ∧ ns.length = i ∧ ∀ n ∈ ns, n < big) ?_ ?_ ?_
    · exact ⟨none, none, rfl, Keep.of (same_upd hc), bar_upd B1 nc, [], upd_same, rfl, fun n h => by simp at h⟩
    · rintro i σ H2 hi ⟨y3, y4, rfl, k2, B2, ns, h2, hl, hb⟩
      refine ⟨_, rfl, b, 5, rfl, B2, by decide, by decide, fun r1 H3 hr1 k3 B3 => ⟨_, rfl, b, 1000, rfl, B3, by decide, by decide, fun r2 H4 hr2 k4 B4 => ⟨_, _, rfl, rfl, ⟨by decide, by decide, by decide⟩, _, _, rfl, rfl, _, rfl, b, 9, rfl, B4, by decide, by decide, fun r3 H5 hr3 k5 B5 => ⟨_, _, rfl, rfl, _, _, rfl, rfl, ⟨by decide, by decide, by decide⟩, by show 4 ≤ sizeLine; decide, fun q hq => ?_⟩⟩⟩⟩
      have nq : q ≠ b := bar_ne B5 hq
      generalize hx : [V.int (r1 : Int), V.int (r2 : Int), V.int ((10 : Int) ^ (40 : Int).toNat - 1 - (r3 : Int)), V.int ((16 : Int) ^ (33 : Int).toNat)] = xs
      have xsm : ∀ x ∈ xs, ∃ m : Nat, m < big ∧ x = .int (m : Int) := by
        intro x h
        rw [← hx] at h
        rw [big_pow] at h
        simp at h
        rcases h with rfl | rfl | rfl | rfl
        · exact ⟨r1, by unfold big; omega, rfl⟩
        · exact ⟨r2, by unfold big; omega, rfl⟩
        · exact ⟨big - 1 - r3, by unfold big; omega, by congr 1; unfold big; omega⟩
        · exact ⟨16 ^ 33, by decide, rfl⟩
      have xlen : xs.length = 4 := by rw [← hx]; rfl
      have B6 := bar_upd (o := .lst xs) B5 nq
      have k6 : Keep b H1 (upd H5 q (.lst xs)) := (k2.trans (k3.trans (k4.trans k5))).trans (Keep.of (same_upd hq))
      have hc5 : H5 c = some (.lst (vN ns)) := k5.get nc (k4.get nc (k3.get nc h2))
      have ncq : c ≠ q := ne_of_none hc5 hq
      have hc6 : (upd H5 q (.lst xs)) c = some (.lst (vN ns)) := by rw [upd_ne ncq]; exact hc5
      refine ⟨_, rfl, .inl ⟨rfl, _, lst_of hc6⟩, _, rfl, _, rfl, b, _, rfl, B6, .inl ⟨q, xs, rfl, lst_of (by rw [del_ne nq]; exact upd_same), by omega, by omega, fun x H7 hxm k7 B7 => ?_⟩⟩
      obtain ⟨m, hm, rfl⟩ := xsm x hxm
      have hc7 := k7.get nc hc6
      refine ⟨c, _, _, rfl, rfl, hc7, szt (by rw [vN_len]; omega), ?_⟩
      refine ⟨_, _, rfl, keep_put (k6.trans k7) hc, bar_upd B7 nc, ns ++ [m], ?_, by rw [List.length_append, hl]; rfl, fun n hn => ?_⟩
      · rw [upd_same]
        unfold vN
        rw [List.map_append]
        rfl
      · rcases List.mem_append.mp hn with h | h
        · exact hb n h
        · rw [List.mem_singleton.mp h]
          exact hm
    · rintro σ H2 ⟨y3, y4, rfl, k2, B2, ns, h2, hl, hb⟩
      have n3 : ns.length ≤ 3 := by omega
      have n1 : 1 ≤ ns.length := by omega
      have hb2 : ∀ n ∈ ns, n < 2 ^ 200 := fun n hn => Nat.lt_trans (hb n hn) big_lt
      refine ⟨_, rfl, c, _, rfl, .inl ⟨lst_of h2, fun p hp => ?_⟩⟩
      have sp := same_upd (o := .tup (vN ns)) hp
      have hp3 : (upd H2 p (.tup (vN ns))) p = some (.tup (vN ns)) := upd_same
      generalize upd H2 p (.tup (vN ns)) = H3 at sp hp3
      refine ⟨_, rfl, p, ns, rfl, tup_of hp3, n1, n3, hb, fun H4 s4 => ?_⟩
      have hp4 := s4 _ _ hp3
      refine ⟨_, rfl, _, rfl, p, ns, rfl, tup_of hp4, n1, n3, hb2, fun H5 s5 => ?_⟩
      have hp5 := s5 _ _ hp4
      refine ⟨rfl, _, rfl, ?_⟩
      rw [decide_eq_true rfl]
      refine iteF ?_
      refine ⟨_, rfl, p, ns, rfl, tup_of hp5, n1, n3, hb, fun H6 s6 => ?_⟩
      have hp6 := s6 _ _ hp5
      refine ⟨_, rfl, rfl, _, rfl, ?_⟩
      rw [decide_eq_true rfl]
      refine iteF ?_
      have rl := srt_len 200 ns
      refine ⟨_, rfl, 1, rfl, -1, rfl, _, rfl, szl (by rw [rowS_len]; omega), rfl, _, rfl, ?_⟩
      rw [last_sign (srt_last 200 ns n3 hb2)]
      refine iteF (g_next ?_)
      have rg : ∀ g ∈ srt 200 ns, g < 2 ^ ns.length := srt_lt 200 ns n3
      rw [← hl]
      refine ⟨_, rfl, _, rfl, ns.length, _, rfl, n1, n3, rl, rg, fun t1 H7 ht1 s7 h7 => ?_⟩
      rw [nums_srt n3 hb2] at h7
      have hp7 := s7 _ _ hp6
      refine ⟨_, rfl, eq_ok n3 h7 hp7 ⟨true, rfl, iteT ?_⟩⟩
      refine ⟨_, rfl, _, rfl, _, rfl, _, _, rfl, ⟨szl (by rw [rowS_len]; omega), rfl⟩, _, _, rfl, rfl, _, 200 - (srt 200 ns).length, rfl, (by rw [rowS_len]; exact sub_len rl), by omega, by decide, ?_⟩
      rw [mul_a]
      refine ⟨_, _, rfl, rfl, szl (by rw [rowS_len, rowS_len]; simp; omega), ?_⟩
      rw [rowS_app]
      refine ⟨ns.length, _, rfl, n1, n3, by simp; omega, fun g hg => ?_, fun t2 H8 ht2 s8 h8 => ?_⟩
      · rcases List.mem_append.mp hg with h | h
        · exact rg g h
        · rw [(List.mem_replicate.mp h).2]
          exact Nat.pow_pos (by decide)
      rw [nums_app, nums_srt n3 hb2] at h8
      have hp8 := s8 _ _ hp7
      have sA := sp.trans (s4.trans (s5.trans (s6.trans (s7.trans s8))))
      exact ⟨_, rfl, eq_ok n3 h8 hp8 (k _ (k1.trans (k2.trans (Keep.of sA))) (bar_same B2 sA))⟩
def spRight : Sp := spRowRight
theorem zero_nums (k : Nat) : (List.replicate k [V.int 0]).flatten = vN (List.replicate k 0) := by
  unfold vN
  induction k with
  | zero => rfl
  | succ k ih => rw [List.replicate_succ, List.flatten_cons, ih, List.replicate_succ, List.map_cons]; rfl
theorem ok_l_right (T : Txt K mg A) (U : Funs K A fd) : FnOk P w K mg base CX0 16 A.l_right fd.l_right p_l_right (spRight) := by
  have G_row_for := ok_row_for (P := P) (w := w) (base := base) T U
  have b_row_for := U.b_row_for
  have G_l_numbers_right := ok_l_numbers_right (P := P) (w := w) (base := base) T U
  have b_l_numbers_right := U.b_l_numbers_right
  have G_l_row_right := ok_l_row_right (P := P) (w := w) (base := base) T U
  have b_l_row_right := U.b_l_row_right
  refine U.F_l_right.ok sc_l_right (fun vs H Q E h => ?_) (fun cdv A0 outer s H vs Q E hr h => ?_)
  · obtain ⟨b, rfl, _⟩ := h
    rfl
  · have hu := hu_of hr
    obtain ⟨b, rfl, B, k⟩ := h
    refine ⟨_, (pss_cons (ps_for PassesOwn.never rfl (pi_range1 (by rfl) T.b_range (pa_cons pe_int pa_nil)) (pg_name (i := 1) sc_l_right.nd rfl (Or.inl rfl))
       (pss_one (ps_if (PW.pt (pw_or (pt_not (pt_val (pe_call G_l_row_right (hr.mono (by decide)) (by rfl) T.m_l_row_right T.k_l_row_right b_l_row_right .nil pass0 (pa_cons (pv 0) pa_nil)))) (pw_or1 (pt_not (pt_val (pe_call G_l_numbers_right (hr.mono (by decide)) (by rfl) T.m_l_numbers_right T.k_l_numbers_right b_l_numbers_right .nil pass0 (pa_cons (pv 0) pa_nil))))))) (pss_one (ps_ret pe_bl)) pss_nil)))
       (pss_one (ps_ret (pe_cmpR (w_eqD (K := K) hr.units) (pe_lc (own := [("_law_k", 2)]) (g := gName 2) (tt := tYes) (by rfl) sc_l_right.nd (w_piL (K := K) (pe_lst (pa_cons pe_int (pa_cons pe_int (pa_cons pe_int pa_nil))))) (blkOk_by (own := [("_law_k", 2)]) (by rfl)) (fun _ _ _ _ _ => (pg_name (i := 2) sc_l_right.nd rfl (Or.inl rfl))) (fun _ _ _ _ _ => pts_nil) (fun _ _ _ _ _ => (pe_call G_row_for (hr.mono (by decide)) (by rfl) T.m_row_for T.k_row_for b_row_for .nil pass0 (pa_cons (pe_op (op_repTO (K := K)) (pe_tup (pa_cons pe_int pa_nil)) (pv 2)) pa_nil)))) (pe_lst (pa_cons pe_str (pa_cons pe_str (pa_cons pe_str pa_nil)))) (nomark _))))), ?_⟩
    refine ⟨4, rfl, by decide, by decide, ?_⟩
    refine for_range (lo := 0) (n := 4) (fun i σ H' => ∃ y1, σ = [some (.ref b), y1, none] ∧ Keep b H H' ∧ BarAt H' b) ?_ ?_ ?_
    · exact ⟨none, rfl, Keep.refl _ _, B⟩
    · rintro i σ H1 hi ⟨y1, rfl, k1, B1⟩
      refine ⟨_, rfl, b, rfl, B1, fun H2 k2 B2 => ⟨_, rfl, iteF ?_⟩⟩
      refine ⟨_, rfl, b, rfl, B2, fun H3 k3 B3 => ⟨_, rfl, iteF (g_next ?_)⟩⟩
      exact ⟨_, rfl, k1.trans (k2.trans k3), B3⟩
    · rintro σ H1 ⟨y1, rfl, k1, B1⟩
      refine ⟨by show 3 ≤ sizeLine; decide, fun q hq => ⟨q, rfl, ⟨_, lst_of upd_same⟩, ?_⟩⟩
      have sq := same_upd (o := .lst [.int 1, .int 2, .int 3]) hq
      have hq2 : (upd H1 q (.lst [.int 1, .int 2, .int 3])) q = some (.lst [.int 1, .int 2, .int 3]) := upd_same
      generalize upd H1 q (.lst [.int 1, .int 2, .int 3]) = H2 at sq hq2
      refine lL (xs := [.int 1, .int 2, .int 3]) (fun _ => [.str ""]) (lst_of hq2) (fun _ => Nat.le_refl 1) (by decide) ?_ (fun i x hi => turn_yes fun H3 R s3 r => ?_) (fun D H3 hD s3 h3 => ?_)
      · exact fun _ => rfl
      · obtain ⟨m, hm1, hm3, rfl⟩ : ∃ m : Nat, 1 ≤ m ∧ m ≤ 3 ∧ x = .int (m : Int) := by
          have := List.mem_of_getElem? hi
          simp at this
          rcases this with rfl | rfl | rfl
          · exact ⟨1, by decide, by decide, rfl⟩
          · exact ⟨2, by decide, by decide, rfl⟩
          · exact ⟨3, by decide, by decide, rfl⟩
        refine ⟨by show 1 ≤ sizeLine; decide, fun t ht => ⟨_, rfl, t, _, _, rfl, rfl, tup_of upd_same, by simp, by omega, by omega, by decide, fun p H4 s4 hp => ?_⟩⟩
        rw [Int.toNat_natCast, zero_nums] at hp
        have z : ∀ n ∈ List.replicate m 0, n = 0 := fun n hn => (List.mem_replicate.mp hn).2
        refine ⟨p, List.replicate m 0, rfl, hp, by simp; omega, by simp; omega, fun n hn => by rw [z n hn]; decide, fun H5 s5 => ?_⟩
        rw [srt_zero z]
        exact r H5 ((same_upd ht).trans (s4.trans s5))
      · have e3 : pre (fun _ => [V.str ""]) [V.int 1, V.int 2, V.int 3].length = [.str "", .str "", .str ""] := rfl
        rw [e3] at h3
        refine ⟨by show 3 ≤ sizeLine; decide, fun e he => ?_⟩
        have se := same_upd (o := .lst [.str "", .str "", .str ""]) he
        refine ⟨.list [.str "", .str "", .str ""], .list [.str "", .str "", .str ""], .lst (lst_of (se _ _ h3)) (.cons (.str _) (.cons (.str _) (.cons (.str _) .nil))), .lst (lst_of upd_same) (.cons (.str _) (.cons (.str _) (.cons (.str _) .nil))), by decide +kernel, by decide +kernel, ?_⟩
        rw [eqv_same (by decide +kernel)]
        have sA := sq.trans (s3.trans se)
        exact k _ (k1.trans (Keep.of sA)) (bar_same B1 sA)
def spLaw (K : PySem.W.Frag) : Sp := fun vs H Q _ => ∃ (a : Addr) (ns : List Int), vs = [.ref a] ∧ SqL K H a (ns.map V.int) ∧ ns.length ≤ 63 ∧ ∀ H', Q (.bl true) H'
theorem ok_law (T : Txt K mg A) (U : Funs K A fd) : FnOk P w K mg base CX0 19 A.law fd.law p_law (spLaw K) := by
  have G_l_right := ok_l_right (P := P) (w := w) (base := base) T U
  have b_l_right := U.b_l_right
  have G_l_brook := ok_l_brook (P := P) (w := w) (base := base) T U
  have b_l_brook := U.b_l_brook
  refine U.F_law.ok sc_law (fun vs H Q E h => ?_) (fun cdv A0 outer s H vs Q E hr h => ?_)
  · obtain ⟨a, ns, rfl, _⟩ := h
    rfl
  · have hu := hu_of hr
    obtain ⟨a, ns, rfl, hS, hn, k⟩ := h
    refine ⟨_, (pss_one (ps_ret (pe_callB (w_all (K := K) rfl) (by rfl) T.b_all (by decide +kernel) (pa_cons (pe_lc (own := [("_law_spot", 1)]) (g := gName 1) (tt := tYes) (by rfl) sc_law.nd (pi_range1 (by rfl) T.b_range (pa_cons (pe_callB (call_max2 rfl) (by rfl) T.b_max (by decide +kernel) (pa_cons pe_int (pa_cons (pe_callB (call_min2 rfl) (by rfl) T.b_min (by decide +kernel) (pa_cons (pe_callB (w_len (K := K)) (by rfl) T.b_len (by decide +kernel) (pa_cons (pv 0) pa_nil)) (pa_cons pe_int pa_nil))) pa_nil))) pa_nil)) (blkOk_by (own := [("_law_spot", 1)]) (by rfl)) (fun _ _ _ _ _ => (pg_name (i := 1) sc_law.nd rfl (Or.inl rfl))) (fun _ _ _ _ _ => pts_nil) (fun _ _ _ _ _ => (pe_call G_l_right (hr.mono (by decide)) (by rfl) T.m_l_right T.k_l_right b_l_right .nil pass0 (pa_cons (pe_call G_l_brook (hr.mono (by decide)) (by rfl) T.m_l_brook T.k_l_brook b_l_brook .nil pass0 (pa_cons (pv 0) (pa_cons (pv 1) pa_nil))) pa_nil)))) pa_nil)))), ?_⟩
    refine ⟨_, rfl, _, _, rfl, .inl ⟨_, hS, rfl⟩, _, _, rfl, _, _, rfl, ?_⟩
    obtain ⟨m, hm, em⟩ : ∃ m : Nat, m ≤ 5 ∧ (if (if (5 : Int) < ((ns.map V.int).length : Int) then (5 : Int) else ((ns.map V.int).length : Int)) > 2 then (if (5 : Int) < ((ns.map V.int).length : Int) then (5 : Int) else ((ns.map V.int).length : Int)) else 2) = (m : Int) := by
      by_cases c : (5 : Int) < ((ns.map V.int).length : Int)
      · exact ⟨5, by decide, by rw [if_pos c]; rfl⟩
      · rw [if_neg c]
        by_cases c2 : ((ns.map V.int).length : Int) > 2
        · exact ⟨(ns.map V.int).length, by omega, if_pos c2⟩
        · exact ⟨2, by decide, if_neg c2⟩
    refine ⟨(m : Int), by rw [← em] <;> rfl, by omega, by omega, fun D hD => ?_⟩
    rw [Int.toNat_natCast]
    refine lc_range (lo := 0) (n := m) (fun i H' => Same H H' ∧ H' D = some (.lst (List.replicate i (.bl true)))) ?_ ?_ ?_
    · exact ⟨same_upd hD, upd_same⟩
    · rintro i H1 hi ⟨s1, h1⟩
      refine ⟨rfl, yes_go ?_⟩
      rw [show (0 : Int) + (i : Int) = (i : Int) by omega]
      refine ⟨_, rfl, _, rfl, a, ns, i, rfl, sqL_mono s1 hS, hn, by omega, fun b H2 hb s2 B2 => ?_⟩
      refine ⟨b, rfl, B2, fun H3 kp _ => ?_⟩
      have s3 : Same H1 H3 := fun x o hx => kp.get (ne_of_none hx hb) (s2 _ _ hx)
      refine ⟨_, s3 _ _ h1, szt (by rw [List.length_replicate]; omega), same_put (s1.trans s3) hD, ?_⟩
      rw [upd_same, List.replicate_succ']
    · rintro H1 ⟨s1, h1⟩
      refine ⟨D, List.replicate m true, rfl, lst_of (by rw [← bls]; exact h1), ?_⟩
      rw [all_true]
      exact k H1
end K6


set_option Elab.async false
set_option linter.all false
set_option maxRecDepth 100000
set_option maxHeartbeats 4000000
namespace K6
open PySem PySem.Spec PyProof.Rows L2 Rw
/-! ### what the top has written -/
theorem FnOkG.of {P : Program} {w : World} {K : PySem.W.Frag} {mg : Str → Option Value} {base : Heap} {k : Nat} {f : Addr} {fd : FuncData} {ps : List Str} {sp : Sp} (h : FnOk P w K mg base CX0 k f fd ps sp) : FnOkG P w K mg base k f fd ps sp :=
  ⟨h.len, fun A outer s H args us vs Q E _ hr e0 hb r q => h.run A outer s H args us vs Q E hr e0 hb r q⟩
theorem all_mk {P : Program} {w : World} {K : PySem.W.Frag} {h : Heap} {mg : Str → Option Value} {fa f0 f1 f2 f3 f4 f5 f6 f7 f8 f9 f10 f11 f12 f13 f14 f15 f16 f17 f18 f19 : Addr} (X : K.In h) (G : h.Ns mainGlobals mg) (hfa : mg "law" = some (.ref fa))
    {od0 an0 : Option Addr} {sl0 : Array (Option Value)} {oc0 kV0 dc0 pm0 cd0 ct0 : Value}
    {od1 an1 : Option Addr} {sl1 : Array (Option Value)} {oc1 kV1 dc1 pm1 cd1 ct1 : Value}
    {od2 an2 : Option Addr} {sl2 : Array (Option Value)} {oc2 kV2 dc2 pm2 cd2 ct2 : Value}
    {od3 an3 : Option Addr} {sl3 : Array (Option Value)} {oc3 kV3 dc3 pm3 cd3 ct3 : Value}
    {od4 an4 : Option Addr} {sl4 : Array (Option Value)} {oc4 kV4 dc4 pm4 cd4 ct4 : Value}
    {od5 an5 : Option Addr} {sl5 : Array (Option Value)} {oc5 kV5 dc5 pm5 cd5 ct5 : Value}
    {od6 an6 : Option Addr} {sl6 : Array (Option Value)} {oc6 kV6 dc6 pm6 cd6 ct6 : Value}
    {od7 an7 : Option Addr} {sl7 : Array (Option Value)} {oc7 kV7 dc7 pm7 cd7 ct7 : Value}
    {od8 an8 : Option Addr} {sl8 : Array (Option Value)} {oc8 kV8 dc8 pm8 cd8 ct8 : Value}
    {od9 an9 : Option Addr} {sl9 : Array (Option Value)} {oc9 kV9 dc9 pm9 cd9 ct9 : Value}
    {od10 an10 : Option Addr} {sl10 : Array (Option Value)} {oc10 kV10 dc10 pm10 cd10 ct10 : Value}
    {od11 an11 : Option Addr} {sl11 : Array (Option Value)} {oc11 kV11 dc11 pm11 cd11 ct11 : Value}
    {od12 an12 : Option Addr} {sl12 : Array (Option Value)} {oc12 kV12 dc12 pm12 cd12 ct12 : Value}
    {od13 an13 : Option Addr} {sl13 : Array (Option Value)} {oc13 kV13 dc13 pm13 cd13 ct13 : Value}
    {od14 an14 : Option Addr} {sl14 : Array (Option Value)} {oc14 kV14 dc14 pm14 cd14 ct14 : Value}
    {od15 an15 : Option Addr} {sl15 : Array (Option Value)} {oc15 kV15 dc15 pm15 cd15 ct15 : Value}
    {od16 an16 : Option Addr} {sl16 : Array (Option Value)} {oc16 kV16 dc16 pm16 cd16 ct16 : Value}
    {od17 an17 : Option Addr} {sl17 : Array (Option Value)} {oc17 kV17 dc17 pm17 cd17 ct17 : Value}
    {od18 an18 : Option Addr} {sl18 : Array (Option Value)} {oc18 kV18 dc18 pm18 cd18 ct18 : Value}
    {od19 an19 : Option Addr} {sl19 : Array (Option Value)} {oc19 kV19 dc19 pm19 cd19 ct19 : Value}
    (a0 : PySem.W.nsIn K mainGlobals "is_integer" = some (some (.ref f0)))
    (a1 : PySem.W.nsIn K mainGlobals "is_between" = some (some (.ref f1)))
    (a2 : PySem.W.nsIn K mainGlobals "is_row" = some (some (.ref f2)))
    (a3 : PySem.W.nsIn K mainGlobals "check_row" = some (some (.ref f3)))
    (a4 : PySem.W.nsIn K mainGlobals "figure" = some (some (.ref f4)))
    (a5 : PySem.W.nsIn K mainGlobals "check_tracks" = some (some (.ref f5)))
    (a6 : PySem.W.nsIn K mainGlobals "check_numbers" = some (some (.ref f6)))
    (a7 : PySem.W.nsIn K mainGlobals "numbers_by" = some (some (.ref f7)))
    (a8 : PySem.W.nsIn K mainGlobals "numbers_of" = some (some (.ref f8)))
    (a9 : PySem.W.nsIn K mainGlobals "row_for" = some (some (.ref f9)))
    (a10 : PySem.W.nsIn K mainGlobals "shortest_row" = some (some (.ref f10)))
    (a11 : PySem.W.nsIn K mainGlobals "_law_brook" = some (some (.ref f11)))
    (a12 : PySem.W.nsIn K mainGlobals "_law_scoop" = some (some (.ref f12)))
    (a13 : PySem.W.nsIn K mainGlobals "_law_choose" = some (some (.ref f13)))
    (a14 : PySem.W.nsIn K mainGlobals "_law_figures" = some (some (.ref f14)))
    (a15 : PySem.W.nsIn K mainGlobals "_law_shortest" = some (some (.ref f15)))
    (a16 : PySem.W.nsIn K mainGlobals "_law_row_right" = some (some (.ref f16)))
    (a17 : PySem.W.nsIn K mainGlobals "_law_numbers_right" = some (some (.ref f17)))
    (a18 : PySem.W.nsIn K mainGlobals "_law_right" = some (some (.ref f18)))
    (a19 : PySem.W.nsIn K mainGlobals "law" = some (some (.ref f19)))
    (l0 : K.lookup f0 = some ⟨oc0, od0, .func (PySem.W.fnOf "is_integer" "is_integer" (defArgs s_is_integer) (defBody s_is_integer) (defScope s_is_integer) .none kV0 dc0 pm0 an0 cd0 ct0), sl0⟩)
    (c0 : PySem.W.codeIn K cd0 "is_integer" = true)
    (k0 : PySem.W.keepIn K (.ref f0) = true)
    (l1 : K.lookup f1 = some ⟨oc1, od1, .func (PySem.W.fnOf "is_between" "is_between" (defArgs s_is_between) (defBody s_is_between) (defScope s_is_between) .none kV1 dc1 pm1 an1 cd1 ct1), sl1⟩)
    (c1 : PySem.W.codeIn K cd1 "is_between" = true)
    (k1 : PySem.W.keepIn K (.ref f1) = true)
    (l2 : K.lookup f2 = some ⟨oc2, od2, .func (PySem.W.fnOf "is_row" "is_row" (defArgs s_is_row) (defBody s_is_row) (defScope s_is_row) .none kV2 dc2 pm2 an2 cd2 ct2), sl2⟩)
    (c2 : PySem.W.codeIn K cd2 "is_row" = true)
    (k2 : PySem.W.keepIn K (.ref f2) = true)
    (l3 : K.lookup f3 = some ⟨oc3, od3, .func (PySem.W.fnOf "check_row" "check_row" (defArgs s_check_row) (defBody s_check_row) (defScope s_check_row) .none kV3 dc3 pm3 an3 cd3 ct3), sl3⟩)
    (c3 : PySem.W.codeIn K cd3 "check_row" = true)
    (k3 : PySem.W.keepIn K (.ref f3) = true)
    (l4 : K.lookup f4 = some ⟨oc4, od4, .func (PySem.W.fnOf "figure" "figure" (defArgs s_figure) (defBody s_figure) (defScope s_figure) .none kV4 dc4 pm4 an4 cd4 ct4), sl4⟩)
    (c4 : PySem.W.codeIn K cd4 "figure" = true)
    (k4 : PySem.W.keepIn K (.ref f4) = true)
    (l5 : K.lookup f5 = some ⟨oc5, od5, .func (PySem.W.fnOf "check_tracks" "check_tracks" (defArgs s_check_tracks) (defBody s_check_tracks) (defScope s_check_tracks) .none kV5 dc5 pm5 an5 cd5 ct5), sl5⟩)
    (c5 : PySem.W.codeIn K cd5 "check_tracks" = true)
    (k5 : PySem.W.keepIn K (.ref f5) = true)
    (l6 : K.lookup f6 = some ⟨oc6, od6, .func (PySem.W.fnOf "check_numbers" "check_numbers" (defArgs s_check_numbers) (defBody s_check_numbers) (defScope s_check_numbers) .none kV6 dc6 pm6 an6 cd6 ct6), sl6⟩)
    (c6 : PySem.W.codeIn K cd6 "check_numbers" = true)
    (k6 : PySem.W.keepIn K (.ref f6) = true)
    (l7 : K.lookup f7 = some ⟨oc7, od7, .func (PySem.W.fnOf "numbers_by" "numbers_by" (defArgs s_numbers_by) (defBody s_numbers_by) (defScope s_numbers_by) .none kV7 dc7 pm7 an7 cd7 ct7), sl7⟩)
    (c7 : PySem.W.codeIn K cd7 "numbers_by" = true)
    (k7 : PySem.W.keepIn K (.ref f7) = true)
    (l8 : K.lookup f8 = some ⟨oc8, od8, .func (PySem.W.fnOf "numbers_of" "numbers_of" (defArgs s_numbers_of) (defBody s_numbers_of) (defScope s_numbers_of) .none kV8 dc8 pm8 an8 cd8 ct8), sl8⟩)
    (c8 : PySem.W.codeIn K cd8 "numbers_of" = true)
    (k8 : PySem.W.keepIn K (.ref f8) = true)
    (l9 : K.lookup f9 = some ⟨oc9, od9, .func (PySem.W.fnOf "row_for" "row_for" (defArgs s_row_for) (defBody s_row_for) (defScope s_row_for) .none kV9 dc9 pm9 an9 cd9 ct9), sl9⟩)
    (c9 : PySem.W.codeIn K cd9 "row_for" = true)
    (k9 : PySem.W.keepIn K (.ref f9) = true)
    (l10 : K.lookup f10 = some ⟨oc10, od10, .func (PySem.W.fnOf "shortest_row" "shortest_row" (defArgs s_shortest_row) (defBody s_shortest_row) (defScope s_shortest_row) .none kV10 dc10 pm10 an10 cd10 ct10), sl10⟩)
    (c10 : PySem.W.codeIn K cd10 "shortest_row" = true)
    (k10 : PySem.W.keepIn K (.ref f10) = true)
    (l11 : K.lookup f11 = some ⟨oc11, od11, .func (PySem.W.fnOf "_law_brook" "_law_brook" (defArgs s_l_brook) (defBody s_l_brook) (defScope s_l_brook) .none kV11 dc11 pm11 an11 cd11 ct11), sl11⟩)
    (c11 : PySem.W.codeIn K cd11 "_law_brook" = true)
    (k11 : PySem.W.keepIn K (.ref f11) = true)
    (l12 : K.lookup f12 = some ⟨oc12, od12, .func (PySem.W.fnOf "_law_scoop" "_law_scoop" (defArgs s_l_scoop) (defBody s_l_scoop) (defScope s_l_scoop) .none kV12 dc12 pm12 an12 cd12 ct12), sl12⟩)
    (c12 : PySem.W.codeIn K cd12 "_law_scoop" = true)
    (k12 : PySem.W.keepIn K (.ref f12) = true)
    (l13 : K.lookup f13 = some ⟨oc13, od13, .func (PySem.W.fnOf "_law_choose" "_law_choose" (defArgs s_l_choose) (defBody s_l_choose) (defScope s_l_choose) .none kV13 dc13 pm13 an13 cd13 ct13), sl13⟩)
    (c13 : PySem.W.codeIn K cd13 "_law_choose" = true)
    (k13 : PySem.W.keepIn K (.ref f13) = true)
    (l14 : K.lookup f14 = some ⟨oc14, od14, .func (PySem.W.fnOf "_law_figures" "_law_figures" (defArgs s_l_figures) (defBody s_l_figures) (defScope s_l_figures) .none kV14 dc14 pm14 an14 cd14 ct14), sl14⟩)
    (c14 : PySem.W.codeIn K cd14 "_law_figures" = true)
    (k14 : PySem.W.keepIn K (.ref f14) = true)
    (l15 : K.lookup f15 = some ⟨oc15, od15, .func (PySem.W.fnOf "_law_shortest" "_law_shortest" (defArgs s_l_shortest) (defBody s_l_shortest) (defScope s_l_shortest) .none kV15 dc15 pm15 an15 cd15 ct15), sl15⟩)
    (c15 : PySem.W.codeIn K cd15 "_law_shortest" = true)
    (k15 : PySem.W.keepIn K (.ref f15) = true)
    (l16 : K.lookup f16 = some ⟨oc16, od16, .func (PySem.W.fnOf "_law_row_right" "_law_row_right" (defArgs s_l_row_right) (defBody s_l_row_right) (defScope s_l_row_right) .none kV16 dc16 pm16 an16 cd16 ct16), sl16⟩)
    (c16 : PySem.W.codeIn K cd16 "_law_row_right" = true)
    (k16 : PySem.W.keepIn K (.ref f16) = true)
    (l17 : K.lookup f17 = some ⟨oc17, od17, .func (PySem.W.fnOf "_law_numbers_right" "_law_numbers_right" (defArgs s_l_numbers_right) (defBody s_l_numbers_right) (defScope s_l_numbers_right) .none kV17 dc17 pm17 an17 cd17 ct17), sl17⟩)
    (c17 : PySem.W.codeIn K cd17 "_law_numbers_right" = true)
    (k17 : PySem.W.keepIn K (.ref f17) = true)
    (l18 : K.lookup f18 = some ⟨oc18, od18, .func (PySem.W.fnOf "_law_right" "_law_right" (defArgs s_l_right) (defBody s_l_right) (defScope s_l_right) .none kV18 dc18 pm18 an18 cd18 ct18), sl18⟩)
    (c18 : PySem.W.codeIn K cd18 "_law_right" = true)
    (k18 : PySem.W.keepIn K (.ref f18) = true)
    (l19 : K.lookup f19 = some ⟨oc19, od19, .func (PySem.W.fnOf "law" "law" (defArgs s_law) (defBody s_law) (defScope s_law) .none kV19 dc19 pm19 an19 cd19 ct19), sl19⟩)
    (c19 : PySem.W.codeIn K cd19 "law" = true)
    (k19 : PySem.W.keepIn K (.ref f19) = true)
    {t0 t1 t2 t3 : Tok}
    (yg0 : PySem.W.nsIn K mainGlobals "MOST_ROW" = some (some (.int 200 t0)))
    (yg1 : PySem.W.nsIn K mainGlobals "MOST_TRACKS" = some (some (.int 3 t1)))
    (yg2 : PySem.W.nsIn K mainGlobals "NUMBERS" = some (some (.int 10000000000000000000000000000000000000000 t2)))
    (yg3 : PySem.W.nsIn K mainGlobals "ALPHABET" = some (some (.str "abcdefgh" t3)))
    (yz0 : PySem.W.nsIn K mainGlobals "abs" = some none)
    (yz1 : PySem.W.nsIn K mainGlobals "all" = some none)
    (yz2 : PySem.W.nsIn K mainGlobals "bool" = some none)
    (yz3 : PySem.W.nsIn K mainGlobals "divmod" = some none)
    (yz4 : PySem.W.nsIn K mainGlobals "int" = some none)
    (yz5 : PySem.W.nsIn K mainGlobals "isinstance" = some none)
    (yz6 : PySem.W.nsIn K mainGlobals "len" = some none)
    (yz7 : PySem.W.nsIn K mainGlobals "list" = some none)
    (yz8 : PySem.W.nsIn K mainGlobals "max" = some none)
    (yz9 : PySem.W.nsIn K mainGlobals "min" = some none)
    (yz10 : PySem.W.nsIn K mainGlobals "range" = some none)
    (yz11 : PySem.W.nsIn K mainGlobals "str" = some none)
    (yz12 : PySem.W.nsIn K mainGlobals "sum" = some none)
    (yz13 : PySem.W.nsIn K mainGlobals "tuple" = some none)
    : ∃ fd : FuncData, (∀ (s : Shared) (u : Value), BindsTo s fd ⟨[u], []⟩ [("_law_script", u)]) ∧ ∀ base : Heap, K.In base → base.Ns mainGlobals mg → FnOkG P w K mg base 19 fa fd ["_law_script"] (spLaw K) := by
  have e := hfa.symm.trans (PySem.W.mg_of X G a19)
  cases e
  let A : Ad := { is_integer := f0, is_between := f1, is_row := f2, check_row := f3, figure := f4, check_tracks := f5, check_numbers := f6, numbers_by := f7, numbers_of := f8, row_for := f9, shortest_row := f10, l_brook := f11, l_scoop := f12, l_choose := f13, l_figures := f14, l_shortest := f15, l_row_right := f16, l_numbers_right := f17, l_right := f18, law := fa }
  let fd : Fds := { is_integer := PySem.W.fnOf "is_integer" "is_integer" (defArgs s_is_integer) (defBody s_is_integer) (defScope s_is_integer) .none kV0 dc0 pm0 an0 cd0 ct0, is_between := PySem.W.fnOf "is_between" "is_between" (defArgs s_is_between) (defBody s_is_between) (defScope s_is_between) .none kV1 dc1 pm1 an1 cd1 ct1, is_row := PySem.W.fnOf "is_row" "is_row" (defArgs s_is_row) (defBody s_is_row) (defScope s_is_row) .none kV2 dc2 pm2 an2 cd2 ct2, check_row := PySem.W.fnOf "check_row" "check_row" (defArgs s_check_row) (defBody s_check_row) (defScope s_check_row) .none kV3 dc3 pm3 an3 cd3 ct3, figure := PySem.W.fnOf "figure" "figure" (defArgs s_figure) (defBody s_figure) (defScope s_figure) .none kV4 dc4 pm4 an4 cd4 ct4, check_tracks := PySem.W.fnOf "check_tracks" "check_tracks" (defArgs s_check_tracks) (defBody s_check_tracks) (defScope s_check_tracks) .none kV5 dc5 pm5 an5 cd5 ct5, check_numbers := PySem.W.fnOf "check_numbers" "check_numbers" (defArgs s_check_numbers) (defBody s_check_numbers) (defScope s_check_numbers) .none kV6 dc6 pm6 an6 cd6 ct6, numbers_by := PySem.W.fnOf "numbers_by" "numbers_by" (defArgs s_numbers_by) (defBody s_numbers_by) (defScope s_numbers_by) .none kV7 dc7 pm7 an7 cd7 ct7, numbers_of := PySem.W.fnOf "numbers_of" "numbers_of" (defArgs s_numbers_of) (defBody s_numbers_of) (defScope s_numbers_of) .none kV8 dc8 pm8 an8 cd8 ct8, row_for := PySem.W.fnOf "row_for" "row_for" (defArgs s_row_for) (defBody s_row_for) (defScope s_row_for) .none kV9 dc9 pm9 an9 cd9 ct9, shortest_row := PySem.W.fnOf "shortest_row" "shortest_row" (defArgs s_shortest_row) (defBody s_shortest_row) (defScope s_shortest_row) .none kV10 dc10 pm10 an10 cd10 ct10, l_brook := PySem.W.fnOf "_law_brook" "_law_brook" (defArgs s_l_brook) (defBody s_l_brook) (defScope s_l_brook) .none kV11 dc11 pm11 an11 cd11 ct11, l_scoop := PySem.W.fnOf "_law_scoop" "_law_scoop" (defArgs s_l_scoop) (defBody s_l_scoop) (defScope s_l_scoop) .none kV12 dc12 pm12 an12 cd12 ct12, l_choose := PySem.W.fnOf "_law_choose" "_law_choose" (defArgs s_l_choose) (defBody s_l_choose) (defScope s_l_choose) .none kV13 dc13 pm13 an13 cd13 ct13, l_figures := PySem.W.fnOf "_law_figures" "_law_figures" (defArgs s_l_figures) (defBody s_l_figures) (defScope s_l_figures) .none kV14 dc14 pm14 an14 cd14 ct14, l_shortest := PySem.W.fnOf "_law_shortest" "_law_shortest" (defArgs s_l_shortest) (defBody s_l_shortest) (defScope s_l_shortest) .none kV15 dc15 pm15 an15 cd15 ct15, l_row_right := PySem.W.fnOf "_law_row_right" "_law_row_right" (defArgs s_l_row_right) (defBody s_l_row_right) (defScope s_l_row_right) .none kV16 dc16 pm16 an16 cd16 ct16, l_numbers_right := PySem.W.fnOf "_law_numbers_right" "_law_numbers_right" (defArgs s_l_numbers_right) (defBody s_l_numbers_right) (defScope s_l_numbers_right) .none kV17 dc17 pm17 an17 cd17 ct17, l_right := PySem.W.fnOf "_law_right" "_law_right" (defArgs s_l_right) (defBody s_l_right) (defScope s_l_right) .none kV18 dc18 pm18 an18 cd18 ct18, law := PySem.W.fnOf "law" "law" (defArgs s_law) (defBody s_law) (defScope s_law) .none kV19 dc19 pm19 an19 cd19 ct19 }
  have T : Txt K mg A := {
    b_abs := PySem.W.mg_none_of X G yz0,
    b_all := PySem.W.mg_none_of X G yz1,
    b_bool := PySem.W.mg_none_of X G yz2,
    b_divmod := PySem.W.mg_none_of X G yz3,
    b_int := PySem.W.mg_none_of X G yz4,
    b_isinstance := PySem.W.mg_none_of X G yz5,
    b_len := PySem.W.mg_none_of X G yz6,
    b_list := PySem.W.mg_none_of X G yz7,
    b_max := PySem.W.mg_none_of X G yz8,
    b_min := PySem.W.mg_none_of X G yz9,
    b_range := PySem.W.mg_none_of X G yz10,
    b_str := PySem.W.mg_none_of X G yz11,
    b_sum := PySem.W.mg_none_of X G yz12,
    b_tuple := PySem.W.mg_none_of X G yz13,
    c_MOST_ROW := ⟨_, PySem.W.mg_of X G yg0⟩,
    c_MOST_TRACKS := ⟨_, PySem.W.mg_of X G yg1⟩,
    c_NUMBERS := ⟨_, PySem.W.mg_of X G yg2⟩,
    c_ALPHABET := ⟨_, PySem.W.mg_of X G yg3⟩,
    m_is_integer := PySem.W.mg_of X G a0, k_is_integer := k0,
    m_is_between := PySem.W.mg_of X G a1, k_is_between := k1,
    m_is_row := PySem.W.mg_of X G a2, k_is_row := k2,
    m_check_row := PySem.W.mg_of X G a3, k_check_row := k3,
    m_figure := PySem.W.mg_of X G a4, k_figure := k4,
    m_check_tracks := PySem.W.mg_of X G a5, k_check_tracks := k5,
    m_check_numbers := PySem.W.mg_of X G a6, k_check_numbers := k6,
    m_numbers_by := PySem.W.mg_of X G a7, k_numbers_by := k7,
    m_numbers_of := PySem.W.mg_of X G a8, k_numbers_of := k8,
    m_row_for := PySem.W.mg_of X G a9, k_row_for := k9,
    m_shortest_row := PySem.W.mg_of X G a10, k_shortest_row := k10,
    m_l_brook := PySem.W.mg_of X G a11, k_l_brook := k11,
    m_l_scoop := PySem.W.mg_of X G a12, k_l_scoop := k12,
    m_l_choose := PySem.W.mg_of X G a13, k_l_choose := k13,
    m_l_figures := PySem.W.mg_of X G a14, k_l_figures := k14,
    m_l_shortest := PySem.W.mg_of X G a15, k_l_shortest := k15,
    m_l_row_right := PySem.W.mg_of X G a16, k_l_row_right := k16,
    m_l_numbers_right := PySem.W.mg_of X G a17, k_l_numbers_right := k17,
    m_l_right := PySem.W.mg_of X G a18, k_l_right := k18,
    m_law := PySem.W.mg_of X G a19, k_law := k19 }
  have F0 := fun_mk (st := s_is_integer) l0 c0 k0
  have b0 := F0.binds (ps := p_is_integer) fun _ _ _ _ _ _ us hl => match us, hl with | [_], _ => rfl
  have F1 := fun_mk (st := s_is_between) l1 c1 k1
  have b1 := F1.binds (ps := p_is_between) fun _ _ _ _ _ _ us hl => match us, hl with | [_, _, _], _ => rfl
  have F2 := fun_mk (st := s_is_row) l2 c2 k2
  have b2 := F2.binds (ps := p_is_row) fun _ _ _ _ _ _ us hl => match us, hl with | [_, _, _], _ => rfl
  have F3 := fun_mk (st := s_check_row) l3 c3 k3
  have b3 := F3.binds (ps := p_check_row) fun _ _ _ _ _ _ us hl => match us, hl with | [_, _], _ => rfl
  have F4 := fun_mk (st := s_figure) l4 c4 k4
  have b4 := F4.binds (ps := p_figure) fun _ _ _ _ _ _ us hl => match us, hl with | [_, _], _ => rfl
  have F5 := fun_mk (st := s_check_tracks) l5 c5 k5
  have b5 := F5.binds (ps := p_check_tracks) fun _ _ _ _ _ _ us hl => match us, hl with | [_], _ => rfl
  have F6 := fun_mk (st := s_check_numbers) l6 c6 k6
  have b6 := F6.binds (ps := p_check_numbers) fun _ _ _ _ _ _ us hl => match us, hl with | [_, _], _ => rfl
  have F7 := fun_mk (st := s_numbers_by) l7 c7 k7
  have b7 := F7.binds (ps := p_numbers_by) fun _ _ _ _ _ _ us hl => match us, hl with | [_, _], _ => rfl
  have F8 := fun_mk (st := s_numbers_of) l8 c8 k8
  have b8 := F8.binds (ps := p_numbers_of) fun _ _ _ _ _ _ us hl => match us, hl with | [_, _], _ => rfl
  have F9 := fun_mk (st := s_row_for) l9 c9 k9
  have b9 := F9.binds (ps := p_row_for) fun _ _ _ _ _ _ us hl => match us, hl with | [_], _ => rfl
  have F10 := fun_mk (st := s_shortest_row) l10 c10 k10
  have b10 := F10.binds (ps := p_shortest_row) fun _ _ _ _ _ _ us hl => match us, hl with | [_], _ => rfl
  have F11 := fun_mk (st := s_l_brook) l11 c11 k11
  have b11 := F11.binds (ps := p_l_brook) fun _ _ _ _ _ _ us hl => match us, hl with | [_, _], _ => rfl
  have F12 := fun_mk (st := s_l_scoop) l12 c12 k12
  have b12 := F12.binds (ps := p_l_scoop) fun _ _ _ _ _ _ us hl => match us, hl with | [_, _], _ => rfl
  have F13 := fun_mk (st := s_l_choose) l13 c13 k13
  have b13 := F13.binds (ps := p_l_choose) fun _ _ _ _ _ _ us hl => match us, hl with | [_, _], _ => rfl
  have F14 := fun_mk (st := s_l_figures) l14 c14 k14
  have b14 := F14.binds (ps := p_l_figures) fun _ _ _ _ _ _ us hl => match us, hl with | [_, _], _ => rfl
  have F15 := fun_mk (st := s_l_shortest) l15 c15 k15
  have b15 := F15.binds (ps := p_l_shortest) fun _ _ _ _ _ _ us hl => match us, hl with | [_], _ => rfl
  have F16 := fun_mk (st := s_l_row_right) l16 c16 k16
  have b16 := F16.binds (ps := p_l_row_right) fun _ _ _ _ _ _ us hl => match us, hl with | [_], _ => rfl
  have F17 := fun_mk (st := s_l_numbers_right) l17 c17 k17
  have b17 := F17.binds (ps := p_l_numbers_right) fun _ _ _ _ _ _ us hl => match us, hl with | [_], _ => rfl
  have F18 := fun_mk (st := s_l_right) l18 c18 k18
  have b18 := F18.binds (ps := p_l_right) fun _ _ _ _ _ _ us hl => match us, hl with | [_], _ => rfl
  have F19 := fun_mk (st := s_law) l19 c19 k19
  have b19 := F19.binds (ps := p_law) fun _ _ _ _ _ _ us hl => match us, hl with | [_], _ => rfl
  have U : Funs K A fd := {
    F_is_integer := F0, b_is_integer := b0,
    F_is_between := F1, b_is_between := b1,
    F_is_row := F2, b_is_row := b2,
    F_check_row := F3, b_check_row := b3,
    F_figure := F4, b_figure := b4,
    F_check_tracks := F5, b_check_tracks := b5,
    F_check_numbers := F6, b_check_numbers := b6,
    F_numbers_by := F7, b_numbers_by := b7,
    F_numbers_of := F8, b_numbers_of := b8,
    F_row_for := F9, b_row_for := b9,
    F_shortest_row := F10, b_shortest_row := b10,
    F_l_brook := F11, b_l_brook := b11,
    F_l_scoop := F12, b_l_scoop := b12,
    F_l_choose := F13, b_l_choose := b13,
    F_l_figures := F14, b_l_figures := b14,
    F_l_shortest := F15, b_l_shortest := b15,
    F_l_row_right := F16, b_l_row_right := b16,
    F_l_numbers_right := F17, b_l_numbers_right := b17,
    F_l_right := F18, b_l_right := b18,
    F_law := F19, b_law := b19 }
  exact ⟨PySem.W.fnOf "law" "law" (defArgs s_law) (defBody s_law) (defScope s_law) .none kV19 dc19 pm19 an19 cd19 ct19, fun s u => .of_eq rfl, fun base _ _ => FnOkG.of (ok_law T U)⟩
end K6
open PySem PySem.W PyProof.Rows
set_option maxRecDepth 100000 in
set_option maxHeartbeats 0 in
theorem PySem.Challenge.cw_rowreaders_k62_numbers_and_their_rows_holds : PySem.Challenge.rw_rowreaders_k62_numbers_and_their_rows.Holds := by
  w_on; o_law; k_head; (case hw => w_witness2)
  k_fill
  refine Rw.walkG (l := PySem.Challenge.rw_rowreaders_k62_numbers_and_their_rows) (n := 63) (k := 19) (x := "_law_script") (sp := K6.spLaw) rfl (by decide) rfl ⟨rfl, by decide, by decide⟩ (fun w h Y => PySem.W.kIn_of Y) ?F (fun K H a ns hl _ hS => ⟨a, ns, rfl, hS, hl, fun _ => rfl⟩)
  case F =>
    intro w mg fa h KX G hmg
    refine' K6.all_mk KX G hmg ?a0 ?a1 ?a2 ?a3 ?a4 ?a5 ?a6 ?a7 ?a8 ?a9 ?a10 ?a11 ?a12 ?a13 ?a14 ?a15 ?a16 ?a17 ?a18 ?a19 ?l0 ?c0 ?k0 ?l1 ?c1 ?k1 ?l2 ?c2 ?k2 ?l3 ?c3 ?k3 ?l4 ?c4 ?k4 ?l5 ?c5 ?k5 ?l6 ?c6 ?k6 ?l7 ?c7 ?k7 ?l8 ?c8 ?k8 ?l9 ?c9 ?k9 ?l10 ?c10 ?k10 ?l11 ?c11 ?k11 ?l12 ?c12 ?k12 ?l13 ?c13 ?k13 ?l14 ?c14 ?k14 ?l15 ?c15 ?k15 ?l16 ?c16 ?k16 ?l17 ?c17 ?k17 ?l18 ?c18 ?k18 ?l19 ?c19 ?k19 ?yg0 ?yg1 ?yg2 ?yg3 ?yz0 ?yz1 ?yz2 ?yz3 ?yz4 ?yz5 ?yz6 ?yz7 ?yz8 ?yz9 ?yz10 ?yz11 ?yz12 ?yz13
    (case a0 => k_is)
    (case a1 => k_is)
    (case a2 => k_is)
    (case a3 => k_is)
    (case a4 => k_is)
    (case a5 => k_is)
    (case a6 => k_is)
    (case a7 => k_is)
    (case a8 => k_is)
    (case a9 => k_is)
    (case a10 => k_is)
    (case a11 => k_is)
    (case a12 => k_is)
    (case a13 => k_is)
    (case a14 => k_is)
    (case a15 => k_is)
    (case a16 => k_is)
    (case a17 => k_is)
    (case a18 => k_is)
    (case a19 => k_is)
    (case l0 => k_is)
    (case c0 => k_is)
    (case k0 => k_is)
    (case l1 => k_is)
    (case c1 => k_is)
    (case k1 => k_is)
    (case l2 => k_is)
    (case c2 => k_is)
    (case k2 => k_is)
    (case l3 => k_is)
    (case c3 => k_is)
    (case k3 => k_is)
    (case l4 => k_is)
    (case c4 => k_is)
    (case k4 => k_is)
    (case l5 => k_is)
    (case c5 => k_is)
    (case k5 => k_is)
    (case l6 => k_is)
    (case c6 => k_is)
    (case k6 => k_is)
    (case l7 => k_is)
    (case c7 => k_is)
    (case k7 => k_is)
    (case l8 => k_is)
    (case c8 => k_is)
    (case k8 => k_is)
    (case l9 => k_is)
    (case c9 => k_is)
    (case k9 => k_is)
    (case l10 => k_is)
    (case c10 => k_is)
    (case k10 => k_is)
    (case l11 => k_is)
    (case c11 => k_is)
    (case k11 => k_is)
    (case l12 => k_is)
    (case c12 => k_is)
    (case k12 => k_is)
    (case l13 => k_is)
    (case c13 => k_is)
    (case k13 => k_is)
    (case l14 => k_is)
    (case c14 => k_is)
    (case k14 => k_is)
    (case l15 => k_is)
    (case c15 => k_is)
    (case k15 => k_is)
    (case l16 => k_is)
    (case c16 => k_is)
    (case k16 => k_is)
    (case l17 => k_is)
    (case c17 => k_is)
    (case k17 => k_is)
    (case l18 => k_is)
    (case c18 => k_is)
    (case k18 => k_is)
    (case l19 => k_is)
    (case c19 => k_is)
    (case k19 => k_is)
    (case yg0 => k_is)
    (case yg1 => k_is)
    (case yg2 => k_is)
    (case yg3 => k_is)
    (case yz0 => k_is)
    (case yz1 => k_is)
    (case yz2 => k_is)
    (case yz3 => k_is)
    (case yz4 => k_is)
    (case yz5 => k_is)
    (case yz6 => k_is)
    (case yz7 => k_is)
    (case yz8 => k_is)
    (case yz9 => k_is)
    (case yz10 => k_is)
    (case yz11 => k_is)
    (case yz12 => k_is)
    (case yz13 => k_is)


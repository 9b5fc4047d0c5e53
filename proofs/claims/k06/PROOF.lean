import PyProof.Rows.All
import Wide.All
import OpenK.AllK
import Wide.FinOn
import PyProof.EqAt
import PyProof.EqKinds
import PyProof.TupleCall
import HandS.ForMost
import HandS.Property
import HandS.IsInst
import HandS.Replace
import HandS.Evl
import HandS.FStrTup
import PySem.Challenge.RW_rowreaders_k06_whole_counts_and_lists
set_option Elab.async false
set_option linter.all false
set_option maxRecDepth 100000
set_option maxHeartbeats 2000000
/-! rules of our own beside the hand layer's: calls by keywords alone, len of an own instance, repr of data, defs that are entered where no repr is under way -/
namespace Rw
open PySem PySem.Spec PyProof.Rows L2
section
variable {X : Cx} {CX : CXT} {k : Nat} {f C : Addr} {fd : FuncData} {ps ks : List Str} {sp : Sp} {E : XK} {x : Str} {p pos : Pos} {kws : List Keyword} {tk : TA} {ta : TE} {e : Expr}
  {g : List Value → List Value → List Value} {gV : List V → List V → List V}

theorem pe_callK0 (F : FnOk X.prog X.w X.K X.mg X.base CX k f fd ps sp) (room : Room k X.A) (glob : Gl X x) (known : X.mg x = some (.ref f))
    (keep : PySem.W.keepIn X.K (.ref f) = true) (kb : KBinds X.K fd ps ks g gV) (pass : Passes CX X E) (hkw : PK X kws tk)
    (hall : (backToKw pos (keywordEach kws X.env)).all (·.1.isSome) = true := by rfl)
    (hks : (backToKw pos (keywordEach kws X.env)).filterMap (·.1) = ks := by rfl)
    (hdb : (x == ("__debug__" : Str)) = false := by decide)
    (hpl : ((backTo pos (starEach [] X.env)).any (·.1) || (backToKw pos (keywordEach kws X.env)).any (·.1.isNone)) = false := by rfl) :
    PE X (.Call (.Name x p) [] kws pos) (tCallK sp gV E tNil tk) := by
  constructor
  intro pins s σ H Q I h
  refine wpAny_Call_Name_kw (ld_glob I glob known ?_ hdb)
  refine PySem.W.callWith_KW0 (h₀ := X.base) I.ok.mod.kin keep hall
    (thn (hkw.run pos pins s σ H _ I h) fun ws s2 hh => ?_) hpl
  obtain ⟨zs, H2, I2, rz, q2⟩ := hh
  refine ⟨I2.kIn, ?_⟩
  rw [hks]
  exact run_fnk (us := []) F room kb pass I2 .nil rz q2

/-- len(o), o an instance of the class at C whose __len__ is the def at f -/
def rLenO (C : Addr) (sp : Sp) (E : XK) : List V → Hp → VK → Prop := fun vs H Q => ∃ a dx fs, vs = [.ref a] ∧ H a = some (.ins C dx fs) ∧
  sp [.ref a] H (fun v H2 => ∃ n : Nat, v = .int (n : Int) ∧ (n : Int) < 2 ^ 63 ∧ Q (.int (n : Int)) H2) E
theorem call_lenO (F : FnOk X.prog X.w X.K X.mg X.base CX k f fd ps sp) (room : Room (k + 1) X.A)
    (own : PySem.W.findIn X.K (.ref C) "__len__" = some (some (.ref f))) (isf : PySem.W.isFn X.K (.ref f) = true)
    (b : L2.Binds X.K fd ps []) (pass : Passes CX X E) : CallR X (.builtin "len") (rLenO C sp E) := by
  intro pins s σ H xs us Q I r h
  obtain ⟨a, dx, fs, rfl, ha, hsp⟩ := h
  obtain ⟨u, rfl⟩ : ∃ u, us = [u] := by
    cases r with
    | cons p q => cases q; exact ⟨_, rfl⟩
  have ru : u = Value.ref a := by
    cases r with
    | cons p q => exact p
  subst ru
  obtain ⟨mA, O, _, _, _, _⟩ := ins_get I.hok ha
  obtain ⟨od, J, _⟩ := O.look
  obtain ⟨m, hF⟩ := I.fr
  refine PySem.W.len_K hF I.ok.mod.kin J own isf ?_
  have hl := F.len _ _ _ _ hsp
  refine wpAny_call (codeAny_mono (F.run X.A.in1 X.stack s H ⟨[.ref a], []⟩ [.ref a] [.ref a] _ E room.in1 I.env0.in1 (by
    have := b s [.ref a] I.kIn (by simpa using hl)
    simpa using this) (.cons rfl .nil) hsp) fun r s' hq => ?_)
  cases r with
  | error e => exact pass pins σ H s e s' I hq
  | ok fl =>
    cases fl with
    | ret w =>
      obtain ⟨z, H', I', rz, n, ez, hn, hQ⟩ := I.after hq
      subst ez
      obtain ⟨t, rfl⟩ := rz
      refine ⟨⟨Int.natCast_nonneg n, hn⟩, ?_⟩
      exact ⟨.int n, H', I'.tok _, ⟨_, rfl⟩, hQ⟩
    | next => exact False.elim hq
    | brk => exact False.elim hq
    | cont => exact False.elim hq

mutual
theorem noDict {K : PySem.W.Frag} {H : Hp} : ∀ (d : PyData) (v : V), Dp K H v d → d.hasDict = false
  | .none, _, _ => by simp only [PyData.hasDict]
  | .bool _, _, _ => by simp only [PyData.hasDict]
  | .int _, _, _ => by simp only [PyData.hasDict]
  | .str _, _, _ => by simp only [PyData.hasDict]
  | .list ds, _, h => by
    cases h with
    | lst _ a => simp only [PyData.hasDict]; exact noDicts ds _ a
  | .tuple ds, _, h => by
    cases h with
    | tup _ a => simp only [PyData.hasDict]; exact noDicts ds _ a
  | .dict _, _, h => by cases h
theorem noDicts {K : PySem.W.Frag} {H : Hp} : ∀ (ds : List PyData) (vs : List V), DpAll K H vs ds → PyData.hasDictAll ds = false
  | [], _, _ => by simp only [PyData.hasDictAll]
  | d :: ds, _, h => by
    cases h with
    | cons a b => simp only [PyData.hasDictAll, noDict d _ a, noDicts ds _ b, Bool.or_false]
end

/-- repr(x), x a list or a tuple of data, where no repr is under way -/
def rReprD (K : PySem.W.Frag) : List V → Hp → VK → Prop := fun vs H Q => ∃ a d, vs = [.ref a] ∧ Dp K H (.ref a) d ∧ d.showable = true ∧ d.depth ≤ 10 ∧ d.shown.length ≤ sizeLine ∧ Q (.str d.shown) H
theorem call_reprD (hg : X.A.guards = some []) (hr : Room k X.A) : CallR X (.builtin "repr") (rReprD X.K) := by
  intro pins s σ H xs us Q I r h
  obtain ⟨a, d, rfl, hd, hs, hdep, hsz, hQ⟩ := h
  obtain ⟨u, rfl⟩ : ∃ u, us = [u] := by
    cases r with
    | cons p q => cases q; exact ⟨_, rfl⟩
  have ru : u = Value.ref a := by
    cases r with
    | cons p q => exact p
  subst ru
  obtain ⟨as, R⟩ := Dp.reads I d _ _ hd rfl
  have hu := hr.units
  refine repr_of_reads' R hs (PyData.noDict_hsm (noDict d _ hd)) hg (by omega) (fun b o e => e) (fun h' u tk hk => ?_) hsz
  exact ⟨.str d.shown, H, I.kept hk, ⟨_, rfl⟩, hQ⟩
end

/-! ### the layer's rules with the written part named -/
section
variable {X : Cx} {K : PySem.W.Frag} {tg l a : Expr} {tl ta : TE} {pos : Pos}
theorem w_ixL (h : X.K = K := by rfl) : IxR X (rIxL K) := by subst h; exact ix_list
theorem w_ixT (h : X.K = K := by rfl) : IxR X (rIxT K) := by subst h; exact ix_tup
def rLenK (K : PySem.W.Frag) : List V → Hp → VK → Prop := fun xs H Q => ∃ x n, xs = [x] ∧ LenV K x H n ∧ Q (.int n) H
theorem w_len (h : X.K = K := by rfl) : CallR X (.builtin "len") (rLenK K) := by subst h; exact call_len
theorem w_in (h : X.K = K := by rfl) : OpR X (compareOp .In) (rIn K false) := by subst h; exact op_in_seq
theorem w_notIn (h : X.K = K := by rfl) : OpR X (compareOp .NotIn) (rIn K true) := by subst h; exact op_notIn_seq
theorem w_sum (hc : X.calm = true) (h : X.K = K := by rfl) : CallR X (.builtin "sum") (rSum K) := by subst h; exact cr_sum hc
theorem w_all (hc : X.calm = true) (h : X.K = K := by rfl) : CallR X (.builtin "all") (rAll K) := by subst h; exact cr_all hc
theorem w_any (hc : X.calm = true) (h : X.K = K := by rfl) : CallR X (.builtin "any") (rAny K) := by subst h; exact cr_any hc
def rListK (K : PySem.W.Frag) : List V → Hp → VK → Prop := fun xs H Q => ∃ p ys, xs = [.ref p] ∧ (SqL K H p ys ∨ SqT K H p ys) ∧ ∀ l, H l = none → Q (.ref l) (upd H l (.lst ys))
theorem w_list (h : X.K = K := by rfl) : CallR X (.type "list") (rListK K) := by subst h; exact call_list_of
def rTupK (K : PySem.W.Frag) : List V → Hp → VK → Prop := fun xs H Q => ∃ p ys, xs = [.ref p] ∧ ((SqL K H p ys ∧ ∀ l, H l = none → Q (.ref l) (upd H l (.tup ys))) ∨ (SqT K H p ys ∧ Q (.ref p) H))
theorem w_tuple (h : X.K = K := by rfl) : CallR X (.type "tuple") (rTupK K) := by subst h; exact call_tuple_of
theorem w_isi (h : X.K = K := by rfl) : CallR X (.builtin "isinstance") (rIsi K) := by subst h; exact call_isi
theorem w_slL (h : X.K = K := by rfl) : SlR X (rSlL K) := by subst h; exact sl_list
theorem w_slT (h : X.K = K := by rfl) : SlR X (rSlT K) := by subst h; exact sl_tup
theorem w_piL (hl : PE X l tl) (h : X.K = K := by rfl) : PI X tg l (iList K tl) := by subst h; exact pi_list hl
theorem w_piT (hl : PE X l tl) (h : X.K = K := by rfl) : PI X tg l (iTup K tl) := by subst h; exact pi_tup hl
theorem w_tup {es : List Expr} {k : Nat} {t : TGs} {n : Nat} (hc : X.calm = true) (hs : PGs X es t) (h : X.K = K := by rfl)
    (hn : (assignEach es X.env).length = n := by rfl) (hst : (assignEach es X.env).findIdx? (·.1) = none := by rfl) : PG X (.Tuple es k pos) (gTup K n t) := by subst h; exact pg_tup hc hs hn hst
def tTruK (K : PySem.W.Frag) (ta : TE) : TT := fun σ H Q => ta σ H fun x H' => ∃ k, TruV K x H' k ∧ Q k H'
theorem w_truth (ha : PE X a ta) (he : ∀ whole, isTrue a X.env whole = (do let v ← whole; standAt a.pos; holding [v] (truthy v))) (h : X.K = K := by rfl) : PT X a (tTruK K ta) := by subst h; exact pt_truth ha he
theorem w_eqD (hu : X.A.units + 64 < cLine) (h : X.K = K := by rfl) : OpR X (compareOp .Eq) (rEqD K) := by subst h; exact op_eqD hu
theorem w_neD (hu : X.A.units + 64 < cLine) (h : X.K = K := by rfl) : OpR X (compareOp .NotEq) (rNeD K) := by subst h; exact op_neD hu
theorem w_reprD {k : Nat} (hg : X.A.guards = some []) (hr : Room k X.A) (h : X.K = K := by rfl) : CallR X (.builtin "repr") (rReprD K) := by subst h; exact call_reprD hg hr
end
/-! ### a def that is entered where no repr is under way -/
structure FnOkG (P : Program) (w : World) (K : PySem.W.Frag) (mg : Str → Option Value) (base : Heap) (k : Nat) (f : Addr) (fd : FuncData) (ps : List Str) (sp : Sp) : Prop where
  len : ∀ vs H Q E, sp vs H Q E → vs.length = ps.length
  run : ∀ (A : Around) (outer : List Env) (s : Shared) (H : Hp) (args : Args) (us : List Value) (vs : List V) (Q : VK) (E : XK), A.guards = some [] → Room k A →
    Env0 P w K mg base A outer s H → BindsTo s fd args (ps.zip us) → Vals vs us → sp vs H Q E → codeAny (model P w) A (.call (.ref f) args) (CR CX0 outer P w H s Q E) s
section
variable {P : Program} {w : World} {K : PySem.W.Frag} {mg : Str → Option Value} {base : Heap} {f : Addr} {fd : FuncData} {N ps : List Str} {k : Nat} {sp : Sp} {x qual : Str} {st : Stmt}
theorem okG (F : Fun K x qual st f fd) (S : FnScope N ps (defScope st)) (len : ∀ vs H Q E, sp vs H Q E → vs.length = ps.length)
    (hbody : ∀ (cdv : Value) (A : Around) (outer : List Env) (s : Shared) (H : Hp) (vs : List V) (Q : VK) (E : XK), A.guards = some [] →
      Room k (A.deeper (envOfC qual (defScope st) s.heap.objs.size f cdv)) → sp vs H Q E →
      ∃ t, PSs (cxOf CX0 P w K mg base N qual (defScope st) f cdv A outer s H E).nox (defBody st) t ∧ t { nx := fun _ H' => Q .non H', rt := Q } (start N vs) H) :
    FnOkG P w K mg base (k + 1) f fd ps sp := by
  obtain ⟨oc, od, kV, doc, pm, an, cdv, ct, osl, rfl, lk, hcd⟩ := F.ex
  refine ⟨len, fun A outer s H args us vs Q E hg hr e0 hb r hsp => ?_⟩
  have hl := len _ _ _ _ hsp
  have inn : K.In s.heap := e0.mod.kin.keeps (fun b o e => (e0.bs b o e).1)
  have nolim : s.heap.NoLimit := e0.mod.nolimit.keeps (fun b o e => (e0.bs b o e).1)
  have kinds : ∀ y ∈ ps.zip us, (defScope st).names.lookup y.1 = some .local ∨
      ((defScope st).names.lookup y.1 = some .cell ∧ ((cellsFrom (s.heap.objs.size + 1) (defScope st).names []).lookup y.1).isSome = true) := by
    rintro ⟨n, v⟩ hy
    rcases S.par n (List.of_mem_zip hy).1 with q | q
    · exact .inl q
    · exact .inr ⟨q, PySem.W.cellsFrom_some _ _ _ (.inl q)⟩
  refine codeAny_call_function hr.depth (inn _ _ lk) rfl S.co S.gen rfl (PySem.W.codeRec_of inn hcd) (hb _ _ _ _ ?_)
  refine wpAny_newFunctionEnv_cells S.kind kinds (fun env he s1 x => ?_)
  subst he
  refine ⟨nolim.keeps x.toInCall.keep, codeAny_func ?_⟩
  obtain ⟨t, ht, hq⟩ := hbody cdv A outer s H vs Q E hg (hr.deeper _) hsp
  have I := inv_start (CX := CX0) (P := P) (w := w) (K := K) (mg := mg) (base := base) (qual := qual) (f := f) (cd := cdv) (E := E) S hr.hd e0 hl r x
  refine wpAny_mono (ht.nox.run [] s1 (start N vs) H _ I hq) (fun fl s' hs => ?_) (fun e s' hs => hs)
  cases fl with
  | ret u =>
    obtain ⟨v, σ', H', J, rv, q⟩ := hs
    exact ⟨v, H', J.os, J.bare, J.base, J.hok, rv, q⟩
  | next =>
    obtain ⟨σ', H', J, q⟩ := hs
    exact ⟨V.non, H', J.os, J.bare, J.base, J.hok, rfl, q⟩
  | brk =>
    obtain ⟨_, _, _, q⟩ := hs
    exact False.elim q
  | cont =>
    obtain ⟨_, _, _, q⟩ := hs
    exact False.elim q
end
section
variable {X : Cx} {k : Nat} {f : Addr} {fd : FuncData} {ps : List Str} {sp : Sp} {x : Str} {p pos : Pos} {e : Expr} {es : List Expr} {t : TA}
theorem pe_callG (F : FnOkG X.prog X.w X.K X.mg X.base k f fd ps sp) (hgd : X.A.guards = some []) (room : Room k X.A) (glob : Gl X x) (known : X.mg x = some (.ref f))
    (keep : PySem.W.keepIn X.K (.ref f) = true) (b : L2.Binds X.K fd ps []) (ha : PA X (e :: es) t)
    (hdb : (x == ("__debug__" : Str)) = false := by decide) (he : starEach (e :: es) X.env = (false, eval e X.env) :: starEach es X.env := by rfl)
    (hpl : (backTo pos (starEach es X.env)).any (·.1) = false := by rfl) : PE X (.Call (.Name x p) (e :: es) [] pos) (tCall sp [] E0 t) := by
  constructor
  intro pins s σ H Q I h
  refine wpAny_Call_Name_kw (ld_glob I glob known ?_ hdb)
  refine PySem.W.callWith_K (h₀ := X.base) I.ok.mod.kin keep (thn (ha.run pos pins s σ H _ I h) fun us s1 hh => ?_) he hpl
  obtain ⟨vs, H1, I1, r, q⟩ := hh
  refine ⟨I1.kIn, ?_⟩
  have q : sp (vs ++ []) H1 Q E0 := q
  rw [List.append_nil] at q
  have hl : us.length = ps.length := by rw [← r.length]; exact F.len _ _ _ _ q
  refine wpAny_call (codeAny_mono (F.run X.A X.stack s1 H1 ⟨us, []⟩ us vs Q E0 hgd room I1.env0 (by
    have := b s1 us I1.kIn (by simpa using hl)
    simpa using this) r q) fun r s' hq => ?_)
  cases r with
  | error e => exact False.elim hq
  | ok fl =>
    cases fl with
    | ret u => exact I1.after hq
    | next => exact False.elim hq
    | brk => exact False.elim hq
    | cont => exact False.elim hq
end

/-! ### the law's call from above, for such a def -/
section
variable {P : Program} {w : World} {K : PySem.W.Frag} {mg mb : Str → Option Value} {k : Nat} {fa a : Addr} {fd : FuncData} {x : Str} {sp : Sp} {s1 : Shared} {vs : List Value} {ns : List Int}
abbrev Fin1 (s1 : Shared) (r : Result) (s' : Shared) : Prop := r = .ok (.ret (.bool true)) ∧ PySem.OldK s1.heap s'.heap ∧ s'.os = s1.os ∧ AllBare s'.gens
theorem callG_core (KX : K.In s1.heap) (nsg : s1.heap.Ns mainGlobals mg) (nsb : s1.heap.Ns builtinsNs mb) (boot : ∀ x : Str, x ≠ "__name__" → mb x = bootBuiltins x)
    (lim : s1.heap.NoLimit) (noGens : s1.gens = #[]) (obj : s1.heap.get? a = some { cls := .type "list", data := .seq vs.toArray }) (room : Room k callerA)
    (F : ∀ base : Heap, K.In base → base.Ns mainGlobals mg → FnOkG P w K mg base k fa fd [x] sp) (bind : ∀ (s : Shared) (u : Value), BindsTo s fd ⟨[u], []⟩ [(x, u)])
    (H : Hp) (only : Only H) (hsp : sp [.ref a] H (fun v _ => v = .bl true) fun _ _ _ => False) (ok : HOk P w H s1.heap) (onlyA : ∀ b, H b ≠ none → b = a) (outK : H a ≠ none → K.lookup a = none) :
    codeAny (model P w) callerA (.call (.ref fa) ⟨[.ref a], []⟩) (Fin1 s1) s1 := by
  have keepsB : ∀ {b : Addr} {o : Obj}, s1.heap.get? b = some o → H b = none → (hidT s1.heap H).get? b = some o := fun e n => hidT_get e n
  have isA : ∀ {b : Addr} {u : HO}, H b = some u → b = a := fun {b u} q => onlyA b (by rw [q]; simp)
  have dictNo : ∀ {b : Addr} {o : Obj} {es : Array DictEntry} {ep : Nat}, s1.heap.get? b = some o → o.data = .dict es ep → H b = none := by
    intro b o es ep e d
    cases q : H b with
    | none => rfl
    | some u =>
      have z := isA q
      subst z
      rw [obj] at e
      cases e
      exact absurd (show Data.seq vs.toArray _ = Data.dict es ep from d) (by intro y; cases y)
  have nsK : ∀ {b : Addr} {m : Str → Option Value}, s1.heap.Ns b m → (hidT s1.heap H).Ns b m := by
    rintro b m ⟨o, es, ep, e, d, r⟩
    exact ⟨o, es, ep, keepsB e (dictNo e d), d, r⟩
  have inB : K.In (hidT s1.heap H) := by
    intro b o e
    refine keepsB (KX b o e) ?_
    cases q : H b with
    | none => rfl
    | some u =>
      have z := isA q
      subst z
      rw [outK (by rw [q]; simp)] at e
      cases e
  have md : Mod K mg (hidT s1.heap H) := by
    obtain ⟨mc, h1, h2⟩ := lim
    exact ⟨inB, nsK nsg, ⟨mb, nsK nsb, boot⟩, ⟨mc, nsK h1, h2⟩⟩
  have e0 : Env0 P w K mg (hidT s1.heap H) callerA [] s1 H := by
    refine ⟨rfl, md, fun b o e => of_hidT e, Nat.le_of_eq (hidT_size _ _), trivial, ?_, ok, .of_eq noGens⟩
    intro b hb
    exact absurd (show b ∈ ([] : List Addr) from hb) (by simp)
  refine codeAny_mono ((F _ inB (nsK nsg)).run callerA [] s1 H ⟨[.ref a], []⟩ [.ref a] [.ref a] _ _ rfl room e0 (bind s1 (.ref a)) (.cons rfl .nil) hsp) ?_
  intro r s' h
  cases r with
  | error e => exact False.elim h
  | ok fl =>
    cases fl with
    | next => exact False.elim h
    | brk => exact False.elim h
    | cont => exact False.elim h
    | ret u =>
      obtain ⟨v, H', os, bare, un, ok', rv, q⟩ := h
      have q : v = .bl true := q
      subst q
      have ru : u = Value.bool true := rv
      subst ru
      refine ⟨rfl, PySem.OldK.of_keep (fun b o e => ?_), os, bare⟩
      cases q : H b with
      | none => exact un.keep b o e q (fun z => absurd (show b ∈ ([] : List Addr) from z) (by simp)) (by simp)
      | some u =>
        rcases only b with z | ⟨ob, xs, z⟩
        · rw [q] at z
          cases z
        · obtain ⟨e1, _⟩ := ok b _ z
          obtain ⟨e2, _⟩ := ok' b _ (un.frzs b ob _ z)
          rw [e] at e1
          cases e1
          exact e2
theorem callG (KX : K.In s1.heap) (nsg : s1.heap.Ns mainGlobals mg) (nsb : s1.heap.Ns builtinsNs mb) (boot : ∀ x : Str, x ≠ "__name__" → mb x = bootBuiltins x)
    (lim : s1.heap.NoLimit) (noGens : s1.gens = #[]) (obj : s1.heap.get? a = some { cls := .type "list", data := .seq vs.toArray }) (hi : IntsAre vs ns) (hl : ns.length ≤ sizeLine) (room : Room k callerA)
    (F : ∀ base : Heap, K.In base → base.Ns mainGlobals mg → FnOkG P w K mg base k fa fd [x] sp) (bind : ∀ (s : Shared) (u : Value), BindsTo s fd ⟨[u], []⟩ [(x, u)])
    (hsp : ∀ H : Hp, Only H → SqL K H a (ns.map V.int) → sp [.ref a] H (fun v _ => v = .bl true) fun _ _ _ => False) :
    codeAny (model P w) callerA (.call (.ref fa) ⟨[.ref a], []⟩) (Fin1 s1) s1 := by
  have rv := vals_ints hi
  have lenV := hi.length
  cases hk : K.lookup a with
  | some o =>
    have e := KX a o hk
    rw [obj] at e
    cases e
    have only : Only (fun _ => none) := fun _ => .inl rfl
    refine callG_core KX nsg nsb boot lim noGens obj room F bind (fun _ => none) only (hsp _ only ?_) (fun b u z => ?_) (fun b z => absurd rfl z) (fun z => absurd rfl z)
    · exact .inr ⟨_, vs.toArray, _, hk, rfl, rfl, rfl, by rw [List.size_toArray, lenV]; exact hl, by simpa using rv⟩
    · have z : (none : Option HO) = some u := z
      cases z
  | none =>
    have only : Only (fun b => if b = a then some (.frz { cls := .type "list", data := .seq vs.toArray } (.lst (ns.map V.int))) else none) := by
      intro b
      by_cases hb : b = a
      · exact .inr ⟨_, _, if_pos hb⟩
      · exact .inl (if_neg hb)
    refine callG_core KX nsg nsb boot lim noGens obj room F bind _ only (hsp _ only ?_) (fun b u z => ?_) (fun b z => ?_) (fun _ => hk)
    · exact .inl (.inr ⟨{ cls := .type "list", data := .seq vs.toArray }, if_pos rfl⟩)
    · by_cases hb : b = a
      · have z' := (if_pos hb).symm.trans z
        cases z'
        subst hb
        exact ⟨obj, by rw [List.length_map]; exact hl, vs, _, rv, obj⟩
      · have z' := (if_neg hb).symm.trans z
        cases z'
    · by_cases hb : b = a
      · exact hb
      · exact absurd (if_neg hb) z
theorem walkG {l : PySem.W.OpenLaw} {n k : Nat} {q : Program} {loose : List Str} {XP : (Str → Option Value) → Heap → Prop} {YP : World → Heap → Prop} {d : DefRec} {K : Params → PySem.W.Frag} {sp : PySem.W.Frag → Sp} {x : Str}
    (hn : l.most = some n) (hn2 : n ≤ sizeLine) (hdf : d.params.defaults = []) (room : Room k callerA) (hY : ∀ (w : World) (h : Heap), YP w h → (K w.params).In h)
    (F : ∀ (w : World) (mg : Str → Option Value) (fa : Addr) (h : Heap), (K w.params).In h → h.Ns mainGlobals mg → mg d.name = some (.ref fa) →
      ∃ fd : FuncData, (∀ (s : Shared) (u : Value), BindsTo s fd ⟨[u], []⟩ [(x, u)]) ∧
        ∀ base : Heap, (K w.params).In base → base.Ns mainGlobals mg → FnOkG l.prog w (K w.params) mg base k fa fd [x] (sp (K w.params)))
    (hsp : ∀ (K : PySem.W.Frag) (H : Hp) (a : Addr) (ns : List Int), ns.length ≤ n → Only H → SqL K H a (ns.map V.int) → sp K [.ref a] H (fun v _ => v = .bl true) fun _ _ _ => False) :
    PySem.W.WalkO q loose XP YP l.row.toRowW d [] (fun f vs => PySem.call f vs) := by
  refine Att.attach_call hn hdf (fun w s0 s1 mg mb fa o pm cd doc a vs ns G Y ho hd hcd hmg hobj hints hlen hg => ?_)
  have KX := hY w _ Y
  obtain ⟨fd, hb, hF⟩ := F w mg fa _ KX G.T.g hmg
  exact callG KX G.T.g G.T.b G.T.builtins G.T.nolimit hg hobj hints (Nat.le_trans hlen hn2) room hF hb (fun H hO hS => hsp (K w.params) H a ns hlen hO hS)
end
end Rw

set_option Elab.async false
set_option linter.all false
set_option maxRecDepth 100000
set_option maxHeartbeats 4000000
namespace K6
open PySem PySem.Spec PyProof.Rows L2 Rw
/-! ### the text by places, the names of each def -/
def topS (i : Nat) : Stmt := PySem.Challenge.pw_rowreaders_k06_whole_counts_and_lists.main.body.getD i (.Pass ⟨0, 0, 0, 0⟩)

abbrev s_is_integer : Stmt := topS 15
abbrev n_is_integer : List Str := ["value"]
abbrev p_is_integer : List Str := ["value"]
theorem sc_is_integer : FnScope n_is_integer p_is_integer (defScope s_is_integer) := ⟨rfl, rfl, rfl, by decide +kernel, rfl, by decide +kernel, by decide +kernel⟩
abbrev s_is_between : Stmt := topS 16
abbrev n_is_between : List Str := ["value", "low", "high"]
abbrev p_is_between : List Str := ["value", "low", "high"]
theorem sc_is_between : FnScope n_is_between p_is_between (defScope s_is_between) := ⟨rfl, rfl, rfl, by decide +kernel, rfl, by decide +kernel, by decide +kernel⟩
abbrev s_is_ascending : Stmt := topS 17
abbrev n_is_ascending : List Str := ["values", "at"]
abbrev p_is_ascending : List Str := ["values"]
theorem sc_is_ascending : FnScope n_is_ascending p_is_ascending (defScope s_is_ascending) := ⟨rfl, rfl, rfl, by decide +kernel, rfl, by decide +kernel, by decide +kernel⟩
abbrev s_is_stands : Stmt := topS 18
abbrev n_is_stands : List Str := ["value", "size", "stand"]
abbrev p_is_stands : List Str := ["value", "size"]
theorem sc_is_stands : FnScope n_is_stands p_is_stands (defScope s_is_stands) := ⟨rfl, rfl, rfl, by decide +kernel, rfl, by decide +kernel, by decide +kernel⟩
abbrev s_is_arrows : Stmt := topS 19
abbrev n_is_arrows : List Str := ["value", "signs", "goals"]
abbrev p_is_arrows : List Str := ["value", "signs"]
theorem sc_is_arrows : FnScope n_is_arrows p_is_arrows (defScope s_is_arrows) := ⟨rfl, rfl, rfl, by decide +kernel, rfl, by decide +kernel, by decide +kernel⟩
abbrev s_is_goals : Stmt := topS 20
abbrev n_is_goals : List Str := ["value", "signs", "size", "goal"]
abbrev p_is_goals : List Str := ["value", "signs", "size"]
theorem sc_is_goals : FnScope n_is_goals p_is_goals (defScope s_is_goals) := ⟨rfl, rfl, rfl, by decide +kernel, rfl, by decide +kernel, by decide +kernel⟩
abbrev s_check_signs : Stmt := topS 21
abbrev n_check_signs : List Str := ["signs"]
abbrev p_check_signs : List Str := ["signs"]
theorem sc_check_signs : FnScope n_check_signs p_check_signs (defScope s_check_signs) := ⟨rfl, rfl, rfl, by decide +kernel, rfl, by decide +kernel, by decide +kernel⟩
abbrev s_check_length : Stmt := topS 22
abbrev n_check_length : List Str := ["length"]
abbrev p_check_length : List Str := ["length"]
theorem sc_check_length : FnScope n_check_length p_check_length (defScope s_check_length) := ⟨rfl, rfl, rfl, by decide +kernel, rfl, by decide +kernel, by decide +kernel⟩
abbrev s_flags_of : Stmt := topS 24
abbrev n_flags_of : List Str := ["size", "stands", "flags", "stand"]
abbrev p_flags_of : List Str := ["size", "stands"]
theorem sc_flags_of : FnScope n_flags_of p_flags_of (defScope s_flags_of) := ⟨rfl, rfl, rfl, by decide +kernel, rfl, by decide +kernel, by decide +kernel⟩
abbrev s_links_of : Stmt := topS 25
abbrev n_links_of : List Str := ["arrows", "goals", "goal"]
abbrev p_links_of : List Str := ["arrows"]
theorem sc_links_of : FnScope n_links_of p_links_of (defScope s_links_of) := ⟨rfl, rfl, rfl, by decide +kernel, rfl, by decide +kernel, by decide +kernel⟩
abbrev s_Reader_init : Stmt := inClass (topS 27) 0
abbrev n_Reader_init : List Str := ["self", "signs", "arrows", "ends"]
abbrev p_Reader_init : List Str := ["self", "signs", "arrows", "ends"]
theorem sc_Reader_init : FnScope n_Reader_init p_Reader_init (defScope s_Reader_init) := ⟨rfl, rfl, rfl, by decide +kernel, rfl, by decide +kernel, by decide +kernel⟩
abbrev s_Reader_signs : Stmt := inClass (topS 27) 1
abbrev n_Reader_signs : List Str := ["self"]
abbrev p_Reader_signs : List Str := ["self"]
theorem sc_Reader_signs : FnScope n_Reader_signs p_Reader_signs (defScope s_Reader_signs) := ⟨rfl, rfl, rfl, by decide +kernel, rfl, by decide +kernel, by decide +kernel⟩
abbrev s_Reader_arrows : Stmt := inClass (topS 27) 2
abbrev n_Reader_arrows : List Str := ["self"]
abbrev p_Reader_arrows : List Str := ["self"]
theorem sc_Reader_arrows : FnScope n_Reader_arrows p_Reader_arrows (defScope s_Reader_arrows) := ⟨rfl, rfl, rfl, by decide +kernel, rfl, by decide +kernel, by decide +kernel⟩
abbrev s_Reader_ends : Stmt := inClass (topS 27) 3
abbrev n_Reader_ends : List Str := ["self"]
abbrev p_Reader_ends : List Str := ["self"]
theorem sc_Reader_ends : FnScope n_Reader_ends p_Reader_ends (defScope s_Reader_ends) := ⟨rfl, rfl, rfl, by decide +kernel, rfl, by decide +kernel, by decide +kernel⟩
abbrev s_Reader_len : Stmt := inClass (topS 27) 4
abbrev n_Reader_len : List Str := ["self"]
abbrev p_Reader_len : List Str := ["self"]
theorem sc_Reader_len : FnScope n_Reader_len p_Reader_len (defScope s_Reader_len) := ⟨rfl, rfl, rfl, by decide +kernel, rfl, by decide +kernel, by decide +kernel⟩
abbrev s_check_reader : Stmt := topS 28
abbrev n_check_reader : List Str := ["reader"]
abbrev p_check_reader : List Str := ["reader"]
theorem sc_check_reader : FnScope n_check_reader p_check_reader (defScope s_check_reader) := ⟨rfl, rfl, rfl, by decide +kernel, rfl, by decide +kernel, by decide +kernel⟩
abbrev s_end_flags : Stmt := topS 29
abbrev n_end_flags : List Str := ["reader"]
abbrev p_end_flags : List Str := ["reader"]
theorem sc_end_flags : FnScope n_end_flags p_end_flags (defScope s_end_flags) := ⟨rfl, rfl, rfl, by decide +kernel, rfl, by decide +kernel, by decide +kernel⟩
abbrev s_counts_up_to : Stmt := topS 31
abbrev n_counts_up_to : List Str := ["reader", "length", "links", "counts", "_", "last", "end", "goals", "goal"]
abbrev p_counts_up_to : List Str := ["reader", "length"]
theorem sc_counts_up_to : FnScope n_counts_up_to p_counts_up_to (defScope s_counts_up_to) := ⟨rfl, rfl, rfl, by decide +kernel, rfl, by decide +kernel, by decide +kernel⟩
abbrev s_count_of : Stmt := topS 32
abbrev n_count_of : List Str := ["reader", "length"]
abbrev p_count_of : List Str := ["reader", "length"]
theorem sc_count_of : FnScope n_count_of p_count_of (defScope s_count_of) := ⟨rfl, rfl, rfl, by decide +kernel, rfl, by decide +kernel, by decide +kernel⟩
abbrev s_rows_of : Stmt := topS 33
abbrev n_rows_of : List Str := ["reader", "length", "counts", "fronts", "left", "longer", "row", "stand", "sign", "goal", "_"]
abbrev p_rows_of : List Str := ["reader", "length"]
theorem sc_rows_of : FnScope n_rows_of p_rows_of (defScope s_rows_of) := ⟨rfl, rfl, rfl, by decide +kernel, rfl, by decide +kernel, by decide +kernel⟩
abbrev s_l_barrel : Stmt := topS 35
abbrev n_l_barrel : List Str := ["_law_script", "_law_turn", "_law_own", "_law_stir", "_law_cell", "_law_figures"]
abbrev p_l_barrel : List Str := ["_law_script", "_law_turn"]
theorem sc_l_barrel : FnScope n_l_barrel p_l_barrel (defScope s_l_barrel) := ⟨rfl, rfl, rfl, by decide +kernel, rfl, by decide +kernel, by decide +kernel⟩
abbrev s_l_dip : Stmt := topS 36
abbrev n_l_dip : List Str := ["_law_barrel_here", "_law_top", "_law_got"]
abbrev p_l_dip : List Str := ["_law_barrel_here", "_law_top"]
theorem sc_l_dip : FnScope n_l_dip p_l_dip (defScope s_l_dip) := ⟨rfl, rfl, rfl, by decide +kernel, rfl, by decide +kernel, by decide +kernel⟩
abbrev s_l_one_of : Stmt := topS 37
abbrev n_l_one_of : List Str := ["_law_barrel_here", "_law_menu"]
abbrev p_l_one_of : List Str := ["_law_barrel_here", "_law_menu"]
theorem sc_l_one_of : FnScope n_l_one_of p_l_one_of (defScope s_l_one_of) := ⟨rfl, rfl, rfl, by decide +kernel, rfl, by decide +kernel, by decide +kernel⟩
abbrev s_l_arrows_for : Stmt := topS 38
abbrev n_l_arrows_for : List Str := ["_law_barrel_here", "_law_width", "_law_stands", "_law_bare", "_law_table", "_law_k", "_law_drawn", "_law_j", "_law_two"]
abbrev p_l_arrows_for : List Str := ["_law_barrel_here", "_law_width", "_law_stands"]
theorem sc_l_arrows_for : FnScope n_l_arrows_for p_l_arrows_for (defScope s_l_arrows_for) := ⟨rfl, rfl, rfl, by decide +kernel, rfl, by decide +kernel, by decide +kernel⟩
abbrev s_l_ends_for : Stmt := topS 39
abbrev n_l_ends_for : List Str := ["_law_barrel_here", "_law_stands", "_law_often", "_law_drawn", "_law_k"]
abbrev p_l_ends_for : List Str := ["_law_barrel_here", "_law_stands"]
theorem sc_l_ends_for : FnScope n_l_ends_for p_l_ends_for (defScope s_l_ends_for) := ⟨rfl, rfl, rfl, by decide +kernel, rfl, by decide +kernel, by decide +kernel⟩
abbrev s_l_walk : Stmt := topS 40
abbrev n_l_walk : List Str := ["_law_table", "_law_spot", "_law_line", "_law_sign"]
abbrev p_l_walk : List Str := ["_law_table", "_law_spot", "_law_line"]
theorem sc_l_walk : FnScope n_l_walk p_l_walk (defScope s_l_walk) := ⟨rfl, rfl, rfl, by decide +kernel, rfl, by decide +kernel, by decide +kernel⟩
abbrev s_l_upto : Stmt := topS 41
abbrev n_l_upto : List Str := ["_law_width", "_law_deep", "_law_found", "_law_last", "_law_turn", "_law_longer", "_law_line", "_law_sign"]
abbrev p_l_upto : List Str := ["_law_width", "_law_deep"]
theorem sc_l_upto : FnScope n_l_upto p_l_upto (defScope s_l_upto) := ⟨rfl, rfl, rfl, by decide +kernel, rfl, by decide +kernel, by decide +kernel⟩
abbrev s_l_yes : Stmt := topS 42
abbrev n_l_yes : List Str := ["_law_table", "_law_shut", "_law_width", "_law_deep", "_law_line"]
abbrev p_l_yes : List Str := ["_law_table", "_law_shut", "_law_width", "_law_deep"]
theorem sc_l_yes : FnScope n_l_yes p_l_yes (defScope s_l_yes) := ⟨rfl, rfl, rfl, by decide +kernel, rfl, by decide +kernel, by decide +kernel⟩
abbrev s_l_added : Stmt := topS 43
abbrev n_l_added : List Str := ["_law_table", "_law_shut", "_law_deep", "_law_come", "_law_turn", "_law_later", "_law_k", "_law_goal"]
abbrev p_l_added : List Str := ["_law_table", "_law_shut", "_law_deep"]
theorem sc_l_added : FnScope n_l_added p_l_added (defScope s_l_added) := ⟨rfl, rfl, rfl, by decide +kernel, rfl, by decide +kernel, by decide +kernel⟩
abbrev s_l_right : Stmt := topS 44
abbrev n_l_right : List Str := ["_law_barrel_here", "_law_turn", "_law_width", "_law_stands", "_law_table", "_law_shut", "_law_mine", "_law_deep", "_law_good", "_law_k", "_law_due", "_law_told", "_law_far", "_law_line"]
abbrev p_l_right : List Str := ["_law_barrel_here"]
theorem sc_l_right : FnScope n_l_right p_l_right (defScope s_l_right) := ⟨rfl, rfl, rfl, by decide +kernel, rfl, by decide +kernel, by decide +kernel⟩
abbrev s_law : Stmt := topS 45
abbrev n_law : List Str := ["_law_script", "_law_turn"]
abbrev p_law : List Str := ["_law_script"]
theorem sc_law : FnScope n_law p_law (defScope s_law) := ⟨rfl, rfl, rfl, by decide +kernel, rfl, by decide +kernel, by decide +kernel⟩
/-! ### where the defs stand -/
structure Ad where
  is_integer : Addr
  is_between : Addr
  is_ascending : Addr
  is_stands : Addr
  is_arrows : Addr
  is_goals : Addr
  check_signs : Addr
  check_length : Addr
  flags_of : Addr
  links_of : Addr
  Reader_init : Addr
  Reader_signs : Addr
  Reader_arrows : Addr
  Reader_ends : Addr
  Reader_len : Addr
  check_reader : Addr
  end_flags : Addr
  counts_up_to : Addr
  count_of : Addr
  rows_of : Addr
  l_barrel : Addr
  l_dip : Addr
  l_one_of : Addr
  l_arrows_for : Addr
  l_ends_for : Addr
  l_walk : Addr
  l_upto : Addr
  l_yes : Addr
  l_added : Addr
  l_right : Addr
  law : Addr
  C : Addr
  pr_signs : Addr
  pr_arrows : Addr
  pr_ends : Addr
structure Txt (K : PySem.W.Frag) (mg : Str → Option Value) (A : Ad) : Prop where
  b_abs : mg "abs" = none
  b_all : mg "all" = none
  b_bool : mg "bool" = none
  b_divmod : mg "divmod" = none
  b_int : mg "int" = none
  b_isinstance : mg "isinstance" = none
  b_len : mg "len" = none
  b_max : mg "max" = none
  b_min : mg "min" = none
  b_range : mg "range" = none
  b_repr : mg "repr" = none
  b_sum : mg "sum" = none
  b_tuple : mg "tuple" = none
  c_ALPHABET : ∃ t, mg "ALPHABET" = some (.str "abcdefgh" t)
  c_MOST_LISTED : ∃ t, mg "MOST_LISTED" = some (.int 1000 t)
  c_MOST_ROW : ∃ t, mg "MOST_ROW" = some (.int 200 t)
  c_MOST_SIGNS : ∃ t, mg "MOST_SIGNS" = some (.int 8 t)
  c_MOST_STANDS : ∃ t, mg "MOST_STANDS" = some (.int 200 t)
  m_is_integer : mg "is_integer" = some (.ref A.is_integer)
  k_is_integer : PySem.W.keepIn K (.ref A.is_integer) = true
  m_is_between : mg "is_between" = some (.ref A.is_between)
  k_is_between : PySem.W.keepIn K (.ref A.is_between) = true
  m_is_ascending : mg "is_ascending" = some (.ref A.is_ascending)
  k_is_ascending : PySem.W.keepIn K (.ref A.is_ascending) = true
  m_is_stands : mg "is_stands" = some (.ref A.is_stands)
  k_is_stands : PySem.W.keepIn K (.ref A.is_stands) = true
  m_is_arrows : mg "is_arrows" = some (.ref A.is_arrows)
  k_is_arrows : PySem.W.keepIn K (.ref A.is_arrows) = true
  m_is_goals : mg "is_goals" = some (.ref A.is_goals)
  k_is_goals : PySem.W.keepIn K (.ref A.is_goals) = true
  m_check_signs : mg "check_signs" = some (.ref A.check_signs)
  k_check_signs : PySem.W.keepIn K (.ref A.check_signs) = true
  m_check_length : mg "check_length" = some (.ref A.check_length)
  k_check_length : PySem.W.keepIn K (.ref A.check_length) = true
  m_flags_of : mg "flags_of" = some (.ref A.flags_of)
  k_flags_of : PySem.W.keepIn K (.ref A.flags_of) = true
  m_links_of : mg "links_of" = some (.ref A.links_of)
  k_links_of : PySem.W.keepIn K (.ref A.links_of) = true
  m_check_reader : mg "check_reader" = some (.ref A.check_reader)
  k_check_reader : PySem.W.keepIn K (.ref A.check_reader) = true
  m_end_flags : mg "end_flags" = some (.ref A.end_flags)
  k_end_flags : PySem.W.keepIn K (.ref A.end_flags) = true
  m_counts_up_to : mg "counts_up_to" = some (.ref A.counts_up_to)
  k_counts_up_to : PySem.W.keepIn K (.ref A.counts_up_to) = true
  m_count_of : mg "count_of" = some (.ref A.count_of)
  k_count_of : PySem.W.keepIn K (.ref A.count_of) = true
  m_rows_of : mg "rows_of" = some (.ref A.rows_of)
  k_rows_of : PySem.W.keepIn K (.ref A.rows_of) = true
  m_l_barrel : mg "_law_barrel" = some (.ref A.l_barrel)
  k_l_barrel : PySem.W.keepIn K (.ref A.l_barrel) = true
  m_l_dip : mg "_law_dip" = some (.ref A.l_dip)
  k_l_dip : PySem.W.keepIn K (.ref A.l_dip) = true
  m_l_one_of : mg "_law_one_of" = some (.ref A.l_one_of)
  k_l_one_of : PySem.W.keepIn K (.ref A.l_one_of) = true
  m_l_arrows_for : mg "_law_arrows_for" = some (.ref A.l_arrows_for)
  k_l_arrows_for : PySem.W.keepIn K (.ref A.l_arrows_for) = true
  m_l_ends_for : mg "_law_ends_for" = some (.ref A.l_ends_for)
  k_l_ends_for : PySem.W.keepIn K (.ref A.l_ends_for) = true
  m_l_walk : mg "_law_walk" = some (.ref A.l_walk)
  k_l_walk : PySem.W.keepIn K (.ref A.l_walk) = true
  m_l_upto : mg "_law_upto" = some (.ref A.l_upto)
  k_l_upto : PySem.W.keepIn K (.ref A.l_upto) = true
  m_l_yes : mg "_law_yes" = some (.ref A.l_yes)
  k_l_yes : PySem.W.keepIn K (.ref A.l_yes) = true
  m_l_added : mg "_law_added" = some (.ref A.l_added)
  k_l_added : PySem.W.keepIn K (.ref A.l_added) = true
  m_l_right : mg "_law_right" = some (.ref A.l_right)
  k_l_right : PySem.W.keepIn K (.ref A.l_right) = true
  m_law : mg "law" = some (.ref A.law)
  k_law : PySem.W.keepIn K (.ref A.law) = true
  m_Reader : mg "Reader" = some (.ref A.C)
  cl : Cls K A.C
  mk_Reader : Mk K A.C A.Reader_init
  na_signs : NoAttr K A.C "_signs"
  na_arrows : NoAttr K A.C "_arrows"
  na_ends : NoAttr K A.C "_ends"
  p_Reader_signs : PropOf K A.C "signs" A.pr_signs A.Reader_signs
  p_Reader_arrows : PropOf K A.C "arrows" A.pr_arrows A.Reader_arrows
  p_Reader_ends : PropOf K A.C "ends" A.pr_ends A.Reader_ends
  own_len : PySem.W.findIn K (.ref A.C) "__len__" = some (some (.ref A.Reader_len))
  isf_len : PySem.W.isFn K (.ref A.Reader_len) = true
  t_ha : PySem.W.findIn K (.ref A.C) "__class__" = some (some (.builtin "object.__class__"))
  t_hn : PySem.W.specialIn K (.builtin "object.__class__") "__get__" = some (some (.builtin "getset_descriptor.__get__"))
  t_tk : PySem.W.takesIn K (.builtin "object.__class__") = some true
  t_mo : PySem.W.mroIn K A.C (.type "object") = some true
/-! ### the defs themselves -/
structure Fds where
  is_integer : FuncData
  is_between : FuncData
  is_ascending : FuncData
  is_stands : FuncData
  is_arrows : FuncData
  is_goals : FuncData
  check_signs : FuncData
  check_length : FuncData
  flags_of : FuncData
  links_of : FuncData
  Reader_init : FuncData
  Reader_signs : FuncData
  Reader_arrows : FuncData
  Reader_ends : FuncData
  Reader_len : FuncData
  check_reader : FuncData
  end_flags : FuncData
  counts_up_to : FuncData
  count_of : FuncData
  rows_of : FuncData
  l_barrel : FuncData
  l_dip : FuncData
  l_one_of : FuncData
  l_arrows_for : FuncData
  l_ends_for : FuncData
  l_walk : FuncData
  l_upto : FuncData
  l_yes : FuncData
  l_added : FuncData
  l_right : FuncData
  law : FuncData
structure Funs (K : PySem.W.Frag) (A : Ad) (fd : Fds) : Prop where
  F_is_integer : Fun K "is_integer" "is_integer" s_is_integer A.is_integer fd.is_integer
  b_is_integer : L2.Binds K fd.is_integer p_is_integer []
  F_is_between : Fun K "is_between" "is_between" s_is_between A.is_between fd.is_between
  b_is_between : L2.Binds K fd.is_between p_is_between []
  F_is_ascending : Fun K "is_ascending" "is_ascending" s_is_ascending A.is_ascending fd.is_ascending
  b_is_ascending : L2.Binds K fd.is_ascending p_is_ascending []
  F_is_stands : Fun K "is_stands" "is_stands" s_is_stands A.is_stands fd.is_stands
  b_is_stands : L2.Binds K fd.is_stands p_is_stands []
  F_is_arrows : Fun K "is_arrows" "is_arrows" s_is_arrows A.is_arrows fd.is_arrows
  b_is_arrows : L2.Binds K fd.is_arrows p_is_arrows []
  F_is_goals : Fun K "is_goals" "is_goals" s_is_goals A.is_goals fd.is_goals
  b_is_goals : L2.Binds K fd.is_goals p_is_goals []
  F_check_signs : Fun K "check_signs" "check_signs" s_check_signs A.check_signs fd.check_signs
  b_check_signs : L2.Binds K fd.check_signs p_check_signs []
  F_check_length : Fun K "check_length" "check_length" s_check_length A.check_length fd.check_length
  b_check_length : L2.Binds K fd.check_length p_check_length []
  F_flags_of : Fun K "flags_of" "flags_of" s_flags_of A.flags_of fd.flags_of
  b_flags_of : L2.Binds K fd.flags_of p_flags_of []
  F_links_of : Fun K "links_of" "links_of" s_links_of A.links_of fd.links_of
  b_links_of : L2.Binds K fd.links_of p_links_of []
  F_Reader_init : Fun K "__init__" "Reader.__init__" s_Reader_init A.Reader_init fd.Reader_init
  b_Reader_init : L2.Binds K fd.Reader_init p_Reader_init []
  F_Reader_signs : Fun K "signs" "Reader.signs" s_Reader_signs A.Reader_signs fd.Reader_signs
  b_Reader_signs : L2.Binds K fd.Reader_signs p_Reader_signs []
  F_Reader_arrows : Fun K "arrows" "Reader.arrows" s_Reader_arrows A.Reader_arrows fd.Reader_arrows
  b_Reader_arrows : L2.Binds K fd.Reader_arrows p_Reader_arrows []
  F_Reader_ends : Fun K "ends" "Reader.ends" s_Reader_ends A.Reader_ends fd.Reader_ends
  b_Reader_ends : L2.Binds K fd.Reader_ends p_Reader_ends []
  F_Reader_len : Fun K "__len__" "Reader.__len__" s_Reader_len A.Reader_len fd.Reader_len
  b_Reader_len : L2.Binds K fd.Reader_len p_Reader_len []
  F_check_reader : Fun K "check_reader" "check_reader" s_check_reader A.check_reader fd.check_reader
  b_check_reader : L2.Binds K fd.check_reader p_check_reader []
  F_end_flags : Fun K "end_flags" "end_flags" s_end_flags A.end_flags fd.end_flags
  b_end_flags : L2.Binds K fd.end_flags p_end_flags []
  F_counts_up_to : Fun K "counts_up_to" "counts_up_to" s_counts_up_to A.counts_up_to fd.counts_up_to
  b_counts_up_to : L2.Binds K fd.counts_up_to p_counts_up_to []
  F_count_of : Fun K "count_of" "count_of" s_count_of A.count_of fd.count_of
  b_count_of : L2.Binds K fd.count_of p_count_of []
  F_rows_of : Fun K "rows_of" "rows_of" s_rows_of A.rows_of fd.rows_of
  b_rows_of : L2.Binds K fd.rows_of p_rows_of []
  F_l_barrel : Fun K "_law_barrel" "_law_barrel" s_l_barrel A.l_barrel fd.l_barrel
  b_l_barrel : L2.Binds K fd.l_barrel p_l_barrel []
  F_l_dip : Fun K "_law_dip" "_law_dip" s_l_dip A.l_dip fd.l_dip
  b_l_dip : L2.Binds K fd.l_dip p_l_dip []
  F_l_one_of : Fun K "_law_one_of" "_law_one_of" s_l_one_of A.l_one_of fd.l_one_of
  b_l_one_of : L2.Binds K fd.l_one_of p_l_one_of []
  F_l_arrows_for : Fun K "_law_arrows_for" "_law_arrows_for" s_l_arrows_for A.l_arrows_for fd.l_arrows_for
  b_l_arrows_for : L2.Binds K fd.l_arrows_for p_l_arrows_for []
  F_l_ends_for : Fun K "_law_ends_for" "_law_ends_for" s_l_ends_for A.l_ends_for fd.l_ends_for
  b_l_ends_for : L2.Binds K fd.l_ends_for p_l_ends_for []
  F_l_walk : Fun K "_law_walk" "_law_walk" s_l_walk A.l_walk fd.l_walk
  b_l_walk : L2.Binds K fd.l_walk p_l_walk []
  F_l_upto : Fun K "_law_upto" "_law_upto" s_l_upto A.l_upto fd.l_upto
  b_l_upto : L2.Binds K fd.l_upto p_l_upto []
  F_l_yes : Fun K "_law_yes" "_law_yes" s_l_yes A.l_yes fd.l_yes
  b_l_yes : L2.Binds K fd.l_yes p_l_yes []
  F_l_added : Fun K "_law_added" "_law_added" s_l_added A.l_added fd.l_added
  b_l_added : L2.Binds K fd.l_added p_l_added []
  F_l_right : Fun K "_law_right" "_law_right" s_l_right A.l_right fd.l_right
  b_l_right : L2.Binds K fd.l_right p_l_right []
  F_law : Fun K "law" "law" s_law A.law fd.law
  b_law : L2.Binds K fd.law p_law []
end K6

set_option Elab.async false
set_option linter.all false
set_option maxRecDepth 100000
set_option maxHeartbeats 4000000
namespace K6
open PySem PySem.Spec PyProof.Rows L2 Rw
/-! ### data that stands in the heap -/
section
variable {K : PySem.W.Frag} {H H' H1 : Hp}
theorem sqL_mono (s : Same H H') {a : Addr} {xs : List V} (h : SqL K H a xs) : SqL K H' a xs := s.seq h
theorem sqT_mono (s : Same H H') {a : Addr} {xs : List V} (h : SqT K H a xs) : SqT K H' a xs := by
  rcases h with (h | ⟨o, h⟩) | h
  · exact .inl (.inl (s _ _ h))
  · exact .inl (.inr ⟨o, s _ _ h⟩)
  · exact .inr h
mutual
theorem dp_mono (s : Same H H') : ∀ (d : PyData) (v : V), Dp K H v d → Dp K H' v d
  | .none, _, h => by cases h; exact .non
  | .bool b, _, h => by cases h; exact .bl b
  | .int i, _, h => by cases h; exact .int i
  | .str x, _, h => by cases h; exact .str x
  | .list ds, _, h => by
    cases h with
    | lst a b => exact .lst (sqL_mono s a) (dps_mono s ds _ b)
  | .tuple ds, _, h => by
    cases h with
    | tup a b => exact .tup (sqT_mono s a) (dps_mono s ds _ b)
  | .dict _, _, h => by cases h
theorem dps_mono (s : Same H H') : ∀ (ds : List PyData) (vs : List V), DpAll K H vs ds → DpAll K H' vs ds
  | [], _, h => by cases h; exact .nil
  | d :: ds, _, h => by
    cases h with
    | cons a b => exact .cons (dp_mono s d _ a) (dps_mono s ds _ b)
end
theorem dps_len : ∀ {vs : List V} {ds : List PyData}, DpAll K H vs ds → vs.length = ds.length
  | _, _, .nil => rfl
  | _, _, .cons _ b => by
    show _ + 1 = _ + 1
    rw [dps_len b]
theorem dps_get : ∀ {vs : List V} {ds : List PyData} {i : Nat} {d : PyData}, DpAll K H vs ds → ds[i]? = some d → ∃ v, vs[i]? = some v ∧ Dp K H v d
  | _, _, _, _, .nil, h => by simp at h
  | _, _, 0, _, .cons a b, h => by
    have e := Option.some.inj h
    subst e
    exact ⟨_, rfl, a⟩
  | _, _, i + 1, _, .cons a b, h => dps_get (i := i) b h
theorem dps_getV : ∀ {vs : List V} {ds : List PyData} {i : Nat} {v : V}, DpAll K H vs ds → vs[i]? = some v → ∃ d, ds[i]? = some d ∧ Dp K H v d
  | _, _, _, _, .nil, h => by simp at h
  | _, _, 0, _, .cons a b, h => by
    have e := Option.some.inj h
    subst e
    exact ⟨_, rfl, a⟩
  | _, _, i + 1, _, .cons a b, h => dps_getV (i := i) b h
theorem dps_snoc : ∀ {vs : List V} {ds : List PyData} {v : V} {d : PyData}, DpAll K H vs ds → Dp K H v d → DpAll K H (vs ++ [v]) (ds ++ [d])
  | _, _, _, _, .nil, h => .cons h .nil
  | _, _, _, _, .cons a b, h => .cons a (dps_snoc b h)
theorem dps_app : ∀ {vs us : List V} {ds es : List PyData}, DpAll K H vs ds → DpAll K H us es → DpAll K H (vs ++ us) (ds ++ es)
  | _, _, _, _, .nil, h => h
  | _, _, _, _, .cons a b, h => .cons a (dps_app b h)
theorem dps_ints : ∀ {vs : List V} {ns : List Int}, DpAll K H vs (ns.map PyData.int) → vs = ns.map V.int
  | _, [], h => by cases h; rfl
  | _, n :: ns, h => by
    cases h with
    | cons a b =>
      cases a
      rw [dps_ints b]
      rfl
theorem ints_dps : ∀ (ns : List Int), DpAll K H (ns.map V.int) (ns.map PyData.int)
  | [] => .nil
  | n :: ns => .cons (.int n) (ints_dps ns)
theorem dps_strs : ∀ {vs : List V} {ns : List Str}, DpAll K H vs (ns.map PyData.str) → vs = ns.map V.str
  | _, [], h => by cases h; rfl
  | _, n :: ns, h => by
    cases h with
    | cons a b =>
      cases a
      rw [dps_strs b]
      rfl
theorem strs_dps : ∀ (ns : List Str), DpAll K H (ns.map V.str) (ns.map PyData.str)
  | [] => .nil
  | n :: ns => .cons (.str n) (strs_dps ns)
def vO : Option Nat → V
  | none => .non
  | some n => .int (n : Int)
def dO : Option Nat → PyData
  | none => .none
  | some n => .int (n : Int)
theorem dps_opts : ∀ {vs : List V} {ns : List (Option Nat)}, DpAll K H vs (ns.map dO) → vs = ns.map vO
  | _, [], h => by cases h; rfl
  | _, none :: ns, h => by
    cases h with
    | cons a b =>
      cases a
      rw [dps_opts b]
      rfl
  | _, some n :: ns, h => by
    cases h with
    | cons a b =>
      cases a
      rw [dps_opts b]
      rfl
theorem opts_dps : ∀ (ns : List (Option Nat)), DpAll K H (ns.map vO) (ns.map dO)
  | [] => .nil
  | none :: ns => .cons .non (opts_dps ns)
  | some n :: ns => .cons (.int n) (opts_dps ns)
theorem dp_tup {v : V} {ds : List PyData} (h : Dp K H v (.tuple ds)) : ∃ a xs, v = .ref a ∧ SqT K H a xs ∧ DpAll K H xs ds := by
  cases h with
  | tup a b => exact ⟨_, _, rfl, a, b⟩
theorem dp_lst {v : V} {ds : List PyData} (h : Dp K H v (.list ds)) : ∃ a xs, v = .ref a ∧ SqL K H a xs ∧ DpAll K H xs ds := by
  cases h with
  | lst a b => exact ⟨_, _, rfl, a, b⟩
/-! ### heaps -/
theorem same_upd {p : Addr} {o : HO} (h : H p = none) : Same H (upd H p o) := fun b x e => by
  rw [upd_ne (ne_of_none e h)]
  exact e
/-- a new object, changed later -/
theorem same_put {p : Addr} {o : HO} (s : Same H H1) (h : H p = none) : Same H (upd H1 p o) := fun b x e => by
  rw [upd_ne (ne_of_none e h)]
  exact s b x e
theorem lst_of {p : Addr} {xs : List V} (h : H p = some (.lst xs)) : SqL K H p xs := .inl (.inl h)
theorem tup_of {p : Addr} {xs : List V} (h : H p = some (.tup xs)) : SqT K H p xs := .inl (.inl h)
theorem szl {n : Nat} (h : n ≤ 100000) : n ≤ sizeLine := Nat.le_trans h (by decide)
theorem szt {n : Nat} (h : n < 100000) : n < sizeLine := Nat.lt_of_lt_of_le h (by decide)
/-- the heap without one object -/
def del (b : Addr) (H : Hp) : Hp := fun x => if x = b then none else H x
theorem del_same (b : Addr) : Same (del b H) H := fun x o e => by
  unfold del at e
  by_cases h : x = b
  · rw [if_pos h] at e
    cases e
  · rw [if_neg h] at e
    exact e
theorem del_ne {b x : Addr} (h : x ≠ b) : del b H x = H x := if_neg h
theorem del_mono {b : Addr} (s : Same H H') : Same (del b H) (del b H') := fun x o e => by
  unfold del at e ⊢
  by_cases h : x = b
  · rw [if_pos h] at e
    cases e
  · rw [if_neg h] at e ⊢
    exact s x o e
/-- what a draw may change: the barrel alone -/
def Keep (b : Addr) (H H' : Hp) : Prop := Same (del b H) (del b H')
theorem Keep.refl (b : Addr) (H : Hp) : Keep b H H := Same.refl _
theorem Keep.trans {b : Addr} {H2 : Hp} (a : Keep b H H1) (c : Keep b H1 H2) : Keep b H H2 := Same.trans a c
theorem Keep.of {b : Addr} (s : Same H H') : Keep b H H' := del_mono s
theorem keep_upd {b : Addr} {o : HO} : Keep b H (upd H b o) := fun x u e => by
  have hx : x ≠ b := by
    intro z
    unfold del at e
    rw [if_pos z] at e
    cases e
  rw [del_ne hx] at e ⊢
  rw [upd_ne hx]
  exact e
theorem del_none {b : Addr} : del b H b = none := if_pos rfl
/-- an object that is new is no barrel, and is not told ahead -/
theorem Keep.get {b x : Addr} {o : HO} (k : Keep b H H') (h : x ≠ b) (e : H x = some o) : H' x = some o := by
  have z := k x o (by rw [del_ne h]; exact e)
  rw [del_ne h] at z
  exact z
end
end K6

set_option Elab.async false
set_option linter.all false
set_option maxRecDepth 100000
set_option maxHeartbeats 4000000
namespace K6
open PySem PySem.Spec PyProof.Rows L2 Rw
/-! ### comprehensions: what a turn adds, and the whole -/
section
variable {K : PySem.W.Frag} {H : Hp} {σ : L2.St} {tt : TT} {te : TE} {vs : List Nat} {j : Nat} {Q : VK}
def pre (st : Nat → List V) (n : Nat) : List V := (List.range n).flatMap st
theorem pre_succ (st : Nat → List V) (n : Nat) : pre st (n + 1) = pre st n ++ st n := by
  unfold pre
  rw [List.range_succ, List.flatMap_append]
  simp
theorem pre_len {st : Nat → List V} (h : ∀ i, (st i).length ≤ 1) : ∀ n, (pre st n).length ≤ n
  | 0 => Nat.le_refl 0
  | n + 1 => by
    rw [pre_succ, List.length_append]
    have a := pre_len h n
    have b := h n
    omega
theorem pre_map {f : Nat → V} (n : Nat) : pre (fun i => [f i]) n = (List.range n).map f := by
  unfold pre
  induction n with
  | zero => rfl
  | succ n ih => rw [List.range_succ, List.flatMap_append, List.map_append, ih]; rfl
/-- a turn: what is added is [y], or nothing -/
def Turn1 (tt : TT) (te : TE) (σ : L2.St) (H : Hp) (s : List V) : Prop := ∀ H1 (R : V → Hp → Prop) (N : Hp → Prop), Same H H1 → (∀ y H2, s = [y] → Same H1 H2 → R y H2) → (∀ H2, s = [] → Same H1 H2 → N H2) →
  tt σ H1 (fun b H2 => if b = true then te σ H2 R else N H2)
theorem lcG (J : It) (n : Nat) (xs : Nat → V) (st : Nat → List V) (hst : ∀ i, (st i).length ≤ 1) (hn : n < 100000)
    (hgo : ∀ i H1, i < n → Same H H1 → J.go i H1) (hstop : ∀ H1, Same H H1 → J.stop n H1) (hyld : ∀ i H1 x H', i < n → Same H H1 → J.yld i H1 x H' → H' = H1 ∧ x = xs i)
    (hw : ∀ x, wipe ((wipe σ vs).set j (some x)) vs = wipe σ vs) (turn : ∀ i, i < n → Turn1 tt te ((wipe σ vs).set j (some (xs i))) H (st i))
    (fin : ∀ D H1, H D = none → Same H H1 → H1 D = some (.lst (pre st n)) → Q (.ref D) H1) :
    ∀ D, H D = none → ∃ W : Nat → Nat → Hp → Prop, (∃ m, W 0 m (upd H D (.lst []))) ∧ ∀ i m H, W i m H →
      (J.stop i H ∧ Q (.ref D) H) ∨ (J.go i H ∧ ∃ Nx : Hp → Prop, (∀ H', Nx H' → ∃ m', m' < m ∧ W (i + 1) m' H') ∧ ∀ x H', J.yld i H x H' → gName j x (wipe σ vs) H' fun σ2 H2 => wipe σ2 vs = wipe σ vs ∧ tt σ2 H2 fun b H3 =>
        if b = true then te σ2 H3 fun y H4 => ∃ acc, H4 D = some (.lst acc) ∧ acc.length < sizeLine ∧ Nx (upd H4 D (.lst (acc ++ [y]))) else Nx H3) := by
  intro D hD
  refine ⟨fun i m H1 => m = n - i ∧ i ≤ n ∧ Same H H1 ∧ H1 D = some (.lst (pre st i)), ⟨n, rfl, Nat.zero_le _, same_upd hD, upd_same⟩, ?_⟩
  rintro i m H1 ⟨rfl, hi, s1, h1⟩
  by_cases c : i < n
  · refine .inr ⟨hgo i H1 c s1, fun H2 => Same H H2 ∧ H2 D = some (.lst (pre st (i + 1))), fun H2 h2 => ⟨n - (i + 1), by omega, rfl, c, h2.1, h2.2⟩, fun x H' hy => ?_⟩
    obtain ⟨rfl, rfl⟩ := hyld i H1 x H' c s1 hy
    refine ⟨hw _, ?_⟩
    refine turn i c H' _ _ s1 (fun y H2 hs s2 => ?_) (fun H2 hs s2 => ?_)
    · refine ⟨pre st i, s2 D _ h1, szt (by have := pre_len hst i; omega), ?_, ?_⟩
      · exact same_put (s1.trans s2) hD
      · rw [pre_succ, hs]
        exact upd_same
    · refine ⟨s1.trans s2, ?_⟩
      rw [pre_succ, hs, List.append_nil]
      exact s2 D _ h1
  · have e : i = n := by omega
    subst e
    exact .inl ⟨hstop H1 s1, fin D H1 hD s1 h1⟩
theorem getD_of {xs : List V} {i : Nat} {x : V} (h : xs[i]? = some x) : xs.getD i .non = x := by
  rw [List.getD_eq_getElem?_getD, h]
  rfl
theorem lt_of_get {α : Type} {xs : List α} {i : Nat} {x : α} (h : xs[i]? = some x) : i < xs.length := (List.getElem?_eq_some_iff.mp h).1
/-- over a tuple -/
theorem cT {tl : TE} {a : Addr} {xs : List V} (st : Nat → List V) (htl : ∀ R : VK, R (.ref a) H → tl σ H R) (hx : SqT K H a xs) (hst : ∀ i, (st i).length ≤ 1) (hn : xs.length < 100000)
    (hw : ∀ x, wipe ((wipe σ vs).set j (some x)) vs = wipe σ vs) (turn : ∀ i x, xs[i]? = some x → Turn1 tt te ((wipe σ vs).set j (some x)) H (st i))
    (fin : ∀ D H1, H D = none → Same H H1 → H1 D = some (.lst (pre st xs.length)) → Q (.ref D) H1) : tLc (iTup K tl) (gName j) tt te vs σ H Q := by
  refine htl _ ⟨a, rfl, ⟨xs, hx⟩, ?_⟩
  refine lcG (Itt K a) xs.length (fun i => xs.getD i .non) st hst hn (fun i H1 hi s => ?_) (fun H1 s => ?_) (fun i H1 x H' hi s hy => ?_) hw (fun i hi => ?_) fin
  · exact ⟨xs, xs[i], sqT_mono s hx, by simp [hi]⟩
  · exact ⟨xs, sqT_mono s hx, Nat.le_refl _⟩
  · obtain ⟨e, y⟩ := hy
    exact ⟨e, (getD_of (y xs (sqT_mono s hx))).symm⟩
  · have h : xs[i]? = some (xs.getD i .non) := by
      rw [List.getElem?_eq_getElem hi, List.getD_eq_getElem?_getD, List.getElem?_eq_getElem hi]
      rfl
    exact turn i _ h
/-- over a list that a call has handed back -/
theorem lL {Qd : Addr → Hp → Prop} {a : Addr} {xs : List V} (st : Nat → List V) (hx : SqL K H a xs) (hst : ∀ i, (st i).length ≤ 1) (hn : xs.length < 100000)
    (hw : ∀ x, wipe ((wipe σ vs).set j (some x)) vs = wipe σ vs) (turn : ∀ i x, xs[i]? = some x → Turn1 tt te ((wipe σ vs).set j (some x)) H (st i))
    (fin : ∀ D H1, H D = none → Same H H1 → H1 D = some (.lst (pre st xs.length)) → Qd D H1) :
    ∀ D, H D = none → ∃ W : Nat → Nat → Hp → Prop, (∃ m, W 0 m (upd H D (.lst []))) ∧ ∀ i m H, W i m H →
      ((Itl K a).stop i H ∧ Qd D H) ∨ ((Itl K a).go i H ∧ ∃ Nx : Hp → Prop, (∀ H', Nx H' → ∃ m', m' < m ∧ W (i + 1) m' H') ∧ ∀ x H', (Itl K a).yld i H x H' → gName j x (wipe σ vs) H' fun σ2 H2 => wipe σ2 vs = wipe σ vs ∧ tt σ2 H2 fun b H3 =>
        if b = true then te σ2 H3 fun y H4 => ∃ acc, H4 D = some (.lst acc) ∧ acc.length < sizeLine ∧ Nx (upd H4 D (.lst (acc ++ [y]))) else Nx H3) := by
  refine lcG (Q := fun v H => match v with | .ref D => Qd D H | _ => False) (Itl K a) xs.length (fun i => xs.getD i .non) st hst hn (fun i H1 hi s => ?_) (fun H1 s => ?_) (fun i H1 x H' hi s hy => ?_) hw (fun i hi => ?_) fin
  · exact ⟨xs, xs[i], sqL_mono s hx, by simp [hi]⟩
  · exact ⟨xs, sqL_mono s hx, Nat.le_refl _⟩
  · obtain ⟨e, y⟩ := hy
    exact ⟨e, (getD_of (y xs (sqL_mono s hx))).symm⟩
  · have h : xs[i]? = some (xs.getD i .non) := by
      rw [List.getElem?_eq_getElem hi, List.getD_eq_getElem?_getD, List.getElem?_eq_getElem hi]
      rfl
    exact turn i _ h
/-- over a list -/
theorem cL {tl : TE} {a : Addr} {xs : List V} (st : Nat → List V) (htl : ∀ R : VK, R (.ref a) H → tl σ H R) (hx : SqL K H a xs) (hst : ∀ i, (st i).length ≤ 1) (hn : xs.length < 100000)
    (hw : ∀ x, wipe ((wipe σ vs).set j (some x)) vs = wipe σ vs) (turn : ∀ i x, xs[i]? = some x → Turn1 tt te ((wipe σ vs).set j (some x)) H (st i))
    (fin : ∀ D H1, H D = none → Same H H1 → H1 D = some (.lst (pre st xs.length)) → Q (.ref D) H1) : tLc (iList K tl) (gName j) tt te vs σ H Q := by
  refine htl _ ⟨a, rfl, ⟨xs, hx⟩, ?_⟩
  refine lcG (Itl K a) xs.length (fun i => xs.getD i .non) st hst hn (fun i H1 hi s => ?_) (fun H1 s => ?_) (fun i H1 x H' hi s hy => ?_) hw (fun i hi => ?_) fin
  · exact ⟨xs, xs[i], sqL_mono s hx, by simp [hi]⟩
  · exact ⟨xs, sqL_mono s hx, Nat.le_refl _⟩
  · obtain ⟨e, y⟩ := hy
    exact ⟨e, (getD_of (y xs (sqL_mono s hx))).symm⟩
  · have h : xs[i]? = some (xs.getD i .non) := by
      rw [List.getElem?_eq_getElem hi, List.getD_eq_getElem?_getD, List.getElem?_eq_getElem hi]
      rfl
    exact turn i _ h
/-- over range(n) -/
theorem cR {ta : TA} {n : Nat} {m : Int} (st : Nat → List V) (hm : m.toNat = n) (hb : -1000 ≤ m) (hta : ∀ R : List V → Hp → Prop, R [.int m] H → ta σ H R) (hst : ∀ i, (st i).length ≤ 1) (hn : n < 100000)
    (hw : ∀ x, wipe ((wipe σ vs).set j (some x)) vs = wipe σ vs) (turn : ∀ i : Nat, i < n → Turn1 tt te ((wipe σ vs).set j (some (.int (i : Int)))) H (st i))
    (fin : ∀ D H1, H D = none → Same H H1 → H1 D = some (.lst (pre st n)) → Q (.ref D) H1) : tLc (iRng1 ta) (gName j) tt te vs σ H Q := by
  refine hta _ ⟨m, rfl, by omega, by omega, ?_⟩
  rw [hm]
  refine lcG (Itr 0 n) n (fun i => .int (i : Int)) st hst hn (fun i H1 hi s => hi) (fun H1 s => Nat.le_refl _) (fun i H1 x H' hi s hy => ?_) hw turn fin
  obtain ⟨e, y⟩ := hy
  refine ⟨e, ?_⟩
  rw [y, Int.zero_add]
/-- over a text -/
theorem cS {tl : TE} {z : Str} (st : Nat → List V) (htl : ∀ R : VK, R (.str z) H → tl σ H R) (hst : ∀ i, (st i).length ≤ 1) (hn : z.cps.size < 100000)
    (hw : ∀ x, wipe ((wipe σ vs).set j (some x)) vs = wipe σ vs) (turn : ∀ i c, z.cps[i]? = some c → Turn1 tt te ((wipe σ vs).set j (some (.str ⟨#[c]⟩))) H (st i))
    (fin : ∀ D H1, H D = none → Same H H1 → H1 D = some (.lst (pre st z.cps.size)) → Q (.ref D) H1) : tLc (iStr tl) (gName j) tt te vs σ H Q := by
  refine htl _ ⟨z, rfl, ?_⟩
  refine lcG (Its z) z.cps.size (fun i => .str ⟨#[z.cps.getD i 0]⟩) st hst hn (fun i H1 hi s => hi) (fun H1 s => Nat.le_refl _) (fun i H1 x H' hi s hy => ?_) hw (fun i hi => ?_) fin
  · obtain ⟨e, c, hc, rfl⟩ := hy
    refine ⟨e, ?_⟩
    simp [Array.getD_eq_getD_getElem?, hc]
  · have h : z.cps[i]? = some (z.cps.getD i 0) := by
      simp [Array.getD_eq_getD_getElem?, hi]
    exact turn i _ h
/-- no test -/
theorem turn_yes {y : V} (h : ∀ H1 (R : V → Hp → Prop), Same H H1 → (∀ H2, Same H1 H2 → R y H2) → te σ H1 R) : Turn1 tYes te σ H [y] := by
  intro H1 R N s hy hn
  show (if true = true then te σ H1 R else N H1)
  rw [if_pos rfl]
  exact h H1 R s fun H2 s2 => hy y H2 rfl s2
theorem replicate_pre (n : Nat) (v : V) : pre (fun _ => [v]) n = List.replicate n v := by
  rw [pre_map]
  induction n with
  | zero => rfl
  | succ n ih => rw [List.range_succ, List.map_append, ih, List.replicate_succ']; rfl
theorem all_true (n : Nat) : (List.replicate n true).all id = true := by simp
theorem bls (n : Nat) : List.replicate n (V.bl true) = (List.replicate n true).map V.bl := by simp
end
/-! ### comprehensions whose items are new lists -/
section
variable {K : PySem.W.Frag} {H : Hp} {σ : L2.St} {te : TE} {vs : List Nat} {j : Nat} {Q : VK}
/-- lists that stand at the items of a list: what is at each place -/
def Hold (H : Hp) (acc : List V) (n : Nat) (ys : Nat → List V) : Prop := acc.length = n ∧ ∀ k, k < n → ∃ p, acc[k]? = some (.ref p) ∧ H p = some (.lst (ys k))
theorem Hold.mono {H H' : Hp} {acc : List V} {n : Nat} {ys : Nat → List V} (h : Hold H acc n ys) (s : Same H H') : Hold H' acc n ys :=
  ⟨h.1, fun k hk => let ⟨p, e, hp⟩ := h.2 k hk; ⟨p, e, s _ _ hp⟩⟩
theorem Hold.snoc {acc : List V} {n : Nat} {ys : Nat → List V} {p : Addr} (h : Hold H acc n ys) (hp : H p = some (.lst (ys n))) : Hold H (acc ++ [.ref p]) (n + 1) ys := by
  refine ⟨by rw [List.length_append, h.1]; rfl, fun k hk => ?_⟩
  by_cases c : k < n
  · obtain ⟨q, e, hq⟩ := h.2 k c
    exact ⟨q, by rw [List.getElem?_append_left (by rw [h.1]; exact c)]; exact e, hq⟩
  · have e : k = n := by omega
    subst e
    refine ⟨p, ?_, hp⟩
    rw [List.getElem?_append_right (by rw [h.1]; exact Nat.le_refl _), h.1, Nat.sub_self]
    rfl
theorem yes_go {σ : L2.St} {H : Hp} {f g : Hp → Prop} (h : f H) : tYes σ H (fun b H2 => if b = true then f H2 else g H2) := by
  show (if true = true then f H else g H)
  rw [if_pos rfl]
  exact h
def TurnN (te : TE) (σ : L2.St) (H : Hp) (ys : List V) : Prop := ∀ H1 (R : V → Hp → Prop), Same H H1 → (∀ p H2, H1 p = none → Same H1 H2 → H2 p = some (.lst ys) → R (.ref p) H2) → te σ H1 R
theorem lcN (J : It) (n : Nat) (xs : Nat → V) (ys : Nat → List V) (hn : n < 100000)
    (hgo : ∀ i H1, i < n → Same H H1 → J.go i H1) (hstop : ∀ H1, Same H H1 → J.stop n H1) (hyld : ∀ i H1 x H', i < n → Same H H1 → J.yld i H1 x H' → H' = H1 ∧ x = xs i)
    (hw : ∀ x, wipe ((wipe σ vs).set j (some x)) vs = wipe σ vs) (turn : ∀ i, i < n → TurnN te ((wipe σ vs).set j (some (xs i))) H (ys i))
    (fin : ∀ D acc H1, H D = none → Same H H1 → H1 D = some (.lst acc) → Hold (del D H1) acc n ys → Q (.ref D) H1) :
    ∀ D, H D = none → ∃ W : Nat → Nat → Hp → Prop, (∃ m, W 0 m (upd H D (.lst []))) ∧ ∀ i m H, W i m H →
      (J.stop i H ∧ Q (.ref D) H) ∨ (J.go i H ∧ ∃ Nx : Hp → Prop, (∀ H', Nx H' → ∃ m', m' < m ∧ W (i + 1) m' H') ∧ ∀ x H', J.yld i H x H' → gName j x (wipe σ vs) H' fun σ2 H2 => wipe σ2 vs = wipe σ vs ∧ tYes σ2 H2 fun b H3 =>
        if b = true then te σ2 H3 fun y H4 => ∃ acc, H4 D = some (.lst acc) ∧ acc.length < sizeLine ∧ Nx (upd H4 D (.lst (acc ++ [y]))) else Nx H3) := by
  intro D hD
  refine ⟨fun i m H1 => m = n - i ∧ i ≤ n ∧ Same H H1 ∧ ∃ acc, H1 D = some (.lst acc) ∧ Hold (del D H1) acc i ys, ⟨n, rfl, Nat.zero_le _, same_upd hD, [], upd_same, rfl, fun k hk => absurd hk (Nat.not_lt_zero k)⟩, ?_⟩
  rintro i m H1 ⟨rfl, hi, s1, acc, h1, hold⟩
  by_cases c : i < n
  · refine .inr ⟨hgo i H1 c s1, fun H2 => Same H H2 ∧ ∃ acc, H2 D = some (.lst acc) ∧ Hold (del D H2) acc (i + 1) ys, fun H2 h2 => ⟨n - (i + 1), by omega, rfl, c, h2.1, h2.2⟩, fun x H' hy => ?_⟩
    obtain ⟨rfl, rfl⟩ := hyld i H1 x H' c s1 hy
    refine ⟨hw _, ?_⟩
    refine yes_go ?_
    refine turn i c H' _ s1 (fun p H2 np s2 hp => ?_)
    refine ⟨acc, s2 D _ h1, szt (by rw [hold.1]; omega), same_put (s1.trans s2) hD, acc ++ [.ref p], upd_same, ?_⟩
    have ne : p ≠ D := fun e => by
      rw [e, h1] at np
      cases np
    have hdel : Same (del D H2) (del D (upd H2 D (.lst (acc ++ [.ref p])))) := keep_upd
    refine ((hold.mono (del_mono s2)).snoc ?_).mono hdel
    rw [del_ne ne]
    exact hp
  · have e : i = n := by omega
    subst e
    exact .inl ⟨hstop H1 s1, fin D acc H1 hD s1 h1 hold⟩
theorem cTN {tl : TE} {a : Addr} {xs : List V} (ys : Nat → List V) (htl : ∀ R : VK, R (.ref a) H → tl σ H R) (hx : SqT K H a xs) (hn : xs.length < 100000)
    (hw : ∀ x, wipe ((wipe σ vs).set j (some x)) vs = wipe σ vs) (turn : ∀ i x, xs[i]? = some x → TurnN te ((wipe σ vs).set j (some x)) H (ys i))
    (fin : ∀ D acc H1, H D = none → Same H H1 → H1 D = some (.lst acc) → Hold (del D H1) acc xs.length ys → Q (.ref D) H1) : tLc (iTup K tl) (gName j) tYes te vs σ H Q := by
  refine htl _ ⟨a, rfl, ⟨xs, hx⟩, ?_⟩
  refine lcN (Itt K a) xs.length (fun i => xs.getD i .non) ys hn (fun i H1 hi s => ?_) (fun H1 s => ?_) (fun i H1 x H' hi s hy => ?_) hw (fun i hi => ?_) fin
  · exact ⟨xs, xs[i], sqT_mono s hx, by simp [hi]⟩
  · exact ⟨xs, sqT_mono s hx, Nat.le_refl _⟩
  · obtain ⟨e, y⟩ := hy
    exact ⟨e, (getD_of (y xs (sqT_mono s hx))).symm⟩
  · have h : xs[i]? = some (xs.getD i .non) := by
      rw [List.getElem?_eq_getElem hi, List.getD_eq_getElem?_getD, List.getElem?_eq_getElem hi]
      rfl
    exact turn i _ h
end
/-! ### openers -/
section
variable {te ta : TE} {D : Ends} {σ : L2.St} {H : Hp} {Q : VK} {r : List V → Hp → VK → Prop} {i : Nat}
theorem g_ret (h : te σ H D.rt) : tRet te D σ H := h
theorem g_asg (h : te σ H fun x H1 => D.nx (σ.set i (some x)) H1) : tAsg te (gName i) D σ H := h
theorem g_cb (h : ta σ H fun x H1 => r [x] H1 Q) : tCB r (tCons ta tNil) σ H Q := h
theorem g_andV {tb : TE} (h : ta σ H fun x H1 => ∃ c, x = .bl c ∧ if c = true then tb σ H1 Q else Q (.bl false) H1) : tAndV ta tb σ H Q := h
theorem g_via {K : PySem.W.Frag} {d : PyData} (h : ∀ Q' : VK, (∀ vf H2, Same H H2 → Dp K H2 vf d → Q' vf H2) → te σ H Q') (rest : ∀ vf H2, Same H H2 → Dp K H2 vf d → Q vf H2) : te σ H Q := h Q rest
theorem g_arg {f : List V → Hp → Prop} (h : te σ H fun x H1 => f [x] H1) : tCons te tNil σ H f := h
theorem g_next (h : D.nx σ H) : tNext D σ H := h
theorem g_seq {t u : TS} (h : t { D with nx := u D } σ H) : tSeq t u D σ H := h
end
end K6

set_option Elab.async false
set_option linter.all false
set_option maxRecDepth 100000
set_option maxHeartbeats 4000000
namespace K6
open PySem PySem.Spec PyProof.Rows L2 Rw
variable {P : Program} {w : World} {K : PySem.W.Frag} {mg : Str → Option Value} {base : Heap} {A : Ad} {fd : Fds}
def spIsInt : Sp := fun vs H Q _ => ∃ i : Int, vs = [.int i] ∧ Q (.bl true) H
theorem ok_is_integer (T : Txt K mg A) (U : Funs K A fd) : FnOk P w K mg base CX0 1 A.is_integer fd.is_integer p_is_integer (spIsInt) := by
  refine U.F_is_integer.ok sc_is_integer (fun vs H Q E h => ?_) (fun cdv A0 outer s H vs Q E hr h => ?_)
  · obtain ⟨i, rfl, _⟩ := h
    rfl
  · have hu := hu_of hr
    obtain ⟨i, rfl, q⟩ := h
    refine ⟨_, (pss_one (ps_ret (pe_and (pe_callB (w_isi (K := K)) (by rfl) T.b_isinstance (by decide +kernel) (pa_cons (pv 0) (pa_cons (pe_bltn (v := .ty "int") (u := .type "int") (by rfl) T.b_int (by decide +kernel) rfl) pa_nil))) (pe_one (pe_not (pe_callB (w_isi (K := K)) (by rfl) T.b_isinstance (by decide +kernel) (pa_cons (pv 0) (pa_cons (pe_bltn (v := .ty "bool") (u := .type "bool") (by rfl) T.b_bool (by decide +kernel) rfl) pa_nil)))))))), ?_⟩
    refine ⟨_, rfl, .int i, .ty "int", .type "int", .type "int", true, rfl, .ty _, .base (.int i), kit_ty (by decide +kernel), true, rfl, ?_⟩
    refine iteT ?_
    refine ⟨_, rfl, .int i, .ty "bool", .type "int", .type "bool", false, rfl, .ty _, .base (.int i), kit_ty (by decide +kernel), false, rfl, ?_⟩
    exact q
def spBetween : Sp := fun vs H Q _ => ∃ i lo hi : Int, vs = [.int i, .int lo, .int hi] ∧ Q (.bl (decide (lo ≤ i) && decide (i ≤ hi))) H
theorem ok_is_between (T : Txt K mg A) (U : Funs K A fd) : FnOk P w K mg base CX0 4 A.is_between fd.is_between p_is_between (spBetween) := by
  have G_is_integer := ok_is_integer (P := P) (w := w) (base := base) T U
  have b_is_integer := U.b_is_integer
  refine U.F_is_between.ok sc_is_between (fun vs H Q E h => ?_) (fun cdv A0 outer s H vs Q E hr h => ?_)
  · obtain ⟨i, lo, hi, rfl, _⟩ := h
    rfl
  · have hu := hu_of hr
    obtain ⟨i, lo, hi, rfl, q⟩ := h
    refine ⟨_, (pss_one (ps_ret (pe_and (pe_call G_is_integer (hr.mono (by decide)) (by rfl) T.m_is_integer T.k_is_integer b_is_integer .nil pass0 (pa_cons (pv 0) pa_nil)) (pe_one (pe_chain op_le op_le (pv 1) (pv 0) (pv 2)))))), ?_⟩
    refine ⟨_, rfl, i, rfl, true, rfl, ?_⟩
    refine iteT ?_
    refine ⟨_, rfl, _, rfl, lo, i, rfl, rfl, _, rfl, ?_⟩
    by_cases c : lo ≤ i
    · rw [decide_eq_true c] at q ⊢
      refine iteT ?_
      exact ⟨_, rfl, i, hi, rfl, rfl, q⟩
    · rw [decide_eq_false c] at q ⊢
      exact iteF q
/-- each less than the next -/
def Asc (ns : List Int) : Prop := ∀ (i : Nat) (x y : Int), ns[i]? = some x → ns[i + 1]? = some y → x < y
def spAsc (K : PySem.W.Frag) : Sp := fun vs H Q _ => ∃ (v : V) (ns : List Int), vs = [v] ∧ Dp K H v (.tuple (ns.map .int)) ∧ ns.length ≤ 1000 ∧ Asc ns ∧ ∀ H', Same H H' → Q (.bl true) H'
theorem ok_is_ascending (T : Txt K mg A) (U : Funs K A fd) : FnOk P w K mg base CX0 1 A.is_ascending fd.is_ascending p_is_ascending (spAsc K) := by
  refine U.F_is_ascending.ok sc_is_ascending (fun vs H Q E h => ?_) (fun cdv A0 outer s H vs Q E hr h => ?_)
  · obtain ⟨v, ns, rfl, _⟩ := h
    rfl
  · have hu := hu_of hr
    obtain ⟨v, ns, rfl, hd, hl, asc, q⟩ := h
    refine ⟨_, (pss_one (ps_ret (pe_callB (w_all (K := K) rfl) (by rfl) T.b_all (by decide +kernel) (pa_cons (pe_lc (own := [("at", 1)]) (g := gName 1) (tt := tYes) (by rfl) sc_is_ascending.nd (pi_range1 (by rfl) T.b_range (pa_cons (pe_op op_sub (pe_callB (w_len (K := K)) (by rfl) T.b_len (by decide +kernel) (pa_cons (pv 0) pa_nil)) pe_int) pa_nil)) (blkOk_by (own := [("at", 1)]) (by rfl)) (fun _ _ _ _ _ => (pg_name (i := 1) sc_is_ascending.nd rfl (Or.inl rfl))) (fun _ _ _ _ _ => pts_nil) (fun _ _ _ _ _ => (pe_cmpR op_lt (pe_ix (w_ixT (K := K)) (pv 0) (pv 1) (fun _ _ => rfl)) (pe_ix (w_ixT (K := K)) (pv 0) (pe_op op_add (pv 1) pe_int) (fun _ _ => rfl)) (nomark _)))) pa_nil)))), ?_⟩
    obtain ⟨a, xs, rfl, hx, hds⟩ := dp_tup hd
    obtain rfl := dps_ints hds
    refine g_ret (g_cb (cR (n := ns.length - 1) (m := (ns.length : Int) - 1) (fun _ => [.bl true]) (by omega) (by omega) (fun R r => ?_) (fun _ => Nat.le_refl 1) (by omega) (fun _ => rfl) (fun i hi => turn_yes fun H1 R s1 r => ?_) (fun D H1 _ s1 h1 => ?_)))
    · exact ⟨_, rfl, _, _, rfl, .inr ⟨_, hx, rfl⟩, _, 1, by rw [List.length_map], rfl, r⟩
    · have h1 : i < ns.length := by omega
      have h2 : i + 1 < ns.length := by omega
      have e1 : (ns.map V.int)[i]? = some (.int ns[i]) := by simp [h1]
      have e2 : (ns.map V.int)[i + 1]? = some (.int ns[i + 1]) := by simp [h2]
      have lt := asc i ns[i] ns[i + 1] (List.getElem?_eq_getElem h1) (List.getElem?_eq_getElem h2)
      refine ⟨_, rfl, _, rfl, _, _, _, _, rfl, rfl, sqT_mono s1 hx, atI_nat e1, _, rfl, _, rfl, _, _, rfl, rfl, _, _, _, _, rfl, rfl, sqT_mono s1 hx, atI_nat (j := i + 1) e2, _, _, rfl, rfl, ?_⟩
      show R (.bl (decide (ns[i] < ns[i + 1]))) H1
      rw [decide_eq_true lt]
      exact r H1 (Same.refl _)
    · rw [replicate_pre] at h1
      refine ⟨D, List.replicate (ns.length - 1) true, rfl, lst_of (by rw [← bls]; exact h1), ?_⟩
      rw [all_true]
      exact q H1 s1
theorem tupTy {H : Hp} {a : Addr} {xs : List V} (h : SqT K H a xs) : TyX K H (.ref a) (.type "tuple") := by
  rcases h with (h | ⟨o, h⟩) | h
  · exact .base (.tup h)
  · exact .fTuple h
  · obtain ⟨o, vs, n, h1, h2, _⟩ := h
    exact .kTuple h1 h2
def spGoals (K : PySem.W.Frag) : Sp := fun vs H Q _ => ∃ (v : V) (row : List (Option Nat)) (n : Nat), vs = [v, .int (row.length : Int), .int (n : Int)] ∧ Dp K H v (.tuple (row.map dO)) ∧ row.length ≤ 8 ∧
  (∀ g, some g ∈ row → g < n) ∧ ∀ H', Same H H' → Q (.bl true) H'
theorem ok_is_goals (T : Txt K mg A) (U : Funs K A fd) : FnOk P w K mg base CX0 7 A.is_goals fd.is_goals p_is_goals (spGoals K) := by
  have G_is_between := ok_is_between (P := P) (w := w) (base := base) T U
  have b_is_between := U.b_is_between
  refine U.F_is_goals.ok sc_is_goals (fun vs H Q E h => ?_) (fun cdv A0 outer s H vs Q E hr h => ?_)
  · obtain ⟨v, row, n, rfl, _⟩ := h
    rfl
  · have hu := hu_of hr
    obtain ⟨v, row, n, rfl, hd, hl, lt, q⟩ := h
    refine ⟨_, (pss_cons (ps_if (PW.pt (pw_or (pt_not (pt_val (pe_callB (w_isi (K := K)) (by rfl) T.b_isinstance (by decide +kernel) (pa_cons (pv 0) (pa_cons (pe_bltn (v := .ty "tuple") (u := .type "tuple") (by rfl) T.b_tuple (by decide +kernel) rfl) pa_nil))))) (pw_or1 (pt_cmpR op_ne (pe_callB (w_len (K := K)) (by rfl) T.b_len (by decide +kernel) (pa_cons (pv 0) pa_nil)) (pv 1) (nomark _))))) (pss_one (ps_ret pe_bl)) pss_nil)
       (pss_one (ps_ret (pe_callB (w_all (K := K) rfl) (by rfl) T.b_all (by decide +kernel) (pa_cons (pe_lc (own := [("goal", 3)]) (g := gName 3) (tt := tYes) (by rfl) sc_is_goals.nd (w_piT (K := K) (pv 0)) (blkOk_by (own := [("goal", 3)]) (by rfl)) (fun _ _ _ _ _ => (pg_name (i := 3) sc_is_goals.nd rfl (Or.inl rfl))) (fun _ _ _ _ _ => pts_nil) (fun _ _ _ _ _ => (pe_or (pe_cmpR op_isN (pv 3) pe_non (nomark _)) (pe_one (pe_call G_is_between (hr.mono (by decide)) (by rfl) T.m_is_between T.k_is_between b_is_between .nil pass0 (pa_cons (pv 3) (pa_cons pe_int (pa_cons (pe_op op_sub (pv 2) pe_int) pa_nil)))))))) pa_nil))))), ?_⟩
    obtain ⟨a, xs, rfl, hx, hds⟩ := dp_tup hd
    obtain rfl := dps_opts hds
    have hz : (row.map vO).length < 100000 := by rw [List.length_map]; omega
    -- if not isinstance(value, tuple) or len(value) != signs
    refine ⟨_, rfl, _, _, _, .type "tuple", true, rfl, .ty _, tupTy hx, kit_ty (by decide +kernel), true, rfl, ?_⟩
    refine iteF ?_
    refine ⟨_, rfl, _, _, rfl, .inr ⟨_, hx, rfl⟩, _, rfl, rfl, _, rfl, ?_⟩
    rw [List.length_map, decide_eq_true rfl]
    refine iteF (g_next ?_)
    dsimp only
    refine g_ret (g_cb (cT (xs := row.map vO) (fun _ => [.bl true]) (fun R r => ?_) hx (fun _ => Nat.le_refl 1) hz ?_ (fun i x hi => turn_yes fun H1 R s1 r => ?_) (fun D H1 _ s1 h1 => ?_)))
    · exact ⟨_, rfl, r⟩
    · exact fun _ => rfl
    · rw [List.getElem?_map] at hi
      cases e : row[i]? with
      | none => rw [e] at hi; cases hi
      | some o =>
        rw [e] at hi
        obtain rfl := Option.some.inj hi
        cases o with
        | none =>
          refine ⟨_, rfl, rfl, true, rfl, ?_⟩
          exact iteT (r H1 (Same.refl _))
        | some g =>
          have hg : g < n := lt g (List.mem_of_getElem? e)
          refine ⟨_, rfl, rfl, false, rfl, ?_⟩
          refine iteF ?_
          refine ⟨_, rfl, _, rfl, _, _, rfl, rfl, _, _, _, rfl, ?_⟩
          rw [decide_eq_true (show (0 : Int) ≤ (g : Int) by omega), decide_eq_true (show (g : Int) ≤ (n : Int) - 1 by omega)]
          exact r H1 (Same.refl _)
    · rw [replicate_pre] at h1
      refine ⟨D, List.replicate (row.map vO).length true, rfl, lst_of (by rw [← bls]; exact h1), ?_⟩
      rw [all_true]
      exact q H1 s1
def spStands (K : PySem.W.Frag) : Sp := fun vs H Q _ => ∃ (v : V) (ns : List Nat) (n : Nat), vs = [v, .int (n : Int)] ∧ Dp K H v (.tuple (ns.map fun (k : Nat) => .int (k : Int))) ∧ ns.length ≤ 1000 ∧ Asc (ns.map Int.ofNat) ∧
  (∀ g ∈ ns, g < n) ∧ ∀ H', Same H H' → Q (.bl true) H'
theorem nats_int (ns : List Nat) : (ns.map fun (k : Nat) => PyData.int (k : Int)) = (ns.map Int.ofNat).map PyData.int := by
  rw [List.map_map]
  rfl
theorem ok_is_stands (T : Txt K mg A) (U : Funs K A fd) : FnOk P w K mg base CX0 7 A.is_stands fd.is_stands p_is_stands (spStands K) := by
  have G_is_ascending := ok_is_ascending (P := P) (w := w) (base := base) T U
  have b_is_ascending := U.b_is_ascending
  have G_is_between := ok_is_between (P := P) (w := w) (base := base) T U
  have b_is_between := U.b_is_between
  refine U.F_is_stands.ok sc_is_stands (fun vs H Q E h => ?_) (fun cdv A0 outer s H vs Q E hr h => ?_)
  · obtain ⟨v, ns, n, rfl, _⟩ := h
    rfl
  · have hu := hu_of hr
    obtain ⟨v, ns, n, rfl, hd, hl, asc, lt, q⟩ := h
    refine ⟨_, (pss_cons (ps_if (pt_not (pt_val (pe_callB (w_isi (K := K)) (by rfl) T.b_isinstance (by decide +kernel) (pa_cons (pv 0) (pa_cons (pe_bltn (v := .ty "tuple") (u := .type "tuple") (by rfl) T.b_tuple (by decide +kernel) rfl) pa_nil))))) (pss_one (ps_ret pe_bl)) pss_nil)
       (pss_one (ps_ret (pe_and (pe_callB (w_all (K := K) rfl) (by rfl) T.b_all (by decide +kernel) (pa_cons (pe_lc (own := [("stand", 2)]) (g := gName 2) (tt := tYes) (by rfl) sc_is_stands.nd (w_piT (K := K) (pv 0)) (blkOk_by (own := [("stand", 2)]) (by rfl)) (fun _ _ _ _ _ => (pg_name (i := 2) sc_is_stands.nd rfl (Or.inl rfl))) (fun _ _ _ _ _ => pts_nil) (fun _ _ _ _ _ => (pe_call G_is_between (hr.mono (by decide)) (by rfl) T.m_is_between T.k_is_between b_is_between .nil pass0 (pa_cons (pv 2) (pa_cons pe_int (pa_cons (pe_op op_sub (pv 1) pe_int) pa_nil)))))) pa_nil)) (pe_one (pe_call G_is_ascending (hr.mono (by decide)) (by rfl) T.m_is_ascending T.k_is_ascending b_is_ascending .nil pass0 (pa_cons (pv 0) pa_nil))))))), ?_⟩
    have hd0 := hd
    rw [nats_int] at hd
    obtain ⟨a, xs, rfl, hx, hds⟩ := dp_tup hd
    obtain rfl := dps_ints hds
    have hz : ((ns.map Int.ofNat).map V.int).length < 100000 := by rw [List.length_map, List.length_map]; omega
    refine ⟨_, rfl, _, _, _, .type "tuple", true, rfl, .ty _, tupTy hx, kit_ty (by decide +kernel), true, rfl, ?_⟩
    refine iteF (g_next ?_)
    dsimp only
    refine g_ret (g_andV (g_cb (cT (xs := (ns.map Int.ofNat).map V.int) (fun _ => [.bl true]) (fun R r => ?_) hx (fun _ => Nat.le_refl 1) hz ?_ (fun i x hi => turn_yes fun H1 R s1 r => ?_) (fun D H1 _ s1 h1 => ?_))))
    · exact ⟨_, rfl, r⟩
    · exact fun _ => rfl
    · rw [List.map_map, List.getElem?_map] at hi
      cases e : ns[i]? with
      | none => rw [e] at hi; cases hi
      | some g =>
        rw [e] at hi
        obtain rfl := Option.some.inj hi
        have hg : g < n := lt g (List.mem_of_getElem? e)
        refine ⟨_, rfl, _, rfl, _, _, rfl, rfl, _, _, _, rfl, ?_⟩
        show R (.bl (decide ((0 : Int) ≤ (g : Int)) && decide ((g : Int) ≤ (n : Int) - 1))) H1
        rw [decide_eq_true (show (0 : Int) ≤ (g : Int) by omega), decide_eq_true (show (g : Int) ≤ (n : Int) - 1 by omega)]
        exact r H1 (Same.refl _)
    · rw [replicate_pre] at h1
      refine ⟨D, List.replicate ((ns.map Int.ofNat).map V.int).length true, rfl, lst_of (by rw [← bls]; exact h1), ?_⟩
      rw [all_true]
      refine ⟨true, rfl, ?_⟩
      refine iteT ?_
      exact ⟨_, rfl, _, ns.map Int.ofNat, rfl, dp_mono s1 _ _ hd, by rw [List.length_map]; exact hl, asc, fun H2 s2 => q H2 (s1.trans s2)⟩
def dRow (r : List (Option Nat)) : PyData := .tuple (r.map dO)
def dTab (t : List (List (Option Nat))) : PyData := .tuple (t.map dRow)
def dNats (ns : List Nat) : PyData := .tuple (ns.map fun (k : Nat) => .int (k : Int))
/-- arrows of so many signs -/
structure GoodT (w : Nat) (tab : List (List (Option Nat))) : Prop where
  w8 : w ≤ 8
  n1 : 1 ≤ tab.length
  n2 : tab.length ≤ 200
  rows : ∀ row ∈ tab, row.length = w ∧ ∀ g, some g ∈ row → g < tab.length
theorem row_in {H : Hp} {tab : List (List (Option Nat))} {xs : List V} {i : Nat} {x : V} (h : DpAll K H xs (tab.map dRow)) (hi : xs[i]? = some x) : ∃ row, tab[i]? = some row ∧ Dp K H x (dRow row) := by
  obtain ⟨d, hd, hx⟩ := dps_getV h hi
  rw [List.getElem?_map] at hd
  cases e : tab[i]? with
  | none => rw [e] at hd; cases hd
  | some row =>
    rw [e] at hd
    obtain rfl := Option.some.inj hd
    exact ⟨row, rfl, hx⟩
def spArrows (K : PySem.W.Frag) : Sp := fun vs H Q _ => ∃ (v : V) (tab : List (List (Option Nat))) (w : Nat), vs = [v, .int (w : Int)] ∧ Dp K H v (dTab tab) ∧ GoodT w tab ∧ ∀ H', Same H H' → Q (.bl true) H'
theorem ok_is_arrows (T : Txt K mg A) (U : Funs K A fd) : FnOk P w K mg base CX0 10 A.is_arrows fd.is_arrows p_is_arrows (spArrows K) := by
  have G_is_goals := ok_is_goals (P := P) (w := w) (base := base) T U
  have b_is_goals := U.b_is_goals
  refine U.F_is_arrows.ok sc_is_arrows (fun vs H Q E h => ?_) (fun cdv A0 outer s H vs Q E hr h => ?_)
  · obtain ⟨v, tab, n, rfl, _⟩ := h
    rfl
  · have hu := hu_of hr
    obtain ⟨v, tab, n, rfl, hd, g, q⟩ := h
    refine ⟨_, (pss_cons (ps_if (PW.pt (pw_or (pt_not (pt_val (pe_callB (w_isi (K := K)) (by rfl) T.b_isinstance (by decide +kernel) (pa_cons (pv 0) (pa_cons (pe_bltn (v := .ty "tuple") (u := .type "tuple") (by rfl) T.b_tuple (by decide +kernel) rfl) pa_nil))))) (pw_or1 (pt_not (pt_chain op_le op_le pe_int (pe_callB (w_len (K := K)) (by rfl) T.b_len (by decide +kernel) (pa_cons (pv 0) pa_nil)) (pe_glob (v := .int 200) (by rfl) T.c_MOST_STANDS.choose_spec ⟨_, rfl⟩)))))) (pss_one (ps_ret pe_bl)) pss_nil)
       (pss_one (ps_ret (pe_callB (w_all (K := K) rfl) (by rfl) T.b_all (by decide +kernel) (pa_cons (pe_lc (own := [("goals", 2)]) (g := gName 2) (tt := tYes) (by rfl) sc_is_arrows.nd (w_piT (K := K) (pv 0)) (blkOk_by (own := [("goals", 2)]) (by rfl)) (fun _ _ _ _ _ => (pg_name (i := 2) sc_is_arrows.nd rfl (Or.inl rfl))) (fun _ _ _ _ _ => pts_nil) (fun _ _ _ _ _ => (pe_call G_is_goals (hr.mono (by decide)) (by rfl) T.m_is_goals T.k_is_goals b_is_goals .nil pass0 (pa_cons (pv 2) (pa_cons (pv 1) (pa_cons (pe_callB (w_len (K := K)) (by rfl) T.b_len (by decide +kernel) (pa_cons (pv 0) pa_nil)) pa_nil)))))) pa_nil))))), ?_⟩
    obtain ⟨a, xs, rfl, hx, hds⟩ := dp_tup hd
    have hl : xs.length = tab.length := by rw [dps_len hds, List.length_map]
    have n1 := g.n1
    have n2 := g.n2
    refine ⟨_, rfl, _, _, _, .type "tuple", true, rfl, .ty _, tupTy hx, kit_ty (by decide +kernel), true, rfl, ?_⟩
    refine iteF ?_
    refine ⟨_, rfl, _, _, rfl, .inr ⟨_, hx, rfl⟩, _, _, rfl, rfl, _, rfl, ?_⟩
    rw [decide_eq_true (show (1 : Int) ≤ (xs.length : Int) by omega)]
    refine iteT ?_
    refine ⟨_, _, rfl, rfl, _, rfl, ?_⟩
    rw [decide_eq_true (show (xs.length : Int) ≤ 200 by omega)]
    refine iteF (g_next ?_)
    dsimp only
    refine g_ret (g_cb (cT (xs := xs) (fun _ => [.bl true]) (fun R r => ?_) hx (fun _ => Nat.le_refl 1) (by omega) ?_ (fun i x hi => turn_yes fun H1 R s1 r => ?_) (fun D H1 _ s1 h1 => ?_)))
    · exact ⟨_, rfl, r⟩
    · exact fun _ => rfl
    · obtain ⟨row, hr1, hr2⟩ := row_in hds hi
      obtain ⟨hw, hg⟩ := g.rows row (List.mem_of_getElem? hr1)
      refine ⟨_, rfl, _, rfl, _, rfl, _, _, rfl, .inr ⟨_, sqT_mono s1 hx, rfl⟩, ?_⟩
      refine ⟨x, row, tab.length, by rw [hw, hl] <;> rfl, dp_mono s1 _ _ hr2, by rw [hw]; exact g.w8, hg, r⟩
    · rw [replicate_pre] at h1
      refine ⟨D, List.replicate xs.length true, rfl, lst_of (by rw [← bls]; exact h1), ?_⟩
      rw [all_true]
      exact q H1 s1
def spSigns : Sp := fun vs H Q _ => ∃ i : Int, vs = [.int i] ∧ 1 ≤ i ∧ i ≤ 8 ∧ Q .non H
theorem ok_check_signs (T : Txt K mg A) (U : Funs K A fd) : FnOk P w K mg base CX0 7 A.check_signs fd.check_signs p_check_signs (spSigns) := by
  have G_is_between := ok_is_between (P := P) (w := w) (base := base) T U
  have b_is_between := U.b_is_between
  refine U.F_check_signs.ok sc_check_signs (fun vs H Q E h => ?_) (fun cdv A0 outer s H vs Q E hr h => ?_)
  · obtain ⟨i, rfl, _⟩ := h
    rfl
  · have hu := hu_of hr
    obtain ⟨i, rfl, h1, h2, q⟩ := h
    refine ⟨_, (pss_one (ps_if (pt_not (pt_val (pe_call G_is_between (hr.mono (by decide)) (by rfl) T.m_is_between T.k_is_between b_is_between .nil pass0 (pa_cons (pv 0) (pa_cons pe_int (pa_cons (pe_glob (v := .int 8) (by rfl) T.c_MOST_SIGNS.choose_spec ⟨_, rfl⟩) pa_nil)))))) (pss_one ps_never) pss_nil)), ?_⟩
    refine ⟨_, rfl, _, _, _, rfl, ?_⟩
    rw [decide_eq_true h1, decide_eq_true h2]
    exact ⟨_, rfl, iteF q⟩
def spLength : Sp := fun vs H Q _ => ∃ i : Int, vs = [.int i] ∧ 0 ≤ i ∧ i ≤ 200 ∧ Q .non H
theorem ok_check_length (T : Txt K mg A) (U : Funs K A fd) : FnOk P w K mg base CX0 7 A.check_length fd.check_length p_check_length (spLength) := by
  have G_is_between := ok_is_between (P := P) (w := w) (base := base) T U
  have b_is_between := U.b_is_between
  refine U.F_check_length.ok sc_check_length (fun vs H Q E h => ?_) (fun cdv A0 outer s H vs Q E hr h => ?_)
  · obtain ⟨i, rfl, _⟩ := h
    rfl
  · have hu := hu_of hr
    obtain ⟨i, rfl, h1, h2, q⟩ := h
    refine ⟨_, (pss_one (ps_if (pt_not (pt_val (pe_call G_is_between (hr.mono (by decide)) (by rfl) T.m_is_between T.k_is_between b_is_between .nil pass0 (pa_cons (pv 0) (pa_cons pe_int (pa_cons (pe_glob (v := .int 200) (by rfl) T.c_MOST_ROW.choose_spec ⟨_, rfl⟩) pa_nil)))))) (pss_one ps_never) pss_nil)), ?_⟩
    refine ⟨_, rfl, _, _, _, rfl, ?_⟩
    rw [decide_eq_true h1, decide_eq_true h2]
    exact ⟨_, rfl, iteF q⟩
end K6


set_option Elab.async false
set_option linter.all false
set_option maxRecDepth 100000
set_option maxHeartbeats 4000000
namespace K6
open PySem PySem.Spec PyProof.Rows L2 Rw
variable {P : Program} {w : World} {K : PySem.W.Frag} {mg : Str → Option Value} {base : Heap} {A : Ad} {fd : Fds}
/-! ### readers -/
theorem ks1 : ¬ (("_signs" : Str) = "_arrows") := by decide +kernel
theorem ks2 : ¬ (("_signs" : Str) = "_ends") := by decide +kernel
theorem ks3 : ¬ (("_arrows" : Str) = "_ends") := by decide +kernel
def flds (w : Nat) (a e : Addr) : List (Str × V) := putF "_ends" (.ref e) (putF "_arrows" (.ref a) (putF "_signs" (.int (w : Int)) []))
theorem flds_signs (w : Nat) (a e : Addr) : (flds w a e).lookup ("_signs" : Str) = some (.int (w : Int)) := by
  unfold flds
  rw [lookup_putF, if_neg ks2, lookup_putF, if_neg ks1, lookup_putF, if_pos rfl]
theorem flds_arrows (w : Nat) (a e : Addr) : (flds w a e).lookup ("_arrows" : Str) = some (.ref a) := by
  unfold flds
  rw [lookup_putF, if_neg ks3, lookup_putF, if_pos rfl]
theorem flds_ends (w : Nat) (a e : Addr) : (flds w a e).lookup ("_ends" : Str) = some (.ref e) := by
  unfold flds
  rw [lookup_putF, if_pos rfl]
structure RdAt (K : PySem.W.Frag) (C : Addr) (H : Hp) (p : Addr) (w : Nat) (tab : List (List (Option Nat))) (ends : List Nat) : Prop where
  ob : ∃ dx a e, H p = some (.ins C dx (flds w a e)) ∧ Dp K H (.ref a) (dTab tab) ∧ Dp K H (.ref e) (dNats ends)
theorem RdAt.mono {H H' : Hp} {C p : Addr} {w : Nat} {tab : List (List (Option Nat))} {ends : List Nat} (h : RdAt K C H p w tab ends) (s : Same H H') : RdAt K C H' p w tab ends := by
  obtain ⟨dx, a, e, h1, h2, h3⟩ := h.ob
  exact ⟨dx, a, e, s _ _ h1, dp_mono s _ _ h2, dp_mono s _ _ h3⟩
/-- ends of so many stands -/
structure GoodE (n : Nat) (ends : List Nat) : Prop where
  asc : Asc (ends.map Int.ofNat)
  lt : ∀ g ∈ ends, g < n
  len : ends.length ≤ 1000
def spInit (K : PySem.W.Frag) (C : Addr) : Sp := fun vs H Q _ => ∃ (p dx : Addr) (a e : Addr) (w : Nat) (tab : List (List (Option Nat))) (ends : List Nat), vs = [.ref p, .int (w : Int), .ref a, .ref e] ∧ H p = some (.ins C dx []) ∧
  Dp K H (.ref a) (dTab tab) ∧ Dp K H (.ref e) (dNats ends) ∧ 1 ≤ w ∧ GoodT w tab ∧ GoodE tab.length ends ∧
  ∀ H', (∀ b o, H b = some o → b ≠ p → H' b = some o) → H' p = some (.ins C dx (flds w a e)) → Q .non H'
theorem ok_Reader_init (T : Txt K mg A) (U : Funs K A fd) : FnOk P w K mg base CX0 13 A.Reader_init fd.Reader_init p_Reader_init (spInit K A.C) := by
  have G_is_stands := ok_is_stands (P := P) (w := w) (base := base) T U
  have b_is_stands := U.b_is_stands
  have G_is_arrows := ok_is_arrows (P := P) (w := w) (base := base) T U
  have b_is_arrows := U.b_is_arrows
  have G_check_signs := ok_check_signs (P := P) (w := w) (base := base) T U
  have b_check_signs := U.b_check_signs
  refine U.F_Reader_init.ok sc_Reader_init (fun vs H Q E h => ?_) (fun cdv A0 outer s H vs Q E hr h => ?_)
  · obtain ⟨p, dx, a, e, n, tab, ends, rfl, _⟩ := h
    rfl
  · have hu := hu_of hr
    obtain ⟨p, dx, a, e, n, tab, ends, rfl, hp, ha, he, n1, gt, ge, q⟩ := h
    refine ⟨_, (pss_cons (ps_expr (pe_call G_check_signs (hr.mono (by decide)) (by rfl) T.m_check_signs T.k_check_signs b_check_signs .nil pass0 (pa_cons (pv 1) pa_nil)))
       (pss_cons (ps_if (pt_not (pt_val (pe_call G_is_arrows (hr.mono (by decide)) (by rfl) T.m_is_arrows T.k_is_arrows b_is_arrows .nil pass0 (pa_cons (pv 2) (pa_cons (pv 1) pa_nil))))) (pss_one ps_never) pss_nil)
       (pss_cons (ps_if (pt_not (pt_val (pe_call G_is_stands (hr.mono (by decide)) (by rfl) T.m_is_stands T.k_is_stands b_is_stands .nil pass0 (pa_cons (pv 3) (pa_cons (pe_callB (w_len (K := K)) (by rfl) T.b_len (by decide +kernel) (pa_cons (pv 2) pa_nil)) pa_nil))))) (pss_one ps_never) pss_nil)
       (pss_cons (ps_fld (pv 0) (pv 1) rfl)
       (pss_cons (ps_fld (pv 0) (pv 2) rfl)
       (pss_one (ps_fld (pv 0) (pv 3) rfl))))))), ?_⟩
    refine ⟨_, rfl, _, rfl, by omega, by have := gt.w8; omega, ?_⟩
    refine ⟨_, rfl, _, rfl, _, tab, n, rfl, ha, gt, fun H1 s1 => ?_⟩
    refine ⟨_, rfl, iteF (g_next ?_)⟩
    obtain ⟨xa, xs, e1, hx, hds⟩ := dp_tup (dp_mono s1 _ _ ha)
    obtain rfl := V.ref.inj e1
    have hl : xs.length = tab.length := by rw [dps_len hds, List.length_map]
    refine ⟨_, rfl, _, rfl, _, _, rfl, .inr ⟨_, hx, rfl⟩, _, ends, tab.length, by rw [hl] <;> rfl, dp_mono s1 _ _ he, ge.len, ge.asc, ge.lt, fun H2 s2 => ?_⟩
    refine ⟨_, rfl, iteF (g_next ?_)⟩
    have hp2 := s2 _ _ (s1 _ _ hp)
    refine ⟨_, rfl, _, rfl, p, A.C, dx, _, rfl, hp2, T.cl, T.na_signs, (by show 0 < 1000; decide), ?_⟩
    refine ⟨_, rfl, _, rfl, p, A.C, dx, _, rfl, upd_same, T.cl, T.na_arrows, (by show 1 < 1000; decide), ?_⟩
    refine ⟨_, rfl, _, rfl, p, A.C, dx, _, rfl, upd_same, T.cl, T.na_ends, (by
      show (putF "_arrows" _ (putF "_signs" _ [])).length < 1000
      have : ∀ (x y : V), (putF "_arrows" x (putF "_signs" y [])).length = 2 := fun x y => by
        show (if ("_signs" : Str) = "_arrows" then _ else (("_signs" : Str), y) :: putF "_arrows" x []).length = 2
        rw [if_neg ks1]
        rfl
      rw [this]
      decide), ?_⟩
    refine q _ (fun b o hb hne => ?_) upd_same
    rw [upd_ne hne, upd_ne hne, upd_ne hne]
    exact s2 _ _ (s1 _ _ hb)
def spGet (C : Addr) (f : Str) : Sp := fun vs H Q _ => ∃ a dx fs v, vs = [.ref a] ∧ H a = some (.ins C dx fs) ∧ fs.lookup f = some v ∧ Q v H
theorem ok_Reader_signs (T : Txt K mg A) (U : Funs K A fd) : FnOk P w K mg base CX0 1 A.Reader_signs fd.Reader_signs p_Reader_signs (spGet A.C "_signs") := by
  refine U.F_Reader_signs.ok sc_Reader_signs (fun vs H Q E h => ?_) (fun cdv A0 outer s H vs Q E hr h => ?_)
  · obtain ⟨a, dx, fs, v, rfl, _⟩ := h
    rfl
  · have hu := hu_of hr
    obtain ⟨a, dx, fs, v, rfl, ea, l, q⟩ := h
    refine ⟨_, (pss_one (ps_ret (pe_fld (pv 0) rfl))), ?_⟩
    exact ⟨_, rfl, a, A.C, dx, fs, v, rfl, ea, T.cl, T.na_signs, l, q⟩
theorem ok_Reader_arrows (T : Txt K mg A) (U : Funs K A fd) : FnOk P w K mg base CX0 1 A.Reader_arrows fd.Reader_arrows p_Reader_arrows (spGet A.C "_arrows") := by
  refine U.F_Reader_arrows.ok sc_Reader_arrows (fun vs H Q E h => ?_) (fun cdv A0 outer s H vs Q E hr h => ?_)
  · obtain ⟨a, dx, fs, v, rfl, _⟩ := h
    rfl
  · have hu := hu_of hr
    obtain ⟨a, dx, fs, v, rfl, ea, l, q⟩ := h
    refine ⟨_, (pss_one (ps_ret (pe_fld (pv 0) rfl))), ?_⟩
    exact ⟨_, rfl, a, A.C, dx, fs, v, rfl, ea, T.cl, T.na_arrows, l, q⟩
theorem ok_Reader_ends (T : Txt K mg A) (U : Funs K A fd) : FnOk P w K mg base CX0 1 A.Reader_ends fd.Reader_ends p_Reader_ends (spGet A.C "_ends") := by
  refine U.F_Reader_ends.ok sc_Reader_ends (fun vs H Q E h => ?_) (fun cdv A0 outer s H vs Q E hr h => ?_)
  · obtain ⟨a, dx, fs, v, rfl, _⟩ := h
    rfl
  · have hu := hu_of hr
    obtain ⟨a, dx, fs, v, rfl, ea, l, q⟩ := h
    refine ⟨_, (pss_one (ps_ret (pe_fld (pv 0) rfl))), ?_⟩
    exact ⟨_, rfl, a, A.C, dx, fs, v, rfl, ea, T.cl, T.na_ends, l, q⟩
def spRd (K : PySem.W.Frag) (C : Addr) (f : Nat → List (List (Option Nat)) → List Nat → V) : Sp := fun vs H Q _ => ∃ p w tab ends, vs = [.ref p] ∧ RdAt K C H p w tab ends ∧ Q (f w tab ends) H
theorem ok_Reader_len (T : Txt K mg A) (U : Funs K A fd) : FnOk P w K mg base CX0 1 A.Reader_len fd.Reader_len p_Reader_len (spRd K A.C (fun _ tab _ => .int (tab.length : Int))) := by
  refine U.F_Reader_len.ok sc_Reader_len (fun vs H Q E h => ?_) (fun cdv A0 outer s H vs Q E hr h => ?_)
  · obtain ⟨p, n, tab, ends, rfl, _⟩ := h
    rfl
  · have hu := hu_of hr
    obtain ⟨p, n, tab, ends, rfl, R, q⟩ := h
    refine ⟨_, (pss_one (ps_ret (pe_callB (w_len (K := K)) (by rfl) T.b_len (by decide +kernel) (pa_cons (pe_fld (pv 0) rfl) pa_nil)))), ?_⟩
    obtain ⟨dx, a, e, h1, h2, h3⟩ := R.ob
    obtain ⟨xa, xs, e1, hx, hds⟩ := dp_tup h2
    obtain rfl := V.ref.inj e1
    have hl : xs.length = tab.length := by rw [dps_len hds, List.length_map]
    refine ⟨_, rfl, p, A.C, dx, _, _, rfl, h1, T.cl, T.na_arrows, flds_arrows _ _ _, _, tab.length, rfl, .inr ⟨_, hx, hl.symm⟩, q⟩
theorem insTy (T : Txt K mg A) {H : Hp} {p dx : Addr} {fs : List (Str × V)} (h : H p = some (.ins A.C dx fs)) : TyX K H (.ref p) (.ref A.C) := .base (.ins h T.cl T.t_ha T.t_hn T.t_tk T.t_mo)
theorem kit_self (a : Addr) : PySem.W.kitOne K (.ref a) (.ref a) = some true := by
  unfold PySem.W.kitOne
  simp
theorem ok_check_reader (T : Txt K mg A) (U : Funs K A fd) : FnOk P w K mg base CX0 1 A.check_reader fd.check_reader p_check_reader (spRd K A.C (fun _ _ _ => .non)) := by
  refine U.F_check_reader.ok sc_check_reader (fun vs H Q E h => ?_) (fun cdv A0 outer s H vs Q E hr h => ?_)
  · obtain ⟨p, n, tab, ends, rfl, _⟩ := h
    rfl
  · have hu := hu_of hr
    obtain ⟨p, n, tab, ends, rfl, R, q⟩ := h
    refine ⟨_, (pss_one (ps_if (pt_not (pt_val (pe_callB (w_isi (K := K)) (by rfl) T.b_isinstance (by decide +kernel) (pa_cons (pv 0) (pa_cons (pe_glob (v := .ref A.C) (by rfl) T.m_Reader rfl) pa_nil))))) (pss_one ps_never) pss_nil)), ?_⟩
    obtain ⟨dx, a, e, h1, h2, h3⟩ := R.ob
    exact ⟨_, rfl, .ref p, .ref A.C, .ref A.C, .ref A.C, true, rfl, .own _, insTy T h1, kit_self _, true, rfl, iteF (g_next q)⟩
end K6


set_option linter.all false
namespace K6
open PySem
/-! ### the mathematics: yes rows counted and listed -/
abbrev Tab := List (List (Option Nat))
def links (t : Tab) : List (List Nat) := t.map fun row => row.filterMap id
def cnt0 (n : Nat) (ends : List Nat) : List Int := (List.range n).map fun i => if i ∈ ends then 1 else 0
def cntS (ls : List (List Nat)) (c : List Int) : List Int := ls.map fun l => (l.map fun k => c.getD k 0).sum
def cnt (t : Tab) (ends : List Nat) : Nat → List Int
  | 0 => cnt0 t.length ends
  | k + 1 => cntS (links t) (cnt t ends k)
theorem links_len (t : Tab) : (links t).length = t.length := List.length_map _
theorem cnt_len (t : Tab) (ends : List Nat) : ∀ k, (cnt t ends k).length = t.length
  | 0 => by
    show (cnt0 t.length ends).length = _
    unfold cnt0
    rw [List.length_map, List.length_range]
  | k + 1 => by
    show (cntS (links t) _).length = _
    unfold cntS
    rw [List.length_map, links_len]
def dInts (ns : List Int) : PyData := .list (ns.map .int)
def dLinks (t : Tab) : PyData := .list ((links t).map fun l => .list (l.map fun (k : Nat) => .int (k : Int)))
def dCounts (t : Tab) (ends : List Nat) (n : Nat) : PyData := .list ((List.range (n + 1)).map fun k => dInts (cnt t ends k))
/-! ### sums -/
theorem sum_app : ∀ (a b : List Int), (a ++ b).sum = a.sum + b.sum
  | [], b => by simp
  | x :: a, b => by rw [List.cons_append, List.sum_cons, List.sum_cons, sum_app a b]; omega
theorem sum_zero : ∀ {l : List Int}, (∀ x ∈ l, x = 0) → l.sum = 0
  | [], _ => rfl
  | x :: l, h => by rw [List.sum_cons, sum_zero fun y hy => h y (List.mem_cons_of_mem _ hy), h x List.mem_cons_self]; rfl
theorem sum_nonneg : ∀ {l : List Int}, (∀ x ∈ l, 0 ≤ x) → 0 ≤ l.sum
  | [], _ => Int.le_refl 0
  | x :: l, h => by
    rw [List.sum_cons]
    have a := sum_nonneg fun y hy => h y (List.mem_cons_of_mem _ hy)
    have b := h x List.mem_cons_self
    omega
theorem zero_sum : ∀ {l : List Int}, (∀ x ∈ l, 0 ≤ x) → l.sum = 0 → ∀ x ∈ l, x = 0
  | [], _, _, x, hx => by simp at hx
  | y :: l, h, e, x, hx => by
    rw [List.sum_cons] at e
    have a := sum_nonneg fun z hz => h z (List.mem_cons_of_mem _ hz)
    have b := h y List.mem_cons_self
    rcases List.mem_cons.mp hx with rfl | hx
    · omega
    · exact zero_sum (fun z hz => h z (List.mem_cons_of_mem _ hz)) (by omega) x hx
theorem sum_flat {α : Type} (f : α → List Int) : ∀ l : List α, (l.flatMap f).sum = (l.map fun a => (f a).sum).sum
  | [] => rfl
  | x :: l => by rw [List.flatMap_cons, sum_app, List.map_cons, List.sum_cons, sum_flat f l]
/-! ### the count from a stand -/
def cN (t : Tab) (ends : List Nat) (k s : Nat) : Int := (cnt t ends k).getD s 0
theorem cN_zero {t : Tab} {ends : List Nat} {s : Nat} : cN t ends 0 s = if s < t.length ∧ s ∈ ends then 1 else 0 := by
  show (cnt0 t.length ends).getD s 0 = _
  unfold cnt0
  rw [List.getD_eq_getElem?_getD, List.getElem?_map]
  by_cases h : s < t.length
  · rw [List.getElem?_range h]
    by_cases c : s ∈ ends <;> simp [h, c]
  · rw [List.getElem?_eq_none (by simpa using h)]
    simp [h]
theorem cN_succ (t : Tab) (ends : List Nat) (k s : Nat) : cN t ends (k + 1) s = (((t.getD s []).filterMap id).map fun g => cN t ends k g).sum := by
  show (cntS (links t) (cnt t ends k)).getD s 0 = _
  unfold cntS links
  rw [List.getD_eq_getElem?_getD, List.getElem?_map, List.getElem?_map, List.getD_eq_getElem?_getD]
  cases t[s]? <;> rfl
theorem cN_nonneg (t : Tab) (ends : List Nat) : ∀ k s, 0 ≤ cN t ends k s
  | 0, s => by rw [cN_zero]; split <;> omega
  | k + 1, s => by
    rw [cN_succ]
    refine sum_nonneg fun x hx => ?_
    obtain ⟨g, _, rfl⟩ := List.mem_map.mp hx
    exact cN_nonneg t ends k g
/-! ### the rows of a length, and those from which an end is come to -/
def lv (w : Nat) : Nat → List (List Nat)
  | 0 => [[]]
  | j + 1 => (lv w j).flatMap fun l => (List.range w).map fun g => l ++ [g]
def st1 (t : Tab) (s : Option Nat) (g : Nat) : Option Nat := s.bind fun k => (t.getD k []).getD g none
def wk (t : Tab) (s : Option Nat) (l : List Nat) : Option Nat := l.foldl (st1 t) s
theorem wk_snoc (t : Tab) (s : Option Nat) (l : List Nat) (g : Nat) : wk t s (l ++ [g]) = st1 t (wk t s l) g := by
  unfold wk
  rw [List.foldl_append]
  rfl
/-- one front on by one sign -/
def on1 (t : Tab) (ends : List Nat) (k : Nat) (p : List Nat × Nat) (g : Nat) : Option (List Nat × Nat) := match (t.getD p.2 []).getD g none with
  | some goal => if cN t ends k goal ≠ 0 then some (p.1 ++ [g], goal) else none
  | none => none
def frS (t : Tab) (ends : List Nat) (w k : Nat) (f : List (List Nat × Nat)) : List (List Nat × Nat) := f.flatMap fun p => (List.range w).filterMap (on1 t ends k p)
def fr (t : Tab) (ends : List Nat) (w n : Nat) : Nat → List (List Nat × Nat)
  | 0 => if cN t ends n 0 ≠ 0 then [([], 0)] else []
  | j + 1 => frS t ends w (n - 1 - j) (fr t ends w n j)
def pick (t : Tab) (ends : List Nat) (k : Nat) (l : List Nat) : Option (List Nat × Nat) := match wk t (some 0) l with
  | some s => if cN t ends k s ≠ 0 then some (l, s) else none
  | none => none
theorem filterMap_flat {α β γ : Type} (f : α → List β) (g : β → Option γ) : ∀ l : List α, (l.flatMap f).filterMap g = l.flatMap fun a => (f a).filterMap g
  | [] => rfl
  | x :: l => by rw [List.flatMap_cons, List.filterMap_append, List.flatMap_cons, filterMap_flat f g l]
theorem flat_filterMap {α β γ : Type} (f : α → Option β) (g : β → List γ) : ∀ l : List α, (l.filterMap f).flatMap g = l.flatMap fun a => match f a with | some b => g b | none => []
  | [] => rfl
  | x :: l => by
    rw [List.filterMap_cons, List.flatMap_cons]
    cases f x with
    | none => simp [flat_filterMap f g l]
    | some b => simp [flat_filterMap f g l]
theorem filterMap_none {α β : Type} {f : α → Option β} : ∀ {l : List α}, (∀ a ∈ l, f a = none) → l.filterMap f = []
  | [], _ => rfl
  | x :: l, h => by rw [List.filterMap_cons, h x List.mem_cons_self]; exact filterMap_none fun a ha => h a (List.mem_cons_of_mem _ ha)
theorem flat_congr {α β : Type} {f g : α → List β} : ∀ {l : List α}, (∀ a ∈ l, f a = g a) → l.flatMap f = l.flatMap g
  | [], _ => rfl
  | x :: l, h => by rw [List.flatMap_cons, List.flatMap_cons, h x List.mem_cons_self, flat_congr fun a ha => h a (List.mem_cons_of_mem _ ha)]
theorem mem_getD {row : List (Option Nat)} {g goal : Nat} (h : row.getD g none = some goal) : some goal ∈ row := by
  rw [List.getD_eq_getElem?_getD] at h
  cases e : row[g]? with
  | none => rw [e] at h; cases h
  | some o =>
    rw [e] at h
    have h : o = some goal := h
    subst h
    exact List.mem_of_getElem? e
theorem fr_lv (t : Tab) (ends : List Nat) (w n : Nat) : ∀ j, j ≤ n → fr t ends w n j = (lv w j).filterMap (pick t ends (n - j))
  | 0, _ => by
    show (if cN t ends n 0 ≠ 0 then [([], 0)] else []) = [[]].filterMap (pick t ends n)
    have e : pick t ends n [] = if cN t ends n 0 ≠ 0 then some ([], 0) else none := rfl
    rw [List.filterMap_cons, e]
    by_cases c : cN t ends n 0 ≠ 0
    · simp [c]
    · simp [c]
  | j + 1, hj => by
    show frS t ends w (n - 1 - j) (fr t ends w n j) = ((lv w j).flatMap fun l => (List.range w).map fun g => l ++ [g]).filterMap _
    unfold frS
    rw [fr_lv t ends w n j (by omega), flat_filterMap, filterMap_flat]
    refine flat_congr fun l _ => ?_
    rw [List.filterMap_map]
    have hk : n - j = (n - (j + 1)) + 1 := by omega
    have hk2 : n - 1 - j = n - (j + 1) := by omega
    cases e : wk t (some 0) l with
    | none =>
      have e1 : pick t ends (n - j) l = none := by unfold pick; rw [e]
      rw [e1]
      refine (filterMap_none fun g _ => ?_).symm
      show pick t ends _ (l ++ [g]) = none
      unfold pick
      rw [wk_snoc, e]
      rfl
    | some s =>
      by_cases c : cN t ends (n - j) s ≠ 0
      · have e1 : pick t ends (n - j) l = some (l, s) := by unfold pick; rw [e]; exact if_pos c
        rw [e1, hk2]
        refine congrArg (fun f => (List.range w).filterMap f) (funext fun g => ?_)
        show on1 t ends _ (l, s) g = pick t ends _ (l ++ [g])
        unfold on1 pick
        rw [wk_snoc, e]
        rfl
      · have e1 : pick t ends (n - j) l = none := by unfold pick; rw [e]; exact if_neg c
        rw [e1]
        refine (filterMap_none fun g _ => ?_).symm
        show pick t ends _ (l ++ [g]) = none
        have z : cN t ends (n - j) s = 0 := Classical.not_not.mp c
        rw [hk, cN_succ] at z
        unfold pick
        rw [wk_snoc, e]
        show (match (t.getD s []).getD g none with | some s => if cN t ends (n - (j + 1)) s ≠ 0 then some (l ++ [g], s) else none | none => none) = none
        cases eg : (t.getD s []).getD g none with
        | none => rfl
        | some goal =>
          have hz := zero_sum (fun x hx => by
            obtain ⟨g, _, rfl⟩ := List.mem_map.mp hx
            exact cN_nonneg t ends _ g) z (cN t ends (n - (j + 1)) goal) (List.mem_map.mpr ⟨goal, List.mem_filterMap.mpr ⟨some goal, mem_getD eg, rfl⟩, rfl⟩)
          show (if cN t ends (n - (j + 1)) goal ≠ 0 then some (l ++ [g], goal) else none) = none
          rw [hz]
          rfl
/-! ### how many -/
theorem row_sum (c : Nat → Int) : ∀ (row : List (Option Nat)), (((List.range row.length).filterMap fun g => match row.getD g none with | some goal => if c goal ≠ 0 then some (c goal) else none | none => none)).sum = ((row.filterMap id).map c).sum := by
  intro row
  have key : ∀ (row : List (Option Nat)) (n : Nat) , n ≤ row.length → ((List.range n).filterMap fun g => match row.getD g none with | some goal => if c goal ≠ 0 then some (c goal) else none | none => none).sum = (((row.take n).filterMap id).map c).sum := by
    intro row n
    induction n with
    | zero => intro _; rfl
    | succ n ih =>
      intro hn
      rw [List.range_succ, List.filterMap_append, sum_app, ih (by omega), List.take_add_one, List.filterMap_append, List.map_append, sum_app]
      congr 1
      rw [List.getElem?_eq_getElem (show n < row.length by omega)]
      have e : row.getD n none = row[n] := by rw [List.getD_eq_getElem?_getD, List.getElem?_eq_getElem (show n < row.length by omega)]; rfl
      simp only [List.filterMap_cons, List.filterMap_nil, e, Option.toList]
      cases row[n] with
      | none => rfl
      | some goal =>
        by_cases z : c goal ≠ 0
        · simp [z]
        · simp [Classical.not_not.mp z]
  have h := key row row.length (Nat.le_refl _)
  rw [List.take_length] at h
  exact h
theorem fr_sum {t : Tab} {ends : List Nat} {w n : Nat} (hw : ∀ row ∈ t, row.length = w) : ∀ j, j ≤ n → ((fr t ends w n j).map fun p => cN t ends (n - j) p.2).sum = cN t ends n 0
  | 0, _ => by
    show ((if cN t ends n 0 ≠ 0 then [(([] : List Nat), 0)] else []).map fun p => cN t ends n p.2).sum = _
    by_cases c : cN t ends n 0 ≠ 0
    · rw [if_pos c]; simp
    · rw [if_neg c]; exact (Classical.not_not.mp c).symm
  | j + 1, hj => by
    show ((frS t ends w (n - 1 - j) (fr t ends w n j)).map _).sum = _
    rw [← fr_sum hw j (by omega)]
    unfold frS
    rw [List.map_flatMap, sum_flat]
    refine congrArg List.sum (List.map_congr_left fun p _ => ?_)
    have hk : n - j = (n - (j + 1)) + 1 := by omega
    have hk2 : n - 1 - j = n - (j + 1) := by omega
    rw [hk, cN_succ, hk2, List.map_filterMap, ← row_sum]
    by_cases hp : p.2 < t.length
    · have hr : (t.getD p.2 []).length = w := by
        rw [List.getD_eq_getElem?_getD, List.getElem?_eq_getElem hp]
        exact hw _ (List.getElem_mem hp)
      rw [hr]
      refine congrArg List.sum (congrArg (fun f => (List.range w).filterMap f) (funext fun g => ?_))
      unfold on1
      cases (t.getD p.2 []).getD g none with
      | none => rfl
      | some goal =>
        show Option.map _ (if cN t ends (n - (j + 1)) goal ≠ 0 then some (p.1 ++ [g], goal) else none) = if cN t ends (n - (j + 1)) goal ≠ 0 then some (cN t ends (n - (j + 1)) goal) else none
        by_cases z : cN t ends (n - (j + 1)) goal ≠ 0
        · rw [if_pos z, if_pos z]; rfl
        · rw [if_neg z, if_neg z]; rfl
    · have hr : t.getD p.2 [] = [] := by
        rw [List.getD_eq_getElem?_getD, List.getElem?_eq_none (by omega)]
        rfl
      rw [hr]
      have e : ((List.range w).filterMap fun x => Option.map (fun p => cN t ends (n - (j + 1)) p.2) (on1 t ends (n - (j + 1)) p x)) = [] := by
        refine filterMap_none fun g _ => ?_
        unfold on1
        rw [hr]
        rfl
      rw [e]
      rfl
def yes (t : Tab) (ends : List Nat) (l : List Nat) : Bool := match wk t (some 0) l with
  | some s => decide (s ∈ ends)
  | none => false
theorem pick0 {t : Tab} {ends : List Nat} (he : ∀ g ∈ ends, g < t.length) (l : List Nat) : (pick t ends 0 l).map Prod.fst = if yes t ends l = true then some l else none := by
  unfold pick yes
  cases wk t (some 0) l with
  | none => rfl
  | some s =>
    show Option.map _ (if cN t ends 0 s ≠ 0 then some (l, s) else none) = if decide (s ∈ ends) = true then some l else none
    rw [cN_zero]
    by_cases c : s ∈ ends
    · simp [c, he s c]
    · simp [c]
theorem rows_are {t : Tab} {ends : List Nat} {w n : Nat} (he : ∀ g ∈ ends, g < t.length) : (fr t ends w n n).map Prod.fst = (lv w n).filter (yes t ends) := by
  rw [fr_lv t ends w n n (Nat.le_refl n), Nat.sub_self, List.map_filterMap]
  rw [show (fun x => Option.map Prod.fst (pick t ends 0 x)) = fun l => if yes t ends l = true then some l else none from funext (pick0 he)]
  induction lv w n with
  | nil => rfl
  | cons x l ih =>
    rw [List.filterMap_cons, List.filter_cons]
    by_cases c : yes t ends x = true
    · simp only [c, if_true]
      rw [ih]
    · simp only [c, if_false, Bool.false_eq_true]
      exact ih
theorem fr_ones {t : Tab} {ends : List Nat} {w n : Nat} : ∀ p ∈ fr t ends w n n, cN t ends 0 p.2 = 1 := by
  intro p hp
  rw [fr_lv t ends w n n (Nat.le_refl n), Nat.sub_self] at hp
  obtain ⟨l, _, hl⟩ := List.mem_filterMap.mp hp
  unfold pick at hl
  cases e : wk t (some 0) l with
  | none => rw [e] at hl; cases hl
  | some s =>
    rw [e] at hl
    have hl : (if cN t ends 0 s ≠ 0 then some (l, s) else none) = some p := hl
    by_cases c : cN t ends 0 s ≠ 0
    · rw [if_pos c] at hl
      obtain rfl := Option.some.inj hl
      rw [cN_zero] at c ⊢
      by_cases z : s < t.length ∧ s ∈ ends
      · exact if_pos z
      · exact absurd (if_neg z) c
    · rw [if_neg c] at hl
      cases hl
theorem ones_sum {α : Type} {f : α → Int} : ∀ {l : List α}, (∀ p ∈ l, f p = 1) → (l.map f).sum = (l.length : Int)
  | [], _ => rfl
  | x :: l, h => by
    rw [List.map_cons, List.sum_cons, h x List.mem_cons_self, ones_sum fun p hp => h p (List.mem_cons_of_mem _ hp), List.length_cons]
    omega
theorem count_is {t : Tab} {ends : List Nat} {w : Nat} (n : Nat) (hw : ∀ row ∈ t, row.length = w) (he : ∀ g ∈ ends, g < t.length) : cN t ends n 0 = (((lv w n).filter (yes t ends)).length : Int) := by
  have h := fr_sum (ends := ends) (n := n) hw n (Nat.le_refl n)
  rw [Nat.sub_self, ones_sum fr_ones] at h
  rw [← h, ← rows_are he, List.length_map]
theorem lv_len (w : Nat) : ∀ n, (lv w n).length = w ^ n
  | 0 => rfl
  | n + 1 => by
    show ((lv w n).flatMap _).length = _
    have : ∀ l : List (List Nat), (l.flatMap fun l => (List.range w).map fun g => l ++ [g]).length = l.length * w := by
      intro l
      induction l with
      | nil => simp
      | cons x l ih => rw [List.flatMap_cons, List.length_append, ih, List.length_map, List.length_range, List.length_cons]; rw [Nat.succ_mul]; omega
    rw [this, lv_len w n, Nat.pow_succ]
theorem lv_mem {w : Nat} : ∀ {n : Nat} {l : List Nat}, l ∈ lv w n → l.length = n ∧ ∀ g ∈ l, g < w
  | 0, l, h => by
    have e : l = [] := by simpa [lv] using h
    subst e
    exact ⟨rfl, fun g hg => by simp at hg⟩
  | n + 1, l, h => by
    obtain ⟨l', h1, h2⟩ := List.mem_flatMap.mp h
    obtain ⟨g, hg, rfl⟩ := List.mem_map.mp h2
    obtain ⟨e, hh⟩ := lv_mem h1
    refine ⟨by rw [List.length_append, e]; rfl, fun x hx => ?_⟩
    rcases List.mem_append.mp hx with hx | hx
    · exact hh x hx
    · rw [List.mem_singleton.mp hx]
      exact List.mem_range.mp hg
end K6

set_option Elab.async false
set_option linter.all false
set_option maxRecDepth 100000
set_option maxHeartbeats 4000000
namespace K6
open PySem PySem.Spec PyProof.Rows L2 Rw
variable {P : Program} {w : World} {K : PySem.W.Frag} {mg : Str → Option Value} {base : Heap} {A : Ad} {fd : Fds}
def flags (n : Nat) (l : List Nat) : List V := (List.range n).map fun k => .bl (decide (k ∈ l))
theorem flags_set {n e : Nat} {l : List Nat} (h : e < n) : (flags n l).set e (.bl true) = flags n (l ++ [e]) := by
  unfold flags
  apply List.ext_getElem
  · simp
  · intro i h1 h2
    simp only [List.length_set, List.length_map, List.length_range] at h1
    rw [List.getElem_set]
    by_cases c : e = i
    · subst c
      rw [if_pos rfl]
      simp
    · rw [if_neg c]
      simp
      intro h
      omega
theorem flags_nil (n : Nat) : (List.replicate n [V.bl false]).flatten = flags n [] := by
  unfold flags
  induction n with
  | zero => rfl
  | succ n ih =>
    rw [List.replicate_succ', List.flatten_append, ih, List.range_succ, List.map_append]
    simp
def spFlagsOf (K : PySem.W.Frag) : Sp := fun vs H Q _ => ∃ (n : Nat) (v : V) (ends : List Nat), vs = [.int (n : Int), v] ∧ Dp K H v (dNats ends) ∧ (∀ g ∈ ends, g < n) ∧ n ≤ 200 ∧
  ∀ q H', H q = none → Same H H' → H' q = some (.lst (flags n ends)) → Q (.ref q) H'
theorem ok_flags_of (T : Txt K mg A) (U : Funs K A fd) : FnOk P w K mg base CX0 1 A.flags_of fd.flags_of p_flags_of (spFlagsOf K) := by
  refine U.F_flags_of.ok sc_flags_of (fun vs H Q E h => ?_) (fun cdv A0 outer s H vs Q E hr h => ?_)
  · obtain ⟨n, v, ends, rfl, _⟩ := h
    rfl
  · have hu := hu_of hr
    obtain ⟨n, v, ends, rfl, hd, lt, hn, k⟩ := h
    refine ⟨_, (pss_cons (ps_set (i := 2) sc_flags_of.nd rfl (Or.inl rfl) (pe_op op_rep (pe_lst (pa_cons pe_bl pa_nil)) (pv 0)))
       (pss_cons (ps_for PassesOwn.never rfl (w_piT (K := K) (pv 1)) (pg_name (i := 3) sc_flags_of.nd rfl (Or.inl rfl))
       (pss_one (ps_asg pe_bl (pg_sub (pv 2) (pv 3) set_list))))
       (pss_one (ps_ret (pv 2))))), ?_⟩
    refine ⟨by show 1 ≤ sizeLine; decide, fun p0 hp0 => ?_⟩
    have s0 : Same H (upd H p0 (.lst [.bl false])) := same_upd hp0
    refine ⟨_, rfl, p0, _, _, rfl, rfl, upd_same, by omega, by omega, szl (by simp; omega), fun q hq => ?_⟩
    rw [Int.toNat_natCast, flags_nil]
    have s1 : Same H (upd (upd H p0 (.lst [.bl false])) q (.lst (flags n []))) := s0.trans (same_upd hq)
    have nq : H q = none := Same.free s0 hq
    have h3 := dp_mono s1 _ _ hd
    unfold dNats at h3
    rw [nats_int] at h3
    obtain ⟨ae, xs, e1, hx, hds⟩ := dp_tup h3
    obtain rfl := dps_ints hds
    subst e1
    refine ⟨_, rfl, ae, rfl, ⟨_, hx⟩, ?_⟩
    refine for_tup (xs := (ends.map Int.ofNat).map V.int) (fun i σ H' => ∃ y, σ = [some (.int (n : Int)), some (.ref ae), some (.ref q), y] ∧ (∀ b o, b ≠ q → (upd (upd H p0 (.lst [.bl false])) q (.lst (flags n []))) b = some o → H' b = some o) ∧ Same H H' ∧ H' q = some (.lst (flags n (ends.take i)))) ?_ ?_ ?_ ?_
    · exact ⟨none, rfl, fun b o _ h => h, s1, upd_same⟩
    · rintro i σ H' _ ⟨y, rfl, s2, _, _⟩
      rcases hx with (hx | ⟨o, hx⟩) | hx
      · refine .inl (.inl (s2 _ _ (fun z => ?_) hx))
        rw [z, upd_same] at hx
        cases hx
      · refine .inl (.inr ⟨o, s2 _ _ (fun z => ?_) hx⟩)
        rw [z, upd_same] at hx
        cases hx
      · exact .inr hx
    · rintro i x σ H' hi ⟨y, rfl, s2, s3, hq2⟩
      rw [List.map_map, List.getElem?_map] at hi
      cases ee : ends[i]? with
      | none => rw [ee] at hi; cases hi
      | some g =>
        rw [ee] at hi
        obtain rfl := Option.some.inj hi
        have hg : g < n := lt g (List.mem_of_getElem? ee)
        refine ⟨_, rfl, _, rfl, q, _, _, g, rfl, rfl, hq2, Evl.ixN_nat (by simp [flags]; exact hg), ?_⟩
        refine ⟨_, rfl, fun b o hb h => ?_, same_put s3 nq, ?_⟩
        · rw [upd_ne hb]
          exact s2 b o hb h
        · rw [upd_same, flags_set hg, List.take_add_one, ee]
          rfl
    · rintro σ H' ⟨y, rfl, s2, s3, hq2⟩
      rw [List.length_map, List.length_map, List.take_length] at hq2
      exact ⟨_, rfl, k q H' nq s3 hq2⟩
def spFlags (K : PySem.W.Frag) (C : Addr) : Sp := fun vs H Q _ => ∃ p w tab ends, vs = [.ref p] ∧ RdAt K C H p w tab ends ∧ GoodE tab.length ends ∧ tab.length ≤ 200 ∧
  ∀ q H', H q = none → Same H H' → H' q = some (.lst (flags tab.length ends)) → Q (.ref q) H'
theorem ok_end_flags (T : Txt K mg A) (U : Funs K A fd) : FnOk P w K mg base CX0 4 A.end_flags fd.end_flags p_end_flags (spFlags K A.C) := by
  have G_flags_of := ok_flags_of (P := P) (w := w) (base := base) T U
  have b_flags_of := U.b_flags_of
  have G_Reader_ends := ok_Reader_ends (P := P) (w := w) (base := base) T U
  have b_Reader_ends := U.b_Reader_ends
  have G_Reader_len := ok_Reader_len (P := P) (w := w) (base := base) T U
  have b_Reader_len := U.b_Reader_len
  refine U.F_end_flags.ok sc_end_flags (fun vs H Q E h => ?_) (fun cdv A0 outer s H vs Q E hr h => ?_)
  · obtain ⟨p, n, tab, ends, rfl, _⟩ := h
    rfl
  · have hu := hu_of hr
    obtain ⟨p, n, tab, ends, rfl, R, ge, hn, k⟩ := h
    refine ⟨_, (pss_one (ps_ret (pe_call G_flags_of (hr.mono (by decide)) (by rfl) T.m_flags_of T.k_flags_of b_flags_of .nil pass0 (pa_cons (pe_callB (call_lenO G_Reader_len (hr.mono (by decide)) T.own_len T.isf_len b_Reader_len pass0) (by rfl) T.b_len PySem.boot_len (pa_cons (pv 0) pa_nil)) (pa_cons (pe_prop (pv 0) T.cl T.p_Reader_ends G_Reader_ends (hr.mono (by decide)) b_Reader_ends .nil pass0 rfl) pa_nil))))), ?_⟩
    obtain ⟨dx, a, e, h1, h2, h3⟩ := R.ob
    refine ⟨_, rfl, p, dx, _, rfl, h1, p, n, tab, ends, rfl, R, tab.length, rfl, by omega, ?_⟩
    exact ⟨_, rfl, p, dx, _, rfl, h1, p, dx, _, _, rfl, h1, flds_ends _ _ _, tab.length, .ref e, ends, rfl, h3, ge.lt, hn, k⟩
def spLinks (K : PySem.W.Frag) : Sp := fun vs H Q _ => ∃ (v : V) (tab : Tab) (w : Nat), vs = [v] ∧ Dp K H v (dTab tab) ∧ GoodT w tab ∧ ∀ v' H', Same H H' → Dp K H' v' (dLinks tab) → Q v' H'
def ofRow (row : List (Option Nat)) (i : Nat) : List V := match row[i]? with
  | some (some g) => [.int (g : Int)]
  | _ => []
theorem pre_take {α : Type} (row : List α) (g : α → List V) (st : Nat → List V) (h : ∀ i, st i = match row[i]? with | some a => g a | none => []) : ∀ n, pre st n = (row.take n).flatMap g
  | 0 => by simp [pre]
  | n + 1 => by
    rw [pre_succ, pre_take row g st h n, List.take_add_one, List.flatMap_append, h n]
    cases row[n]? <;> simp
theorem pre_row (row : List (Option Nat)) : pre (ofRow row) row.length = (row.filterMap id).map fun (k : Nat) => V.int (k : Int) := by
  rw [pre_take row (fun o => match o with | some g => [V.int (g : Int)] | none => []) (ofRow row) (fun i => by
    unfold ofRow
    cases row[i]? with
    | none => rfl
    | some o => cases o <;> rfl), List.take_length]
  induction row with
  | nil => rfl
  | cons o row ih =>
    rw [List.flatMap_cons, ih]
    cases o <;> simp
theorem range_getD {α β : Type} (l : List α) (d : α) (f : α → β) : (List.range l.length).map (fun k => f (l.getD k d)) = l.map f := by
  apply List.ext_getElem
  · simp
  · intro i h1 h2
    simp only [List.length_map] at h2
    simp [List.getD_eq_getElem?_getD, h2]
theorem pre_at {α : Type} (l : List α) (d : α) (f : α → V) : pre (fun i => [f (l.getD i d)]) l.length = l.map f := by
  rw [pre_map, range_getD l d f]
theorem dps_of {H : Hp} : ∀ {acc : List V} {es : List PyData}, acc.length = es.length → (∀ (k : Nat) (v : V) (e : PyData), acc[k]? = some v → es[k]? = some e → Dp K H v e) → DpAll K H acc es
  | [], [], _, _ => .nil
  | v :: acc, e :: es, hl, h => .cons (h 0 v e rfl rfl) (dps_of (by simpa using hl) fun k v e a b => h (k + 1) v e a b)
theorem Hold.dps {H : Hp} {acc : List V} {n : Nat} {ys : Nat → List V} (h : Hold H acc n ys) {ds : Nat → List PyData} (hd : ∀ k, k < n → DpAll K H (ys k) (ds k)) : DpAll K H acc ((List.range n).map fun k => .list (ds k)) := by
  refine dps_of (by rw [h.1]; simp) fun k v e hv he => ?_
  have hk : k < n := by have := lt_of_get hv; rw [h.1] at this; exact this
  rw [List.getElem?_map, List.getElem?_range hk] at he
  obtain rfl := Option.some.inj he
  obtain ⟨p, hp, hl⟩ := h.2 k hk
  rw [hp] at hv
  obtain rfl := Option.some.inj hv
  exact .lst (lst_of hl) (hd k hk)
theorem ok_links_of (T : Txt K mg A) (U : Funs K A fd) : FnOk P w K mg base CX0 1 A.links_of fd.links_of p_links_of (spLinks K) := by
  refine U.F_links_of.ok sc_links_of (fun vs H Q E h => ?_) (fun cdv A0 outer s H vs Q E hr h => ?_)
  · obtain ⟨v, tab, n, rfl, _⟩ := h
    rfl
  · have hu := hu_of hr
    obtain ⟨v, tab, n, rfl, hd, g, k⟩ := h
    refine ⟨_, (pss_one (ps_ret (pe_lc (own := [("goals", 1)]) (g := gName 1) (tt := tYes) (by rfl) sc_links_of.nd (w_piT (K := K) (pv 0)) (blkOk_by (own := [("goals", 1)]) (by rfl)) (fun _ _ _ _ _ => (pg_name (i := 1) sc_links_of.nd rfl (Or.inl rfl))) (fun _ _ _ _ _ => pts_nil) (fun _ _ _ _ _ => (pe_lc (own := [("goal", 2)]) (g := gName 2) (by rfl) sc_links_of.nd (w_piT (K := K) (pv 1)) (blkOk_by (own := [("goal", 2)]) (by rfl)) (fun _ _ _ _ _ => (pg_name (i := 2) sc_links_of.nd rfl (Or.inl rfl))) (fun _ _ _ _ _ => (pts_one (pt_cmpR op_notN (pv 2) pe_non (nomark _)))) (fun _ _ _ _ _ => (pv 2))))))), ?_⟩
    obtain ⟨a, xs, rfl, hx, hds⟩ := dp_tup hd
    have hl : xs.length = tab.length := by rw [dps_len hds, List.length_map]
    have n2 := g.n2
    refine g_ret (cTN (xs := xs) (fun i => ((tab.getD i []).filterMap id).map fun (k : Nat) => V.int (k : Int)) (fun R r => ?_) hx (by omega) ?_ (fun i x hi H1 R s1 r => ?_) (fun D acc H1 hD s1 h1 hold => ?_))
    · exact ⟨_, rfl, r⟩
    · exact fun _ => rfl
    · obtain ⟨row, hr1, hr2⟩ := row_in hds hi
      have er : tab.getD i [] = row := by rw [List.getD_eq_getElem?_getD, hr1]; rfl
      rw [er] at r
      obtain ⟨b, ys, rfl, hy, hdy⟩ := dp_tup (dp_mono s1 _ _ hr2)
      obtain rfl := dps_opts hdy
      have w8 := g.w8
      have hrw := (g.rows row (List.mem_of_getElem? hr1)).1
      refine cT (xs := row.map vO) (ofRow row) (fun R r => ?_) hy (fun i => ?_) (by rw [List.length_map]; omega) ?_ (fun i x hi H2 R N s2 ry rn => ?_) (fun D H2 hD2 s2 h2 => ?_)
      · exact ⟨_, rfl, r⟩
      · unfold ofRow
        split <;> simp
      · exact fun _ => rfl
      · rw [List.getElem?_map] at hi
        cases e : row[i]? with
        | none => rw [e] at hi; cases hi
        | some o =>
          rw [e] at hi
          obtain rfl := Option.some.inj hi
          cases o with
          | none =>
            refine ⟨_, rfl, rfl, _, rfl, ?_⟩
            exact rn H2 (by unfold ofRow; rw [e]) (Same.refl _)
          | some g =>
            refine ⟨_, rfl, rfl, _, rfl, ?_⟩
            exact ⟨_, rfl, ry _ H2 (by unfold ofRow; rw [e]; rfl) (Same.refl _)⟩
      · rw [List.length_map, pre_row] at h2
        exact r D H2 hD2 s2 h2
    · refine k (.ref D) H1 s1 (.lst (lst_of h1) ?_)
      have z := (hold.mono (del_same D)).dps (K := K) (ds := fun i => ((tab.getD i []).filterMap id).map fun (k : Nat) => PyData.int (k : Int)) fun i _ => by
        have e := ints_dps (K := K) (H := H1) (((tab.getD i []).filterMap id).map Int.ofNat)
        rw [List.map_map, List.map_map] at e
        exact e
      rw [hl, range_getD tab [] (fun row => PyData.list ((row.filterMap id).map fun (k : Nat) => PyData.int (k : Int)))] at z
      unfold links
      rw [List.map_map]
      exact z
theorem atI_m1 {xs : List V} {v : V} (h : xs[xs.length - 1]? = some v) : atI xs (-1) = some v := by
  have hn : xs ≠ [] := by
    intro e
    rw [e] at h
    cases h
  have e : xs = xs.dropLast ++ [v] := by
    have a := List.dropLast_concat_getLast hn
    rw [List.getElem?_eq_getElem (by have := List.length_pos_iff.mpr hn; omega)] at h
    have h := Option.some.inj h
    rw [← List.getLast_eq_getElem hn] at h
    rw [h] at a
    exact a.symm
  rw [e]
  exact atI_last _ v
def spCounts (K : PySem.W.Frag) (C : Addr) : Sp := fun vs H Q _ => ∃ p w tab ends m, vs = [.ref p, .int ((m : Nat) : Int)] ∧ RdAt K C H p w tab ends ∧ GoodT w tab ∧ GoodE tab.length ends ∧ m ≤ 200 ∧
  ∀ v' H', Same H H' → Dp K H' v' (dCounts tab ends m) → Q v' H'
theorem goal_lt {w : Nat} {tab : Tab} (g : GoodT w tab) {k x : Nat} (h : x ∈ (links tab).getD k []) : x < tab.length := by
  unfold links at h
  rw [List.getD_eq_getElem?_getD, List.getElem?_map] at h
  cases e : tab[k]? with
  | none => rw [e] at h; simp at h
  | some row =>
    rw [e] at h
    have h : x ∈ row.filterMap id := h
    obtain ⟨o, ho, rfl⟩ := List.mem_filterMap.mp h
    exact (g.rows row (List.mem_of_getElem? e)).2 x ho
theorem ok_counts_up_to (T : Txt K mg A) (U : Funs K A fd) : FnOk P w K mg base CX0 7 A.counts_up_to fd.counts_up_to p_counts_up_to (spCounts K A.C) := by
  have G_end_flags := ok_end_flags (P := P) (w := w) (base := base) T U
  have b_end_flags := U.b_end_flags
  have G_links_of := ok_links_of (P := P) (w := w) (base := base) T U
  have b_links_of := U.b_links_of
  have G_Reader_arrows := ok_Reader_arrows (P := P) (w := w) (base := base) T U
  have b_Reader_arrows := U.b_Reader_arrows
  refine U.F_counts_up_to.ok sc_counts_up_to (fun vs H Q E h => ?_) (fun cdv A0 outer s H vs Q E hr h => ?_)
  · obtain ⟨p, n, tab, ends, m, rfl, _⟩ := h
    rfl
  · have hu := hu_of hr
    obtain ⟨p, n, tab, ends, m, rfl, R, gt, ge, hm, k⟩ := h
    refine ⟨_, (pss_cons (ps_set (i := 2) sc_counts_up_to.nd rfl (Or.inl rfl) (pe_call G_links_of (hr.mono (by decide)) (by rfl) T.m_links_of T.k_links_of b_links_of .nil pass0 (pa_cons (pe_prop (pv 0) T.cl T.p_Reader_arrows G_Reader_arrows (hr.mono (by decide)) b_Reader_arrows .nil pass0 rfl) pa_nil)))
       (pss_cons (ps_set (i := 3) sc_counts_up_to.nd rfl (Or.inl rfl) (pe_lst (pa_cons (pe_lc (own := [("end", 6)]) (g := gName 6) (tt := tYes) (by rfl) sc_counts_up_to.nd (w_piL (K := K) (pe_call G_end_flags (hr.mono (by decide)) (by rfl) T.m_end_flags T.k_end_flags b_end_flags .nil pass0 (pa_cons (pv 0) pa_nil))) (blkOk_by (own := [("end", 6)]) (by rfl)) (fun _ _ _ _ _ => (pg_name (i := 6) sc_counts_up_to.nd rfl (Or.inl rfl))) (fun _ _ _ _ _ => pts_nil) (fun _ _ _ _ _ => (pe_ifExp (pt_val (pv 6)) pe_int pe_int))) pa_nil)))
       (pss_cons (ps_for PassesOwn.never rfl (pi_range1 (by rfl) T.b_range (pa_cons (pv 1) pa_nil)) (pg_name (i := 4) sc_counts_up_to.nd rfl (Or.inl rfl))
       (pss_cons (ps_set (i := 5) sc_counts_up_to.nd rfl (Or.inr rfl) (pe_ix (w_ixL (K := K)) (pv 3) (pe_un un_neg pe_int) (fun _ _ => rfl)))
       (pss_one (ps_expr (pe_bm PySem.F.plainAttrs_list PySem.F.slot_list_append PySem.F.type_list_append mt_append (pv 3) (pa_cons (pe_lc (own := [("goals", 7)]) (g := gName 7) (tt := tYes) (by rfl) sc_counts_up_to.nd (w_piL (K := K) (pv 2)) (blkOk_by (own := [("goals", 7)]) (by rfl)) (fun _ _ _ _ _ => (pg_name (i := 7) sc_counts_up_to.nd rfl (Or.inl rfl))) (fun _ _ _ _ _ => pts_nil) (fun _ _ _ _ _ => (pe_callB (w_sum (K := K) rfl) (by rfl) T.b_sum (by decide +kernel) (pa_cons (pe_lc (own := [("goal", 8)]) (g := gName 8) (tt := tYes) (by rfl) sc_counts_up_to.nd (w_piL (K := K) (pv 7)) (blkOk_by (own := [("goal", 8)]) (by rfl)) (fun _ _ _ _ _ => (pg_name (i := 8) sc_counts_up_to.nd rfl (Or.inl rfl))) (fun _ _ _ _ _ => pts_nil) (fun _ _ _ _ _ => (pe_ix (w_ixL (K := K)) (pv 5) (pv 8) (fun _ _ => rfl)))) pa_nil)))) pa_nil))))))
       (pss_one (ps_ret (pv 3)))))), ?_⟩
    have n2 := gt.n2
    obtain ⟨dx, a, e, h1, h2, h3⟩ := R.ob
    refine ⟨_, rfl, p, dx, _, rfl, h1, p, dx, _, _, rfl, h1, flds_arrows _ _ _, _, tab, n, rfl, h2, gt, fun v1 H1 s1 d1 => ?_⟩
    refine ⟨_, rfl, p, n, tab, ends, rfl, R.mono s1, ge, n2, fun q H2 nq s2 hq => ?_⟩
    have lf : (flags tab.length ends).length = tab.length := by unfold flags; simp
    refine ⟨q, rfl, ⟨_, lst_of hq⟩, ?_⟩
    refine lL (xs := flags tab.length ends) (fun i => [.int ((cnt tab ends 0).getD i 0)]) (lst_of hq) (fun _ => Nat.le_refl 1) (by omega) ?_ (fun i x hi => turn_yes fun H4 R4 s4 r4 => ?_) (fun D H3 hD s3 h3 => ?_)
    · exact fun _ => rfl
    · have hit : i < tab.length := by have := lt_of_get hi; omega
      unfold flags at hi
      rw [List.getElem?_map, List.getElem?_range hit] at hi
      obtain rfl := Option.some.inj hi
      refine ⟨_, rfl, _, rfl, ?_⟩
      have ec : (cnt tab ends 0).getD i 0 = if i ∈ ends then 1 else 0 := by
        have z := cN_zero (t := tab) (ends := ends) (s := i)
        unfold cN at z
        rw [z]
        simp [hit]
      rw [ec] at r4
      by_cases c : i ∈ ends
      · rw [decide_eq_true c]
        rw [if_pos c] at r4
        exact iteT (r4 H4 (Same.refl _))
      · rw [decide_eq_false c]
        rw [if_neg c] at r4
        exact iteF (r4 H4 (Same.refl _))
    · rw [lf, ← cnt_len tab ends 0, pre_at (cnt tab ends 0) 0 V.int] at h3
      refine ⟨by show 1 ≤ sizeLine; decide, fun c hc => ?_⟩
      refine ⟨_, rfl, (m : Int), rfl, by omega, by omega, ?_⟩
      rw [Int.toNat_natCast]
      have s03 : Same H H3 := s1.trans (s2.trans s3)
      refine for_range (lo := 0) (n := m) (fun i σ H' => ∃ y4 y5, σ = [some (.ref p), some (.int (m : Int)), some v1, some (.ref c), y4, y5, none, none, none] ∧ Same H3 H' ∧
        ∃ acc, H' c = some (.lst acc) ∧ Hold (del c H') acc (i + 1) (fun k => (cnt tab ends k).map V.int)) ?_ ?_ ?_
      · refine ⟨none, none, rfl, same_upd hc, [.ref D], upd_same, rfl, fun k hk => ⟨D, ?_, ?_⟩⟩
        · have e : k = 0 := by omega
          subst e
          rfl
        · have e : k = 0 := by omega
          subst e
          have ne : D ≠ c := ne_of_none h3 hc
          rw [del_ne ne, upd_ne ne]
          exact h3
      · rintro i σ H' hi ⟨y4, y5, rfl, s4, acc, hc', hold⟩
        obtain ⟨pl, el, hpl⟩ := hold.2 i (by omega)
        have nepl : pl ≠ c := fun z => by
          rw [z, del_none] at hpl
          cases hpl
        rw [del_ne nepl] at hpl
        refine ⟨_, rfl, 1, rfl, c, acc, _, _, rfl, rfl, lst_of hc', atI_m1 (by rw [hold.1]; exact el), ?_⟩
        refine ⟨_, rfl, .inl ⟨rfl, _, lst_of hc'⟩, ?_⟩
        obtain ⟨al, refs, rfl, hL, hLd⟩ := dp_lst (dp_mono (s2.trans (s3.trans s4)) _ _ d1)
        have lr : refs.length = tab.length := by rw [dps_len hLd, List.length_map, links_len]
        refine cL (xs := refs) (fun k => [.int ((cnt tab ends (i + 1)).getD k 0)]) (fun R r => ?_) hL (fun _ => Nat.le_refl 1) (by omega) ?_ (fun k x hk => turn_yes fun H5 R5 s5 r5 => ?_) (fun D5 H5 hD5 s5 h5 => ?_)
        · exact ⟨_, rfl, r⟩
        · exact fun _ => rfl
        · obtain ⟨dd, hd1, hd2⟩ := dps_getV hLd hk
          have hkt : k < tab.length := by have := lt_of_get hk; omega
          rw [List.getElem?_map] at hd1
          obtain ⟨l, hl⟩ : ∃ l, (links tab)[k]? = some l := ⟨_, List.getElem?_eq_getElem (by rw [links_len]; exact hkt)⟩
          rw [hl] at hd1
          obtain rfl := Option.some.inj hd1
          have lD : (links tab).getD k [] = l := by rw [List.getD_eq_getElem?_getD, hl]; rfl
          obtain ⟨ax, xs, rfl, hX, hXd⟩ := dp_lst (dp_mono s5 _ _ hd2)
          have e1 : (l.map fun (k : Nat) => PyData.int (k : Int)) = (l.map Int.ofNat).map PyData.int := by rw [List.map_map]; rfl
          rw [e1] at hXd
          obtain rfl := dps_ints hXd
          have ll : ((l.map Int.ofNat).map V.int).length = l.length := by simp
          have l8 : l.length ≤ 8 := by
            rw [← lD]
            unfold links
            rw [List.getD_eq_getElem?_getD, List.getElem?_map, List.getElem?_eq_getElem hkt]
            have a := (gt.rows _ (List.getElem_mem hkt)).1
            have b := List.length_filterMap_le id tab[k]
            have c := gt.w8
            show (List.filterMap id tab[k]).length ≤ 8
            omega
          refine g_cb (cL (xs := (l.map Int.ofNat).map V.int) (fun q => [.int ((cnt tab ends i).getD (l.getD q 0) 0)]) (fun R r => ?_) hX (fun _ => Nat.le_refl 1) (by omega) ?_ (fun q x hq => turn_yes fun H6 R6 s6 r6 => ?_) (fun D6 H6 hD6 s6 h6 => ?_))
          · exact ⟨_, rfl, r⟩
          · exact fun _ => rfl
          · rw [List.map_map, List.getElem?_map] at hq
            cases eg : l[q]? with
            | none => rw [eg] at hq; cases hq
            | some g =>
              rw [eg] at hq
              obtain rfl := Option.some.inj hq
              have gD : l.getD q 0 = g := by rw [List.getD_eq_getElem?_getD, eg]; rfl
              rw [gD] at r6
              have hg : g < tab.length := goal_lt gt (k := k) (by rw [lD]; exact List.mem_of_getElem? eg)
              have hgc : g < (cnt tab ends i).length := by rw [cnt_len]; exact hg
              have ev : ((cnt tab ends i).map V.int)[g]? = some (.int ((cnt tab ends i).getD g 0)) := by
                rw [List.getElem?_map, List.getD_eq_getElem?_getD, List.getElem?_eq_getElem hgc]
                rfl
              exact ⟨_, rfl, _, rfl, pl, _, _, _, rfl, rfl, lst_of (s6 _ _ (s5 _ _ hpl)), atI_nat ev, r6 H6 (Same.refl _)⟩
          · rw [ll, pre_at l 0 (fun g => V.int ((cnt tab ends i).getD g 0))] at h6
            refine ⟨D6, l.map fun g => (cnt tab ends i).getD g 0, rfl, lst_of (by rw [List.map_map]; exact h6), ?_⟩
            have z := cN_succ tab ends i k
            unfold cN at z
            have e3 : (tab.getD k []).filterMap id = l := by
              rw [← lD]
              unfold links
              rw [List.getD_eq_getElem?_getD, List.getD_eq_getElem?_getD, List.getElem?_map, List.getElem?_eq_getElem hkt]
              rfl
            rw [e3] at z
            rw [← z]
            exact r5 H6 s6
        · rw [lr, ← cnt_len tab ends (i + 1), pre_at (cnt tab ends (i + 1)) 0 V.int] at h5
          refine ⟨c, acc, _, rfl, rfl, s5 _ _ hc', szt (by rw [hold.1]; omega), ?_⟩
          have ne : D5 ≠ c := fun z => by
            rw [z, hc'] at hD5
            cases hD5
          refine ⟨_, _, rfl, same_put (s4.trans s5) hc, acc ++ [.ref D5], upd_same, ?_⟩
          refine ((hold.mono (del_mono s5)).snoc ?_).mono keep_upd
          rw [del_ne ne]
          exact h5
      · rintro σ H' ⟨y4, y5, rfl, s4, acc, hc', hold⟩
        refine ⟨_, rfl, k (.ref c) H' (s03.trans s4) (.lst (lst_of hc') ?_)⟩
        exact (hold.mono (del_same c)).dps (ds := fun k => (cnt tab ends k).map PyData.int) fun k _ => ints_dps _
def spCount (K : PySem.W.Frag) (C : Addr) : Sp := fun vs H Q _ => ∃ p w tab ends m, vs = [.ref p, .int ((m : Nat) : Int)] ∧ RdAt K C H p w tab ends ∧ GoodT w tab ∧ GoodE tab.length ends ∧ m ≤ 200 ∧
  ∀ H', Same H H' → Q (.int (cN tab ends m 0)) H'
theorem count_at {H : Hp} {v : V} {tab : Tab} {ends : List Nat} {m j s : Nat} (d : Dp K H v (dCounts tab ends m)) (hj : j ≤ m) (hs : s < tab.length) :
    ∃ pc xs pr ys, v = .ref pc ∧ SqL K H pc xs ∧ atI xs (j : Int) = some (.ref pr) ∧ SqL K H pr ys ∧ atI ys (s : Int) = some (.int (cN tab ends j s)) := by
  obtain ⟨pc, xs, rfl, hx, hd⟩ := dp_lst d
  obtain ⟨y, hy, dy⟩ := dps_get (i := j) (d := dInts (cnt tab ends j)) hd (by rw [List.getElem?_map, List.getElem?_range (by omega)]; rfl)
  obtain ⟨pr, ys, rfl, hys, hyd⟩ := dp_lst dy
  obtain rfl := dps_ints hyd
  have hsc : s < (cnt tab ends j).length := by rw [cnt_len]; exact hs
  refine ⟨pc, xs, pr, _, rfl, hx, atI_nat hy, hys, atI_nat ?_⟩
  unfold cN
  rw [List.getElem?_map, List.getD_eq_getElem?_getD, List.getElem?_eq_getElem hsc]
  rfl
theorem ok_count_of (T : Txt K mg A) (U : Funs K A fd) : FnOk P w K mg base CX0 10 A.count_of fd.count_of p_count_of (spCount K A.C) := by
  have G_counts_up_to := ok_counts_up_to (P := P) (w := w) (base := base) T U
  have b_counts_up_to := U.b_counts_up_to
  have G_check_length := ok_check_length (P := P) (w := w) (base := base) T U
  have b_check_length := U.b_check_length
  have G_check_reader := ok_check_reader (P := P) (w := w) (base := base) T U
  have b_check_reader := U.b_check_reader
  refine U.F_count_of.ok sc_count_of (fun vs H Q E h => ?_) (fun cdv A0 outer s H vs Q E hr h => ?_)
  · obtain ⟨p, n, tab, ends, m, rfl, _⟩ := h
    rfl
  · have hu := hu_of hr
    obtain ⟨p, n, tab, ends, m, rfl, R, gt, ge, hm, k⟩ := h
    refine ⟨_, (pss_cons (ps_expr (pe_call G_check_reader (hr.mono (by decide)) (by rfl) T.m_check_reader T.k_check_reader b_check_reader .nil pass0 (pa_cons (pv 0) pa_nil)))
       (pss_cons (ps_expr (pe_call G_check_length (hr.mono (by decide)) (by rfl) T.m_check_length T.k_check_length b_check_length .nil pass0 (pa_cons (pv 1) pa_nil)))
       (pss_one (ps_ret (pe_ix (w_ixL (K := K)) (pe_ix (w_ixL (K := K)) (pe_call G_counts_up_to (hr.mono (by decide)) (by rfl) T.m_counts_up_to T.k_counts_up_to b_counts_up_to .nil pass0 (pa_cons (pv 0) (pa_cons (pv 1) pa_nil))) (pv 1) (fun _ _ => rfl)) pe_int (fun _ _ => rfl)))))), ?_⟩
    have n1 := gt.n1
    refine ⟨_, rfl, p, n, tab, ends, rfl, R, ?_⟩
    refine ⟨_, rfl, (m : Int), rfl, by omega, by omega, ?_⟩
    refine ⟨_, rfl, _, rfl, p, n, tab, ends, m, rfl, R, gt, ge, hm, fun v1 H1 s1 d1 => ?_⟩
    obtain ⟨pc, xs, pr, ys, rfl, hx, ex, hy, ey⟩ := count_at d1 (Nat.le_refl m) (show 0 < tab.length by omega)
    exact ⟨_, rfl, pc, xs, _, _, rfl, rfl, hx, ex, pr, ys, _, _, rfl, rfl, hy, ey, k H1 s1⟩
end K6


set_option linter.all false
namespace K6
open PySem
def rowS (l : List Nat) : Str := ⟨(l.map (97 + ·)).toArray⟩
def sgn (g : Nat) : Str := ⟨#[97 + g]⟩
theorem rowS_snoc (l : List Nat) (g : Nat) : rowS l ++ sgn g = rowS (l ++ [g]) := by
  show (⟨(l.map (97 + ·)).toArray ++ #[97 + g]⟩ : Str) = ⟨((l ++ [g]).map (97 + ·)).toArray⟩
  rw [List.map_append]
  simp
theorem rowS_len (l : List Nat) : (rowS l).length = l.length := by
  show ((l.map (97 + ·)).toArray).size = _
  simp
theorem cN_lt {t : Tab} {ends : List Nat} {k s : Nat} (h : cN t ends k s ≠ 0) : s < t.length := by
  refine Classical.byContradiction fun c => h ?_
  unfold cN
  rw [List.getD_eq_getElem?_getD, List.getElem?_eq_none (by rw [cnt_len]; omega)]
  rfl
theorem fr_mem {t : Tab} {ends : List Nat} {w n j : Nat} (hj : j ≤ n) {p : List Nat × Nat} (h : p ∈ fr t ends w n j) : p.1 ∈ lv w j ∧ cN t ends (n - j) p.2 ≠ 0 := by
  rw [fr_lv t ends w n j hj] at h
  obtain ⟨l, h1, h2⟩ := List.mem_filterMap.mp h
  unfold pick at h2
  cases e : wk t (some 0) l with
  | none => rw [e] at h2; cases h2
  | some s =>
    rw [e] at h2
    have h2 : (if cN t ends (n - j) s ≠ 0 then some (l, s) else none) = some p := h2
    by_cases c : cN t ends (n - j) s ≠ 0
    · rw [if_pos c] at h2
      obtain rfl := Option.some.inj h2
      exact ⟨h1, c⟩
    · rw [if_neg c] at h2
      cases h2
theorem len_le_sum : ∀ {l : List Int}, (∀ x ∈ l, 1 ≤ x) → (l.length : Int) ≤ l.sum
  | [], _ => Int.le_refl 0
  | x :: l, h => by
    rw [List.length_cons, List.sum_cons]
    have a := len_le_sum fun y hy => h y (List.mem_cons_of_mem _ hy)
    have b := h x List.mem_cons_self
    omega
theorem fr_len {t : Tab} {ends : List Nat} {w n j : Nat} (hw : ∀ row ∈ t, row.length = w) (hj : j ≤ n) (h : cN t ends n 0 ≤ 1000) : (fr t ends w n j).length ≤ 1000 := by
  have a := fr_sum (ends := ends) hw j hj
  have b := len_le_sum (l := (fr t ends w n j).map fun p => cN t ends (n - j) p.2) fun x hx => by
    obtain ⟨p, hp, rfl⟩ := List.mem_map.mp hx
    have c := (fr_mem hj hp).2
    have d := cN_nonneg t ends (n - j) p.2
    omega
  rw [List.length_map] at b
  omega
theorem frS_len (t : Tab) (ends : List Nat) (w k : Nat) : ∀ f, (frS t ends w k f).length ≤ w * f.length
  | [] => Nat.zero_le _
  | p :: f => by
    unfold frS
    rw [List.flatMap_cons, List.length_append, List.length_cons, Nat.mul_succ]
    have a := frS_len t ends w k f
    unfold frS at a
    have b := List.length_filterMap_le (on1 t ends k p) (List.range w)
    rw [List.length_range] at b
    omega
theorem frS_snoc (t : Tab) (ends : List Nat) (w k : Nat) (f : List (List Nat × Nat)) (p : List Nat × Nat) : frS t ends w k (f ++ [p]) = frS t ends w k f ++ (List.range w).filterMap (on1 t ends k p) := by
  unfold frS
  rw [List.flatMap_append]
  simp
theorem take_snoc {α : Type} {l : List α} {i : Nat} {x : α} (h : l[i]? = some x) : l.take (i + 1) = l.take i ++ [x] := by
  rw [List.take_add_one, h]
  rfl
theorem range_snoc {β : Type} (f : Nat → Option β) (b : Nat) : (List.range (b + 1)).filterMap f = (List.range b).filterMap f ++ (f b).toList := by
  rw [List.range_succ, List.filterMap_append]
  cases e : f b <;> simp [e]
/-! ### the same count forward -/
def addAt (c : List Int) (x : Int) (g : Nat) : List Int := c.set g (c.getD g 0 + x)
def dot (n : Nat) (a : List Int) (b : Nat → Int) : Int := ((List.range n).map fun i => a.getD i 0 * b i).sum
theorem addAt_len (c : List Int) (x : Int) (g : Nat) : (addAt c x g).length = c.length := List.length_set
theorem dot_addAt {n : Nat} {c : List Int} (hc : c.length = n) (x : Int) {g : Nat} (hg : g < n) (b : Nat → Int) : dot n (addAt c x g) b = dot n c b + x * b g := by
  unfold dot
  have key : ∀ m, m ≤ n → ((List.range m).map fun i => (addAt c x g).getD i 0 * b i).sum = ((List.range m).map fun i => c.getD i 0 * b i).sum + if g < m then x * b g else 0 := by
    intro m
    induction m with
    | zero => intro _; rfl
    | succ m ih =>
      intro hm
      rw [List.range_succ, List.map_append, List.map_append, sum_app, sum_app, ih (by omega)]
      have e : (addAt c x g).getD m 0 = if m = g then c.getD g 0 + x else c.getD m 0 := by
        unfold addAt
        rw [List.getD_eq_getElem?_getD, List.getElem?_set]
        by_cases z : m = g
        · subst z
          simp [hc, hg]
        · rw [if_neg (fun q => z q.symm), if_neg z, List.getD_eq_getElem?_getD]
      simp only [List.map_cons, List.map_nil, List.sum_cons, List.sum_nil, e]
      by_cases z : m = g
      · subst z
        rw [if_pos rfl, if_neg (Nat.lt_irrefl m), if_pos (Nat.lt_succ_self m), Int.add_mul]
        omega
      · rw [if_neg z]
        by_cases y : g < m
        · rw [if_pos y, if_pos (by omega)]
          omega
        · rw [if_neg y, if_neg (by omega)]
          omega
  rw [key n (Nat.le_refl n), if_pos hg]
def addAll (c : List Int) (x : Int) (l : List Nat) : List Int := l.foldl (fun c g => addAt c x g) c
theorem addAll_len (x : Int) : ∀ (l : List Nat) (c : List Int), (addAll c x l).length = c.length
  | [], _ => rfl
  | g :: l, c => by
    show (addAll (addAt c x g) x l).length = _
    rw [addAll_len x l, addAt_len]
theorem dot_addAll {n : Nat} (x : Int) (b : Nat → Int) : ∀ (l : List Nat) (c : List Int), c.length = n → (∀ g ∈ l, g < n) → dot n (addAll c x l) b = dot n c b + x * (l.map b).sum
  | [], c, _, _ => by
    show dot n c b = _
    simp
  | g :: l, c, hc, h => by
    show dot n (addAll (addAt c x g) x l) b = _
    rw [dot_addAll x b l _ (by rw [addAt_len]; exact hc) (fun g hg => h g (List.mem_cons_of_mem _ hg)), dot_addAt hc x (h g List.mem_cons_self), List.map_cons, List.sum_cons, Int.mul_add]
    omega
/-- one turn: what has come to each stand goes on along its arrows; behind so many stands -/
def onAll (t : Tab) (come : List Int) : Nat → List Int
  | 0 => List.replicate t.length 0
  | k + 1 => addAll (onAll t come k) (come.getD k 0) ((t.getD k []).filterMap id)
theorem onAll_len (t : Tab) (come : List Int) : ∀ k, (onAll t come k).length = t.length
  | 0 => List.length_replicate
  | k + 1 => by
    show (addAll _ _ _).length = _
    rw [addAll_len, onAll_len t come k]
theorem dot_onAll {t : Tab} {w : Nat} (hg : ∀ row ∈ t, ∀ g, some g ∈ row → g < t.length) (come : List Int) (b : Nat → Int) : ∀ k, k ≤ t.length → dot t.length (onAll t come k) b = dot k come fun i => (((t.getD i []).filterMap id).map b).sum
  | 0, _ => by
    unfold dot onAll
    refine (sum_zero fun x hx => ?_).trans rfl
    obtain ⟨i, hi, rfl⟩ := List.mem_map.mp hx
    have : (List.replicate t.length (0 : Int)).getD i 0 = 0 := by
      rw [List.getD_eq_getElem?_getD, List.getElem?_replicate]
      split <;> rfl
    rw [this, Int.zero_mul]
  | k + 1, hk => by
    show dot t.length (addAll _ _ _) b = _
    have hh : ∀ g ∈ (t.getD k []).filterMap id, g < t.length := by
      intro g h
      obtain ⟨o, ho, e⟩ := List.mem_filterMap.mp h
      have e : o = some g := e
      subst e
      have hk' : k < t.length := by omega
      rw [List.getD_eq_getElem?_getD, List.getElem?_eq_getElem hk'] at ho
      exact hg _ (List.getElem_mem hk') g ho
    rw [dot_addAll _ b _ _ (onAll_len t come k) hh, dot_onAll (w := w) hg come b k (by omega)]
    unfold dot
    rw [List.range_succ, List.map_append, sum_app]
    simp
def come (t : Tab) : Nat → List Int
  | 0 => (List.range t.length).map fun k => if k = 0 then 1 else 0
  | d + 1 => onAll t (come t d) t.length
theorem come_len (t : Tab) : ∀ d, (come t d).length = t.length
  | 0 => by unfold come; simp
  | d + 1 => onAll_len t _ _
theorem dot_come {t : Tab} {ends : List Nat} {w : Nat} (h1 : 1 ≤ t.length) (hg : ∀ row ∈ t, ∀ g, some g ∈ row → g < t.length) : ∀ d k, dot t.length (come t d) (cN t ends k) = cN t ends (d + k) 0
  | 0, k => by
    unfold dot come
    rw [Nat.zero_add]
    have key : ∀ m, m ≤ t.length → ((List.range m).map fun i => ((List.range t.length).map fun k => if k = 0 then (1 : Int) else 0).getD i 0 * cN t ends k i).sum = if 0 < m then cN t ends k 0 else 0 := by
      intro m
      induction m with
      | zero => intro _; rfl
      | succ m ih =>
        intro hm
        rw [List.range_succ, List.map_append, sum_app, ih (by omega)]
        have e : ((List.range t.length).map fun k => if k = 0 then (1 : Int) else 0).getD m 0 = if m = 0 then 1 else 0 := by
          rw [List.getD_eq_getElem?_getD, List.getElem?_map, List.getElem?_range (by omega)]
          rfl
        simp only [List.map_cons, List.map_nil, List.sum_cons, List.sum_nil, e]
        by_cases z : m = 0
        · subst z
          simp
        · rw [if_neg z, if_pos (by omega), if_pos (by omega)]
          simp
    rw [key t.length (Nat.le_refl _), if_pos (by omega)]
  | d + 1, k => by
    show dot t.length (onAll t (come t d) t.length) (cN t ends k) = _
    rw [dot_onAll (w := w) hg _ _ t.length (Nat.le_refl _)]
    have e : (fun i => (((t.getD i []).filterMap id).map (cN t ends k)).sum) = cN t ends (k + 1) := funext fun i => (cN_succ t ends k i).symm
    rw [e, dot_come (w := w) h1 hg d (k + 1)]
    congr 1
    omega
theorem dot_ends {n : Nat} (c : List Int) {t : Tab} (hn : t.length = n) : ∀ {ends : List Nat}, ends.Nodup → (∀ g ∈ ends, g < n) → dot n c (fun i => if i ∈ ends then 1 else 0) = (ends.map fun k => c.getD k 0).sum
  | [], _, _ => by
    unfold dot
    exact (sum_zero fun x hx => by
      obtain ⟨i, _, rfl⟩ := List.mem_map.mp hx
      simp).trans rfl
  | e :: ends, nd, h => by
    have ih := dot_ends c hn (List.nodup_cons.mp nd).2 fun g hg => h g (List.mem_cons_of_mem _ hg)
    have ne := (List.nodup_cons.mp nd).1
    rw [List.map_cons, List.sum_cons, ← ih]
    have he := h e List.mem_cons_self
    unfold dot
    have key : ∀ m, m ≤ n → ((List.range m).map fun i => c.getD i 0 * (if i ∈ e :: ends then 1 else 0)).sum = (if e < m then c.getD e 0 else 0) + ((List.range m).map fun i => c.getD i 0 * (if i ∈ ends then 1 else 0)).sum := by
      intro m
      induction m with
      | zero => intro _; rfl
      | succ m ih2 =>
        intro hm
        rw [List.range_succ, List.map_append, List.map_append, sum_app, sum_app, ih2 (by omega)]
        simp only [List.map_cons, List.map_nil, List.sum_cons, List.sum_nil]
        by_cases z : m = e
        · subst z
          rw [if_pos List.mem_cons_self, if_neg ne, if_neg (Nat.lt_irrefl m), if_pos (Nat.lt_succ_self m)]
          simp
          omega
        · by_cases y : m ∈ ends
          · rw [if_pos (List.mem_cons_of_mem _ y), if_pos y]
            by_cases q : e < m
            · rw [if_pos q, if_pos (by omega)]; omega
            · rw [if_neg q, if_neg (by omega)]; omega
          · have q1 : ¬ (m ∈ e :: ends) := by simp [z, y]
            rw [if_neg q1, if_neg y]
            by_cases q : e < m
            · rw [if_pos q, if_pos (by omega)]; omega
            · rw [if_neg q, if_neg (by omega)]; omega
    rw [key n (Nat.le_refl n), if_pos he]
theorem come_is {t : Tab} {ends : List Nat} {w : Nat} (h1 : 1 ≤ t.length) (hg : ∀ row ∈ t, ∀ g, some g ∈ row → g < t.length) (nd : ends.Nodup) (he : ∀ g ∈ ends, g < t.length) (d : Nat) :
    (ends.map fun k => (come t d).getD k 0).sum = cN t ends d 0 := by
  have z := dot_come (ends := ends) (w := w) h1 hg d 0
  rw [Nat.add_zero] at z
  rw [← dot_ends (come t d) rfl nd he, ← z]
  unfold dot
  refine congrArg List.sum (List.map_congr_left fun i hi => ?_)
  rw [cN_zero]
  have : i < t.length := List.mem_range.mp hi
  simp [this]
end K6

set_option Elab.async false
set_option linter.all false
set_option maxRecDepth 100000
set_option maxHeartbeats 4000000
namespace K6
open PySem PySem.Spec PyProof.Rows L2 Rw
variable {P : Program} {w : World} {K : PySem.W.Frag} {mg : Str → Option Value} {base : Heap} {A : Ad} {fd : Fds}
def dF (p : List Nat × Nat) : PyData := .tuple [.str (rowS p.1), .int (p.2 : Int)]
def dFs (f : List (List Nat × Nat)) : PyData := .list (f.map dF)
def dRows (f : List (List Nat)) : PyData := .tuple (f.map fun l => .str (rowS l))
theorem dF_at {H : Hp} {f : List (List Nat × Nat)} {xs : List V} {i : Nat} {x : V} (h : DpAll K H xs (f.map dF)) (hi : xs[i]? = some x) :
    ∃ p at_, f[i]? = some p ∧ x = .ref at_ ∧ SqT K H at_ [.str (rowS p.1), .int (p.2 : Int)] := by
  obtain ⟨d, hd, hx⟩ := dps_getV h hi
  rw [List.getElem?_map] at hd
  cases e : f[i]? with
  | none => rw [e] at hd; cases hd
  | some p =>
    rw [e] at hd
    obtain rfl := Option.some.inj hd
    obtain ⟨a, ys, rfl, hy, hyd⟩ := dp_tup hx
    refine ⟨p, a, rfl, rfl, ?_⟩
    have e1 : ys = [.str (rowS p.1), .int (p.2 : Int)] := by
      cases hyd with
      | cons q1 q2 =>
        cases q1
        cases q2 with
        | cons q3 q4 =>
          cases q3
          cases q4
          rfl
    rw [← e1]
    exact hy
theorem sign_at : ∀ g : Nat, g < 8 → atI ("abcdefgh" : Str).cps.toList ((g : Nat) : Int) = some (97 + g)
  | 0, _ => by decide +kernel
  | 1, _ => by decide +kernel
  | 2, _ => by decide +kernel
  | 3, _ => by decide +kernel
  | 4, _ => by decide +kernel
  | 5, _ => by decide +kernel
  | 6, _ => by decide +kernel
  | 7, _ => by decide +kernel
  | n + 8, h => by omega
theorem abc_len : ("abcdefgh" : Str).length ≤ sizeLine := szl (by decide +kernel)
/-- the goal of a sign, in a table of data -/
theorem goal_at {H : Hp} {a : Addr} {n : Nat} {tab : Tab} (gt : GoodT n tab) (h : Dp K H (.ref a) (dTab tab)) {s g : Nat} (hs : s < tab.length) (hg : g < n) :
    ∃ xs b ys, SqT K H a xs ∧ atI xs (s : Int) = some (.ref b) ∧ SqT K H b ys ∧ atI ys (g : Int) = some (vO ((tab.getD s []).getD g none)) := by
  obtain ⟨a', xs, e, hx, hd⟩ := dp_tup h
  obtain rfl := V.ref.inj e
  obtain ⟨y, hy, dy⟩ := dps_get (i := s) (d := dRow tab[s]) hd (by rw [List.getElem?_map, List.getElem?_eq_getElem hs]; rfl)
  obtain ⟨b, ys, rfl, hys, hyd⟩ := dp_tup dy
  obtain rfl := dps_opts hyd
  have hr := (gt.rows _ (List.getElem_mem hs)).1
  refine ⟨xs, b, _, hx, atI_nat hy, hys, atI_nat ?_⟩
  have e1 : tab.getD s [] = tab[s] := by rw [List.getD_eq_getElem?_getD, List.getElem?_eq_getElem hs]; rfl
  rw [e1, List.getElem?_map, List.getD_eq_getElem?_getD, List.getElem?_eq_getElem (by omega)]
  rfl
def spRows (K : PySem.W.Frag) (C : Addr) : Sp := fun vs H Q _ => ∃ p w tab ends m, vs = [.ref p, .int ((m : Nat) : Int)] ∧ RdAt K C H p w tab ends ∧ GoodT w tab ∧ GoodE tab.length ends ∧ m ≤ 200 ∧ cN tab ends m 0 ≤ 1000 ∧
  ∀ v' H', Same H H' → Dp K H' v' (dRows ((fr tab ends w m m).map Prod.fst)) → Q v' H'
theorem ok_rows_of (T : Txt K mg A) (U : Funs K A fd) : FnOk P w K mg base CX0 10 A.rows_of fd.rows_of p_rows_of (spRows K A.C) := by
  have G_Reader_signs := ok_Reader_signs (P := P) (w := w) (base := base) T U
  have b_Reader_signs := U.b_Reader_signs
  have G_Reader_arrows := ok_Reader_arrows (P := P) (w := w) (base := base) T U
  have b_Reader_arrows := U.b_Reader_arrows
  have G_counts_up_to := ok_counts_up_to (P := P) (w := w) (base := base) T U
  have b_counts_up_to := U.b_counts_up_to
  have G_check_length := ok_check_length (P := P) (w := w) (base := base) T U
  have b_check_length := U.b_check_length
  have G_check_reader := ok_check_reader (P := P) (w := w) (base := base) T U
  have b_check_reader := U.b_check_reader
  refine U.F_rows_of.ok sc_rows_of (fun vs H Q E h => ?_) (fun cdv A0 outer s H vs Q E hr h => ?_)
  · obtain ⟨p, n, tab, ends, m, rfl, _⟩ := h
    rfl
  · have hu := hu_of hr
    obtain ⟨p, n, tab, ends, m, rfl, R, gt, ge, hm, hc, k⟩ := h
    refine ⟨_, (pss_cons (ps_expr (pe_call G_check_reader (hr.mono (by decide)) (by rfl) T.m_check_reader T.k_check_reader b_check_reader .nil pass0 (pa_cons (pv 0) pa_nil)))
       (pss_cons (ps_expr (pe_call G_check_length (hr.mono (by decide)) (by rfl) T.m_check_length T.k_check_length b_check_length .nil pass0 (pa_cons (pv 1) pa_nil)))
       (pss_cons (ps_set (i := 2) sc_rows_of.nd rfl (Or.inl rfl) (pe_call G_counts_up_to (hr.mono (by decide)) (by rfl) T.m_counts_up_to T.k_counts_up_to b_counts_up_to .nil pass0 (pa_cons (pv 0) (pa_cons (pv 1) pa_nil))))
       (pss_cons (ps_if (pt_cmpR op_gt (pe_ix (w_ixL (K := K)) (pe_ix (w_ixL (K := K)) (pv 2) (pv 1) (fun _ _ => rfl)) pe_int (fun _ _ => rfl)) (pe_glob (v := .int 1000) (by rfl) T.c_MOST_LISTED.choose_spec ⟨_, rfl⟩) (nomark _)) (pss_one ps_never) pss_nil)
       (pss_cons (ps_set (i := 3) sc_rows_of.nd rfl (Or.inl rfl) (pe_ifExp (w_truth (K := K) (pe_ix (w_ixL (K := K)) (pe_ix (w_ixL (K := K)) (pv 2) (pv 1) (fun _ _ => rfl)) pe_int (fun _ _ => rfl)) (by intro _; rfl)) (pe_lst (pa_cons (pe_tup (pa_cons pe_str (pa_cons pe_int pa_nil))) pa_nil)) (pe_lst pa_nil)))
       (pss_cons (ps_for PassesOwn.never rfl (pi_range3 (by rfl) T.b_range (pa_cons (pe_op op_sub (pv 1) pe_int) (pa_cons (pe_un un_neg pe_int) (pa_cons (pe_un un_neg pe_int) pa_nil)))) (pg_name (i := 4) sc_rows_of.nd rfl (Or.inl rfl))
       (pss_cons (ps_set (i := 5) sc_rows_of.nd rfl (Or.inl rfl) (pe_lst pa_nil))
       (pss_cons (ps_for PassesOwn.never rfl (w_piL (K := K) (pv 3)) (w_tup (K := K) (n := 2) rfl (pgs_cons (pg_name (i := 6) sc_rows_of.nd rfl (Or.inl rfl)) (pgs_cons (pg_name (i := 7) sc_rows_of.nd rfl (Or.inl rfl)) pgs_nil)))
       (pss_one (ps_for PassesOwn.never rfl (pi_range1 (by rfl) T.b_range (pa_cons (pe_prop (pv 0) T.cl T.p_Reader_signs G_Reader_signs (hr.mono (by decide)) b_Reader_signs .nil pass0 rfl) pa_nil)) (pg_name (i := 8) sc_rows_of.nd rfl (Or.inl rfl))
       (pss_cons (ps_set (i := 9) sc_rows_of.nd rfl (Or.inl rfl) (pe_ix (w_ixT (K := K)) (pe_ix (w_ixT (K := K)) (pe_prop (pv 0) T.cl T.p_Reader_arrows G_Reader_arrows (hr.mono (by decide)) b_Reader_arrows .nil pass0 rfl) (pv 7) (fun _ _ => rfl)) (pv 8) (fun _ _ => rfl)))
       (pss_one (ps_if (PW.pt (pw_and (pt_cmpR op_notN (pv 9) pe_non (nomark _)) (pw_and1 (w_truth (K := K) (pe_ix (w_ixL (K := K)) (pe_ix (w_ixL (K := K)) (pv 2) (pv 4) (fun _ _ => rfl)) (pv 9) (fun _ _ => rfl)) (by intro _; rfl))))) (pss_one (ps_expr (pe_bm PySem.F.plainAttrs_list PySem.F.slot_list_append PySem.F.type_list_append mt_append (pv 5) (pa_cons (pe_tup (pa_cons (pe_op op_add_str (pv 6) (pe_ix ix_str (pe_glob (v := .str "abcdefgh") (by rfl) T.c_ALPHABET.choose_spec ⟨_, rfl⟩) (pv 8) (fun _ _ => rfl))) (pa_cons (pv 9) pa_nil))) pa_nil)))) pss_nil))))))
       (pss_one (ps_set (i := 3) sc_rows_of.nd rfl (Or.inl rfl) (pv 5))))))
       (pss_one (ps_ret (pe_callTy (w_tuple (K := K)) (by rfl) T.b_tuple (by decide +kernel) (pa_cons (pe_lc (own := [("row", 6), ("_", 10)]) (tt := tYes) (by rfl) sc_rows_of.nd (w_piL (K := K) (pv 3)) (blkOk_by (own := [("row", 6), ("_", 10)]) (by rfl)) (fun _ _ _ _ _ => (w_tup (K := K) (n := 2) rfl (pgs_cons (pg_name (i := 6) sc_rows_of.nd rfl (Or.inl rfl)) (pgs_cons (pg_name (i := 10) sc_rows_of.nd rfl (Or.inl rfl)) pgs_nil)))) (fun _ _ _ _ _ => pts_nil) (fun _ _ _ _ _ => (pv 6))) pa_nil)))))))))), ?_⟩
    have n1 := gt.n1
    have w8 := gt.w8
    refine ⟨_, rfl, p, n, tab, ends, rfl, R, ?_⟩
    refine ⟨_, rfl, (m : Int), rfl, by omega, by omega, ?_⟩
    refine ⟨_, rfl, _, rfl, p, n, tab, ends, m, rfl, R, gt, ge, hm, fun vc H1 s1 d1 => ?_⟩
    have R1 := R.mono s1
    obtain ⟨pc, xs0, pr0, ys0, rfl, hx0, ex0, hy0, ey0⟩ := count_at d1 (Nat.le_refl m) (show 0 < tab.length by omega)
    refine ⟨_, rfl, _, rfl, pc, xs0, _, _, rfl, rfl, hx0, ex0, pr0, ys0, _, _, rfl, rfl, hy0, ey0, _, _, rfl, rfl, _, rfl, ?_⟩
    rw [decide_eq_false (show ¬ (1000 < cN tab ends m 0) by omega)]
    refine iteF (g_next ?_)
    dsimp only
    refine g_seq (g_asg (g_via (K := K) (d := dFs (fr tab ends n m 0)) (fun Q' rest => ?_) (fun vf H2 s2 d2 => ?_)))
    · refine ⟨_, rfl, _, rfl, pc, xs0, _, _, rfl, rfl, hx0, ex0, pr0, ys0, _, _, rfl, rfl, hy0, ey0, (cN tab ends m 0 != 0), rfl, ?_⟩
      by_cases c : cN tab ends m 0 ≠ 0
      · have e : (cN tab ends m 0 != 0) = true := by simp [c]
        rw [e]
        refine iteT ⟨by show 2 ≤ sizeLine; decide, fun T hT => ?_⟩
        refine ⟨by show 1 ≤ sizeLine; decide, fun q hq => ?_⟩
        have ne : T ≠ q := ne_of_none upd_same hq
        refine rest (.ref q) _ ((same_upd hT).trans (same_upd hq)) ?_
        have ef : fr tab ends n m 0 = [([], 0)] := if_pos c
        rw [ef]
        refine .lst (lst_of upd_same) (.cons (.tup (tup_of (by rw [upd_ne ne]; exact upd_same)) (.cons (.str _) (.cons (.int _) .nil))) .nil)
      · have e : (cN tab ends m 0 != 0) = false := by simp [Classical.not_not.mp c]
        rw [e]
        refine iteF ⟨Nat.zero_le _, fun q hq => ?_⟩
        refine rest (.ref q) _ (same_upd hq) ?_
        have ef : fr tab ends n m 0 = [] := if_neg c
        rw [ef]
        exact .lst (lst_of upd_same) .nil
    · have R2 := R1.mono s2
      refine ⟨_, rfl, (m : Int), 1, rfl, rfl, 1, rfl, 1, rfl, (m : Int) - 1, -1, -1, m, rfl, ?_, ?_⟩
      · have z := RgC.neg (i := (m : Int) - 1) (j := -1) (by omega) (by omega) (by omega) (by omega)
        rw [show ((m : Int) - 1 - -1).toNat = m by omega] at z
        exact z
      refine for_rangeC (lo := (m : Int) - 1) (c := -1) (n := m) (fun i σ H' => ∃ vf y4 y5 y6 y7 y8 y9, σ = [some (.ref p), some (.int (m : Int)), some (.ref pc), some vf, y4, y5, y6, y7, y8, y9, none] ∧ Same H2 H' ∧
        Dp K H' vf (dFs (fr tab ends n m i))) ?_ ?_ ?_
      · exact ⟨vf, none, none, none, none, none, none, rfl, Same.refl _, d2⟩
      · rintro i σ H3 hi ⟨vf, y4, y5, y6, y7, y8, y9, rfl, s3, d3⟩
        have el : (m : Int) - 1 + ((i : Nat) : Int) * -1 = ((m - 1 - i : Nat) : Int) := by omega
        have fl : (fr tab ends n m i).length ≤ 1000 := fr_len (fun r hr => (gt.rows r hr).1) (by omega) hc
        rw [el]
        -- longer = []
        refine ⟨Nat.zero_le _, fun c hcn => ?_⟩
        obtain ⟨af, xs, rfl, hx, hxd⟩ := dp_lst d3
        have lx : xs.length = (fr tab ends n m i).length := by rw [dps_len hxd, List.length_map]
        refine ⟨_, rfl, af, rfl, ⟨xs, sqL_mono (same_upd hcn) hx⟩, ?_⟩
        refine for_list (xs := xs) (fun a σ H' => ∃ y6 y7 y8 y9, σ = [some (.ref p), some (.int (m : Int)), some (.ref pc), some (.ref af), some (.int ((m - 1 - i : Nat) : Int)), some (.ref c), y6, y7, y8, y9, none] ∧ Same H3 H' ∧
          ∃ acc, H' c = some (.lst acc) ∧ DpAll K (del c H') acc ((frS tab ends n (m - 1 - i) ((fr tab ends n m i).take a)).map dF)) ?_ ?_ ?_ ?_
        · exact ⟨y6, y7, y8, y9, rfl, same_upd hcn, [], upd_same, .nil⟩
        · rintro a σ H' _ ⟨_, _, _, _, _, s4, _⟩
          exact sqL_mono s4 hx
        · rintro a x σ H4 hax ⟨y6, y7, y8, y9, rfl, s4, acc, hacc, dacc⟩
          obtain ⟨pp, at_, hpp, rfl, ht⟩ := dF_at (dps_mono s4 _ _ hxd) hax
          have hmem := fr_mem (show i ≤ m by omega) (List.mem_of_getElem? hpp)
          have hs : pp.2 < tab.length := cN_lt hmem.2
          have hlen : pp.1.length = i := (lv_mem hmem.1).1
          have ha : a < 1000 := by have := lt_of_get hax; omega
          refine ⟨at_, _, rfl, ht, rfl, _, _, rfl, _, _, rfl, rfl, ?_⟩
          have R4 := R2.mono (s3.trans s4)
          obtain ⟨dx, ra, re, h1, h2, h3⟩ := R4.ob
          refine ⟨_, rfl, p, dx, _, rfl, h1, p, dx, _, _, rfl, h1, flds_signs _ _ _, (n : Int), rfl, by omega, by omega, ?_⟩
          rw [Int.toNat_natCast]
          refine for_range (lo := 0) (n := n) (fun b σ H' => ∃ y8 y9, σ = [some (.ref p), some (.int (m : Int)), some (.ref pc), some (.ref af), some (.int ((m - 1 - i : Nat) : Int)), some (.ref c), some (.str (rowS pp.1)), some (.int (pp.2 : Int)), y8, y9, none] ∧ Same H3 H' ∧
            ∃ acc, H' c = some (.lst acc) ∧ DpAll K (del c H') acc ((frS tab ends n (m - 1 - i) ((fr tab ends n m i).take a) ++ (List.range b).filterMap (on1 tab ends (m - 1 - i) pp)).map dF)) ?_ ?_ ?_
          · refine ⟨y8, y9, rfl, s4, acc, hacc, ?_⟩
            simpa using dacc
          · rintro b σ H5 hb ⟨y8, y9, rfl, s5, acc, hacc, dacc⟩
            have R5 := R2.mono (s3.trans s5)
            obtain ⟨dx, ra, re, h1, h2, h3⟩ := R5.ob
            obtain ⟨gx, gb, gy, g1, g2, g3, g4⟩ := goal_at gt h2 hs hb
            rw [show (0 : Int) + (b : Int) = (b : Int) by omega]
            refine ⟨_, rfl, p, dx, _, rfl, h1, p, dx, _, _, rfl, h1, flds_arrows _ _ _, _, rfl, ra, gx, _, _, rfl, rfl, g1, g2, _, rfl, gb, gy, _, _, rfl, rfl, g3, g4, ?_⟩
            have lacc : acc.length ≤ 100000 - 1 := by
              have z := dps_len dacc
              rw [List.length_map, List.length_append] at z
              have z1 := frS_len tab ends n (m - 1 - i) ((fr tab ends n m i).take a)
              have z2 := List.length_filterMap_le (on1 tab ends (m - 1 - i) pp) (List.range b)
              rw [List.length_range] at z2
              rw [List.length_take] at z1
              have z3 : n * min a (fr tab ends n m i).length ≤ 8 * 1000 := Nat.mul_le_mul w8 (by omega)
              omega
            have stay : ∀ (o : Option (List Nat × Nat)), on1 tab ends (m - 1 - i) pp b = o → (o.toList.map dF) = [] →
                DpAll K (del c H5) acc ((frS tab ends n (m - 1 - i) ((fr tab ends n m i).take a) ++ (List.range (b + 1)).filterMap (on1 tab ends (m - 1 - i) pp)).map dF) := by
              intro o ho hz
              rw [range_snoc, ho, ← List.append_assoc, List.map_append, hz, List.append_nil]
              exact dacc
            cases eg : (tab.getD pp.2 []).getD b none with
            | none =>
              refine ⟨_, rfl, rfl, _, rfl, ?_⟩
              refine iteF (iteF ?_)
              refine ⟨_, _, rfl, s5, acc, hacc, stay none (by unfold on1; rw [eg]) rfl⟩
            | some g =>
              have hgl : g < tab.length := (gt.rows _ (by rw [List.getD_eq_getElem?_getD, List.getElem?_eq_getElem hs]; exact List.getElem_mem hs)).2 g (mem_getD eg)
              obtain ⟨pc', xs1, pr1, ys1, e1, hx1, ex1, hy1, ey1⟩ := count_at (dp_mono (s2.trans (s3.trans s5)) _ _ d1) (show m - 1 - i ≤ m by omega) hgl
              obtain rfl := V.ref.inj e1
              refine ⟨_, rfl, rfl, _, rfl, ?_⟩
              refine iteT ?_
              refine ⟨_, rfl, _, rfl, pc, xs1, _, _, rfl, rfl, hx1, ex1, _, rfl, pr1, ys1, _, _, rfl, rfl, hy1, ey1, (cN tab ends (m - 1 - i) g != 0), rfl, ?_⟩
              by_cases c0 : cN tab ends (m - 1 - i) g ≠ 0
              · have e : (cN tab ends (m - 1 - i) g != 0) = true := by simp [c0]
                rw [e]
                refine iteT ?_
                refine ⟨_, rfl, .inl ⟨rfl, _, lst_of hacc⟩, ?_⟩
                refine ⟨_, rfl, _, rfl, _, _, _, rfl, rfl, abc_len, sign_at b (by omega), _, _, rfl, rfl, szl (by rw [rowS_len]; show pp.1.length + 1 ≤ 100000; omega), _, rfl, by show 2 ≤ sizeLine; decide, fun T hT => ?_⟩
                have neT : c ≠ T := ne_of_none hacc hT
                refine ⟨c, acc, _, rfl, rfl, (by rw [upd_ne neT]; exact hacc), szt (by omega), ?_⟩
                have sT : Same H5 (upd H5 T (.tup [.str (rowS pp.1 ++ ⟨#[97 + b]⟩), .int (g : Int)])) := same_upd hT
                refine ⟨_, _, rfl, same_put (s5.trans sT) hcn, acc ++ [.ref T], upd_same, ?_⟩
                · rw [range_snoc, show on1 tab ends (m - 1 - i) pp b = some (pp.1 ++ [b], g) from by unfold on1; rw [eg]; exact if_pos c0, ← List.append_assoc, List.map_append]
                  refine dps_mono keep_upd _ _ (dps_snoc (dps_mono (del_mono sT) _ _ dacc) ?_)
                  refine .tup (tup_of (by rw [del_ne neT.symm]; exact upd_same)) ?_
                  rw [show (rowS pp.1 ++ ⟨#[97 + b]⟩ : Str) = rowS (pp.1 ++ [b]) from rowS_snoc _ _]
                  exact .cons (.str _) (.cons (.int _) .nil)
              · have e : (cN tab ends (m - 1 - i) g != 0) = false := by simp [Classical.not_not.mp c0]
                rw [e]
                refine iteF ?_
                exact ⟨_, _, rfl, s5, acc, hacc, stay none (by unfold on1; rw [eg]; exact if_neg c0) rfl⟩
          · rintro σ H5 ⟨y8, y9, rfl, s5, acc, hacc, dacc⟩
            refine ⟨_, _, _, _, rfl, s5, acc, hacc, ?_⟩
            rw [take_snoc hpp, frS_snoc]
            exact dacc
        · rintro σ H4 ⟨y6, y7, y8, y9, rfl, s4, acc, hacc, dacc⟩
          rw [lx, List.take_length] at dacc
          refine ⟨_, rfl, ?_⟩
          exact ⟨_, _, _, _, _, _, _, rfl, s3.trans s4, .lst (lst_of hacc) (dps_mono (del_same c) _ _ dacc)⟩
      · rintro σ H3 ⟨vf, y4, y5, y6, y7, y8, y9, rfl, s3, d3⟩
        obtain ⟨af, xs, rfl, hx, hxd⟩ := dp_lst d3
        have lx : xs.length = (fr tab ends n m m).length := by rw [dps_len hxd, List.length_map]
        have fl : (fr tab ends n m m).length ≤ 1000 := fr_len (fun r hr => (gt.rows r hr).1) (Nat.le_refl m) hc
        refine ⟨_, rfl, af, rfl, ⟨xs, hx⟩, fun D hD => ?_⟩
        refine lc_list (xs := xs) (fun i H' => Same H3 H' ∧ H' D = some (.lst (((fr tab ends n m m).take i).map fun p => V.str (rowS p.1)))) ?_ ?_ ?_ ?_
        · exact ⟨same_upd hD, upd_same⟩
        · rintro i H' _ ⟨s4, _⟩
          exact sqL_mono s4 hx
        · rintro i x H' hix ⟨s4, h4⟩
          obtain ⟨pp, at_, hpp, rfl, ht⟩ := dF_at (dps_mono s4 _ _ hxd) hix
          refine ⟨at_, _, rfl, ht, rfl, _, _, rfl, _, _, rfl, rfl, ?_⟩
          refine ⟨rfl, yes_go ?_⟩
          refine ⟨_, rfl, _, h4, szt (by have := lt_of_get hix; simp; omega), same_put s4 hD, ?_⟩
          rw [upd_same, take_snoc hpp, List.map_append]
          rfl
        · rintro H4 ⟨s4, h4⟩
          rw [lx, List.take_length] at h4
          refine ⟨D, _, rfl, .inl ⟨lst_of h4, fun l hl => ?_⟩⟩
          refine k (.ref l) _ (s1.trans (s2.trans (s3.trans (s4.trans (same_upd hl))))) (.tup (tup_of upd_same) ?_)
          have z := strs_dps (K := K) (H := upd H4 l (.tup ((fr tab ends n m m).map fun p => V.str (rowS p.1)))) ((fr tab ends n m m).map fun p => rowS p.1)
          rw [List.map_map, List.map_map] at z
          rw [List.map_map]
          exact z
end K6


set_option linter.all false
namespace K6
open PySem
def up (w d : Nat) : List (List Nat) := (List.range (d + 1)).flatMap (lv w)
theorem up_zero (w : Nat) : up w 0 = [[]] := rfl
theorem up_succ (w d : Nat) : up w (d + 1) = up w d ++ lv w (d + 1) := by
  unfold up
  rw [List.range_succ, List.flatMap_append]
  simp
theorem up_mem {w d : Nat} {l : List Nat} (h : l ∈ up w d) : l.length ≤ d ∧ ∀ g ∈ l, g < w := by
  obtain ⟨j, hj, hl⟩ := List.mem_flatMap.mp h
  obtain ⟨a, b⟩ := lv_mem hl
  have := List.mem_range.mp hj
  exact ⟨by omega, b⟩
theorem lv_small {w d : Nat} (hw : w ≤ 3) (hd : d ≤ 6) : (lv w d).length ≤ 729 := by
  rw [lv_len]
  calc w ^ d ≤ 3 ^ d := Nat.pow_le_pow_left hw d
    _ ≤ 3 ^ 6 := Nat.pow_le_pow_right (by decide) hd
theorem up_small {w : Nat} (hw : w ≤ 3) : ∀ {d : Nat}, d ≤ 6 → (up w d).length ≤ 729 * (d + 1)
  | 0, _ => by rw [up_zero]; decide
  | d + 1, hd => by
    rw [up_succ, List.length_append]
    have a := up_small hw (d := d) (by omega)
    have b := lv_small hw hd
    omega
theorem up_len_filter (w : Nat) (t : Tab) (ends : List Nat) : ∀ {d k : Nat}, k ≤ d → ((up w d).filter (yes t ends)).filter (fun l => decide (l.length = k)) = (lv w k).filter (yes t ends) := by
  have all : ∀ j k, ((lv w j).filter (yes t ends)).filter (fun l => decide (l.length = k)) = if j = k then (lv w k).filter (yes t ends) else [] := by
    intro j k
    by_cases c : j = k
    · subst c
      rw [if_pos rfl]
      refine List.filter_eq_self.mpr fun l hl => ?_
      exact decide_eq_true (lv_mem (List.mem_filter.mp hl).1).1
    · rw [if_neg c]
      refine List.filter_eq_nil_iff.mpr fun l hl => ?_
      rw [decide_eq_true_eq, (lv_mem (List.mem_filter.mp hl).1).1]
      exact c
  intro d
  induction d with
  | zero =>
    intro k hk
    have e : k = 0 := by omega
    subst e
    exact (all 0 0).trans (if_pos rfl)
  | succ d ih =>
    intro k hk
    rw [up_succ, List.filter_append, List.filter_append, all]
    by_cases c : d + 1 = k
    · rw [if_pos c]
      subst c
      have : ((up w d).filter (yes t ends)).filter (fun l => decide (l.length = d + 1)) = [] := by
        refine List.filter_eq_nil_iff.mpr fun l hl => ?_
        have := (up_mem (List.mem_filter.mp hl).1).1
        rw [decide_eq_true_eq]
        omega
      rw [this]
      rfl
    · rw [if_neg c, List.append_nil, ih (by omega)]
theorem wk_take {t : Tab} {s : Option Nat} {l : List Nat} {i g : Nat} (h : l[i]? = some g) : wk t s (l.take (i + 1)) = st1 t (wk t s (l.take i)) g := by
  rw [take_snoc h, wk_snoc]
theorem wk_lt {t : Tab} (hg : ∀ row ∈ t, ∀ g, some g ∈ row → g < t.length) {s : Option Nat} (hs : ∀ k, s = some k → k < t.length) : ∀ (l : List Nat) {k : Nat}, wk t s l = some k → k < t.length := by
  intro l
  induction l generalizing s with
  | nil => intro k h; exact hs k h
  | cons g l ih =>
    intro k h
    refine ih (s := st1 t s g) (fun k h => ?_) h
    unfold st1 at h
    cases s with
    | none => cases h
    | some j =>
      have h : (t.getD j []).getD g none = some k := h
      have hj := hs j rfl
      rw [List.getD_eq_getElem?_getD (l := t), List.getElem?_eq_getElem hj] at h
      exact hg _ (List.getElem_mem hj) k (mem_getD h)
theorem addAll_snoc (c : List Int) (x : Int) (l : List Nat) (g : Nat) : addAll c x (l ++ [g]) = addAt (addAll c x l) x g := by
  unfold addAll
  rw [List.foldl_append]
  rfl
end K6

set_option Elab.async false
set_option linter.all false
set_option maxRecDepth 100000
set_option maxHeartbeats 4000000
namespace K6
open PySem PySem.Spec PyProof.Rows L2 Rw
variable {P : Program} {w : World} {K : PySem.W.Frag} {mg : Str → Option Value} {base : Heap} {A : Ad} {fd : Fds}
/-! ### the law's own defs -/
theorem for_str {z : Str} {g : TG} {tb : TS} {D : Ends} {σ : L2.St} {H : Hp} (Pv : Nat → L2.St → Hp → Prop) (h0 : Pv 0 σ H)
    (hs : ∀ i c σ H, z.cps[i]? = some c → Pv i σ H → g (.str ⟨#[c]⟩) σ H fun σ2 H2 => tb { D with nx := Pv (i + 1), ct := Pv (i + 1), bk := D.nx } σ2 H2) (hd : ∀ σ H, Pv z.cps.size σ H → D.nx σ H) :
    ∃ W : Nat → Nat → L2.St → Hp → Prop, (∃ m, W 0 m σ H) ∧ ∀ i m σ H, W i m σ H →
      ((Its z).stop i H ∧ D.nx σ H) ∨ ((Its z).go i H ∧ ∃ N : L2.St → Hp → Prop, (∀ σ' H', N σ' H' → ∃ m', m' < m ∧ W (i + 1) m' σ' H') ∧ ∀ x H', (Its z).yld i H x H' → g x σ H' fun σ2 H2 => tb { D with nx := N, ct := N, bk := D.nx } σ2 H2) := by
  refine ⟨fun i m σ H => m = z.cps.size - i ∧ i ≤ z.cps.size ∧ Pv i σ H, ⟨z.cps.size, by simp, Nat.zero_le _, h0⟩, ?_⟩
  rintro i m σ H ⟨rfl, hi, p⟩
  by_cases hlt : i < z.cps.size
  · refine .inr ⟨hlt, Pv (i + 1), fun σ' H' p' => ⟨z.cps.size - (i + 1), by omega, rfl, hlt, p'⟩, fun x H' y => ?_⟩
    obtain ⟨e, c, hc, rfl⟩ := y
    subst e
    exact hs i c σ _ hc p
  · have e : i = z.cps.size := by omega
    subst e
    exact .inl ⟨Nat.le_refl _, hd σ H p⟩
theorem index_at : ∀ g : Nat, g < 8 → ∃ rest, Builtin.Str.occurrences ("abcdefgh" : Str) ⟨#[97 + g]⟩ 0 ("abcdefgh" : Str).length 1 = g :: rest
  | 0, _ => ⟨[], by decide +kernel⟩
  | 1, _ => ⟨[], by decide +kernel⟩
  | 2, _ => ⟨[], by decide +kernel⟩
  | 3, _ => ⟨[], by decide +kernel⟩
  | 4, _ => ⟨[], by decide +kernel⟩
  | 5, _ => ⟨[], by decide +kernel⟩
  | 6, _ => ⟨[], by decide +kernel⟩
  | 7, _ => ⟨[], by decide +kernel⟩
  | n + 8, h => by omega
theorem rowS_at {l : List Nat} {i c : Nat} (h : (rowS l).cps[i]? = some c) : ∃ g, l[i]? = some g ∧ c = 97 + g := by
  unfold rowS at h
  simp only [List.getElem?_toArray, List.getElem?_map] at h
  cases e : l[i]? with
  | none => rw [e] at h; cases h
  | some g =>
    rw [e] at h
    exact ⟨g, rfl, (Option.some.inj h).symm⟩
theorem rowS_size (l : List Nat) : (rowS l).cps.size = l.length := rowS_len l
def spWalk (K : PySem.W.Frag) : Sp := fun vs H Q _ => ∃ (a : Addr) (tab : Tab) (w : Nat) (s : Option Nat) (l : List Nat), vs = [.ref a, vO s, .str (rowS l)] ∧ Dp K H (.ref a) (dTab tab) ∧ GoodT w tab ∧
  (∀ g ∈ l, g < w) ∧ (∀ k, s = some k → k < tab.length) ∧ Q (vO (wk tab s l)) H
theorem rows_lt {n : Nat} {tab : Tab} (gt : GoodT n tab) : ∀ row ∈ tab, ∀ g, some g ∈ row → g < tab.length := fun row h => (gt.rows row h).2
theorem ok_l_walk (T : Txt K mg A) (U : Funs K A fd) : FnOk P w K mg base CX0 1 A.l_walk fd.l_walk p_l_walk (spWalk K) := by
  refine U.F_l_walk.ok sc_l_walk (fun vs H Q E h => ?_) (fun cdv A0 outer s H vs Q E hr h => ?_)
  · obtain ⟨a, tab, n, s0, l, rfl, _⟩ := h
    rfl
  · have hu := hu_of hr
    obtain ⟨a, tab, n, s0, l, rfl, hd, gt, hl, hs, q⟩ := h
    refine ⟨_, (pss_cons (ps_for PassesOwn.never rfl (pi_str (pv 2)) (pg_name (i := 3) sc_l_walk.nd rfl (Or.inl rfl))
       (pss_one (ps_set (i := 1) sc_l_walk.nd rfl (Or.inl rfl) (pe_ifExp (pt_cmpR op_isN (pv 1) pe_non (nomark _)) pe_non (pe_ix (w_ixT (K := K)) (pe_ix (w_ixT (K := K)) (pv 0) (pv 1) (fun _ _ => rfl)) (pe_bm PySem.F.plainAttrs_str PySem.F.slot_str_index PySem.F.type_str_index mt_sindex pe_str (pa_cons (pv 3) pa_nil)) (fun _ _ => rfl))))))
       (pss_one (ps_ret (pv 1)))), ?_⟩
    refine ⟨_, rfl, rowS l, rfl, ?_⟩
    refine for_str (z := rowS l) (fun i σ H' => ∃ y, σ = [some (.ref a), some (vO (wk tab s0 (l.take i))), some (.str (rowS l)), y] ∧ H' = H) ?_ ?_ ?_
    · exact ⟨none, rfl, rfl⟩
    · rintro i c σ H' hi ⟨y, rfl, rfl⟩
      obtain ⟨g, hg, rfl⟩ := rowS_at hi
      have gn : g < n := hl g (List.mem_of_getElem? hg)
      have w8 := gt.w8
      have next : wk tab s0 (l.take (i + 1)) = st1 tab (wk tab s0 (l.take i)) g := wk_take hg
      cases e : wk tab s0 (l.take i) with
      | none =>
        refine ⟨_, rfl, rfl, _, rfl, ?_⟩
        refine iteT ?_
        refine ⟨some (.str ⟨#[97 + g]⟩), ?_, rfl⟩
        rw [next, e]
        rfl
      | some k =>
        have kl : k < tab.length := wk_lt (rows_lt gt) hs _ e
        obtain ⟨gx, gb, gy, g1, g2, g3, g4⟩ := goal_at gt hd kl gn
        obtain ⟨rest, hr⟩ := index_at g (by omega)
        refine ⟨_, rfl, rfl, _, rfl, ?_⟩
        refine iteF ?_
        refine ⟨_, rfl, _, rfl, a, gx, _, _, rfl, rfl, g1, g2, rfl, _, rfl, _, _, g, rest, rfl, rfl, hr, gb, gy, _, _, rfl, rfl, g3, g4, ?_⟩
        refine ⟨some (.str ⟨#[97 + g]⟩), ?_, rfl⟩
        rw [next, e]
        rfl
    · rintro σ H' ⟨y, rfl, rfl⟩
      rw [rowS_size, List.take_length]
      exact ⟨_, rfl, q⟩
theorem cut_at : ∀ n : Nat, n ≤ 8 → cutS ("abcdefgh" : Str) none (some (n : Int)) = rowS (List.range n)
  | 0, _ => by decide +kernel
  | 1, _ => by decide +kernel
  | 2, _ => by decide +kernel
  | 3, _ => by decide +kernel
  | 4, _ => by decide +kernel
  | 5, _ => by decide +kernel
  | 6, _ => by decide +kernel
  | 7, _ => by decide +kernel
  | 8, _ => by decide +kernel
  | n + 9, h => by omega
def vRows (f : List (List Nat)) : List V := f.map fun l => .str (rowS l)
def spUpto : Sp := fun vs H Q _ => ∃ n d : Nat, vs = [.int (n : Int), .int (d : Int)] ∧ n ≤ 3 ∧ d ≤ 6 ∧ ∀ q H', H q = none → Same H H' → H' q = some (.lst (vRows (up n d))) → Q (.ref q) H'
theorem ok_l_upto (T : Txt K mg A) (U : Funs K A fd) : FnOk P w K mg base CX0 1 A.l_upto fd.l_upto p_l_upto (spUpto) := by
  refine U.F_l_upto.ok sc_l_upto (fun vs H Q E h => ?_) (fun cdv A0 outer s H vs Q E hr h => ?_)
  · obtain ⟨n, d, rfl, _⟩ := h
    rfl
  · have hu := hu_of hr
    obtain ⟨n, d, rfl, hn, hd, k⟩ := h
    refine ⟨_, (pss_cons (ps_par (i := 2) (j := 3) (by rfl) sc_l_upto.nd rfl rfl (by decide) rfl rfl (pa_cons (pe_lst (pa_cons pe_str pa_nil)) (pa_cons (pe_lst (pa_cons pe_str pa_nil)) pa_nil)) (by rfl))
       (pss_cons (ps_for PassesOwn.never rfl (pi_range1 (by rfl) T.b_range (pa_cons (pv 1) pa_nil)) (pg_name (i := 4) sc_l_upto.nd rfl (Or.inl rfl))
       (pss_cons (ps_set (i := 5) sc_l_upto.nd rfl (Or.inl rfl) (pe_lst pa_nil))
       (pss_cons (ps_for PassesOwn.never rfl (w_piL (K := K) (pv 3)) (pg_name (i := 6) sc_l_upto.nd rfl (Or.inr rfl))
       (pss_one (ps_expr (pe_bm PySem.F.plainAttrs_list PySem.F.slot_list_extend PySem.F.type_list_extend mt_extend (pv 5) (pa_cons (pe_lc (own := [("_law_sign", 7)]) (g := gName 7) (tt := tYes) (by rfl) sc_l_upto.nd (pi_str (pe_slice sl_str pe_str po_none (po_some (pv 0)))) (blkOk_by (own := [("_law_sign", 7)]) (by rfl)) (fun _ _ _ _ _ => (pg_name (i := 7) sc_l_upto.nd rfl (Or.inl rfl))) (fun _ _ _ _ _ => pts_nil) (fun _ _ _ _ _ => (pe_op op_add_str (pv 6) (pv 7)))) pa_nil)))))
       (pss_one (ps_par (i := 2) (j := 3) (by rfl) sc_l_upto.nd rfl rfl (by decide) rfl rfl (pa_cons (pe_op op_cat (pv 2) (pv 5)) (pa_cons (pv 5) pa_nil)) (by rfl))))))
       (pss_one (ps_ret (pv 2))))), ?_⟩
    refine ⟨by show 1 ≤ sizeLine; decide, fun q1 h1 => ⟨by show 1 ≤ sizeLine; decide, fun q2 h2 => ⟨_, _, rfl, ?_⟩⟩⟩
    refine ⟨_, rfl, (d : Int), rfl, by omega, by omega, ?_⟩
    rw [Int.toNat_natCast]
    have s12 : Same H (upd (upd H q1 (.lst [.str ""])) q2 (.lst [.str ""])) := (same_upd h1).trans (same_upd h2)
    have ne : q1 ≠ q2 := ne_of_none upd_same h2
    refine for_range (lo := 0) (n := d) (fun t σ H' => ∃ f l y4 y5 y6, σ = [some (.int (n : Int)), some (.int (d : Int)), some (.ref f), some (.ref l), y4, y5, y6, none] ∧ H f = none ∧ Same H H' ∧
      H' f = some (.lst (vRows (up n t))) ∧ H' l = some (.lst (vRows (lv n t)))) ?_ ?_ ?_
    · exact ⟨q1, q2, none, none, none, rfl, h1, s12, by rw [upd_ne ne]; exact upd_same, upd_same⟩
    · rintro t σ H3 ht ⟨f, l, y4, y5, y6, rfl, hf, s3, h3f, h3l⟩
      refine ⟨Nat.zero_le _, fun c hc => ?_⟩
      have nel : l ≠ c := ne_of_none h3l hc
      have nef : f ≠ c := ne_of_none h3f hc
      have ll := lv_small hn (show t ≤ 6 by omega)
      refine ⟨_, rfl, l, rfl, ⟨_, lst_of (by rw [upd_ne nel]; exact h3l)⟩, ?_⟩
      have lx : (vRows (lv n t)).length = (lv n t).length := List.length_map _
      refine for_list (xs := vRows (lv n t)) (fun a σ H' => ∃ y4 y6, σ = [some (.int (n : Int)), some (.int (d : Int)), some (.ref f), some (.ref l), y4, some (.ref c), y6, none] ∧ Same H3 H' ∧
        H' c = some (.lst (vRows (((lv n t).take a).flatMap fun l => (List.range n).map fun g => l ++ [g])))) ?_ ?_ ?_ ?_
      · exact ⟨_, _, rfl, same_upd hc, upd_same⟩
      · rintro a σ H' _ ⟨_, _, _, s4, _⟩
        exact lst_of (s4 _ _ h3l)
      · rintro a x σ H4 hx ⟨y4, y6, rfl, s4, h4⟩
        unfold vRows at hx
        rw [List.getElem?_map] at hx
        cases el : (lv n t)[a]? with
        | none => rw [el] at hx; cases hx
        | some line =>
          rw [el] at hx
          obtain rfl := Option.some.inj hx
          have hlen := (lv_mem (List.mem_of_getElem? el)).1
          have ha : a < 729 := by have := lt_of_get el; omega
          refine ⟨_, rfl, .inl ⟨rfl, _, lst_of h4⟩, ?_⟩
          refine cS (z := rowS (List.range n)) (fun i => [.str (rowS (line ++ [(List.range n).getD i 0]))]) (fun R r => ?_) (fun _ => Nat.le_refl 1) (by rw [rowS_size, List.length_range]; omega) ?_ (fun i c5 hi => turn_yes fun H5 R5 s5 r5 => ?_) (fun D H5 hD s5 h5 => ?_)
          · rw [← cut_at n (by omega)] at r
            exact ⟨_, rfl, (n : Int), rfl, _, rfl, szl (by decide +kernel), r⟩
          · exact fun _ => rfl
          · obtain ⟨g, hg, rfl⟩ := rowS_at hi
            have gd : (List.range n).getD i 0 = g := by rw [List.getD_eq_getElem?_getD, hg]; rfl
            rw [gd, ← rowS_snoc] at r5
            exact ⟨_, rfl, _, rfl, _, _, rfl, rfl, szl (by rw [rowS_len]; show line.length + 1 ≤ 100000; omega), r5 H5 (Same.refl _)⟩
          · rw [rowS_size, pre_at (List.range n) 0 (fun g => V.str (rowS (line ++ [g])))] at h5
            have e5 : ((List.range n).map fun g => V.str (rowS (line ++ [g]))) = vRows ((List.range n).map fun g => line ++ [g]) := by
              unfold vRows
              rw [List.map_map]
              rfl
            rw [e5] at h5
            have lb : (vRows (((lv n t).take a).flatMap fun l => (List.range n).map fun g => l ++ [g])).length ≤ 3 * 729 := by
              unfold vRows
              rw [List.length_map]
              have : ∀ f : List (List Nat), (f.flatMap fun l => (List.range n).map fun g => l ++ [g]).length = f.length * n := by
                intro f
                induction f with
                | nil => simp
                | cons x f ih => rw [List.flatMap_cons, List.length_append, ih, List.length_map, List.length_range, List.length_cons, Nat.succ_mul]; omega
              rw [this, List.length_take]
              have := Nat.mul_le_mul (show min a (lv n t).length ≤ 729 by omega) hn
              omega
            refine ⟨c, D, _, _, rfl, rfl, s5 _ _ h4, h5, szl (by unfold vRows at lb ⊢; simp at lb ⊢; omega), ?_⟩
            refine ⟨_, _, rfl, same_put (s4.trans s5) hc, ?_⟩
            rw [upd_same, take_snoc el, List.flatMap_append]
            unfold vRows
            simp
      · rintro σ H4 ⟨y4, y6, rfl, s4, h4⟩
        rw [lx, List.take_length] at h4
        have lu := up_small hn (d := t) (by omega)
        have ll2 := lv_small hn (show t + 1 ≤ 6 by omega)
        have e1 : vRows (up n t) ++ vRows (lv n (t + 1)) = vRows (up n (t + 1)) := by
          rw [up_succ]
          unfold vRows
          rw [List.map_append]
        refine ⟨_, rfl, _, rfl, f, c, _, vRows (lv n (t + 1)), rfl, rfl, s4 _ _ h3f, h4, szl (by unfold vRows; simp; omega), fun q hq => ?_⟩
        refine ⟨_, rfl, _, _, rfl, ?_⟩
        have nqc : c ≠ q := ne_of_none h4 hq
        refine ⟨q, c, _, _, _, rfl, Same.free s3 (Same.free s4 hq), (s3.trans s4).trans (same_upd hq), ?_, by rw [upd_ne nqc]; exact h4⟩
        rw [upd_same, e1]
    · rintro σ H3 ⟨f, l, y4, y5, y6, rfl, hf, s3, h3f, h3l⟩
      exact ⟨_, rfl, k f H3 hf s3 h3f⟩
theorem inV_nats (ends : List Nat) (s : Option Nat) : inV (vO s) (ends.map fun (k : Nat) => V.int (k : Int)) = (match s with | some k => decide (k ∈ ends) | none => false) := by
  unfold inV
  induction ends with
  | nil => cases s <;> rfl
  | cons e ends ih =>
    rw [List.map_cons, List.any_cons, ih]
    cases s with
    | none => rfl
    | some k =>
      show (eqV (.int (e : Int)) (.int (k : Int)) || decide (k ∈ ends)) = decide (k ∈ e :: ends)
      by_cases c : e = k
      · subst c
        have : eqV (.int (e : Int)) (.int (e : Int)) = true := by simp [eqV]
        rw [this]
        simp
      · have : eqV (.int (e : Int)) (.int (k : Int)) = false := by simp [eqV]; omega
        rw [this]
        have : k ≠ e := fun z => c z.symm
        simp [this]
theorem flat_ints (ends : List Nat) : (ends.map fun (k : Nat) => V.int (k : Int)).all flatV = true := by
  simp [flatV]
theorem flat_vO (s : Option Nat) : flatV (vO s) = true := by cases s <;> rfl
theorem dps_nats {H : Hp} {xs : List V} {ends : List Nat} (h : DpAll K H xs (ends.map fun (k : Nat) => PyData.int (k : Int))) : xs = ends.map fun (k : Nat) => V.int (k : Int) := by
  rw [nats_int] at h
  have e := dps_ints h
  rw [e, List.map_map]
  rfl
def yesAt (tab : Tab) (ends : List Nat) (rows : List (List Nat)) (i : Nat) : List V := match rows[i]? with
  | some l => if yes tab ends l = true then [.str (rowS l)] else []
  | none => []
theorem yesAt_of {tab : Tab} {ends : List Nat} {rows : List (List Nat)} {i : Nat} {l : List Nat} (h : rows[i]? = some l) : yesAt tab ends rows i = if yes tab ends l = true then [.str (rowS l)] else [] := by
  unfold yesAt
  rw [h]
def spYes (K : PySem.W.Frag) : Sp := fun vs H Q _ => ∃ (a e : Addr) (tab : Tab) (ends : List Nat) (n d : Nat), vs = [.ref a, .ref e, .int (n : Int), .int (d : Int)] ∧ Dp K H (.ref a) (dTab tab) ∧ Dp K H (.ref e) (dNats ends) ∧ GoodT n tab ∧
  n ≤ 3 ∧ d ≤ 6 ∧ ∀ q H', H q = none → Same H H' → H' q = some (.lst (vRows ((up n d).filter (yes tab ends)))) → Q (.ref q) H'
theorem ok_l_yes (T : Txt K mg A) (U : Funs K A fd) : FnOk P w K mg base CX0 4 A.l_yes fd.l_yes p_l_yes (spYes K) := by
  have G_l_upto := ok_l_upto (P := P) (w := w) (base := base) T U
  have b_l_upto := U.b_l_upto
  have G_l_walk := ok_l_walk (P := P) (w := w) (base := base) T U
  have b_l_walk := U.b_l_walk
  refine U.F_l_yes.ok sc_l_yes (fun vs H Q E h => ?_) (fun cdv A0 outer s H vs Q E hr h => ?_)
  · obtain ⟨a, e, tab, ends, n, d, rfl, _⟩ := h
    rfl
  · have hu := hu_of hr
    obtain ⟨a, e, tab, ends, n, d, rfl, ha, he, gt, hn, hd, k⟩ := h
    refine ⟨_, (pss_one (ps_ret (pe_lc (own := [("_law_line", 4)]) (g := gName 4) (by rfl) sc_l_yes.nd (w_piL (K := K) (pe_call G_l_upto (hr.mono (by decide)) (by rfl) T.m_l_upto T.k_l_upto b_l_upto .nil pass0 (pa_cons (pv 2) (pa_cons (pv 3) pa_nil)))) (blkOk_by (own := [("_law_line", 4)]) (by rfl)) (fun _ _ _ _ _ => (pg_name (i := 4) sc_l_yes.nd rfl (Or.inl rfl))) (fun _ _ _ _ _ => (pts_one (pt_cmpR (w_in (K := K)) (pe_call G_l_walk (hr.mono (by decide)) (by rfl) T.m_l_walk T.k_l_walk b_l_walk .nil pass0 (pa_cons (pv 0) (pa_cons pe_int (pa_cons (pv 4) pa_nil)))) (pv 1) (by rfl)))) (fun _ _ _ _ _ => (pv 4))))), ?_⟩
    have n1 := gt.n1
    refine ⟨_, rfl, _, rfl, n, d, rfl, hn, hd, fun q H1 hq s1 h1 => ?_⟩
    obtain ⟨e', xs, e1, hx, hxd⟩ := dp_tup he
    obtain rfl := V.ref.inj e1
    obtain rfl := dps_nats hxd
    have lu := up_small hn hd
    have lx : (vRows (up n d)).length = (up n d).length := List.length_map _
    refine ⟨q, rfl, ⟨_, lst_of h1⟩, ?_⟩
    refine lL (xs := vRows (up n d)) (yesAt tab ends (up n d)) (lst_of h1) (fun i => ?_) (by omega) ?_ (fun i x hi H2 R N s2 ry rn => ?_) (fun D H2 hD s2 h2 => ?_)
    · unfold yesAt
      split
      · split <;> simp
      · simp
    · exact fun _ => rfl
    · unfold vRows at hi
      rw [List.getElem?_map] at hi
      cases el : (up n d)[i]? with
      | none => rw [el] at hi; cases hi
      | some l =>
        rw [el] at hi
        rw [yesAt_of el] at ry rn
        obtain rfl := Option.some.inj hi
        have hm := up_mem (List.mem_of_getElem? el)
        have sA : Same H H2 := s1.trans s2
        refine ⟨_, rfl, _, rfl, a, tab, n, some 0, l, rfl, dp_mono sA _ _ ha, gt, hm.2, fun k hk => ?_, ?_⟩
        · obtain rfl := Option.some.inj hk
          omega
        · refine ⟨_, rfl, e, _, rfl, .inr (sqT_mono sA hx), flat_vO _, flat_ints _, _, rfl, ?_⟩
          rw [if_neg Bool.false_ne_true, inV_nats]
          have ey : (match wk tab (some 0) l with | some k => decide (k ∈ ends) | none => false) = yes tab ends l := rfl
          rw [ey]
          cases y : yes tab ends l with
          | true =>
            refine iteT ?_
            exact ⟨_, rfl, ry _ H2 (by simp [y]) (Same.refl _)⟩
          | false =>
            refine iteF ?_
            exact rn H2 (by simp [y]) (Same.refl _)
    · rw [lx] at h2
      have ep := pre_take (up n d) (fun l => if yes tab ends l = true then [V.str (rowS l)] else []) (yesAt tab ends (up n d)) (fun i => by unfold yesAt; cases (up n d)[i]? <;> rfl) (up n d).length
      rw [ep, List.take_length] at h2
      have ef : ∀ f : List (List Nat), (f.flatMap fun l => if yes tab ends l = true then [V.str (rowS l)] else []) = vRows (f.filter (yes tab ends)) := by
        intro f
        unfold vRows
        induction f with
        | nil => rfl
        | cons x f ih =>
          rw [List.flatMap_cons, ih, List.filter_cons]
          by_cases c : yes tab ends x = true
          · simp [c]
          · simp [c]
      rw [ef] at h2
      exact k D H2 (Same.free s1 hD) (s1.trans s2) h2
def spAdded (K : PySem.W.Frag) : Sp := fun vs H Q _ => ∃ (a e : Addr) (tab : Tab) (ends : List Nat) (n d : Nat), vs = [.ref a, .ref e, .int (d : Int)] ∧ Dp K H (.ref a) (dTab tab) ∧ Dp K H (.ref e) (dNats ends) ∧ GoodT n tab ∧ GoodE tab.length ends ∧
  d ≤ 200 ∧ ∀ H', Same H H' → Q (.int (cN tab ends d 0)) H'
theorem asc_lt : ∀ {ns : List Int}, Asc ns → ns.Pairwise (· < ·)
  | [], _ => .nil
  | [x], _ => by simp
  | x :: y :: ns, h => by
    have ih := asc_lt (ns := y :: ns) fun i a b h1 h2 => h (i + 1) a b h1 h2
    have xy := h 0 x y rfl rfl
    refine List.pairwise_cons.mpr ⟨fun z hz => ?_, ih⟩
    rcases List.mem_cons.mp hz with rfl | hz
    · exact xy
    · exact Int.lt_trans xy ((List.pairwise_cons.mp ih).1 z hz)
theorem asc_nodup {ends : List Nat} (h : Asc (ends.map Int.ofNat)) : ends.Nodup := by
  have a := asc_lt h
  rw [List.pairwise_map] at a
  refine a.imp fun {x y} h z => ?_
  subst z
  exact Int.lt_irrefl _ h
theorem ints_get {c : List Int} {g : Nat} (h : g < c.length) : (c.map V.int)[g]? = some (.int (c.getD g 0)) := by
  rw [List.getElem?_map, List.getD_eq_getElem?_getD, List.getElem?_eq_getElem h]
  rfl
theorem ok_l_added (T : Txt K mg A) (U : Funs K A fd) : FnOk P w K mg base CX0 1 A.l_added fd.l_added p_l_added (spAdded K) := by
  refine U.F_l_added.ok sc_l_added (fun vs H Q E h => ?_) (fun cdv A0 outer s H vs Q E hr h => ?_)
  · obtain ⟨a, e, tab, ends, n, d, rfl, _⟩ := h
    rfl
  · have hu := hu_of hr
    obtain ⟨a, e, tab, ends, n, d, rfl, ha, he, gt, ge, hd, k⟩ := h
    refine ⟨_, (pss_cons (ps_set (i := 3) sc_l_added.nd rfl (Or.inr rfl) (pe_lc (own := [("_law_k", 6)]) (g := gName 6) (tt := tYes) (by rfl) sc_l_added.nd (pi_range1 (by rfl) T.b_range (pa_cons (pe_callB (w_len (K := K)) (by rfl) T.b_len (by decide +kernel) (pa_cons (pv 0) pa_nil)) pa_nil)) (blkOk_by (own := [("_law_k", 6)]) (by rfl)) (fun _ _ _ _ _ => (pg_name (i := 6) sc_l_added.nd rfl (Or.inl rfl))) (fun _ _ _ _ _ => pts_nil) (fun _ _ _ _ _ => (pe_callTy call_int1 (by rfl) T.b_int (by decide +kernel) (pa_cons (pe_cmpR op_eq (pv 6) pe_int (nomark _)) pa_nil)))))
       (pss_cons (ps_for PassesOwn.never rfl (pi_range1 (by rfl) T.b_range (pa_cons (pv 2) pa_nil)) (pg_name (i := 4) sc_l_added.nd rfl (Or.inl rfl))
       (pss_cons (ps_set (i := 5) sc_l_added.nd rfl (Or.inl rfl) (pe_op op_rep (pe_lst (pa_cons pe_int pa_nil)) (pe_callB (w_len (K := K)) (by rfl) T.b_len (by decide +kernel) (pa_cons (pv 0) pa_nil))))
       (pss_cons (ps_for PassesOwn.never rfl (pi_range1 (by rfl) T.b_range (pa_cons (pe_callB (w_len (K := K)) (by rfl) T.b_len (by decide +kernel) (pa_cons (pv 0) pa_nil)) pa_nil)) (pg_name (i := 6) sc_l_added.nd rfl (Or.inl rfl))
       (pss_one (ps_for PassesOwn.never rfl (w_piT (K := K) (pe_ix (w_ixT (K := K)) (pv 0) (pv 6) (fun _ _ => rfl))) (pg_name (i := 7) sc_l_added.nd rfl (Or.inl rfl))
       (pss_one (ps_if (pt_cmpR op_notN (pv 7) pe_non (nomark _)) (pss_one (ps_asg (pe_op op_add (pe_ix (w_ixL (K := K)) (pv 5) (pv 7) (fun _ _ => rfl)) (pe_ix (w_ixL (K := K)) (pv 3) (pv 6) (fun _ _ => rfl))) (pg_sub (pv 5) (pv 7) set_list))) pss_nil)))))
       (pss_one (ps_set (i := 3) sc_l_added.nd rfl (Or.inr rfl) (pv 5))))))
       (pss_one (ps_ret (pe_callB (w_sum (K := K) rfl) (by rfl) T.b_sum (by decide +kernel) (pa_cons (pe_lc (own := [("_law_k", 6)]) (g := gName 6) (tt := tYes) (by rfl) sc_l_added.nd (w_piT (K := K) (pv 1)) (blkOk_by (own := [("_law_k", 6)]) (by rfl)) (fun _ _ _ _ _ => (pg_name (i := 6) sc_l_added.nd rfl (Or.inl rfl))) (fun _ _ _ _ _ => pts_nil) (fun _ _ _ _ _ => (pe_ix (w_ixL (K := K)) (pv 3) (pv 6) (fun _ _ => rfl)))) pa_nil)))))), ?_⟩
    have n1 := gt.n1
    have n2 := gt.n2
    obtain ⟨a', ta, e0, hta, htd⟩ := dp_tup ha
    obtain rfl := V.ref.inj e0
    have lt : ta.length = tab.length := by rw [dps_len htd, List.length_map]
    obtain ⟨e', xs, e1, hx, hxd⟩ := dp_tup he
    obtain rfl := V.ref.inj e1
    obtain rfl := dps_nats hxd
    -- the comings at the beginning
    refine g_seq (g_asg (cR (n := tab.length) (m := (tab.length : Int)) (fun i => [.int ((come tab 0).getD i 0)]) (by omega) (by omega) (fun R r => ?_) (fun _ => Nat.le_refl 1) (by omega) ?_ (fun i hi => turn_yes fun H1 R s1 r => ?_) (fun D H1 hD s1 h1 => ?_)))
    · refine ⟨_, rfl, _, _, rfl, .inr ⟨_, hta, rfl⟩, ?_⟩
      rw [lt]
      exact r
    · exact fun _ => rfl
    · have ec : (come tab 0).getD i 0 = if i = 0 then 1 else 0 := by
        unfold come
        rw [List.getD_eq_getElem?_getD, List.getElem?_map, List.getElem?_range hi]
        rfl
      rw [ec] at r
      refine ⟨_, rfl, rfl, .inr ⟨_, rfl, ?_⟩⟩
      by_cases c : i = 0
      · subst c
        exact r H1 (Same.refl _)
      · rw [if_neg c] at r
        have : decide (V.int (i : Int) = V.int 0) = false := by
          rw [decide_eq_false]
          intro z
          injection z with z
          omega
        rw [this]
        exact r H1 (Same.refl _)
    · rw [← come_len tab 0, pre_at (come tab 0) 0 V.int] at h1
      refine ⟨_, rfl, (d : Int), rfl, by omega, by omega, ?_⟩
      rw [Int.toNat_natCast]
      refine for_range (lo := 0) (n := d) (fun t σ H' => ∃ pc y4 y5 y6 y7, σ = [some (.ref a), some (.ref e), some (.int (d : Int)), some (.ref pc), y4, y5, y6, y7] ∧ Same H H' ∧ H' pc = some (.lst ((come tab t).map V.int))) ?_ ?_ ?_
      · exact ⟨D, none, none, none, none, rfl, s1, h1⟩
      · rintro t σ H2 ht ⟨pc, y4, y5, y6, y7, rfl, s2, h2⟩
        refine ⟨by show 1 ≤ sizeLine; decide, fun p0 hp0 => ?_⟩
        have s3 : Same H2 (upd H2 p0 (.lst [.int 0])) := same_upd hp0
        refine ⟨_, rfl, _, _, rfl, .inr ⟨_, sqT_mono (s2.trans s3) hta, rfl⟩, p0, _, _, rfl, rfl, upd_same, by omega, by omega, szl (by simp; omega), fun q hq => ?_⟩
        rw [Int.toNat_natCast, lt]
        have ez : (List.replicate tab.length [V.int 0]).flatten = (onAll tab (come tab t) 0).map V.int := by
          unfold onAll
          induction tab.length with
          | zero => rfl
          | succ m ih => rw [List.replicate_succ, List.flatten_cons, ih, List.replicate_succ, List.map_cons]; rfl
        rw [ez]
        have nq : H2 q = none := Same.free s3 hq
        have s4 : Same H2 (upd (upd H2 p0 (.lst [.int 0])) q (.lst ((onAll tab (come tab t) 0).map V.int))) := s3.trans (same_upd hq)
        refine ⟨_, rfl, _, _, rfl, .inr ⟨_, sqT_mono (s2.trans s4) hta, rfl⟩, (tab.length : Int), by rw [lt], by omega, by omega, ?_⟩
        rw [Int.toNat_natCast]
        refine for_range (lo := 0) (n := tab.length) (fun j σ H' => ∃ y4 y6 y7, σ = [some (.ref a), some (.ref e), some (.int (d : Int)), some (.ref pc), y4, some (.ref q), y6, y7] ∧ Same H2 H' ∧ H' q = some (.lst ((onAll tab (come tab t) j).map V.int))) ?_ ?_ ?_
        · exact ⟨_, _, _, rfl, s4, upd_same⟩
        · rintro j σ H3 hj ⟨y4, y6, y7, rfl, s5, h5⟩
          rw [show (0 : Int) + (j : Int) = (j : Int) by omega]
          have sB := s2.trans s5
          obtain ⟨v, hv, dv⟩ := dps_get (i := j) (d := dRow tab[j]) (dps_mono sB _ _ htd) (by rw [List.getElem?_map, List.getElem?_eq_getElem hj]; rfl)
          obtain ⟨b, ys, rfl, hys, hyd⟩ := dp_tup dv
          obtain rfl := dps_opts hyd
          have jD : tab.getD j [] = tab[j] := by rw [List.getD_eq_getElem?_getD, List.getElem?_eq_getElem hj]; rfl
          have hrow := gt.rows _ (List.getElem_mem hj)
          have nqa : ∀ {b : Addr} {ys : List V}, SqT K H3 b ys → H2 q = none → True := fun _ _ => trivial
          refine ⟨_, rfl, _, rfl, a, _, _, _, rfl, rfl, sqT_mono sB hta, atI_nat hv, b, rfl, ⟨_, hys⟩, ?_⟩
          obtain ⟨v0, hv0, dv0⟩ := dps_get (i := j) (d := dRow tab[j]) htd (by rw [List.getElem?_map, List.getElem?_eq_getElem hj]; rfl)
          have ev : v0 = .ref b := by rw [hv] at hv0; exact (Option.some.inj hv0).symm
          subst ev
          obtain ⟨b', ys0, eb, hys0, hyd0⟩ := dp_tup dv0
          obtain rfl := V.ref.inj eb
          obtain rfl := dps_opts hyd0
          refine for_tup (xs := tab[j].map vO) (fun i σ H' => ∃ y7, σ = [some (.ref a), some (.ref e), some (.int (d : Int)), some (.ref pc), y4, some (.ref q), some (.int (j : Int)), y7] ∧ Same H2 H' ∧
            H' q = some (.lst ((addAll (onAll tab (come tab t) j) ((come tab t).getD j 0) ((tab[j].take i).filterMap id)).map V.int))) ?_ ?_ ?_ ?_
          · exact ⟨_, rfl, s5, by simpa [addAll] using h5⟩
          · rintro i σ H' _ ⟨_, _, s6, _⟩
            exact sqT_mono (s2.trans s6) hys0
          · rintro i x σ H' hi ⟨y7, rfl, s6, h6⟩
            rw [List.getElem?_map] at hi
            cases eo : tab[j][i]? with
            | none => rw [eo] at hi; cases hi
            | some o =>
              rw [eo] at hi
              obtain rfl := Option.some.inj hi
              cases o with
              | none =>
                refine ⟨_, rfl, rfl, _, rfl, ?_⟩
                refine iteF ?_
                refine ⟨_, rfl, s6, ?_⟩
                rw [take_snoc eo, List.filterMap_append]
                simpa using h6
              | some g =>
                have hg : g < tab.length := hrow.2 g (List.mem_of_getElem? eo)
                have la : (addAll (onAll tab (come tab t) j) ((come tab t).getD j 0) ((tab[j].take i).filterMap id)).length = tab.length := by rw [addAll_len, onAll_len]
                refine ⟨_, rfl, rfl, _, rfl, ?_⟩
                refine iteT ?_
                refine ⟨_, rfl, _, rfl, q, _, _, _, rfl, rfl, lst_of h6, atI_nat (ints_get (by rw [la]; exact hg)), _, rfl, _, rfl, pc, _, _, _, rfl, rfl, lst_of (s6 _ _ h2), atI_nat (ints_get (by rw [come_len]; exact hj)), _, _, rfl, rfl, ?_⟩
                refine ⟨_, rfl, _, rfl, q, _, _, g, rfl, rfl, h6, Evl.ixN_nat (by rw [List.length_map, la]; exact hg), ?_⟩
                refine ⟨_, rfl, same_put s6 nq, ?_⟩
                rw [upd_same, take_snoc eo, List.filterMap_append]
                show some (HO.lst _) = some (HO.lst ((addAll _ _ (_ ++ [g])).map V.int))
                rw [addAll_snoc]
                unfold addAt
                rw [List.map_set]
          · rintro σ H' ⟨y7, rfl, s6, h6⟩
            refine ⟨_, _, _, rfl, s6, ?_⟩
            rw [List.length_map, List.take_length] at h6
            show H' q = some (.lst ((addAll _ _ ((tab.getD j []).filterMap id)).map V.int))
            rw [jD]
            exact h6
        · rintro σ H3 ⟨y4, y6, y7, rfl, s5, h5⟩
          exact ⟨_, rfl, q, _, _, _, _, rfl, s2.trans s5, h5⟩
      · rintro σ H2 ⟨pc, y4, y5, y6, y7, rfl, s2, h2⟩
        have el : (ends.map fun (k : Nat) => V.int (k : Int)).length = ends.length := List.length_map _
        dsimp only
        refine g_ret (g_cb (cT (xs := ends.map fun (k : Nat) => V.int (k : Int)) (fun i => [.int ((come tab d).getD (ends.getD i 0) 0)]) (fun R r => ?_) (sqT_mono s2 hx) (fun _ => Nat.le_refl 1) (by have := ge.len; omega) ?_ (fun i x hi => turn_yes fun H3 R s3 r => ?_) (fun D3 H3 hD3 s3 h3 => ?_)))
        · exact ⟨_, rfl, r⟩
        · exact fun _ => rfl
        · rw [List.getElem?_map] at hi
          cases eg : ends[i]? with
          | none => rw [eg] at hi; cases hi
          | some g =>
            rw [eg] at hi
            obtain rfl := Option.some.inj hi
            have gD : ends.getD i 0 = g := by rw [List.getD_eq_getElem?_getD, eg]; rfl
            rw [gD] at r
            have hg := ge.lt g (List.mem_of_getElem? eg)
            exact ⟨_, rfl, _, rfl, pc, _, _, _, rfl, rfl, lst_of (s3 _ _ h2), atI_nat (ints_get (by rw [come_len]; exact hg)), r H3 (Same.refl _)⟩
        · rw [el, pre_at ends 0 (fun g => V.int ((come tab d).getD g 0))] at h3
          refine ⟨D3, ends.map fun g => (come tab d).getD g 0, rfl, lst_of (by rw [List.map_map]; exact h3), ?_⟩
          rw [come_is (w := n) n1 (rows_lt gt) (asc_nodup ge.asc) ge.lt d]
          exact k H3 (s2.trans s3)
end K6


set_option Elab.async false
set_option linter.all false
set_option maxRecDepth 100000
set_option maxHeartbeats 4000000
namespace K6
open PySem PySem.Spec PyProof.Rows L2 Rw
variable {P : Program} {w : World} {K : PySem.W.Frag} {mg : Str → Option Value} {base : Heap} {A : Ad} {fd : Fds}
/-! ### draws -/
structure BarAt (H : Hp) (b : Addr) : Prop where
  ob : ∃ f s c : Int, H b = some (.lst [.int f, .int s, .int c]) ∧ 0 ≤ f ∧ 0 ≤ s
theorem g_viaP {te : TE} {σ : L2.St} {H : Hp} {Q : VK} (Pp : V → Hp → Prop) (h : ∀ Q' : VK, (∀ v H2, Pp v H2 → Q' v H2) → te σ H Q') (rest : ∀ v H2, Pp v H2 → Q v H2) : te σ H Q := h Q rest
theorem fmod_nn (x : Int) {m : Int} (h : 0 < m) : 0 ≤ x.fmod m := by
  rw [Int.fmod_eq_emod_of_nonneg x (by omega)]
  exact Int.emod_nonneg x (by omega)
theorem fmod_lt (x : Int) {m : Int} (h : 0 < m) : x.fmod m < m := by
  rw [Int.fmod_eq_emod_of_nonneg x (by omega)]
  exact Int.emod_lt_of_pos x h
def spBarrel (K : PySem.W.Frag) : Sp := fun vs H Q _ => ∃ (a : Addr) (ns : List Int) (t : Nat), vs = [.ref a, .int (t : Int)] ∧ SqL K H a (ns.map V.int) ∧ ns.length ≤ 63 ∧ t ≤ 3 ∧
  ∀ b H', H b = none → Same H H' → BarAt H' b → Q (.ref b) H'
theorem ok_l_barrel (T : Txt K mg A) (U : Funs K A fd) : FnOk P w K mg base CX0 1 A.l_barrel fd.l_barrel p_l_barrel (spBarrel K) := by
  refine U.F_l_barrel.ok sc_l_barrel (fun vs H Q E h => ?_) (fun cdv A0 outer s H vs Q E hr h => ?_)
  · obtain ⟨a, ns, t, rfl, _⟩ := h
    rfl
  · have hu := hu_of hr
    obtain ⟨a, ns, t, rfl, hS, hn, ht, k⟩ := h
    refine ⟨_, (pss_cons (ps_set (i := 2) sc_l_barrel.nd rfl (Or.inl rfl) (pe_ifExp (pt_cmpR op_lt (pv 1) (pe_callB (w_len (K := K)) (by rfl) T.b_len (by decide +kernel) (pa_cons (pv 0) pa_nil)) (nomark _)) (pe_callTy call_int1 (by rfl) T.b_int (by decide +kernel) (pa_cons (pe_ix (w_ixL (K := K)) (pv 0) (pv 1) (fun _ _ => rfl)) pa_nil)) (pe_op op_add (pe_op op_mul pe_int (pv 1)) pe_int)))
       (pss_cons (ps_set (i := 3) sc_l_barrel.nd rfl (Or.inl rfl) (pe_op op_add pe_int (pe_op op_mul pe_int (pv 1))))
       (pss_cons (ps_for PassesOwn.never rfl (w_piL (K := K) (pe_slice (w_slL (K := K)) (pv 0) po_none (po_some pe_int))) (pg_name (i := 4) sc_l_barrel.nd rfl (Or.inl rfl))
       (pss_one (ps_set (i := 3) sc_l_barrel.nd rfl (Or.inl rfl) (pe_op op_modN (pe_callTy call_int1 (by rfl) T.b_int (by decide +kernel) (pa_cons (pe_op op_add (pe_op op_add (pe_op op_mul (pv 3) pe_int) (pe_op op_modN (pe_callTy call_int1 (by rfl) T.b_int (by decide +kernel) (pa_cons (pv 4) pa_nil)) pe_int)) pe_int) pa_nil)) pe_int))))
       (pss_cons (ps_set (i := 5) sc_l_barrel.nd rfl (Or.inl rfl) (pe_ifExp (PW.pt (pw_or (pt_cmpR op_lt (pv 2) pe_int (nomark _)) (pw_or1 (pt_cmpR op_ge (pv 2) (pe_op op_pow pe_int pe_int) (nomark _))))) (pe_callB call_abs (by rfl) T.b_abs (by decide +kernel) (pa_cons (pv 2) pa_nil)) pe_int))
       (pss_one (ps_ret (pe_lst (pa_cons (pv 5) (pa_cons (pe_op op_modN (pe_callTy call_int1 (by rfl) T.b_int (by decide +kernel) (pa_cons (pe_op op_add (pv 3) (pe_op op_mul (pe_op op_modN (pv 2) pe_int) pe_int)) pa_nil)) pe_int) (pa_cons pe_int pa_nil)))))))))), ?_⟩
    refine g_seq (g_asg (g_viaP (fun v H2 => H2 = H ∧ ∃ o : Int, v = .int o) (fun Q' rest => ?_) ?_))
    · refine ⟨_, rfl, _, rfl, _, _, rfl, .inl ⟨_, hS, rfl⟩, _, _, rfl, rfl, _, rfl, ?_⟩
      by_cases c : t < ns.length
      · rw [decide_eq_true (show (t : Int) < ((ns.map V.int).length : Int) by rw [List.length_map]; omega)]
        refine iteT ?_
        refine ⟨_, rfl, _, rfl, a, _, _, _, rfl, rfl, hS, atI_nat (ints_get c), .inl ⟨_, rfl, rest _ H ⟨rfl, _, rfl⟩⟩⟩
      · rw [decide_eq_false (show ¬ ((t : Int) < ((ns.map V.int).length : Int)) by rw [List.length_map]; omega)]
        refine iteF ?_
        refine ⟨_, rfl, _, _, rfl, rfl, .inl ⟨by decide, by decide⟩, _, _, rfl, rfl, rest _ H ⟨rfl, _, rfl⟩⟩
    · rintro v H2 ⟨rfl, o, rfl⟩
      refine ⟨_, rfl, _, _, rfl, rfl, .inl ⟨by decide, by decide⟩, _, _, rfl, rfl, ?_⟩
      refine ⟨_, rfl, 20, rfl, a, _, rfl, hS, fun p hp => ⟨p, rfl, ⟨_, lst_of upd_same⟩, ?_⟩⟩
      have s1 : Same H2 (upd H2 p (.lst (cutV (ns.map V.int) none (some 20)))) := same_upd hp
      refine for_list (xs := cutV (ns.map V.int) none (some 20)) (fun i σ H' => ∃ (st : Int) (y4 : Option V), σ = [some (.ref a), some (.int (t : Int)), some (.int o), some (.int st), y4, none] ∧ 0 ≤ st ∧ H' = upd H2 p (.lst (cutV (ns.map V.int) none (some 20)))) ?_ ?_ ?_ ?_
      · exact ⟨_, none, rfl, by omega, rfl⟩
      · rintro i σ H' _ ⟨_, _, _, _, rfl⟩
        exact lst_of upd_same
      · rintro i x σ H' hi ⟨st, y4, rfl, h0, rfl⟩
        have hm : x ∈ ns.map V.int := by
          have := List.mem_of_getElem? hi
          unfold cutV at this
          exact List.mem_of_mem_drop (List.mem_of_mem_take this)
        obtain ⟨z, _, rfl⟩ := List.mem_map.mp hm
        refine ⟨_, rfl, _, _, rfl, rfl, .inr ⟨by decide, by decide⟩, _, rfl, .inl ⟨_, rfl, _, _, rfl, rfl, (by show (1000003 : Int) ≠ 0; decide), _, _, rfl, rfl, _, _, rfl, rfl, .inl ⟨_, rfl, _, _, rfl, rfl, (by show (2147483399 : Int) ≠ 0; decide), ?_⟩⟩⟩
        exact ⟨_, _, rfl, fmod_nn _ (by decide), rfl⟩
      · rintro σ H' ⟨st, y4, rfl, h0, rfl⟩
        dsimp only
        refine g_seq (g_asg (g_viaP (fun v H2' => H2' = upd H2 p (.lst (cutV (ns.map V.int) none (some 20))) ∧ ∃ f : Int, 0 ≤ f ∧ v = .int f) (fun Q' rest => ?_) ?_))
        · refine ⟨_, rfl, _, _, rfl, rfl, _, rfl, ?_⟩
          have absR : ∀ H', (H' = upd H2 p (.lst (cutV (ns.map V.int) none (some 20)))) → Q' (.int (if o < 0 then -o else o)) H' := fun H' e => rest _ H' ⟨e, _, by split <;> omega, rfl⟩
          by_cases c : o < 0
          · rw [decide_eq_true c]
            refine iteT (iteT ?_)
            exact ⟨_, rfl, _, rfl, absR _ rfl⟩
          · rw [decide_eq_false c]
            refine iteF ?_
            refine ⟨_, rfl, _, _, rfl, rfl, ⟨by decide, by decide, by decide⟩, _, _, rfl, rfl, _, rfl, ?_⟩
            by_cases c2 : (10 : Int) ^ (16 : Int).toNat ≤ o
            · rw [decide_eq_true c2]
              refine iteT ?_
              exact ⟨_, rfl, _, rfl, absR _ rfl⟩
            · rw [decide_eq_false c2]
              exact iteF (rest _ _ ⟨rfl, 0, by omega, rfl⟩)
        · rintro v H' ⟨rfl, f, hf, rfl⟩
          refine ⟨_, rfl, _, rfl, _, rfl, _, _, rfl, rfl, (by show (65521 : Int) ≠ 0; decide), _, _, rfl, rfl, .inr ⟨by decide, by decide⟩, _, _, rfl, rfl, .inl ⟨_, rfl, _, _, rfl, rfl, (by show (2147483399 : Int) ≠ 0; decide), by show 3 ≤ sizeLine; decide, fun b hb => ?_⟩⟩
          exact k b _ (Same.free s1 hb) (s1.trans (same_upd hb)) ⟨f, _, 0, upd_same, hf, fmod_nn _ (by decide)⟩
def spDip : Sp := fun vs H Q _ => ∃ (b : Addr) (top : Nat), vs = [.ref b, .int (top : Int)] ∧ BarAt H b ∧ 1 ≤ top ∧ top ≤ 1000000 ∧ ∀ (r : Nat) H', r < top → Keep b H H' → BarAt H' b → Q (.int (r : Int)) H'
theorem nat_of {z : Int} (h : 0 ≤ z) : ∃ r : Nat, z = (r : Int) := ⟨z.toNat, by omega⟩
theorem ok_l_dip (T : Txt K mg A) (U : Funs K A fd) : FnOk P w K mg base CX0 1 A.l_dip fd.l_dip p_l_dip (spDip) := by
  refine U.F_l_dip.ok sc_l_dip (fun vs H Q E h => ?_) (fun cdv A0 outer s H vs Q E hr h => ?_)
  · obtain ⟨b, top, rfl, _⟩ := h
    rfl
  · have hu := hu_of hr
    obtain ⟨b, top, rfl, B, h1, h2, k⟩ := h
    refine ⟨_, (pss_cons (ps_asg (pe_op op_add (pe_ix (w_ixL (K := K)) (pv 0) pe_int (fun _ _ => rfl)) pe_int) (pg_sub (pv 0) pe_int set_list))
       (pss_cons (ps_asg (pe_op op_modN (pe_callTy call_int1 (by rfl) T.b_int (by decide +kernel) (pa_cons (pe_op op_add (pe_op op_add (pe_op op_mul (pe_ix (w_ixL (K := K)) (pv 0) pe_int (fun _ _ => rfl)) pe_int) (pe_op op_mul pe_int (pe_ix (w_ixL (K := K)) (pv 0) pe_int (fun _ _ => rfl)))) pe_int) pa_nil)) pe_int) (pg_sub (pv 0) pe_int set_list))
       (pss_cons (ps_if (pt_cmpR op_gt (pe_ix (w_ixL (K := K)) (pv 0) pe_int (fun _ _ => rfl)) pe_int (nomark _)) (pss_cons (ps_asg (pe_callB call_divmod (by rfl) T.b_divmod (by decide +kernel) (pa_cons (pe_ix (w_ixL (K := K)) (pv 0) pe_int (fun _ _ => rfl)) (pa_cons (pv 1) pa_nil))) (w_tup (K := K) (n := 2) rfl (pgs_cons (pg_sub (pv 0) pe_int set_list) (pgs_cons (pg_name (i := 2) sc_l_dip.nd rfl (Or.inl rfl)) pgs_nil))))
       (pss_one (ps_ret (pv 2)))) pss_nil)
       (pss_one (ps_ret (pe_op op_modN (pe_callTy call_int1 (by rfl) T.b_int (by decide +kernel) (pa_cons (pe_op op_add (pe_op op_fdivN (pe_ix (w_ixL (K := K)) (pv 0) pe_int (fun _ _ => rfl)) pe_int) (pe_op op_fdivN (pe_ix (w_ixL (K := K)) (pv 0) pe_int (fun _ _ => rfl)) pe_int)) pa_nil)) (pv 1))))))), ?_⟩
    obtain ⟨f, s0, c, hb, hf, hs⟩ := B.ob
    refine ⟨_, rfl, b, _, _, _, rfl, rfl, lst_of hb, rfl, _, _, rfl, rfl, _, rfl, b, _, _, 2, rfl, rfl, hb, rfl, ?_⟩
    have b1 : (upd H b (.lst [.int f, .int s0, .int (c + 1)])) b = some (.lst [.int f, .int s0, .int (c + 1)]) := upd_same
    refine ⟨_, rfl, b, _, _, _, rfl, rfl, lst_of b1, rfl, _, _, rfl, rfl, .inr ⟨by decide, by decide⟩, _, rfl, b, _, _, _, rfl, rfl, lst_of b1, rfl, _, _, rfl, rfl, .inl ⟨by decide, by decide⟩, _, _, rfl, rfl, _, _, rfl, rfl, .inl ⟨_, rfl, _, _, rfl, rfl, (by show (2147483399 : Int) ≠ 0; decide), ?_⟩⟩
    refine ⟨_, rfl, b, _, _, 1, rfl, rfl, b1, rfl, ?_⟩
    have fin : ∀ (x : Int) (H2 : Hp), Keep b H H2 → BarAt H2 b → Q (.int (x.fmod (top : Int))) H2 := by
      intro x H2 kp B2
      have hr0 := fmod_nn x (m := (top : Int)) (by omega)
      have hr1 := fmod_lt x (m := (top : Int)) (by omega)
      obtain ⟨r, er⟩ := nat_of hr0
      rw [er] at hr1 ⊢
      exact k r H2 (by omega) kp B2
    have fin2 : ∀ (H2 : Hp), Keep b H H2 → BarAt H2 b → Q (.int (f % (top : Int))) H2 := by
      intro H2 kp B2
      have hr0 : 0 ≤ f % (top : Int) := Int.emod_nonneg _ (by omega)
      have hr1 : f % (top : Int) < top := Int.emod_lt_of_pos _ (by omega)
      obtain ⟨r, er⟩ := nat_of hr0
      rw [er] at hr1 ⊢
      exact k r H2 (by omega) kp B2
    refine ⟨_, rfl, b, _, _, _, rfl, rfl, lst_of upd_same, rfl, _, _, rfl, rfl, _, rfl, ?_⟩
    by_cases cf : 0 < f
    · rw [decide_eq_true cf]
      refine iteT ?_
      refine ⟨_, rfl, b, _, _, _, rfl, rfl, lst_of upd_same, rfl, _, rfl, _, _, rfl, ⟨by omega, by omega⟩, fun T hT => ?_⟩
      have ne : b ≠ T := ne_of_none upd_same hT
      refine ⟨T, _, rfl, tup_of upd_same, rfl, _, _, rfl, _, rfl, b, _, _, 0, rfl, rfl, (by rw [upd_ne ne]; exact upd_same), rfl, _, _, rfl, rfl, ?_⟩
      have hq : 0 ≤ f / (top : Int) := Int.ediv_nonneg (by omega) (by omega)
      exact ⟨_, rfl, fin2 _ ((Keep.trans keep_upd keep_upd).trans (Keep.trans (Keep.of (same_upd hT)) keep_upd)) ⟨f / (top : Int), _, c + 1, upd_same, hq, fmod_nn _ (by decide)⟩⟩
    · rw [decide_eq_false cf]
      refine iteF (g_next ?_)
      refine ⟨_, rfl, b, _, _, _, rfl, rfl, lst_of upd_same, rfl, _, _, rfl, rfl, ⟨by decide, by decide⟩, _, rfl, b, _, _, _, rfl, rfl, lst_of upd_same, rfl, _, _, rfl, rfl, ⟨by decide, by decide⟩, _, _, rfl, rfl, .inl ⟨_, rfl, _, rfl, _, _, rfl, rfl, (by show (top : Int) ≠ 0; omega), ?_⟩⟩
      exact fin _ _ (Keep.trans keep_upd keep_upd) ⟨f, _, c + 1, upd_same, hf, fmod_nn _ (by decide)⟩
def spOne (K : PySem.W.Frag) : Sp := fun vs H Q _ => ∃ (b a : Addr) (xs : List V), vs = [.ref b, .ref a] ∧ BarAt H b ∧ SqL K (del b H) a xs ∧ 0 < xs.length ∧ xs.length ≤ 1000 ∧ ∀ x H', x ∈ xs → Keep b H H' → BarAt H' b → Q x H'
theorem ok_l_one_of (T : Txt K mg A) (U : Funs K A fd) : FnOk P w K mg base CX0 4 A.l_one_of fd.l_one_of p_l_one_of (spOne K) := by
  have G_l_dip := ok_l_dip (P := P) (w := w) (base := base) T U
  have b_l_dip := U.b_l_dip
  refine U.F_l_one_of.ok sc_l_one_of (fun vs H Q E h => ?_) (fun cdv A0 outer s H vs Q E hr h => ?_)
  · obtain ⟨b, a, xs, rfl, _⟩ := h
    rfl
  · have hu := hu_of hr
    obtain ⟨b, a, xs, rfl, B, hx, h1, h2, k⟩ := h
    refine ⟨_, (pss_one (ps_ret (pe_ix (w_ixL (K := K)) (pv 1) (pe_call G_l_dip (hr.mono (by decide)) (by rfl) T.m_l_dip T.k_l_dip b_l_dip .nil pass0 (pa_cons (pv 0) (pa_cons (pe_callB (w_len (K := K)) (by rfl) T.b_len (by decide +kernel) (pa_cons (pv 1) pa_nil)) pa_nil))) (fun _ _ => rfl)))), ?_⟩
    refine ⟨_, rfl, _, rfl, _, rfl, _, _, rfl, .inl ⟨_, sqL_mono (del_same b) hx, rfl⟩, b, xs.length, rfl, B, by omega, by omega, fun r H1 hr kp B1 => ?_⟩
    have e : xs[r]? = some xs[r] := List.getElem?_eq_getElem hr
    exact ⟨a, xs, _, _, rfl, rfl, sqL_mono (del_same b) (sqL_mono kp hx), atI_nat e, k _ H1 (List.getElem_mem hr) kp B1⟩
/-- a new object beside the barrel, changed -/
theorem keep_put {b p : Addr} {o : HO} {H H1 : Hp} (k : Keep b H H1) (h : H p = none) : Keep b H (upd H1 p o) := by
  by_cases e : p = b
  · subst e
    exact k.trans keep_upd
  · intro x u hx
    have hxb : x ≠ b := by
      intro z
      rw [z, del_none] at hx
      cases hx
    have z := k x u hx
    rw [del_ne hxb] at hx z ⊢
    rw [upd_ne (ne_of_none hx h)]
    exact z
theorem del_upd {b p : Addr} {o : HO} {H : Hp} (h : p ≠ b) : del b (upd H p o) = upd (del b H) p o := by
  funext x
  show (if x = b then none else if x = p then some o else H x) = (if x = p then some o else if x = b then none else H x)
  by_cases e : x = b
  · subst e
    rw [if_pos rfl, if_neg (fun z => h z.symm), if_pos rfl]
  · rw [if_neg e, if_neg e]
theorem bar_ne {H : Hp} {b p : Addr} (B : BarAt H b) (h : H p = none) : p ≠ b := by
  obtain ⟨f, s, c, hb, _⟩ := B.ob
  intro z
  rw [z, hb] at h
  cases h
theorem bar_upd {H : Hp} {b p : Addr} {o : HO} (B : BarAt H b) (h : p ≠ b) : BarAt (upd H p o) b := by
  obtain ⟨f, s, c, hb, h1, h2⟩ := B.ob
  exact ⟨f, s, c, by rw [upd_ne (fun z => h z.symm)]; exact hb, h1, h2⟩
/-- pairs that stand at the items of a list -/
def Prs (H : Hp) (acc : List V) (prs : List (Nat × Nat)) : Prop := acc.length = prs.length ∧ ∀ (k : Nat) (pr : Nat × Nat), prs[k]? = some pr → ∃ p, acc[k]? = some (.ref p) ∧ H p = some (.lst [.int (pr.1 : Int), .int (pr.2 : Int)])
theorem Prs.mono {H H' : Hp} {acc : List V} {prs : List (Nat × Nat)} (h : Prs H acc prs) (s : Same H H') : Prs H' acc prs :=
  ⟨h.1, fun k pr hk => let ⟨p, e, hp⟩ := h.2 k pr hk; ⟨p, e, s _ _ hp⟩⟩
theorem Prs.snoc {H : Hp} {acc : List V} {prs : List (Nat × Nat)} {p : Addr} {pr : Nat × Nat} (h : Prs H acc prs) (hp : H p = some (.lst [.int (pr.1 : Int), .int (pr.2 : Int)])) : Prs H (acc ++ [.ref p]) (prs ++ [pr]) := by
  refine ⟨by rw [List.length_append, List.length_append, h.1]; rfl, fun k q hk => ?_⟩
  by_cases c : k < prs.length
  · rw [List.getElem?_append_left c] at hk
    obtain ⟨r, e, hr⟩ := h.2 k q hk
    exact ⟨r, by rw [List.getElem?_append_left (by rw [h.1]; exact c)]; exact e, hr⟩
  · have c' : k = prs.length := by
      have := lt_of_get hk
      rw [List.length_append] at this
      have : k < prs.length + 1 := this
      omega
    subst c'
    rw [List.getElem?_append_right (Nat.le_refl _), Nat.sub_self] at hk
    obtain rfl := Option.some.inj hk
    refine ⟨p, ?_, hp⟩
    rw [List.getElem?_append_right (by rw [h.1]; exact Nat.le_refl _), h.1, Nat.sub_self]
    rfl
def spTab (K : PySem.W.Frag) : Sp := fun vs H Q _ => ∃ (b : Addr) (n s : Nat), vs = [.ref b, .int (n : Int), .int (s : Int)] ∧ BarAt H b ∧ n ≤ 8 ∧ 1 ≤ s ∧ s ≤ 200 ∧
  ∀ a tab H', Keep b H H' → BarAt H' b → Dp K (del b H') (.ref a) (dTab tab) → GoodT n tab → tab.length = s → Q (.ref a) H'
theorem ok_l_arrows_for (T : Txt K mg A) (U : Funs K A fd) : FnOk P w K mg base CX0 7 A.l_arrows_for fd.l_arrows_for p_l_arrows_for (spTab K) := by
  have G_l_dip := ok_l_dip (P := P) (w := w) (base := base) T U
  have b_l_dip := U.b_l_dip
  have G_l_one_of := ok_l_one_of (P := P) (w := w) (base := base) T U
  have b_l_one_of := U.b_l_one_of
  refine U.F_l_arrows_for.ok sc_l_arrows_for (fun vs H Q E h => ?_) (fun cdv A0 outer s H vs Q E hr h => ?_)
  · obtain ⟨b, n, s0, rfl, _⟩ := h
    rfl
  · have hu := hu_of hr
    obtain ⟨b, n, s0, rfl, B, hn, h1, h2, k⟩ := h
    refine ⟨_, (pss_cons (ps_asg (pe_tup (pa_cons (pe_call G_l_one_of (hr.mono (by decide)) (by rfl) T.m_l_one_of T.k_l_one_of b_l_one_of .nil pass0 (pa_cons (pv 0) (pa_cons (pe_lst (pa_cons pe_int (pa_cons pe_int (pa_cons pe_int pa_nil)))) pa_nil))) (pa_cons (pe_lst pa_nil) pa_nil))) (w_tup (K := K) (n := 2) rfl (pgs_cons (pg_name (i := 3) sc_l_arrows_for.nd rfl (Or.inr rfl)) (pgs_cons (pg_name (i := 4) sc_l_arrows_for.nd rfl (Or.inl rfl)) pgs_nil))))
       (pss_cons (ps_for PassesOwn.never rfl (pi_range1 (by rfl) T.b_range (pa_cons (pv 2) pa_nil)) (pg_name (i := 5) sc_l_arrows_for.nd rfl (Or.inl rfl))
       (pss_cons (ps_setLc (i := 6) (own := [("_law_j", 7)]) (g := gName 7) (tt := tYes) (by rfl) sc_l_arrows_for.nd rfl rfl (sw_true rfl rfl rfl (by decide +kernel)) (pi_range1 (by rfl) T.b_range (pa_cons (pv 1) pa_nil)) (blkOk_by (own := [("_law_j", 7)]) (by rfl)) (fun _ _ _ _ _ => (pg_name (i := 7) sc_l_arrows_for.nd rfl (Or.inl rfl))) (fun _ _ _ _ _ => pts_nil) (fun _ _ _ _ _ => (pe_lst (pa_cons (pe_call G_l_dip (hr.mono (by decide)) (by rfl) T.m_l_dip T.k_l_dip b_l_dip .nil pass0 (pa_cons (pv 0) (pa_cons (pv 3) pa_nil))) (pa_cons (pe_call G_l_dip (hr.mono (by decide)) (by rfl) T.m_l_dip T.k_l_dip b_l_dip .nil pass0 (pa_cons (pv 0) (pa_cons (pv 2) pa_nil))) pa_nil)))))
       (pss_one (ps_expr (pe_bm PySem.F.plainAttrs_list PySem.F.slot_list_append PySem.F.type_list_append mt_append (pv 4) (pa_cons (pe_callTy (w_tuple (K := K)) (by rfl) T.b_tuple (by decide +kernel) (pa_cons (pe_lc (own := [("_law_two", 8)]) (g := gName 8) (tt := tYes) (by rfl) sc_l_arrows_for.nd (w_piL (K := K) (pv 6)) (blkOk_by (own := [("_law_two", 8)]) (by rfl)) (fun _ _ _ _ _ => (pg_name (i := 8) sc_l_arrows_for.nd rfl (Or.inl rfl))) (fun _ _ _ _ _ => pts_nil) (fun _ _ _ _ _ => (pe_ifExp (pt_cmpR op_eq (pe_ix (w_ixL (K := K)) (pv 8) pe_int (fun _ _ => rfl)) pe_int (nomark _)) pe_non (pe_ix (w_ixL (K := K)) (pv 8) pe_int (fun _ _ => rfl))))) pa_nil)) pa_nil))))))
       (pss_one (ps_ret (pe_callTy (w_tuple (K := K)) (by rfl) T.b_tuple (by decide +kernel) (pa_cons (pv 4) pa_nil)))))), ?_⟩
    refine ⟨_, rfl, by show 3 ≤ sizeLine; decide, fun m hm => ?_⟩
    have nem : m ≠ b := bar_ne B hm
    have Bm := bar_upd (o := .lst [.int 3, .int 6, .int 1000]) B nem
    refine ⟨b, m, [.int 3, .int 6, .int 1000], rfl, Bm, lst_of (by rw [del_ne nem]; exact upd_same), by show 0 < 3; decide, by show 3 ≤ 1000; decide, fun x H1 hx kp B1 => ?_⟩
    obtain ⟨bare, hb1, hb2, rfl⟩ : ∃ bare : Nat, 1 ≤ bare ∧ bare ≤ 1000 ∧ x = .int (bare : Int) := by
      simp at hx
      rcases hx with rfl | rfl | rfl
      · exact ⟨3, by decide, by decide, rfl⟩
      · exact ⟨6, by decide, by decide, rfl⟩
      · exact ⟨1000, by decide, by decide, rfl⟩
    have k1 : Keep b H H1 := (Keep.of (same_upd hm)).trans kp
    refine ⟨Nat.zero_le _, fun c hc => ?_⟩
    have nec : c ≠ b := bar_ne B1 hc
    refine ⟨by show 2 ≤ sizeLine; decide, fun T hT => ?_⟩
    have neT : c ≠ T := ne_of_none upd_same hT
    have neTb : T ≠ b := bar_ne (bar_upd B1 nec) hT
    refine ⟨T, _, rfl, tup_of upd_same, rfl, _, _, rfl, _, _, rfl, rfl, ?_⟩
    have k2 : Keep b H1 (upd (upd H1 c (.lst [])) T (.tup [.int (bare : Int), .ref c])) := (Keep.of (same_upd hc)).trans (Keep.of (same_upd hT))
    refine ⟨_, rfl, (s0 : Int), rfl, by omega, by omega, ?_⟩
    rw [Int.toNat_natCast]
    refine for_range (lo := 0) (n := s0) (fun i σ H' => ∃ y5 y6, σ = [some (.ref b), some (.int (n : Int)), some (.int (s0 : Int)), some (.int (bare : Int)), some (.ref c), y5, y6, none, none] ∧ Keep b H1 H' ∧ BarAt H' b ∧
      ∃ (acc : List V) (tab : Tab), H' c = some (.lst acc) ∧ DpAll K (del c (del b H')) acc (tab.map dRow) ∧ tab.length = i ∧ ∀ row ∈ tab, row.length = n ∧ ∀ g, some g ∈ row → g < s0) ?_ ?_ ?_
    · refine ⟨none, none, rfl, k2, bar_upd (bar_upd B1 nec) neTb, [], [], by rw [upd_ne neT]; exact upd_same, .nil, rfl, fun row h => by simp at h⟩
    · rintro i σ H2 hi ⟨y5, y6, rfl, k3, B2, acc, tab, hacc, dacc, hlen, hrow⟩
      -- the draws
      refine ⟨_, rfl, (n : Int), rfl, by omega, by omega, fun D hD => ?_⟩
      rw [Int.toNat_natCast]
      have neD : D ≠ b := bar_ne B2 hD
      have neDc : D ≠ c := fun z => by
        rw [z, hacc] at hD
        cases hD
      refine lc_range (lo := 0) (n := n) (fun j H' => Keep b H2 H' ∧ BarAt H' b ∧ ∃ (a2 : List V) (prs : List (Nat × Nat)), H' D = some (.lst a2) ∧ Prs (del D (del b H')) a2 prs ∧ prs.length = j ∧ ∀ pr ∈ prs, pr.2 < s0) ?_ ?_ ?_
      · exact ⟨Keep.of (same_upd hD), bar_upd B2 neD, [], [], upd_same, ⟨rfl, fun k pr h => by simp at h⟩, rfl, fun pr h => by simp at h⟩
      · rintro j H3 hj ⟨k4, B3, a2, prs, ha2, hprs, hpl, hps⟩
        refine ⟨rfl, yes_go ?_⟩
        refine ⟨_, rfl, _, rfl, b, bare, rfl, B3, by omega, by omega, fun r1 H4 hr1 k5 B4 => ?_⟩
        refine ⟨_, rfl, _, rfl, b, s0, rfl, B4, by omega, by omega, fun r2 H5 hr2 k6 B5 => ?_⟩
        refine ⟨by show 2 ≤ sizeLine; decide, fun p hp => ?_⟩
        have nepb : p ≠ b := bar_ne B5 hp
        have hD5 : H5 D = some (.lst a2) := (k5.trans k6).get neD ha2
        have nepD : D ≠ p := ne_of_none hD5 hp
        refine ⟨a2, by rw [upd_ne nepD]; exact hD5, szt (by rw [hprs.1, hpl]; omega), ?_⟩
        have kk : Keep b H2 H5 := k4.trans (k5.trans k6)
        have k7 : Keep b H2 (upd H5 p (.lst [.int (r1 : Int), .int (r2 : Int)])) := kk.trans (Keep.of (same_upd hp))
        refine ⟨keep_put k7 hD, bar_upd (bar_upd B5 nepb) neD, a2 ++ [.ref p], prs ++ [(r1, r2)], upd_same, ?_, by rw [List.length_append, hpl]; rfl, fun pr h => ?_⟩
        · have m1 : Same (del D (del b H3)) (del D (del b (upd H5 p (.lst [.int (r1 : Int), .int (r2 : Int)])))) := del_mono (Same.trans (k5.trans k6) (Keep.of (same_upd hp)))
          have m2 : Same (del D (del b (upd H5 p (.lst [.int (r1 : Int), .int (r2 : Int)])))) (del D (del b (upd (upd H5 p (.lst [.int (r1 : Int), .int (r2 : Int)])) D (.lst (a2 ++ [.ref p]))))) := by
            rw [del_upd neD]
            exact keep_upd
          refine ((hprs.mono m1).snoc (pr := (r1, r2)) ?_).mono m2
          rw [del_ne (fun z => nepD z.symm), del_ne nepb]
          exact upd_same
        · rcases List.mem_append.mp h with h | h
          · exact hps pr h
          · rw [List.mem_singleton.mp h]
            exact hr2
      · rintro H3 ⟨k4, B3, a2, prs, ha2, hprs, hpl, hps⟩
        have hc3 : H3 c = some (.lst acc) := k4.get nec hacc
        refine ⟨_, rfl, .inl ⟨rfl, _, lst_of hc3⟩, ?_⟩
        have prs3 : Prs H3 a2 prs := hprs.mono ((del_same D).trans (del_same b))
        refine g_arg (g_cb (cL (xs := a2) (fun q => [match prs[q]? with | some pr => if pr.1 = 0 then V.non else .int (pr.2 : Int) | none => .non]) (fun R r => ?_) (lst_of ha2) (fun _ => Nat.le_refl 1) (by rw [hprs.1, hpl]; omega) ?_ (fun q x hq => turn_yes fun H5 R5 s5 r5 => ?_) (fun D5 H5 hD5 s5 h5 => ?_)))
        · exact ⟨_, rfl, r⟩
        · exact fun _ => rfl
        · have hql : q < prs.length := by have := lt_of_get hq; rw [hprs.1] at this; exact this
          have epr : prs[q]? = some prs[q] := List.getElem?_eq_getElem hql
          obtain ⟨p, ep, hp⟩ := prs3.2 q _ epr
          rw [ep] at hq
          obtain rfl := Option.some.inj hq
          rw [epr] at r5
          have hp5 := s5 _ _ hp
          refine ⟨_, rfl, p, _, _, _, rfl, rfl, lst_of hp5, rfl, rfl, _, rfl, ?_⟩
          by_cases z : prs[q].1 = 0
          · have : decide (V.int (prs[q].1 : Int) = V.int 0) = true := by rw [z]; rfl
            rw [this]
            refine iteT ?_
            have r5 := r5 H5 (Same.refl _)
            simp only [z, if_true] at r5
            exact r5
          · have : decide (V.int (prs[q].1 : Int) = V.int 0) = false := by
              rw [decide_eq_false]
              intro y
              injection y with y
              omega
            rw [this]
            refine iteF ?_
            have r5 := r5 H5 (Same.refl _)
            simp only [z, if_false] at r5
            exact ⟨_, rfl, p, _, _, _, rfl, rfl, lst_of hp5, rfl, r5⟩
        · have e5 : pre (fun q => [match prs[q]? with | some pr => if pr.1 = 0 then V.non else .int (pr.2 : Int) | none => .non]) a2.length = (prs.map fun pr => if pr.1 = 0 then none else some pr.2).map vO := by
            rw [hprs.1, List.map_map, pre_map]
            apply List.ext_getElem
            · simp
            · intro i h1 h2
              simp only [List.length_map, List.length_range] at h1
              simp only [List.getElem_map, List.getElem_range, List.getElem?_eq_getElem h1, Function.comp]
              split <;> rfl
          rw [e5] at h5
          generalize hrw : (prs.map fun pr => if pr.1 = 0 then none else some pr.2) = row at h5
          refine ⟨D5, _, rfl, .inl ⟨lst_of h5, fun l hl => ?_⟩⟩
          have hc5 : H5 c = some (.lst acc) := s5 _ _ hc3
          have nlc : c ≠ l := ne_of_none hc5 hl
          have B5 : BarAt H5 b := by
            obtain ⟨f, s, cc, hb, z1, z2⟩ := B3.ob
            exact ⟨f, s, cc, s5 _ _ hb, z1, z2⟩
          have nlb : l ≠ b := bar_ne B5 hl
          have lacc : acc.length ≤ 200 := by
            have := dps_len dacc
            rw [List.length_map] at this
            omega
          refine ⟨c, acc, _, rfl, rfl, by rw [upd_ne nlc]; exact hc5, szt (by omega), ?_⟩
          have kA : Keep b H2 (upd H5 l (.tup (row.map vO))) := (k4.trans (Keep.of s5)).trans (Keep.of (same_upd hl))
          refine ⟨_, _, rfl, keep_put (k3.trans kA) hc, bar_upd (bar_upd B5 nlb) nec, acc ++ [.ref l], tab ++ [row], upd_same, ?_, by rw [List.length_append, hlen]; rfl, fun rw' h => ?_⟩
          · have m1 : Same (del c (del b H2)) (del c (del b (upd H5 l (.tup (row.map vO))))) := del_mono kA
            have m2 : Same (del c (del b (upd H5 l (.tup (row.map vO))))) (del c (del b (upd (upd H5 l (.tup (row.map vO))) c (.lst (acc ++ [.ref l]))))) := by
              rw [del_upd nec]
              exact keep_upd
            rw [List.map_append]
            refine dps_mono m2 _ _ (dps_snoc (dps_mono m1 _ _ dacc) (.tup (tup_of ?_) (opts_dps row)))
            rw [del_ne (fun z => nlc z.symm), del_ne nlb]
            exact upd_same
          · rcases List.mem_append.mp h with h | h
            · exact hrow rw' h
            · rw [List.mem_singleton.mp h, ← hrw]
              refine ⟨by rw [List.length_map]; exact hpl, fun g hg => ?_⟩
              obtain ⟨pr, hpr, e⟩ := List.mem_map.mp hg
              by_cases z : pr.1 = 0
              · rw [if_pos z] at e
                cases e
              · rw [if_neg z] at e
                obtain rfl := Option.some.inj e
                exact hps pr hpr
    · rintro σ H2 ⟨y5, y6, rfl, k3, B2, acc, tab, hacc, dacc, hlen, hrow⟩
      refine ⟨_, rfl, c, _, rfl, .inl ⟨lst_of hacc, fun l hl => ?_⟩⟩
      have nlb : l ≠ b := bar_ne B2 hl
      have sl : Same (del b H2) (del b (upd H2 l (.tup acc))) := Keep.of (same_upd hl)
      refine k l tab _ ((k1.trans k3).trans sl) (bar_upd B2 nlb) (.tup (tup_of (by rw [del_ne nlb]; exact upd_same)) (dps_mono ((del_same c).trans sl) _ _ dacc)) ⟨hn, by omega, by omega, fun row h => ?_⟩ hlen
      rw [hlen]
      exact hrow row h
def spEnds (K : PySem.W.Frag) : Sp := fun vs H Q _ => ∃ (b : Addr) (s : Nat), vs = [.ref b, .int (s : Int)] ∧ BarAt H b ∧ 1 ≤ s ∧ s ≤ 200 ∧
  ∀ a ends H', Keep b H H' → BarAt H' b → Dp K (del b H') (.ref a) (dNats ends) → GoodE s ends → Q (.ref a) H'
theorem asc_of {ends : List Nat} (h : ends.Pairwise (· < ·)) : Asc (ends.map Int.ofNat) := by
  intro i x y hx hy
  rw [List.getElem?_map] at hx hy
  cases e1 : ends[i]? with
  | none => rw [e1] at hx; cases hx
  | some p =>
    cases e2 : ends[i + 1]? with
    | none => rw [e2] at hy; cases hy
    | some q =>
      rw [e1] at hx
      rw [e2] at hy
      obtain rfl := Option.some.inj hx
      obtain rfl := Option.some.inj hy
      have l1 := lt_of_get e1
      have l2 := lt_of_get e2
      have := List.pairwise_iff_getElem.mp h i (i + 1) l1 l2 (by omega)
      rw [List.getElem?_eq_getElem l1] at e1
      rw [List.getElem?_eq_getElem l2] at e2
      obtain rfl := Option.some.inj e1
      obtain rfl := Option.some.inj e2
      exact Int.ofNat_lt.mpr this
theorem ok_l_ends_for (T : Txt K mg A) (U : Funs K A fd) : FnOk P w K mg base CX0 7 A.l_ends_for fd.l_ends_for p_l_ends_for (spEnds K) := by
  have G_l_dip := ok_l_dip (P := P) (w := w) (base := base) T U
  have b_l_dip := U.b_l_dip
  have G_l_one_of := ok_l_one_of (P := P) (w := w) (base := base) T U
  have b_l_one_of := U.b_l_one_of
  refine U.F_l_ends_for.ok sc_l_ends_for (fun vs H Q E h => ?_) (fun cdv A0 outer s H vs Q E hr h => ?_)
  · obtain ⟨b, s0, rfl, _⟩ := h
    rfl
  · have hu := hu_of hr
    obtain ⟨b, s0, rfl, B, h1, h2, k⟩ := h
    refine ⟨_, (pss_cons (ps_set (i := 2) sc_l_ends_for.nd rfl (Or.inr rfl) (pe_call G_l_one_of (hr.mono (by decide)) (by rfl) T.m_l_one_of T.k_l_one_of b_l_one_of .nil pass0 (pa_cons (pv 0) (pa_cons (pe_lst (pa_cons pe_int (pa_cons pe_int (pa_cons pe_int (pa_cons pe_int pa_nil))))) pa_nil))))
       (pss_cons (ps_set (i := 3) sc_l_ends_for.nd rfl (Or.inr rfl) (pe_lc (own := [("_law_k", 4)]) (g := gName 4) (tt := tYes) (by rfl) sc_l_ends_for.nd (pi_range1 (by rfl) T.b_range (pa_cons (pv 1) pa_nil)) (blkOk_by (own := [("_law_k", 4)]) (by rfl)) (fun _ _ _ _ _ => (pg_name (i := 4) sc_l_ends_for.nd rfl (Or.inl rfl))) (fun _ _ _ _ _ => pts_nil) (fun _ _ _ _ _ => (pe_call G_l_dip (hr.mono (by decide)) (by rfl) T.m_l_dip T.k_l_dip b_l_dip .nil pass0 (pa_cons (pv 0) (pa_cons (pv 2) pa_nil))))))
       (pss_one (ps_ret (pe_callTy (w_tuple (K := K)) (by rfl) T.b_tuple (by decide +kernel) (pa_cons (pe_lc (own := [("_law_k", 4)]) (g := gName 4) (by rfl) sc_l_ends_for.nd (pi_range1 (by rfl) T.b_range (pa_cons (pv 1) pa_nil)) (blkOk_by (own := [("_law_k", 4)]) (by rfl)) (fun _ _ _ _ _ => (pg_name (i := 4) sc_l_ends_for.nd rfl (Or.inl rfl))) (fun _ _ _ _ _ => (pts_one (pt_cmpR op_eq (pe_ix (w_ixL (K := K)) (pv 3) (pv 4) (fun _ _ => rfl)) pe_int (nomark _)))) (fun _ _ _ _ _ => (pv 4))) pa_nil)))))), ?_⟩
    refine ⟨_, rfl, by show 4 ≤ sizeLine; decide, fun m hm => ?_⟩
    have nem : m ≠ b := bar_ne B hm
    have Bm := bar_upd (o := .lst [.int 2, .int 2, .int 3, .int 9]) B nem
    refine ⟨b, m, [.int 2, .int 2, .int 3, .int 9], rfl, Bm, lst_of (by rw [del_ne nem]; exact upd_same), by show 0 < 4; decide, by show 4 ≤ 1000; decide, fun x H1 hx kp B1 => ?_⟩
    obtain ⟨often, hb1, hb2, rfl⟩ : ∃ bare : Nat, 1 ≤ bare ∧ bare ≤ 1000 ∧ x = .int (bare : Int) := by
      simp at hx
      rcases hx with rfl | rfl | rfl
      · exact ⟨2, by decide, by decide, rfl⟩
      · exact ⟨3, by decide, by decide, rfl⟩
      · exact ⟨9, by decide, by decide, rfl⟩
    have k1 : Keep b H H1 := (Keep.of (same_upd hm)).trans kp
    refine ⟨_, rfl, (s0 : Int), rfl, by omega, by omega, fun D hD => ?_⟩
    rw [Int.toNat_natCast]
    have neD : D ≠ b := bar_ne B1 hD
    refine lc_range (lo := 0) (n := s0) (fun j H' => Keep b H1 H' ∧ BarAt H' b ∧ ∃ ns : List Int, H' D = some (.lst (ns.map V.int)) ∧ ns.length = j) ?_ ?_ ?_
    · exact ⟨Keep.of (same_upd hD), bar_upd B1 neD, [], upd_same, rfl⟩
    · rintro j H3 hj ⟨k4, B3, ns, hns, hl⟩
      refine ⟨rfl, yes_go ?_⟩
      refine ⟨_, rfl, _, rfl, b, often, rfl, B3, by omega, by omega, fun r H4 hr k5 B4 => ?_⟩
      have hD4 := k5.get neD hns
      refine ⟨_, hD4, szt (by rw [List.length_map, hl]; omega), keep_put (k4.trans k5) hD, bar_upd B4 neD, ns ++ [(r : Int)], ?_, by rw [List.length_append, hl]; rfl⟩
      rw [upd_same, List.map_append]
      rfl
    · rintro H3 ⟨k4, B3, ns, hns, hl⟩
      dsimp only
      refine g_ret (g_cb (cR (n := s0) (m := (s0 : Int)) (fun i => if ns.getD i 0 = 0 then [.int (i : Int)] else []) (by omega) (by omega) (fun R r => ?_) (fun i => by split <;> simp) (by omega) ?_ (fun i hi H5 R N s5 ry rn => ?_) (fun D5 H5 hD5 s5 h5 => ?_)))
      · exact ⟨_, rfl, r⟩
      · exact fun _ => rfl
      · refine ⟨_, rfl, _, rfl, D, _, _, _, rfl, rfl, lst_of (s5 _ _ hns), atI_nat (ints_get (by omega)), rfl, _, rfl, ?_⟩
        by_cases z : ns.getD i 0 = 0
        · have : decide (V.int (ns.getD i 0) = V.int 0) = true := by rw [z]; rfl
          rw [this]
          refine iteT ?_
          exact ⟨_, rfl, ry _ H5 (if_pos z) (Same.refl _)⟩
        · have : decide (V.int (ns.getD i 0) = V.int 0) = false := by
            rw [decide_eq_false]
            intro y
            injection y with y
            exact z y
          rw [this]
          refine iteF ?_
          exact rn H5 (if_neg z) (Same.refl _)
      · have e5 : pre (fun i => if ns.getD i 0 = 0 then [V.int (i : Int)] else []) s0 = ((List.range s0).filter fun i => decide (ns.getD i 0 = 0)).map fun (k : Nat) => V.int (k : Int) := by
          unfold pre
          induction List.range s0 with
          | nil => rfl
          | cons x f ih =>
            rw [List.flatMap_cons, ih, List.filter_cons]
            by_cases c : ns.getD x 0 = 0
            · rw [if_pos c, if_pos (decide_eq_true c)]
              rfl
            · rw [if_neg c, if_neg (by rw [decide_eq_false c]; exact Bool.false_ne_true)]
              rfl
        rw [e5] at h5
        generalize hen : ((List.range s0).filter fun i => decide (ns.getD i 0 = 0)) = ends at h5
        refine ⟨D5, _, rfl, .inl ⟨lst_of h5, fun l hl => ?_⟩⟩
        have B5 : BarAt H5 b := by
          obtain ⟨f, s, cc, hb, z1, z2⟩ := B3.ob
          exact ⟨f, s, cc, s5 _ _ hb, z1, z2⟩
        have nlb : l ≠ b := bar_ne B5 hl
        refine k l ends _ (((k1.trans k4).trans (Keep.of s5)).trans (Keep.of (same_upd hl))) (bar_upd B5 nlb) (.tup (tup_of (by rw [del_ne nlb]; exact upd_same)) ?_) ⟨?_, fun g hg => ?_, ?_⟩
        · have z := ints_dps (K := K) (H := del b (upd H5 l (.tup (ends.map fun (k : Nat) => V.int (k : Int))))) (ends.map Int.ofNat)
          rw [List.map_map, List.map_map] at z
          exact z
        · rw [← hen]
          exact asc_of (List.Pairwise.filter _ List.pairwise_lt_range)
        · rw [← hen] at hg
          exact List.mem_range.mp (List.mem_filter.mp hg).1
        · rw [← hen]
          have := List.length_filter_le (fun i => decide (ns.getD i 0 = 0)) (List.range s0)
          rw [List.length_range] at this
          omega
end K6


set_option Elab.async false
set_option linter.all false
set_option maxRecDepth 100000
set_option maxHeartbeats 4000000
namespace K6
open PySem PySem.Spec PyProof.Rows L2 Rw
variable {P : Program} {w : World} {K : PySem.W.Frag} {mg : Str → Option Value} {base : Heap} {A : Ad} {fd : Fds}
/-! ### calls by name -/
def gK {α : Type} : List α → List α → List α
  | [], [a, b] => [b, a]
  | _, _ => []
theorem gK_rel {vs : List V} {us : List Value} {zs : List V} {ws : List Value} (r : Vals vs us) (q : Vals zs ws) : Vals (gK vs zs) (gK us ws) := by
  cases r with
  | cons a b => exact .nil
  | nil =>
    cases q with
    | nil => exact .nil
    | cons a b =>
      cases b with
      | nil => exact .nil
      | cons c d =>
        cases d with
        | nil => exact .cons c (.cons a .nil)
        | cons e f => exact .nil
theorem gK_two {us ws : List Value} (h : (gK us ws).length = 2) : ∃ a b, us = [] ∧ ws = [a, b] := by
  cases us with
  | cons a b => simp [gK] at h
  | nil =>
    match ws, h with
    | [a, b], _ => exact ⟨a, b, rfl, rfl⟩
    | [], h => simp [gK] at h
    | [_], h => simp [gK] at h
    | _ :: _ :: _ :: _, h => simp [gK] at h
theorem kb_rows_of_0_length_reader_of {f : Addr} {fd : FuncData} (F : Fun K "rows_of" "rows_of" s_rows_of f fd) : KBinds K fd p_rows_of ["length", "reader"] gK gK := by
  obtain ⟨oc, od, kV, doc, pm, an, cdv, ct, osl, rfl, lk, hcd⟩ := F.ex
  refine ⟨fun s us ws _ hl => ?_, gK_rel⟩
  obtain ⟨a, b, rfl, rfl⟩ := gK_two hl
  exact .of_eq rfl
theorem kb_count_of_0_length_reader_of {f : Addr} {fd : FuncData} (F : Fun K "count_of" "count_of" s_count_of f fd) : KBinds K fd p_count_of ["length", "reader"] gK gK := by
  obtain ⟨oc, od, kV, doc, pm, an, cdv, ct, osl, rfl, lk, hcd⟩ := F.ex
  refine ⟨fun s us ws _ hl => ?_, gK_rel⟩
  obtain ⟨a, b, rfl, rfl⟩ := gK_two hl
  exact .of_eq rfl
/-! ### what is told, as a text -/
theorem small_show {c : Int} (h0 : 0 ≤ c) (h : c ≤ 1000) : decide (c.natAbs.log2 < 1920) = true := by
  refine decide_eq_true (Nat.lt_of_le_of_lt (Nat.log2_le_self _) ?_)
  omega
theorem show_strs : ∀ l : List Str, PyData.showableAll (l.map PyData.str) = true
  | [] => by simp [PyData.showableAll]
  | x :: l => by simp [PyData.showableAll, PyData.showable, show_strs l]
theorem depth_strs : ∀ l : List Str, PyData.depthAll (l.map PyData.str) = 0
  | [] => by simp [PyData.depthAll]
  | x :: l => by simp [PyData.depthAll, PyData.depth, depth_strs l]
theorem shown_strs : ∀ l : List Str, PyData.shownAll (l.map PyData.str) = l.map reprText
  | [] => by simp [PyData.shownAll]
  | x :: l => by simp [PyData.shownAll, PyData.shown, shown_strs l]
theorem rowS_signs {l : List Nat} {n : Nat} (h : ∀ g ∈ l, g < n) (hn : n ≤ 8) : ∀ c ∈ (rowS l).cps.toList, c < 16 ^ 8 := by
  intro c hc
  unfold rowS at hc
  simp at hc
  obtain ⟨g, hg, rfl⟩ := hc
  have := h g hg
  omega
theorem cost_rows {n k : Nat} : ∀ {f : List (List Nat)}, (∀ l ∈ f, l.length ≤ k) → fmtCost (f.map rowS) ≤ (10 * k + 4) * f.length
  | [], _ => Nat.zero_le _
  | x :: f, h => by
    rw [List.map_cons, fmtCost_cons, List.length_cons, Nat.mul_succ, rowS_len]
    have a := cost_rows (n := n) (k := k) (f := f) fun l hl => h l (List.mem_cons_of_mem _ hl)
    have b := h x List.mem_cons_self
    omega
theorem list4 (a b c d : Str) : (listText [a, b, c, d]).length ≤ a.length + b.length + c.length + d.length + 20 := by
  unfold listText
  rw [strLen_append]
  show (textFrom 1 (("[" : Str) ++ ((if 0 > 0 then ", " else "" : String) : Str) ++ a) [b, c, d]).length + _ ≤ _
  rw [textFrom_length_pos _ 1 _ (by decide), strLen_append, strLen_append, piled_cons, piled_cons, piled_cons, piled_nil]
  have e1 : ("[" : Str).length = 1 := rfl
  have e2 : (((if 0 > 0 then ", " else "" : String) : Str)).length = 0 := rfl
  have e3 : ("]" : Str).length = 1 := rfl
  rw [e1, e2, e3]
  omega
def dTold (rows : List (List Nat)) (c : Int) : PyData := .list [dRows rows, dRows rows, .int c, .int c]
theorem told_ok {rows : List (List Nat)} {c : Int} {n k : Nat} (hn : n ≤ 3) (hk : k ≤ 6) (hr : ∀ l ∈ rows, l.length ≤ k ∧ ∀ g ∈ l, g < n) (hl : rows.length ≤ 729) (h0 : 0 ≤ c) (h1 : c ≤ 1000) :
    (dTold rows c).showable = true ∧ (dTold rows c).depth ≤ 10 ∧ (dTold rows c).shown.length ≤ sizeLine := by
  have em : (rows.map fun l => PyData.str (rowS l)) = (rows.map rowS).map PyData.str := by rw [List.map_map]; rfl
  refine ⟨?_, ?_, ?_⟩
  · unfold dTold dRows
    rw [em]
    simp only [PyData.showable, PyData.showableAll, show_strs, small_show h0 h1, Bool.and_self]
  · unfold dTold dRows
    rw [em]
    simp only [PyData.depth, PyData.depthAll, depth_strs]
    decide
  · unfold dTold dRows
    rw [em]
    simp only [PyData.shown, PyData.shownAll, shown_strs]
    have a := list4 (tupleText ((rows.map rowS).map reprText)) (tupleText ((rows.map rowS).map reprText)) (toString c : String) (toString c : String)
    have b := fmt_text ((rows.map rowS).map reprText)
    have d := fmt_piled (rows.map rowS) (fun y hy => by
      obtain ⟨l, hl, rfl⟩ := List.mem_map.mp hy
      exact rowS_signs (hr l hl).2 (by omega))
    have e := cost_rows (n := n) (k := k) fun l hl => (hr l hl).1
    have f : (Str.ofString (toString c)).length ≤ 1921 := int_text_len_1921 (of_decide_eq_true (small_show h0 h1))
    have g : (10 * k + 4) * rows.length ≤ 64 * 729 := Nat.mul_le_mul (by omega) hl
    rw [sizeLine_eq]
    have f' : ((toString c : String) : Str).length ≤ 1921 := f
    omega
theorem ifC {c : Bool} {x y : V} {σ : L2.St} {H : Hp} {Q : VK} (h : Q (if c = true then x else y) H) : (if c = true then tC x σ H Q else tC y σ H Q) := by
  cases c <;> exact h
def lenAt (rows : List (List Nat)) (k i : Nat) : List V := match rows[i]? with
  | some l => if l.length = k then [.str (rowS l)] else []
  | none => []
theorem lenAt_of {rows : List (List Nat)} {k i : Nat} {l : List Nat} (h : rows[i]? = some l) : lenAt rows k i = if l.length = k then [.str (rowS l)] else [] := by
  unfold lenAt
  rw [h]
theorem pre_lenAt (rows : List (List Nat)) (k : Nat) : pre (lenAt rows k) rows.length = vRows (rows.filter fun l => decide (l.length = k)) := by
  rw [pre_take rows (fun l => if l.length = k then [V.str (rowS l)] else []) (lenAt rows k) (fun i => by unfold lenAt; cases rows[i]? <;> rfl), List.take_length]
  unfold vRows
  induction rows with
  | nil => rfl
  | cons x f ih =>
    rw [List.flatMap_cons, ih, List.filter_cons]
    by_cases c : x.length = k
    · rw [if_pos c, if_pos (decide_eq_true c)]
      rfl
    · rw [if_neg c, if_neg (by rw [decide_eq_false c]; exact Bool.false_ne_true)]
      rfl
theorem rows_dps {H : Hp} (f : List (List Nat)) : DpAll K H (vRows f) (f.map fun l => PyData.str (rowS l)) := by
  have z := strs_dps (K := K) (H := H) (f.map rowS)
  rw [List.map_map, List.map_map] at z
  exact z
def spRight : Sp := fun vs H Q _ => ∃ b : Addr, vs = [.ref b] ∧ BarAt H b ∧ ∀ H', Keep b H H' → Q (.bl true) H'
theorem bar_same {H H' : Hp} {b : Addr} (B : BarAt H b) (s : Same H H') : BarAt H' b := by
  obtain ⟨f, s0, c, hb, h1, h2⟩ := B.ob
  exact ⟨f, s0, c, s _ _ hb, h1, h2⟩
theorem ok_l_right (T : Txt K mg A) (U : Funs K A fd) : FnOkG P w K mg base 16 A.l_right fd.l_right p_l_right (spRight) := by
  have G_count_of := ok_count_of (P := P) (w := w) (base := base) T U
  have b_count_of := U.b_count_of
  have G_l_added := ok_l_added (P := P) (w := w) (base := base) T U
  have b_l_added := U.b_l_added
  have G_l_dip := ok_l_dip (P := P) (w := w) (base := base) T U
  have b_l_dip := U.b_l_dip
  have G_rows_of := ok_rows_of (P := P) (w := w) (base := base) T U
  have b_rows_of := U.b_rows_of
  have G_l_yes := ok_l_yes (P := P) (w := w) (base := base) T U
  have b_l_yes := U.b_l_yes
  have G_Reader_init := ok_Reader_init (P := P) (w := w) (base := base) T U
  have b_Reader_init := U.b_Reader_init
  have G_l_ends_for := ok_l_ends_for (P := P) (w := w) (base := base) T U
  have b_l_ends_for := U.b_l_ends_for
  have G_l_arrows_for := ok_l_arrows_for (P := P) (w := w) (base := base) T U
  have b_l_arrows_for := U.b_l_arrows_for
  have G_l_one_of := ok_l_one_of (P := P) (w := w) (base := base) T U
  have b_l_one_of := U.b_l_one_of
  have kb_count_of_0_length_reader := kb_count_of_0_length_reader_of (U.F_count_of)
  have kb_rows_of_0_length_reader := kb_rows_of_0_length_reader_of (U.F_rows_of)
  refine okG U.F_l_right sc_l_right (fun vs H Q E h => ?_) (fun cdv A0 outer s H vs Q E hg hr h => ?_)
  · obtain ⟨b, rfl, _⟩ := h
    rfl
  · have hu := hu_of hr
    obtain ⟨b, rfl, B, k⟩ := h
    refine ⟨_, (pss_cons (ps_for PassesOwn.never rfl (pi_range1 (by rfl) T.b_range (pa_cons pe_int pa_nil)) (pg_name (i := 1) sc_l_right.nd rfl (Or.inl rfl))
       (pss_cons (ps_par (i := 2) (j := 3) (by rfl) sc_l_right.nd rfl rfl (by decide) rfl rfl (pa_cons (pe_call G_l_one_of (hr.mono (by decide)) (by rfl) T.m_l_one_of T.k_l_one_of b_l_one_of .nil pass0 (pa_cons (pv 0) (pa_cons (pe_lst (pa_cons pe_int (pa_cons pe_int (pa_cons pe_int (pa_cons pe_int pa_nil))))) pa_nil))) (pa_cons (pe_op op_add pe_int (pe_call G_l_dip (hr.mono (by decide)) (by rfl) T.m_l_dip T.k_l_dip b_l_dip .nil pass0 (pa_cons (pv 0) (pa_cons pe_int pa_nil)))) pa_nil)) (by rfl))
       (pss_cons (ps_par (i := 4) (j := 5) (by rfl) sc_l_right.nd rfl rfl (by decide) rfl rfl (pa_cons (pe_call G_l_arrows_for (hr.mono (by decide)) (by rfl) T.m_l_arrows_for T.k_l_arrows_for b_l_arrows_for .nil pass0 (pa_cons (pv 0) (pa_cons (pv 2) (pa_cons (pv 3) pa_nil)))) (pa_cons (pe_call G_l_ends_for (hr.mono (by decide)) (by rfl) T.m_l_ends_for T.k_l_ends_for b_l_ends_for .nil pass0 (pa_cons (pv 0) (pa_cons (pv 3) pa_nil))) pa_nil)) (by rfl))
       (pss_cons (ps_par (i := 6) (j := 7) (by rfl) sc_l_right.nd rfl rfl (by decide) rfl rfl (pa_cons (pe_make T.mk_Reader G_Reader_init (hr.mono (by decide)) (by rfl) T.m_Reader b_Reader_init .nil pass0 (pa_cons (pv 2) (pa_cons (pv 4) (pa_cons (pv 5) pa_nil)))) (pa_cons (pe_ifExp (pt_cmpR op_lt (pv 2) pe_int (nomark _)) pe_int pe_int) pa_nil)) (by rfl))
       (pss_cons (ps_set (i := 8) sc_l_right.nd rfl (Or.inl rfl) (pe_call G_l_yes (hr.mono (by decide)) (by rfl) T.m_l_yes T.k_l_yes b_l_yes .nil pass0 (pa_cons (pv 4) (pa_cons (pv 5) (pa_cons (pv 2) (pa_cons (pv 7) pa_nil))))))
       (pss_cons (ps_for PassesOwn.never rfl (pi_range1 (by rfl) T.b_range (pa_cons (pe_op op_add (pv 7) pe_int) pa_nil)) (pg_name (i := 9) sc_l_right.nd rfl (Or.inr rfl))
       (pss_cons (ps_set (i := 10) sc_l_right.nd rfl (Or.inl rfl) (pe_callTy (w_tuple (K := K)) (by rfl) T.b_tuple (by decide +kernel) (pa_cons (pe_lc (own := [("_law_line", 13)]) (g := gName 13) (by rfl) sc_l_right.nd (w_piL (K := K) (pv 8)) (blkOk_by (own := [("_law_line", 13)]) (by rfl)) (fun _ _ _ _ _ => (pg_name (i := 13) sc_l_right.nd rfl (Or.inl rfl))) (fun _ _ _ _ _ => (pts_one (pt_cmpR op_eq (pe_callB (w_len (K := K)) (by rfl) T.b_len (by decide +kernel) (pa_cons (pv 13) pa_nil)) (pv 9) (nomark _)))) (fun _ _ _ _ _ => (pv 13))) pa_nil)))
       (pss_cons (ps_set (i := 11) sc_l_right.nd rfl (Or.inl rfl) (pe_lst (pa_cons (pe_call G_rows_of (hr.mono (by decide)) (by rfl) T.m_rows_of T.k_rows_of b_rows_of .nil pass0 (pa_cons (pv 6) (pa_cons (pv 9) pa_nil))) (pa_cons (pe_callK0 G_rows_of (hr.mono (by decide)) (by rfl) T.m_rows_of T.k_rows_of kb_rows_of_0_length_reader pass0 (pk_cons (pv 9) (pk_cons (pv 6) pk_nil))) pa_nil))))
       (pss_cons (ps_set (i := 11) sc_l_right.nd rfl (Or.inl rfl) (pe_op op_cat (pv 11) (pe_lst (pa_cons (pe_call G_count_of (hr.mono (by decide)) (by rfl) T.m_count_of T.k_count_of b_count_of .nil pass0 (pa_cons (pv 6) (pa_cons (pv 9) pa_nil))) (pa_cons (pe_callK0 G_count_of (hr.mono (by decide)) (by rfl) T.m_count_of T.k_count_of kb_count_of_0_length_reader pass0 (pk_cons (pv 9) (pk_cons (pv 6) pk_nil))) pa_nil)))))
       (pss_one (ps_if (pt_cmpR op_ne (pe_callB (w_reprD (K := K) hg hr) (by rfl) T.b_repr (by decide +kernel) (pa_cons (pv 11) pa_nil)) (pe_callB (w_reprD (K := K) hg hr) (by rfl) T.b_repr (by decide +kernel) (pa_cons (pe_lst (pa_cons (pv 10) (pa_cons (pv 10) (pa_cons (pe_callB (w_len (K := K)) (by rfl) T.b_len (by decide +kernel) (pa_cons (pv 10) pa_nil)) (pa_cons (pe_callB (w_len (K := K)) (by rfl) T.b_len (by decide +kernel) (pa_cons (pv 10) pa_nil)) pa_nil))))) pa_nil)) (nomark _)) (pss_one (ps_ret pe_bl)) pss_nil))))))
       (pss_cons (ps_set (i := 12) sc_l_right.nd rfl (Or.inl rfl) (pe_call G_l_dip (hr.mono (by decide)) (by rfl) T.m_l_dip T.k_l_dip b_l_dip .nil pass0 (pa_cons (pv 0) (pa_cons pe_int pa_nil))))
       (pss_one (ps_if (pt_cmpR op_ne (pe_call G_count_of (hr.mono (by decide)) (by rfl) T.m_count_of T.k_count_of b_count_of .nil pass0 (pa_cons (pv 6) (pa_cons (pv 12) pa_nil))) (pe_call G_l_added (hr.mono (by decide)) (by rfl) T.m_l_added T.k_l_added b_l_added .nil pass0 (pa_cons (pv 4) (pa_cons (pv 5) (pa_cons (pv 12) pa_nil)))) (nomark _)) (pss_one (ps_ret pe_bl)) pss_nil)))))))))
       (pss_one (ps_ret pe_bl))), ?_⟩
    refine ⟨3, rfl, by decide, by decide, ?_⟩
    refine for_range (lo := 0) (n := 3) (fun i σ H' => ∃ y1 y2 y3 y4 y5 y6 y7 y8 y9 y10 y11 y12, σ = [some (.ref b), y1, y2, y3, y4, y5, y6, y7, y8, y9, y10, y11, y12, none] ∧ Keep b H H' ∧ BarAt H' b) ?_ ?_ ?_
    · exact ⟨_, _, _, _, _, _, _, _, _, _, _, _, rfl, Keep.refl _ _, B⟩
    · rintro i σ H0 hi ⟨y1, y2, y3, y4, y5, y6, y7, y8, y9, y10, y11, y12, rfl, k0, B0⟩
      -- width, stands
      refine ⟨_, rfl, by show 4 ≤ sizeLine; decide, fun m hm => ?_⟩
      have nem : m ≠ b := bar_ne B0 hm
      have Bm := bar_upd (o := .lst [.int 1, .int 2, .int 2, .int 3]) B0 nem
      refine ⟨b, m, [.int 1, .int 2, .int 2, .int 3], rfl, Bm, lst_of (by rw [del_ne nem]; exact upd_same), by show 0 < 4; decide, by show 4 ≤ 1000; decide, fun x H1 hx kp1 B1 => ?_⟩
      obtain ⟨n, n1, n3, rfl⟩ : ∃ n : Nat, 1 ≤ n ∧ n ≤ 3 ∧ x = .int (n : Int) := by
        simp at hx
        rcases hx with rfl | rfl | rfl
        · exact ⟨1, by decide, by decide, rfl⟩
        · exact ⟨2, by decide, by decide, rfl⟩
        · exact ⟨3, by decide, by decide, rfl⟩
      have k1 : Keep b H0 H1 := (Keep.of (same_upd hm)).trans kp1
      refine ⟨_, rfl, b, 4, rfl, B1, by decide, by decide, fun r H2 hr2 kp2 B2 => ?_⟩
      refine ⟨_, _, rfl, rfl, _, _, rfl, ?_⟩
      obtain ⟨st, hst1, hst4, est⟩ : ∃ st : Nat, 1 ≤ st ∧ st ≤ 4 ∧ (1 : Int) + (r : Int) = (st : Int) := ⟨1 + r, by omega, by omega, by omega⟩
      -- table, shut
      refine ⟨_, rfl, _, rfl, _, rfl, b, n, st, by rw [← est] <;> rfl, B2, by omega, by omega, by omega, fun a tab H3 kp3 B3 da gt hlen => ?_⟩
      refine ⟨_, rfl, _, rfl, b, st, by rw [← est] <;> rfl, B3, by omega, by omega, fun e ends H4 kp4 B4 de ge => ?_⟩
      refine ⟨_, _, rfl, ?_⟩
      rw [← hlen] at ge
      have da4 := dp_mono kp4 _ _ da
      -- mine, deep
      refine ⟨_, rfl, _, rfl, _, rfl, fun p dx hp hdx hne => ?_⟩
      have sM : Same H4 (upd (upd H4 dx (.own p)) p (.ins A.C dx [])) := (same_upd hdx).trans (same_upd (by rw [upd_ne (fun z => hne z.symm)]; exact hp))
      refine ⟨p, dx, a, e, n, tab, ends, rfl, upd_same, dp_mono ((del_same b).trans sM) _ _ da4, dp_mono ((del_same b).trans sM) _ _ de, n1, gt, ge, fun H6 keep6 ob6 => ⟨rfl, ?_⟩⟩
      have s6 : Same H4 H6 := fun x o hx => keep6 x o (sM x o hx) (ne_of_none hx hp)
      have B6 : BarAt H6 b := bar_same B4 s6
      have npb : p ≠ b := bar_ne B4 hp
      have da6 := dp_mono (Keep.of (b := b) s6) _ _ da4
      have de6 := dp_mono (Keep.of (b := b) s6) _ _ de
      have R6 : RdAt K A.C (del b H6) p n tab ends := ⟨dx, a, e, by rw [del_ne npb]; exact ob6, da6, de6⟩
      refine ⟨_, rfl, _, _, rfl, rfl, _, rfl, ifC ?_⟩
      obtain ⟨d, hd, ed⟩ : ∃ d : Nat, d ≤ 6 ∧ (if decide ((n : Int) < 3) = true then V.int 6 else V.int 4) = .int (d : Int) := by
        by_cases c : (n : Int) < 3
        · exact ⟨6, by decide, by rw [decide_eq_true c]; rfl⟩
        · exact ⟨4, by decide, by rw [decide_eq_false c]; rfl⟩
      rw [ed]
      refine ⟨_, _, rfl, ?_⟩
      -- good
      refine ⟨_, rfl, _, rfl, _, rfl, _, rfl, a, e, tab, ends, n, d, rfl, dp_mono (del_same b) _ _ da6, dp_mono (del_same b) _ _ de6, gt, n3, hd, fun gg H7 hgg s7 h7 => ?_⟩
      refine ⟨_, rfl, _, _, rfl, rfl, (d : Int) + 1, rfl, by omega, by omega, ?_⟩
      rw [show ((d : Int) + 1).toNat = d + 1 by omega]
      have k7 : Keep b H H7 := k0.trans (k1.trans (kp2.trans (kp3.trans (kp4.trans (Keep.of (s6.trans s7))))))
      have R7 : RdAt K A.C (del b H7) p n tab ends := R6.mono (Keep.of s7)
      have B7 : BarAt H7 b := bar_same B6 s7
      have hw : ∀ row ∈ tab, row.length = n := fun row h => (gt.rows row h).1
      refine for_range (lo := 0) (n := d + 1) (fun j σ H' => ∃ y1 y9 y10 y11 y12, σ = [some (.ref b), y1, some (.int (n : Int)), some (.int ((1 : Int) + (r : Int))), some (.ref a), some (.ref e), some (.ref p), some (.int (d : Int)), some (.ref gg), y9, y10, y11, y12, none] ∧ Same H7 H') ?_ ?_ ?_
      · exact ⟨_, _, _, _, _, rfl, Same.refl _⟩
      · rintro j σ H8 hj ⟨y1, y9, y10, y11, y12, rfl, s8⟩
        rw [show (0 : Int) + (j : Int) = (j : Int) by omega]
        have R8 : RdAt K A.C H8 p n tab ends := (R7.mono (del_same b)).mono s8
        have hfl : ((lv n j).filter (yes tab ends)).length ≤ 729 := Nat.le_trans (List.length_filter_le _ _) (lv_small n3 (by omega))
        have hcount : cN tab ends j 0 = (((lv n j).filter (yes tab ends)).length : Int) := count_is j hw ge.lt
        have hc1 : cN tab ends j 0 ≤ 1000 := by rw [hcount]; omega
        have gl : ((up n d).filter (yes tab ends)).length ≤ 729 * 7 := by
          have q1 := List.length_filter_le (yes tab ends) (up n d)
          have q2 := up_small n3 (d := d) hd
          have q3 := Nat.mul_le_mul (Nat.le_refl 729) (show d + 1 ≤ 7 by omega)
          omega
        have lx : (vRows ((up n d).filter (yes tab ends))).length = ((up n d).filter (yes tab ends)).length := List.length_map _
        -- due
        refine g_seq (g_asg (g_cb (cL (xs := vRows ((up n d).filter (yes tab ends))) (lenAt ((up n d).filter (yes tab ends)) j) (fun R r => ?_) (lst_of (s8 _ _ h7)) (fun q => ?_) (by omega) ?_ (fun q x hq H9 R N s9 ry rn => ?_) (fun D H9 hD s9 h9 => ?_))))
        · exact ⟨_, rfl, r⟩
        · unfold lenAt
          split
          · split <;> simp
          · simp
        · exact fun _ => rfl
        · unfold vRows at hq
          rw [List.getElem?_map] at hq
          cases el : ((up n d).filter (yes tab ends))[q]? with
          | none => rw [el] at hq; cases hq
          | some l =>
            rw [el] at hq
            rw [lenAt_of el] at ry rn
            obtain rfl := Option.some.inj hq
            have hm := up_mem (List.mem_filter.mp (List.mem_of_getElem? el)).1
            refine ⟨_, rfl, _, _, rfl, ⟨szl (by rw [rowS_len]; omega), rfl⟩, _, rfl, rfl, _, rfl, ?_⟩
            by_cases c : l.length = j
            · have : decide (V.int ((rowS l).length : Int) = V.int (j : Int)) = true := by rw [rowS_len, c]; exact decide_eq_true rfl
              rw [this]
              refine iteT ?_
              exact ⟨_, rfl, ry _ H9 (if_pos c) (Same.refl _)⟩
            · have : decide (V.int ((rowS l).length : Int) = V.int (j : Int)) = false := by
                rw [rowS_len]
                refine decide_eq_false fun z => c ?_
                injection z with z
                omega
              rw [this]
              refine iteF ?_
              exact rn H9 (if_neg c) (Same.refl _)
        · rw [lx, pre_lenAt, up_len_filter n tab ends (show j ≤ d by omega)] at h9
          refine ⟨D, _, rfl, .inl ⟨lst_of h9, fun l hl => ?_⟩⟩
          generalize hrows : (lv n j).filter (yes tab ends) = rows at hfl hcount h9
          have s10 : Same H8 (upd H9 l (.tup (vRows rows))) := s9.trans (same_upd hl)
          have hl10 : (upd H9 l (.tup (vRows rows))) l = some (.tup (vRows rows)) := upd_same
          have efr : (fr tab ends n j j).map Prod.fst = rows := by rw [← hrows]; exact rows_are ge.lt
          -- told
          refine ⟨_, rfl, _, rfl, p, n, tab, ends, j, rfl, R8.mono s10, gt, ge, by omega, hc1, fun v1 H11 s11 d1 => ?_⟩
          refine ⟨_, rfl, _, rfl, p, n, tab, ends, j, rfl, R8.mono (s10.trans s11), gt, ge, by omega, hc1, fun v2 H12 s12 d2 => ?_⟩
          rw [efr] at d1 d2
          refine ⟨by show 2 ≤ sizeLine; decide, fun q1 hq1 => ?_⟩
          have s13 := same_upd (o := .lst [v1, v2]) hq1
          refine ⟨_, rfl, _, rfl, _, rfl, p, n, tab, ends, j, rfl, R8.mono (s10.trans (s11.trans (s12.trans s13))), gt, ge, by omega, fun H14 s14 => ?_⟩
          refine ⟨_, rfl, _, rfl, p, n, tab, ends, j, rfl, R8.mono (s10.trans (s11.trans (s12.trans (s13.trans s14)))), gt, ge, by omega, fun H15 s15 => ?_⟩
          refine ⟨by show 2 ≤ sizeLine; decide, fun q2 hq2 => ?_⟩
          have s16 := same_upd (o := .lst [.int (cN tab ends j 0), .int (cN tab ends j 0)]) hq2
          refine ⟨q1, q2, _, _, rfl, rfl, (s14.trans (s15.trans s16)) _ _ upd_same, upd_same, by show 2 + 2 ≤ sizeLine; decide, fun q3 hq3 => ?_⟩
          have s17 := same_upd (o := .lst ([v1, v2] ++ [.int (cN tab ends j 0), .int (cN tab ends j 0)])) hq3
          have sT : Same H12 _ := s13.trans (s14.trans (s15.trans (s16.trans s17)))
          have nn := cN_nonneg tab ends j 0
          have hrw : ∀ l ∈ rows, l.length ≤ 6 ∧ ∀ g ∈ l, g < n := by
            intro l hlr
            rw [← hrows] at hlr
            have z := lv_mem (List.mem_filter.mp hlr).1
            exact ⟨by omega, z.2⟩
          obtain ⟨t1, t2, t3⟩ := told_ok (c := cN tab ends j 0) n3 (Nat.le_refl 6) hrw hfl nn hc1
          -- the two texts
          refine ⟨_, rfl, q3, dTold rows (cN tab ends j 0), rfl, .lst (lst_of upd_same) (.cons (dp_mono (s12.trans sT) _ _ d1) (.cons (dp_mono sT _ _ d2) (.cons (.int _) (.cons (.int _) .nil)))), t1, t2, t3, ?_⟩
          have hlT := (s11.trans (s12.trans sT)) _ _ hl10
          have lr : (vRows rows).length = rows.length := List.length_map _
          refine ⟨_, rfl, _, rfl, _, rfl, _, _, rfl, .inr ⟨_, tup_of hlT, rfl⟩, _, rfl, _, _, rfl, .inr ⟨_, tup_of hlT, rfl⟩, by show 4 ≤ sizeLine; decide, fun q4 hq4 => ?_⟩
          have s18 := same_upd (o := .lst [.ref l, .ref l, .int ((vRows rows).length : Int), .int ((vRows rows).length : Int)]) hq4
          have el : ((vRows rows).length : Int) = cN tab ends j 0 := by rw [lr, hcount]
          have dd : Dp K (upd _ q4 (.lst [.ref l, .ref l, .int ((vRows rows).length : Int), .int ((vRows rows).length : Int)])) (.ref l) (dRows rows) := .tup (tup_of (s18 _ _ hlT)) (rows_dps rows)
          refine ⟨q4, dTold rows (cN tab ends j 0), rfl, .lst (lst_of upd_same) (.cons dd (.cons dd ?_)), t1, t2, t3, rfl, _, rfl, ?_⟩
          · rw [el]
            exact .cons (.int _) (.cons (.int _) .nil)
          · rw [decide_eq_true rfl]
            refine iteF (g_next ?_)
            exact ⟨_, _, _, _, _, rfl, s8.trans (s10.trans (s11.trans (s12.trans (sT.trans s18))))⟩
      · rintro σ H8 ⟨y1, y9, y10, y11, y12, rfl, s8⟩
        have B8 := bar_same B7 s8
        refine ⟨_, rfl, b, 60, rfl, B8, by decide, by decide, fun far H9 hfar kp9 B9 => ?_⟩
        have m9 : Same (del b H7) (del b H9) := (Keep.of s8).trans kp9
        have R9 : RdAt K A.C H9 p n tab ends := (R7.mono m9).mono (del_same b)
        have da9 := dp_mono ((Keep.of s7).trans m9) _ _ da6
        have de9 := dp_mono ((Keep.of s7).trans m9) _ _ de6
        refine ⟨_, rfl, _, rfl, p, n, tab, ends, far, rfl, R9, gt, ge, by omega, fun H10 s10 => ?_⟩
        refine ⟨_, rfl, _, rfl, _, rfl, a, e, tab, ends, n, far, rfl, dp_mono ((del_same b).trans s10) _ _ da9, dp_mono ((del_same b).trans s10) _ _ de9, gt, ge, by omega, fun H11 s11 => ?_⟩
        refine ⟨rfl, _, rfl, ?_⟩
        rw [decide_eq_true rfl]
        refine iteF (g_next ?_)
        exact ⟨_, _, _, _, _, _, _, _, _, _, _, _, rfl, k7.trans ((Keep.of s8).trans (kp9.trans (Keep.of (s10.trans s11)))), bar_same B9 (s10.trans s11)⟩
    · rintro σ H0 ⟨y1, y2, y3, y4, y5, y6, y7, y8, y9, y10, y11, y12, rfl, k0, B0⟩
      exact k H0 k0
def spLaw (K : PySem.W.Frag) : Sp := fun vs H Q _ => ∃ (a : Addr) (ns : List Int), vs = [.ref a] ∧ SqL K H a (ns.map V.int) ∧ ns.length ≤ 63 ∧ ∀ H', Q (.bl true) H'
theorem ok_law (T : Txt K mg A) (U : Funs K A fd) : FnOkG P w K mg base 19 A.law fd.law p_law (spLaw K) := by
  have G_l_right := ok_l_right (P := P) (w := w) (base := base) T U
  have b_l_right := U.b_l_right
  have G_l_barrel := ok_l_barrel (P := P) (w := w) (base := base) T U
  have b_l_barrel := U.b_l_barrel
  refine okG U.F_law sc_law (fun vs H Q E h => ?_) (fun cdv A0 outer s H vs Q E hg hr h => ?_)
  · obtain ⟨a, ns, rfl, _⟩ := h
    rfl
  · have hu := hu_of hr
    obtain ⟨a, ns, rfl, hS, hn, k⟩ := h
    refine ⟨_, (pss_one (ps_ret (pe_callB (w_all (K := K) rfl) (by rfl) T.b_all (by decide +kernel) (pa_cons (pe_lc (own := [("_law_turn", 1)]) (g := gName 1) (tt := tYes) (by rfl) sc_law.nd (pi_range1 (by rfl) T.b_range (pa_cons (pe_callB (call_max2 rfl) (by rfl) T.b_max (by decide +kernel) (pa_cons pe_int (pa_cons (pe_callB (call_min2 rfl) (by rfl) T.b_min (by decide +kernel) (pa_cons (pe_callB (w_len (K := K)) (by rfl) T.b_len (by decide +kernel) (pa_cons (pv 0) pa_nil)) (pa_cons pe_int pa_nil))) pa_nil))) pa_nil)) (blkOk_by (own := [("_law_turn", 1)]) (by rfl)) (fun _ _ _ _ _ => (pg_name (i := 1) sc_law.nd rfl (Or.inl rfl))) (fun _ _ _ _ _ => pts_nil) (fun _ _ _ _ _ => (pe_callG G_l_right hg (hr.mono (by decide)) (by rfl) T.m_l_right T.k_l_right b_l_right (pa_cons (pe_call G_l_barrel (hr.mono (by decide)) (by rfl) T.m_l_barrel T.k_l_barrel b_l_barrel .nil pass0 (pa_cons (pv 0) (pa_cons (pv 1) pa_nil))) pa_nil)))) pa_nil)))), ?_⟩
    refine ⟨_, rfl, _, _, rfl, .inl ⟨_, hS, rfl⟩, _, _, rfl, _, _, rfl, ?_⟩
    obtain ⟨m, hm, em⟩ : ∃ m : Nat, m ≤ 3 ∧ (if (if (3 : Int) < ((ns.map V.int).length : Int) then (3 : Int) else ((ns.map V.int).length : Int)) > 2 then (if (3 : Int) < ((ns.map V.int).length : Int) then (3 : Int) else ((ns.map V.int).length : Int)) else 2) = (m : Int) := by
      by_cases c : (3 : Int) < ((ns.map V.int).length : Int)
      · exact ⟨3, by decide, by rw [if_pos c]; rfl⟩
      · rw [if_neg c]
        by_cases c2 : ((ns.map V.int).length : Int) > 2
        · exact ⟨(ns.map V.int).length, by omega, if_pos c2⟩
        · exact ⟨2, by decide, if_neg c2⟩
    refine ⟨(m : Int), by rw [← em] <;> rfl, by omega, by omega, fun D hD => ?_⟩
    rw [Int.toNat_natCast]
    refine lc_range (lo := 0) (n := m) (fun i H' => Same H H' ∧ H' D = some (.lst (List.replicate i (.bl true)))) ?_ ?_ ?_
    · exact ⟨same_upd hD, upd_same⟩
    · rintro i H1 hi ⟨s1, h1⟩
      refine ⟨rfl, yes_go ?_⟩
      rw [show (0 : Int) + (i : Int) = (i : Int) by omega]
      refine ⟨_, rfl, _, rfl, a, ns, i, rfl, sqL_mono s1 hS, hn, by omega, fun b H2 hb s2 B2 => ?_⟩
      refine ⟨b, rfl, B2, fun H3 kp => ?_⟩
      have s3 : Same H1 H3 := fun x o hx => kp.get (ne_of_none hx hb) (s2 _ _ hx)
      refine ⟨_, s3 _ _ h1, szt (by rw [List.length_replicate]; omega), same_put (s1.trans s3) hD, ?_⟩
      rw [upd_same, List.replicate_succ']
    · rintro H1 ⟨s1, h1⟩
      refine ⟨D, List.replicate m true, rfl, lst_of (by rw [← bls]; exact h1), ?_⟩
      rw [all_true]
      exact k H1
end K6


set_option Elab.async false
set_option linter.all false
set_option maxRecDepth 100000
set_option maxHeartbeats 4000000
namespace K6
open PySem PySem.Spec PyProof.Rows L2 Rw
/-! ### what the top has written -/
theorem all_mk {P : Program} {w : World} {K : PySem.W.Frag} {h : Heap} {mg : Str → Option Value} {fa C p1 p2 p3 f0 f1 f2 f3 f4 f5 f6 f7 f8 f9 f10 f11 f12 f13 f14 f15 f16 f17 f18 f19 f20 f21 f22 f23 f24 f25 f26 f27 f28 f29 f30 : Addr} (X : K.In h) (G : h.Ns mainGlobals mg) (hfa : mg "law" = some (.ref fa))
    {od0 an0 : Option Addr} {sl0 : Array (Option Value)} {oc0 kV0 dc0 pm0 cd0 ct0 : Value}
    {od1 an1 : Option Addr} {sl1 : Array (Option Value)} {oc1 kV1 dc1 pm1 cd1 ct1 : Value}
    {od2 an2 : Option Addr} {sl2 : Array (Option Value)} {oc2 kV2 dc2 pm2 cd2 ct2 : Value}
    {od3 an3 : Option Addr} {sl3 : Array (Option Value)} {oc3 kV3 dc3 pm3 cd3 ct3 : Value}
    {od4 an4 : Option Addr} {sl4 : Array (Option Value)} {oc4 kV4 dc4 pm4 cd4 ct4 : Value}
    {od5 an5 : Option Addr} {sl5 : Array (Option Value)} {oc5 kV5 dc5 pm5 cd5 ct5 : Value}
    {od6 an6 : Option Addr} {sl6 : Array (Option Value)} {oc6 kV6 dc6 pm6 cd6 ct6 : Value}
    {od7 an7 : Option Addr} {sl7 : Array (Option Value)} {oc7 kV7 dc7 pm7 cd7 ct7 : Value}
    {od8 an8 : Option Addr} {sl8 : Array (Option Value)} {oc8 kV8 dc8 pm8 cd8 ct8 : Value}
    {od9 an9 : Option Addr} {sl9 : Array (Option Value)} {oc9 kV9 dc9 pm9 cd9 ct9 : Value}
    {od10 an10 : Option Addr} {sl10 : Array (Option Value)} {oc10 kV10 dc10 pm10 cd10 ct10 : Value}
    {od11 an11 : Option Addr} {sl11 : Array (Option Value)} {oc11 kV11 dc11 pm11 cd11 ct11 : Value}
    {od12 an12 : Option Addr} {sl12 : Array (Option Value)} {oc12 kV12 dc12 pm12 cd12 ct12 : Value}
    {od13 an13 : Option Addr} {sl13 : Array (Option Value)} {oc13 kV13 dc13 pm13 cd13 ct13 : Value}
    {od14 an14 : Option Addr} {sl14 : Array (Option Value)} {oc14 kV14 dc14 pm14 cd14 ct14 : Value}
    {od15 an15 : Option Addr} {sl15 : Array (Option Value)} {oc15 kV15 dc15 pm15 cd15 ct15 : Value}
    {od16 an16 : Option Addr} {sl16 : Array (Option Value)} {oc16 kV16 dc16 pm16 cd16 ct16 : Value}
    {od17 an17 : Option Addr} {sl17 : Array (Option Value)} {oc17 kV17 dc17 pm17 cd17 ct17 : Value}
    {od18 an18 : Option Addr} {sl18 : Array (Option Value)} {oc18 kV18 dc18 pm18 cd18 ct18 : Value}
    {od19 an19 : Option Addr} {sl19 : Array (Option Value)} {oc19 kV19 dc19 pm19 cd19 ct19 : Value}
    {od20 an20 : Option Addr} {sl20 : Array (Option Value)} {oc20 kV20 dc20 pm20 cd20 ct20 : Value}
    {od21 an21 : Option Addr} {sl21 : Array (Option Value)} {oc21 kV21 dc21 pm21 cd21 ct21 : Value}
    {od22 an22 : Option Addr} {sl22 : Array (Option Value)} {oc22 kV22 dc22 pm22 cd22 ct22 : Value}
    {od23 an23 : Option Addr} {sl23 : Array (Option Value)} {oc23 kV23 dc23 pm23 cd23 ct23 : Value}
    {od24 an24 : Option Addr} {sl24 : Array (Option Value)} {oc24 kV24 dc24 pm24 cd24 ct24 : Value}
    {od25 an25 : Option Addr} {sl25 : Array (Option Value)} {oc25 kV25 dc25 pm25 cd25 ct25 : Value}
    {od26 an26 : Option Addr} {sl26 : Array (Option Value)} {oc26 kV26 dc26 pm26 cd26 ct26 : Value}
    {od27 an27 : Option Addr} {sl27 : Array (Option Value)} {oc27 kV27 dc27 pm27 cd27 ct27 : Value}
    {od28 an28 : Option Addr} {sl28 : Array (Option Value)} {oc28 kV28 dc28 pm28 cd28 ct28 : Value}
    {od29 an29 : Option Addr} {sl29 : Array (Option Value)} {oc29 kV29 dc29 pm29 cd29 ct29 : Value}
    {od30 an30 : Option Addr} {sl30 : Array (Option Value)} {oc30 kV30 dc30 pm30 cd30 ct30 : Value}
    (aC : PySem.W.nsIn K mainGlobals "Reader" = some (some (.ref C)))
    (a0 : PySem.W.nsIn K mainGlobals "is_integer" = some (some (.ref f0)))
    (a1 : PySem.W.nsIn K mainGlobals "is_between" = some (some (.ref f1)))
    (a2 : PySem.W.nsIn K mainGlobals "is_ascending" = some (some (.ref f2)))
    (a3 : PySem.W.nsIn K mainGlobals "is_stands" = some (some (.ref f3)))
    (a4 : PySem.W.nsIn K mainGlobals "is_arrows" = some (some (.ref f4)))
    (a5 : PySem.W.nsIn K mainGlobals "is_goals" = some (some (.ref f5)))
    (a6 : PySem.W.nsIn K mainGlobals "check_signs" = some (some (.ref f6)))
    (a7 : PySem.W.nsIn K mainGlobals "check_length" = some (some (.ref f7)))
    (a8 : PySem.W.nsIn K mainGlobals "flags_of" = some (some (.ref f8)))
    (a9 : PySem.W.nsIn K mainGlobals "links_of" = some (some (.ref f9)))
    (a10 : PySem.W.findIn K (.ref C) "__init__" = some (some (.ref f10)))
    (i10 : PySem.W.isFn K (.ref f10) = true)
    (a14 : PySem.W.findIn K (.ref C) "__len__" = some (some (.ref f14)))
    (i14 : PySem.W.isFn K (.ref f14) = true)
    (a15 : PySem.W.nsIn K mainGlobals "check_reader" = some (some (.ref f15)))
    (a16 : PySem.W.nsIn K mainGlobals "end_flags" = some (some (.ref f16)))
    (a17 : PySem.W.nsIn K mainGlobals "counts_up_to" = some (some (.ref f17)))
    (a18 : PySem.W.nsIn K mainGlobals "count_of" = some (some (.ref f18)))
    (a19 : PySem.W.nsIn K mainGlobals "rows_of" = some (some (.ref f19)))
    (a20 : PySem.W.nsIn K mainGlobals "_law_barrel" = some (some (.ref f20)))
    (a21 : PySem.W.nsIn K mainGlobals "_law_dip" = some (some (.ref f21)))
    (a22 : PySem.W.nsIn K mainGlobals "_law_one_of" = some (some (.ref f22)))
    (a23 : PySem.W.nsIn K mainGlobals "_law_arrows_for" = some (some (.ref f23)))
    (a24 : PySem.W.nsIn K mainGlobals "_law_ends_for" = some (some (.ref f24)))
    (a25 : PySem.W.nsIn K mainGlobals "_law_walk" = some (some (.ref f25)))
    (a26 : PySem.W.nsIn K mainGlobals "_law_upto" = some (some (.ref f26)))
    (a27 : PySem.W.nsIn K mainGlobals "_law_yes" = some (some (.ref f27)))
    (a28 : PySem.W.nsIn K mainGlobals "_law_added" = some (some (.ref f28)))
    (a29 : PySem.W.nsIn K mainGlobals "_law_right" = some (some (.ref f29)))
    (a30 : PySem.W.nsIn K mainGlobals "law" = some (some (.ref f30)))
    {q1 q2 q3 : List Value}
    (u1 : PySem.W.findIn K (.ref C) "signs" = some (some (.ref p1)))
    (v1 : PySem.W.specialIn K (.ref p1) "__get__" = some (some (.builtin "property.__get__")))
    (w1 : PySem.W.takesIn K (.ref p1) = some true)
    (x1 : PySem.W.recIn K p1 "property" = some (.ref f11 :: q1))
    (u2 : PySem.W.findIn K (.ref C) "arrows" = some (some (.ref p2)))
    (v2 : PySem.W.specialIn K (.ref p2) "__get__" = some (some (.builtin "property.__get__")))
    (w2 : PySem.W.takesIn K (.ref p2) = some true)
    (x2 : PySem.W.recIn K p2 "property" = some (.ref f12 :: q2))
    (u3 : PySem.W.findIn K (.ref C) "ends" = some (some (.ref p3)))
    (v3 : PySem.W.specialIn K (.ref p3) "__get__" = some (some (.builtin "property.__get__")))
    (w3 : PySem.W.takesIn K (.ref p3) = some true)
    (x3 : PySem.W.recIn K p3 "property" = some (.ref f13 :: q3))
    (l0 : K.lookup f0 = some ⟨oc0, od0, .func (PySem.W.fnOf "is_integer" "is_integer" (defArgs s_is_integer) (defBody s_is_integer) (defScope s_is_integer) .none kV0 dc0 pm0 an0 cd0 ct0), sl0⟩)
    (c0 : PySem.W.codeIn K cd0 "is_integer" = true)
    (k0 : PySem.W.keepIn K (.ref f0) = true)
    (l1 : K.lookup f1 = some ⟨oc1, od1, .func (PySem.W.fnOf "is_between" "is_between" (defArgs s_is_between) (defBody s_is_between) (defScope s_is_between) .none kV1 dc1 pm1 an1 cd1 ct1), sl1⟩)
    (c1 : PySem.W.codeIn K cd1 "is_between" = true)
    (k1 : PySem.W.keepIn K (.ref f1) = true)
    (l2 : K.lookup f2 = some ⟨oc2, od2, .func (PySem.W.fnOf "is_ascending" "is_ascending" (defArgs s_is_ascending) (defBody s_is_ascending) (defScope s_is_ascending) .none kV2 dc2 pm2 an2 cd2 ct2), sl2⟩)
    (c2 : PySem.W.codeIn K cd2 "is_ascending" = true)
    (k2 : PySem.W.keepIn K (.ref f2) = true)
    (l3 : K.lookup f3 = some ⟨oc3, od3, .func (PySem.W.fnOf "is_stands" "is_stands" (defArgs s_is_stands) (defBody s_is_stands) (defScope s_is_stands) .none kV3 dc3 pm3 an3 cd3 ct3), sl3⟩)
    (c3 : PySem.W.codeIn K cd3 "is_stands" = true)
    (k3 : PySem.W.keepIn K (.ref f3) = true)
    (l4 : K.lookup f4 = some ⟨oc4, od4, .func (PySem.W.fnOf "is_arrows" "is_arrows" (defArgs s_is_arrows) (defBody s_is_arrows) (defScope s_is_arrows) .none kV4 dc4 pm4 an4 cd4 ct4), sl4⟩)
    (c4 : PySem.W.codeIn K cd4 "is_arrows" = true)
    (k4 : PySem.W.keepIn K (.ref f4) = true)
    (l5 : K.lookup f5 = some ⟨oc5, od5, .func (PySem.W.fnOf "is_goals" "is_goals" (defArgs s_is_goals) (defBody s_is_goals) (defScope s_is_goals) .none kV5 dc5 pm5 an5 cd5 ct5), sl5⟩)
    (c5 : PySem.W.codeIn K cd5 "is_goals" = true)
    (k5 : PySem.W.keepIn K (.ref f5) = true)
    (l6 : K.lookup f6 = some ⟨oc6, od6, .func (PySem.W.fnOf "check_signs" "check_signs" (defArgs s_check_signs) (defBody s_check_signs) (defScope s_check_signs) .none kV6 dc6 pm6 an6 cd6 ct6), sl6⟩)
    (c6 : PySem.W.codeIn K cd6 "check_signs" = true)
    (k6 : PySem.W.keepIn K (.ref f6) = true)
    (l7 : K.lookup f7 = some ⟨oc7, od7, .func (PySem.W.fnOf "check_length" "check_length" (defArgs s_check_length) (defBody s_check_length) (defScope s_check_length) .none kV7 dc7 pm7 an7 cd7 ct7), sl7⟩)
    (c7 : PySem.W.codeIn K cd7 "check_length" = true)
    (k7 : PySem.W.keepIn K (.ref f7) = true)
    (l8 : K.lookup f8 = some ⟨oc8, od8, .func (PySem.W.fnOf "flags_of" "flags_of" (defArgs s_flags_of) (defBody s_flags_of) (defScope s_flags_of) .none kV8 dc8 pm8 an8 cd8 ct8), sl8⟩)
    (c8 : PySem.W.codeIn K cd8 "flags_of" = true)
    (k8 : PySem.W.keepIn K (.ref f8) = true)
    (l9 : K.lookup f9 = some ⟨oc9, od9, .func (PySem.W.fnOf "links_of" "links_of" (defArgs s_links_of) (defBody s_links_of) (defScope s_links_of) .none kV9 dc9 pm9 an9 cd9 ct9), sl9⟩)
    (c9 : PySem.W.codeIn K cd9 "links_of" = true)
    (k9 : PySem.W.keepIn K (.ref f9) = true)
    (l10 : K.lookup f10 = some ⟨oc10, od10, .func (PySem.W.fnOf "__init__" "Reader.__init__" (defArgs s_Reader_init) (defBody s_Reader_init) (defScope s_Reader_init) .none kV10 dc10 pm10 an10 cd10 ct10), sl10⟩)
    (c10 : PySem.W.codeIn K cd10 "Reader.__init__" = true)
    (k10 : PySem.W.keepIn K (.ref f10) = true)
    (l11 : K.lookup f11 = some ⟨oc11, od11, .func (PySem.W.fnOf "signs" "Reader.signs" (defArgs s_Reader_signs) (defBody s_Reader_signs) (defScope s_Reader_signs) .none kV11 dc11 pm11 an11 cd11 ct11), sl11⟩)
    (c11 : PySem.W.codeIn K cd11 "Reader.signs" = true)
    (k11 : PySem.W.keepIn K (.ref f11) = true)
    (l12 : K.lookup f12 = some ⟨oc12, od12, .func (PySem.W.fnOf "arrows" "Reader.arrows" (defArgs s_Reader_arrows) (defBody s_Reader_arrows) (defScope s_Reader_arrows) .none kV12 dc12 pm12 an12 cd12 ct12), sl12⟩)
    (c12 : PySem.W.codeIn K cd12 "Reader.arrows" = true)
    (k12 : PySem.W.keepIn K (.ref f12) = true)
    (l13 : K.lookup f13 = some ⟨oc13, od13, .func (PySem.W.fnOf "ends" "Reader.ends" (defArgs s_Reader_ends) (defBody s_Reader_ends) (defScope s_Reader_ends) .none kV13 dc13 pm13 an13 cd13 ct13), sl13⟩)
    (c13 : PySem.W.codeIn K cd13 "Reader.ends" = true)
    (k13 : PySem.W.keepIn K (.ref f13) = true)
    (l14 : K.lookup f14 = some ⟨oc14, od14, .func (PySem.W.fnOf "__len__" "Reader.__len__" (defArgs s_Reader_len) (defBody s_Reader_len) (defScope s_Reader_len) .none kV14 dc14 pm14 an14 cd14 ct14), sl14⟩)
    (c14 : PySem.W.codeIn K cd14 "Reader.__len__" = true)
    (k14 : PySem.W.keepIn K (.ref f14) = true)
    (l15 : K.lookup f15 = some ⟨oc15, od15, .func (PySem.W.fnOf "check_reader" "check_reader" (defArgs s_check_reader) (defBody s_check_reader) (defScope s_check_reader) .none kV15 dc15 pm15 an15 cd15 ct15), sl15⟩)
    (c15 : PySem.W.codeIn K cd15 "check_reader" = true)
    (k15 : PySem.W.keepIn K (.ref f15) = true)
    (l16 : K.lookup f16 = some ⟨oc16, od16, .func (PySem.W.fnOf "end_flags" "end_flags" (defArgs s_end_flags) (defBody s_end_flags) (defScope s_end_flags) .none kV16 dc16 pm16 an16 cd16 ct16), sl16⟩)
    (c16 : PySem.W.codeIn K cd16 "end_flags" = true)
    (k16 : PySem.W.keepIn K (.ref f16) = true)
    (l17 : K.lookup f17 = some ⟨oc17, od17, .func (PySem.W.fnOf "counts_up_to" "counts_up_to" (defArgs s_counts_up_to) (defBody s_counts_up_to) (defScope s_counts_up_to) .none kV17 dc17 pm17 an17 cd17 ct17), sl17⟩)
    (c17 : PySem.W.codeIn K cd17 "counts_up_to" = true)
    (k17 : PySem.W.keepIn K (.ref f17) = true)
    (l18 : K.lookup f18 = some ⟨oc18, od18, .func (PySem.W.fnOf "count_of" "count_of" (defArgs s_count_of) (defBody s_count_of) (defScope s_count_of) .none kV18 dc18 pm18 an18 cd18 ct18), sl18⟩)
    (c18 : PySem.W.codeIn K cd18 "count_of" = true)
    (k18 : PySem.W.keepIn K (.ref f18) = true)
    (l19 : K.lookup f19 = some ⟨oc19, od19, .func (PySem.W.fnOf "rows_of" "rows_of" (defArgs s_rows_of) (defBody s_rows_of) (defScope s_rows_of) .none kV19 dc19 pm19 an19 cd19 ct19), sl19⟩)
    (c19 : PySem.W.codeIn K cd19 "rows_of" = true)
    (k19 : PySem.W.keepIn K (.ref f19) = true)
    (l20 : K.lookup f20 = some ⟨oc20, od20, .func (PySem.W.fnOf "_law_barrel" "_law_barrel" (defArgs s_l_barrel) (defBody s_l_barrel) (defScope s_l_barrel) .none kV20 dc20 pm20 an20 cd20 ct20), sl20⟩)
    (c20 : PySem.W.codeIn K cd20 "_law_barrel" = true)
    (k20 : PySem.W.keepIn K (.ref f20) = true)
    (l21 : K.lookup f21 = some ⟨oc21, od21, .func (PySem.W.fnOf "_law_dip" "_law_dip" (defArgs s_l_dip) (defBody s_l_dip) (defScope s_l_dip) .none kV21 dc21 pm21 an21 cd21 ct21), sl21⟩)
    (c21 : PySem.W.codeIn K cd21 "_law_dip" = true)
    (k21 : PySem.W.keepIn K (.ref f21) = true)
    (l22 : K.lookup f22 = some ⟨oc22, od22, .func (PySem.W.fnOf "_law_one_of" "_law_one_of" (defArgs s_l_one_of) (defBody s_l_one_of) (defScope s_l_one_of) .none kV22 dc22 pm22 an22 cd22 ct22), sl22⟩)
    (c22 : PySem.W.codeIn K cd22 "_law_one_of" = true)
    (k22 : PySem.W.keepIn K (.ref f22) = true)
    (l23 : K.lookup f23 = some ⟨oc23, od23, .func (PySem.W.fnOf "_law_arrows_for" "_law_arrows_for" (defArgs s_l_arrows_for) (defBody s_l_arrows_for) (defScope s_l_arrows_for) .none kV23 dc23 pm23 an23 cd23 ct23), sl23⟩)
    (c23 : PySem.W.codeIn K cd23 "_law_arrows_for" = true)
    (k23 : PySem.W.keepIn K (.ref f23) = true)
    (l24 : K.lookup f24 = some ⟨oc24, od24, .func (PySem.W.fnOf "_law_ends_for" "_law_ends_for" (defArgs s_l_ends_for) (defBody s_l_ends_for) (defScope s_l_ends_for) .none kV24 dc24 pm24 an24 cd24 ct24), sl24⟩)
    (c24 : PySem.W.codeIn K cd24 "_law_ends_for" = true)
    (k24 : PySem.W.keepIn K (.ref f24) = true)
    (l25 : K.lookup f25 = some ⟨oc25, od25, .func (PySem.W.fnOf "_law_walk" "_law_walk" (defArgs s_l_walk) (defBody s_l_walk) (defScope s_l_walk) .none kV25 dc25 pm25 an25 cd25 ct25), sl25⟩)
    (c25 : PySem.W.codeIn K cd25 "_law_walk" = true)
    (k25 : PySem.W.keepIn K (.ref f25) = true)
    (l26 : K.lookup f26 = some ⟨oc26, od26, .func (PySem.W.fnOf "_law_upto" "_law_upto" (defArgs s_l_upto) (defBody s_l_upto) (defScope s_l_upto) .none kV26 dc26 pm26 an26 cd26 ct26), sl26⟩)
    (c26 : PySem.W.codeIn K cd26 "_law_upto" = true)
    (k26 : PySem.W.keepIn K (.ref f26) = true)
    (l27 : K.lookup f27 = some ⟨oc27, od27, .func (PySem.W.fnOf "_law_yes" "_law_yes" (defArgs s_l_yes) (defBody s_l_yes) (defScope s_l_yes) .none kV27 dc27 pm27 an27 cd27 ct27), sl27⟩)
    (c27 : PySem.W.codeIn K cd27 "_law_yes" = true)
    (k27 : PySem.W.keepIn K (.ref f27) = true)
    (l28 : K.lookup f28 = some ⟨oc28, od28, .func (PySem.W.fnOf "_law_added" "_law_added" (defArgs s_l_added) (defBody s_l_added) (defScope s_l_added) .none kV28 dc28 pm28 an28 cd28 ct28), sl28⟩)
    (c28 : PySem.W.codeIn K cd28 "_law_added" = true)
    (k28 : PySem.W.keepIn K (.ref f28) = true)
    (l29 : K.lookup f29 = some ⟨oc29, od29, .func (PySem.W.fnOf "_law_right" "_law_right" (defArgs s_l_right) (defBody s_l_right) (defScope s_l_right) .none kV29 dc29 pm29 an29 cd29 ct29), sl29⟩)
    (c29 : PySem.W.codeIn K cd29 "_law_right" = true)
    (k29 : PySem.W.keepIn K (.ref f29) = true)
    (l30 : K.lookup f30 = some ⟨oc30, od30, .func (PySem.W.fnOf "law" "law" (defArgs s_law) (defBody s_law) (defScope s_law) .none kV30 dc30 pm30 an30 cd30 ct30), sl30⟩)
    (c30 : PySem.W.codeIn K cd30 "law" = true)
    (k30 : PySem.W.keepIn K (.ref f30) = true)
    (pg : PySem.W.plainGet K C Str.empty = true)
    (hd : PySem.W.hasDictIn K C = true)
    (po : PySem.W.plainOver K C = true)
    (sa : PySem.W.findIn K (.ref C) "__setattr__" = some (some (.builtin "object.__setattr__")))
    (mk : PySem.W.makesIn K C = true)
    (kc : PySem.W.keepIn K (.ref C) = true)
    (n1 : PySem.W.findIn K (.ref C) "_signs" = some none)
    (n2 : PySem.W.findIn K (.ref C) "_arrows" = some none)
    (n3 : PySem.W.findIn K (.ref C) "_ends" = some none)
    (tha : PySem.W.findIn K (.ref C) "__class__" = some (some (.builtin "object.__class__")))
    (thn : PySem.W.specialIn K (.builtin "object.__class__") "__get__" = some (some (.builtin "getset_descriptor.__get__")))
    (ttk : PySem.W.takesIn K (.builtin "object.__class__") = some true)
    (tmo : PySem.W.mroIn K C (.type "object") = some true)
    {t0 t1 t2 t3 t4 : Tok}
    (yg0 : PySem.W.nsIn K mainGlobals "MOST_SIGNS" = some (some (.int 8 t0)))
    (yg1 : PySem.W.nsIn K mainGlobals "MOST_STANDS" = some (some (.int 200 t1)))
    (yg2 : PySem.W.nsIn K mainGlobals "MOST_ROW" = some (some (.int 200 t2)))
    (yg3 : PySem.W.nsIn K mainGlobals "MOST_LISTED" = some (some (.int 1000 t3)))
    (yg4 : PySem.W.nsIn K mainGlobals "ALPHABET" = some (some (.str "abcdefgh" t4)))
    (yz0 : PySem.W.nsIn K mainGlobals "abs" = some none)
    (yz1 : PySem.W.nsIn K mainGlobals "all" = some none)
    (yz2 : PySem.W.nsIn K mainGlobals "bool" = some none)
    (yz3 : PySem.W.nsIn K mainGlobals "divmod" = some none)
    (yz4 : PySem.W.nsIn K mainGlobals "int" = some none)
    (yz5 : PySem.W.nsIn K mainGlobals "isinstance" = some none)
    (yz6 : PySem.W.nsIn K mainGlobals "len" = some none)
    (yz7 : PySem.W.nsIn K mainGlobals "max" = some none)
    (yz8 : PySem.W.nsIn K mainGlobals "min" = some none)
    (yz9 : PySem.W.nsIn K mainGlobals "range" = some none)
    (yz10 : PySem.W.nsIn K mainGlobals "repr" = some none)
    (yz11 : PySem.W.nsIn K mainGlobals "sum" = some none)
    (yz12 : PySem.W.nsIn K mainGlobals "tuple" = some none)
    : ∃ fd : FuncData, (∀ (s : Shared) (u : Value), BindsTo s fd ⟨[u], []⟩ [("_law_script", u)]) ∧ ∀ base : Heap, K.In base → base.Ns mainGlobals mg → FnOkG P w K mg base 19 fa fd ["_law_script"] (spLaw K) := by
  have e := hfa.symm.trans (PySem.W.mg_of X G a30)
  cases e
  let A : Ad := { is_integer := f0, is_between := f1, is_ascending := f2, is_stands := f3, is_arrows := f4, is_goals := f5, check_signs := f6, check_length := f7, flags_of := f8, links_of := f9, Reader_init := f10, Reader_signs := f11, Reader_arrows := f12, Reader_ends := f13, Reader_len := f14, check_reader := f15, end_flags := f16, counts_up_to := f17, count_of := f18, rows_of := f19, l_barrel := f20, l_dip := f21, l_one_of := f22, l_arrows_for := f23, l_ends_for := f24, l_walk := f25, l_upto := f26, l_yes := f27, l_added := f28, l_right := f29, law := fa, C := C, pr_signs := p1, pr_arrows := p2, pr_ends := p3 }
  let fd : Fds := { is_integer := PySem.W.fnOf "is_integer" "is_integer" (defArgs s_is_integer) (defBody s_is_integer) (defScope s_is_integer) .none kV0 dc0 pm0 an0 cd0 ct0, is_between := PySem.W.fnOf "is_between" "is_between" (defArgs s_is_between) (defBody s_is_between) (defScope s_is_between) .none kV1 dc1 pm1 an1 cd1 ct1, is_ascending := PySem.W.fnOf "is_ascending" "is_ascending" (defArgs s_is_ascending) (defBody s_is_ascending) (defScope s_is_ascending) .none kV2 dc2 pm2 an2 cd2 ct2, is_stands := PySem.W.fnOf "is_stands" "is_stands" (defArgs s_is_stands) (defBody s_is_stands) (defScope s_is_stands) .none kV3 dc3 pm3 an3 cd3 ct3, is_arrows := PySem.W.fnOf "is_arrows" "is_arrows" (defArgs s_is_arrows) (defBody s_is_arrows) (defScope s_is_arrows) .none kV4 dc4 pm4 an4 cd4 ct4, is_goals := PySem.W.fnOf "is_goals" "is_goals" (defArgs s_is_goals) (defBody s_is_goals) (defScope s_is_goals) .none kV5 dc5 pm5 an5 cd5 ct5, check_signs := PySem.W.fnOf "check_signs" "check_signs" (defArgs s_check_signs) (defBody s_check_signs) (defScope s_check_signs) .none kV6 dc6 pm6 an6 cd6 ct6, check_length := PySem.W.fnOf "check_length" "check_length" (defArgs s_check_length) (defBody s_check_length) (defScope s_check_length) .none kV7 dc7 pm7 an7 cd7 ct7, flags_of := PySem.W.fnOf "flags_of" "flags_of" (defArgs s_flags_of) (defBody s_flags_of) (defScope s_flags_of) .none kV8 dc8 pm8 an8 cd8 ct8, links_of := PySem.W.fnOf "links_of" "links_of" (defArgs s_links_of) (defBody s_links_of) (defScope s_links_of) .none kV9 dc9 pm9 an9 cd9 ct9, Reader_init := PySem.W.fnOf "__init__" "Reader.__init__" (defArgs s_Reader_init) (defBody s_Reader_init) (defScope s_Reader_init) .none kV10 dc10 pm10 an10 cd10 ct10, Reader_signs := PySem.W.fnOf "signs" "Reader.signs" (defArgs s_Reader_signs) (defBody s_Reader_signs) (defScope s_Reader_signs) .none kV11 dc11 pm11 an11 cd11 ct11, Reader_arrows := PySem.W.fnOf "arrows" "Reader.arrows" (defArgs s_Reader_arrows) (defBody s_Reader_arrows) (defScope s_Reader_arrows) .none kV12 dc12 pm12 an12 cd12 ct12, Reader_ends := PySem.W.fnOf "ends" "Reader.ends" (defArgs s_Reader_ends) (defBody s_Reader_ends) (defScope s_Reader_ends) .none kV13 dc13 pm13 an13 cd13 ct13, Reader_len := PySem.W.fnOf "__len__" "Reader.__len__" (defArgs s_Reader_len) (defBody s_Reader_len) (defScope s_Reader_len) .none kV14 dc14 pm14 an14 cd14 ct14, check_reader := PySem.W.fnOf "check_reader" "check_reader" (defArgs s_check_reader) (defBody s_check_reader) (defScope s_check_reader) .none kV15 dc15 pm15 an15 cd15 ct15, end_flags := PySem.W.fnOf "end_flags" "end_flags" (defArgs s_end_flags) (defBody s_end_flags) (defScope s_end_flags) .none kV16 dc16 pm16 an16 cd16 ct16, counts_up_to := PySem.W.fnOf "counts_up_to" "counts_up_to" (defArgs s_counts_up_to) (defBody s_counts_up_to) (defScope s_counts_up_to) .none kV17 dc17 pm17 an17 cd17 ct17, count_of := PySem.W.fnOf "count_of" "count_of" (defArgs s_count_of) (defBody s_count_of) (defScope s_count_of) .none kV18 dc18 pm18 an18 cd18 ct18, rows_of := PySem.W.fnOf "rows_of" "rows_of" (defArgs s_rows_of) (defBody s_rows_of) (defScope s_rows_of) .none kV19 dc19 pm19 an19 cd19 ct19, l_barrel := PySem.W.fnOf "_law_barrel" "_law_barrel" (defArgs s_l_barrel) (defBody s_l_barrel) (defScope s_l_barrel) .none kV20 dc20 pm20 an20 cd20 ct20, l_dip := PySem.W.fnOf "_law_dip" "_law_dip" (defArgs s_l_dip) (defBody s_l_dip) (defScope s_l_dip) .none kV21 dc21 pm21 an21 cd21 ct21, l_one_of := PySem.W.fnOf "_law_one_of" "_law_one_of" (defArgs s_l_one_of) (defBody s_l_one_of) (defScope s_l_one_of) .none kV22 dc22 pm22 an22 cd22 ct22, l_arrows_for := PySem.W.fnOf "_law_arrows_for" "_law_arrows_for" (defArgs s_l_arrows_for) (defBody s_l_arrows_for) (defScope s_l_arrows_for) .none kV23 dc23 pm23 an23 cd23 ct23, l_ends_for := PySem.W.fnOf "_law_ends_for" "_law_ends_for" (defArgs s_l_ends_for) (defBody s_l_ends_for) (defScope s_l_ends_for) .none kV24 dc24 pm24 an24 cd24 ct24, l_walk := PySem.W.fnOf "_law_walk" "_law_walk" (defArgs s_l_walk) (defBody s_l_walk) (defScope s_l_walk) .none kV25 dc25 pm25 an25 cd25 ct25, l_upto := PySem.W.fnOf "_law_upto" "_law_upto" (defArgs s_l_upto) (defBody s_l_upto) (defScope s_l_upto) .none kV26 dc26 pm26 an26 cd26 ct26, l_yes := PySem.W.fnOf "_law_yes" "_law_yes" (defArgs s_l_yes) (defBody s_l_yes) (defScope s_l_yes) .none kV27 dc27 pm27 an27 cd27 ct27, l_added := PySem.W.fnOf "_law_added" "_law_added" (defArgs s_l_added) (defBody s_l_added) (defScope s_l_added) .none kV28 dc28 pm28 an28 cd28 ct28, l_right := PySem.W.fnOf "_law_right" "_law_right" (defArgs s_l_right) (defBody s_l_right) (defScope s_l_right) .none kV29 dc29 pm29 an29 cd29 ct29, law := PySem.W.fnOf "law" "law" (defArgs s_law) (defBody s_law) (defScope s_law) .none kV30 dc30 pm30 an30 cd30 ct30 }
  have T : Txt K mg A := {
    b_abs := PySem.W.mg_none_of X G yz0,
    b_all := PySem.W.mg_none_of X G yz1,
    b_bool := PySem.W.mg_none_of X G yz2,
    b_divmod := PySem.W.mg_none_of X G yz3,
    b_int := PySem.W.mg_none_of X G yz4,
    b_isinstance := PySem.W.mg_none_of X G yz5,
    b_len := PySem.W.mg_none_of X G yz6,
    b_max := PySem.W.mg_none_of X G yz7,
    b_min := PySem.W.mg_none_of X G yz8,
    b_range := PySem.W.mg_none_of X G yz9,
    b_repr := PySem.W.mg_none_of X G yz10,
    b_sum := PySem.W.mg_none_of X G yz11,
    b_tuple := PySem.W.mg_none_of X G yz12,
    c_MOST_SIGNS := ⟨_, PySem.W.mg_of X G yg0⟩,
    c_MOST_STANDS := ⟨_, PySem.W.mg_of X G yg1⟩,
    c_MOST_ROW := ⟨_, PySem.W.mg_of X G yg2⟩,
    c_MOST_LISTED := ⟨_, PySem.W.mg_of X G yg3⟩,
    c_ALPHABET := ⟨_, PySem.W.mg_of X G yg4⟩,
    m_is_integer := PySem.W.mg_of X G a0, k_is_integer := k0,
    m_is_between := PySem.W.mg_of X G a1, k_is_between := k1,
    m_is_ascending := PySem.W.mg_of X G a2, k_is_ascending := k2,
    m_is_stands := PySem.W.mg_of X G a3, k_is_stands := k3,
    m_is_arrows := PySem.W.mg_of X G a4, k_is_arrows := k4,
    m_is_goals := PySem.W.mg_of X G a5, k_is_goals := k5,
    m_check_signs := PySem.W.mg_of X G a6, k_check_signs := k6,
    m_check_length := PySem.W.mg_of X G a7, k_check_length := k7,
    m_flags_of := PySem.W.mg_of X G a8, k_flags_of := k8,
    m_links_of := PySem.W.mg_of X G a9, k_links_of := k9,
    m_check_reader := PySem.W.mg_of X G a15, k_check_reader := k15,
    m_end_flags := PySem.W.mg_of X G a16, k_end_flags := k16,
    m_counts_up_to := PySem.W.mg_of X G a17, k_counts_up_to := k17,
    m_count_of := PySem.W.mg_of X G a18, k_count_of := k18,
    m_rows_of := PySem.W.mg_of X G a19, k_rows_of := k19,
    m_l_barrel := PySem.W.mg_of X G a20, k_l_barrel := k20,
    m_l_dip := PySem.W.mg_of X G a21, k_l_dip := k21,
    m_l_one_of := PySem.W.mg_of X G a22, k_l_one_of := k22,
    m_l_arrows_for := PySem.W.mg_of X G a23, k_l_arrows_for := k23,
    m_l_ends_for := PySem.W.mg_of X G a24, k_l_ends_for := k24,
    m_l_walk := PySem.W.mg_of X G a25, k_l_walk := k25,
    m_l_upto := PySem.W.mg_of X G a26, k_l_upto := k26,
    m_l_yes := PySem.W.mg_of X G a27, k_l_yes := k27,
    m_l_added := PySem.W.mg_of X G a28, k_l_added := k28,
    m_l_right := PySem.W.mg_of X G a29, k_l_right := k29,
    m_law := PySem.W.mg_of X G a30, k_law := k30,
    m_Reader := PySem.W.mg_of X G aC, cl := ⟨pg, hd, po, sa⟩, mk_Reader := ⟨mk, a10, i10, kc⟩, na_signs := n1, na_arrows := n2, na_ends := n3,
    p_Reader_signs := ⟨u1, v1, w1, _, x1⟩, p_Reader_arrows := ⟨u2, v2, w2, _, x2⟩, p_Reader_ends := ⟨u3, v3, w3, _, x3⟩, own_len := a14, isf_len := i14, t_ha := tha, t_hn := thn, t_tk := ttk, t_mo := tmo }
  have F0 := fun_mk (st := s_is_integer) l0 c0 k0
  have b0 := F0.binds (ps := p_is_integer) fun _ _ _ _ _ _ us hl => match us, hl with | [_], _ => rfl
  have F1 := fun_mk (st := s_is_between) l1 c1 k1
  have b1 := F1.binds (ps := p_is_between) fun _ _ _ _ _ _ us hl => match us, hl with | [_, _, _], _ => rfl
  have F2 := fun_mk (st := s_is_ascending) l2 c2 k2
  have b2 := F2.binds (ps := p_is_ascending) fun _ _ _ _ _ _ us hl => match us, hl with | [_], _ => rfl
  have F3 := fun_mk (st := s_is_stands) l3 c3 k3
  have b3 := F3.binds (ps := p_is_stands) fun _ _ _ _ _ _ us hl => match us, hl with | [_, _], _ => rfl
  have F4 := fun_mk (st := s_is_arrows) l4 c4 k4
  have b4 := F4.binds (ps := p_is_arrows) fun _ _ _ _ _ _ us hl => match us, hl with | [_, _], _ => rfl
  have F5 := fun_mk (st := s_is_goals) l5 c5 k5
  have b5 := F5.binds (ps := p_is_goals) fun _ _ _ _ _ _ us hl => match us, hl with | [_, _, _], _ => rfl
  have F6 := fun_mk (st := s_check_signs) l6 c6 k6
  have b6 := F6.binds (ps := p_check_signs) fun _ _ _ _ _ _ us hl => match us, hl with | [_], _ => rfl
  have F7 := fun_mk (st := s_check_length) l7 c7 k7
  have b7 := F7.binds (ps := p_check_length) fun _ _ _ _ _ _ us hl => match us, hl with | [_], _ => rfl
  have F8 := fun_mk (st := s_flags_of) l8 c8 k8
  have b8 := F8.binds (ps := p_flags_of) fun _ _ _ _ _ _ us hl => match us, hl with | [_, _], _ => rfl
  have F9 := fun_mk (st := s_links_of) l9 c9 k9
  have b9 := F9.binds (ps := p_links_of) fun _ _ _ _ _ _ us hl => match us, hl with | [_], _ => rfl
  have F10 := fun_mk (st := s_Reader_init) l10 c10 k10
  have b10 := F10.binds (ps := p_Reader_init) fun _ _ _ _ _ _ us hl => match us, hl with | [_, _, _, _], _ => rfl
  have F11 := fun_mk (st := s_Reader_signs) l11 c11 k11
  have b11 := F11.binds (ps := p_Reader_signs) fun _ _ _ _ _ _ us hl => match us, hl with | [_], _ => rfl
  have F12 := fun_mk (st := s_Reader_arrows) l12 c12 k12
  have b12 := F12.binds (ps := p_Reader_arrows) fun _ _ _ _ _ _ us hl => match us, hl with | [_], _ => rfl
  have F13 := fun_mk (st := s_Reader_ends) l13 c13 k13
  have b13 := F13.binds (ps := p_Reader_ends) fun _ _ _ _ _ _ us hl => match us, hl with | [_], _ => rfl
  have F14 := fun_mk (st := s_Reader_len) l14 c14 k14
  have b14 := F14.binds (ps := p_Reader_len) fun _ _ _ _ _ _ us hl => match us, hl with | [_], _ => rfl
  have F15 := fun_mk (st := s_check_reader) l15 c15 k15
  have b15 := F15.binds (ps := p_check_reader) fun _ _ _ _ _ _ us hl => match us, hl with | [_], _ => rfl
  have F16 := fun_mk (st := s_end_flags) l16 c16 k16
  have b16 := F16.binds (ps := p_end_flags) fun _ _ _ _ _ _ us hl => match us, hl with | [_], _ => rfl
  have F17 := fun_mk (st := s_counts_up_to) l17 c17 k17
  have b17 := F17.binds (ps := p_counts_up_to) fun _ _ _ _ _ _ us hl => match us, hl with | [_, _], _ => rfl
  have F18 := fun_mk (st := s_count_of) l18 c18 k18
  have b18 := F18.binds (ps := p_count_of) fun _ _ _ _ _ _ us hl => match us, hl with | [_, _], _ => rfl
  have F19 := fun_mk (st := s_rows_of) l19 c19 k19
  have b19 := F19.binds (ps := p_rows_of) fun _ _ _ _ _ _ us hl => match us, hl with | [_, _], _ => rfl
  have F20 := fun_mk (st := s_l_barrel) l20 c20 k20
  have b20 := F20.binds (ps := p_l_barrel) fun _ _ _ _ _ _ us hl => match us, hl with | [_, _], _ => rfl
  have F21 := fun_mk (st := s_l_dip) l21 c21 k21
  have b21 := F21.binds (ps := p_l_dip) fun _ _ _ _ _ _ us hl => match us, hl with | [_, _], _ => rfl
  have F22 := fun_mk (st := s_l_one_of) l22 c22 k22
  have b22 := F22.binds (ps := p_l_one_of) fun _ _ _ _ _ _ us hl => match us, hl with | [_, _], _ => rfl
  have F23 := fun_mk (st := s_l_arrows_for) l23 c23 k23
  have b23 := F23.binds (ps := p_l_arrows_for) fun _ _ _ _ _ _ us hl => match us, hl with | [_, _, _], _ => rfl
  have F24 := fun_mk (st := s_l_ends_for) l24 c24 k24
  have b24 := F24.binds (ps := p_l_ends_for) fun _ _ _ _ _ _ us hl => match us, hl with | [_, _], _ => rfl
  have F25 := fun_mk (st := s_l_walk) l25 c25 k25
  have b25 := F25.binds (ps := p_l_walk) fun _ _ _ _ _ _ us hl => match us, hl with | [_, _, _], _ => rfl
  have F26 := fun_mk (st := s_l_upto) l26 c26 k26
  have b26 := F26.binds (ps := p_l_upto) fun _ _ _ _ _ _ us hl => match us, hl with | [_, _], _ => rfl
  have F27 := fun_mk (st := s_l_yes) l27 c27 k27
  have b27 := F27.binds (ps := p_l_yes) fun _ _ _ _ _ _ us hl => match us, hl with | [_, _, _, _], _ => rfl
  have F28 := fun_mk (st := s_l_added) l28 c28 k28
  have b28 := F28.binds (ps := p_l_added) fun _ _ _ _ _ _ us hl => match us, hl with | [_, _, _], _ => rfl
  have F29 := fun_mk (st := s_l_right) l29 c29 k29
  have b29 := F29.binds (ps := p_l_right) fun _ _ _ _ _ _ us hl => match us, hl with | [_], _ => rfl
  have F30 := fun_mk (st := s_law) l30 c30 k30
  have b30 := F30.binds (ps := p_law) fun _ _ _ _ _ _ us hl => match us, hl with | [_], _ => rfl
  have U : Funs K A fd := {
    F_is_integer := F0, b_is_integer := b0,
    F_is_between := F1, b_is_between := b1,
    F_is_ascending := F2, b_is_ascending := b2,
    F_is_stands := F3, b_is_stands := b3,
    F_is_arrows := F4, b_is_arrows := b4,
    F_is_goals := F5, b_is_goals := b5,
    F_check_signs := F6, b_check_signs := b6,
    F_check_length := F7, b_check_length := b7,
    F_flags_of := F8, b_flags_of := b8,
    F_links_of := F9, b_links_of := b9,
    F_Reader_init := F10, b_Reader_init := b10,
    F_Reader_signs := F11, b_Reader_signs := b11,
    F_Reader_arrows := F12, b_Reader_arrows := b12,
    F_Reader_ends := F13, b_Reader_ends := b13,
    F_Reader_len := F14, b_Reader_len := b14,
    F_check_reader := F15, b_check_reader := b15,
    F_end_flags := F16, b_end_flags := b16,
    F_counts_up_to := F17, b_counts_up_to := b17,
    F_count_of := F18, b_count_of := b18,
    F_rows_of := F19, b_rows_of := b19,
    F_l_barrel := F20, b_l_barrel := b20,
    F_l_dip := F21, b_l_dip := b21,
    F_l_one_of := F22, b_l_one_of := b22,
    F_l_arrows_for := F23, b_l_arrows_for := b23,
    F_l_ends_for := F24, b_l_ends_for := b24,
    F_l_walk := F25, b_l_walk := b25,
    F_l_upto := F26, b_l_upto := b26,
    F_l_yes := F27, b_l_yes := b27,
    F_l_added := F28, b_l_added := b28,
    F_l_right := F29, b_l_right := b29,
    F_law := F30, b_law := b30 }
  exact ⟨PySem.W.fnOf "law" "law" (defArgs s_law) (defBody s_law) (defScope s_law) .none kV30 dc30 pm30 an30 cd30 ct30, fun s u => .of_eq rfl, fun base _ _ => ok_law T U⟩
end K6
open PySem PySem.W PyProof.Rows
set_option maxRecDepth 100000 in
set_option maxHeartbeats 0 in
theorem PySem.Challenge.cw_rowreaders_k06_whole_counts_and_lists_holds : PySem.Challenge.rw_rowreaders_k06_whole_counts_and_lists.Holds := by
  w_on; o_law; k_head; (case hw => w_witness2)
  k_fill
  refine Rw.walkG (l := PySem.Challenge.rw_rowreaders_k06_whole_counts_and_lists) (n := 63) (k := 19) (x := "_law_script") (sp := K6.spLaw) rfl (by decide) rfl ⟨rfl, by decide, by decide⟩ (fun w h Y => PySem.W.kIn_of Y) ?F (fun K H a ns hl _ hS => ⟨a, ns, rfl, hS, hl, fun _ => rfl⟩)
  case F =>
    intro w mg fa h KX G hmg
    refine' K6.all_mk KX G hmg ?aC ?a0 ?a1 ?a2 ?a3 ?a4 ?a5 ?a6 ?a7 ?a8 ?a9 ?a10 ?i10 ?a14 ?i14 ?a15 ?a16 ?a17 ?a18 ?a19 ?a20 ?a21 ?a22 ?a23 ?a24 ?a25 ?a26 ?a27 ?a28 ?a29 ?a30 ?u1 ?v1 ?w1 ?x1 ?u2 ?v2 ?w2 ?x2 ?u3 ?v3 ?w3 ?x3 ?l0 ?c0 ?k0 ?l1 ?c1 ?k1 ?l2 ?c2 ?k2 ?l3 ?c3 ?k3 ?l4 ?c4 ?k4 ?l5 ?c5 ?k5 ?l6 ?c6 ?k6 ?l7 ?c7 ?k7 ?l8 ?c8 ?k8 ?l9 ?c9 ?k9 ?l10 ?c10 ?k10 ?l11 ?c11 ?k11 ?l12 ?c12 ?k12 ?l13 ?c13 ?k13 ?l14 ?c14 ?k14 ?l15 ?c15 ?k15 ?l16 ?c16 ?k16 ?l17 ?c17 ?k17 ?l18 ?c18 ?k18 ?l19 ?c19 ?k19 ?l20 ?c20 ?k20 ?l21 ?c21 ?k21 ?l22 ?c22 ?k22 ?l23 ?c23 ?k23 ?l24 ?c24 ?k24 ?l25 ?c25 ?k25 ?l26 ?c26 ?k26 ?l27 ?c27 ?k27 ?l28 ?c28 ?k28 ?l29 ?c29 ?k29 ?l30 ?c30 ?k30 ?pg ?hd ?po ?sa ?mk ?kc ?n1 ?n2 ?n3 ?tha ?thn ?ttk ?tmo ?yg0 ?yg1 ?yg2 ?yg3 ?yg4 ?yz0 ?yz1 ?yz2 ?yz3 ?yz4 ?yz5 ?yz6 ?yz7 ?yz8 ?yz9 ?yz10 ?yz11 ?yz12
    (case aC => k_is)
    (case a0 => k_is)
    (case a1 => k_is)
    (case a2 => k_is)
    (case a3 => k_is)
    (case a4 => k_is)
    (case a5 => k_is)
    (case a6 => k_is)
    (case a7 => k_is)
    (case a8 => k_is)
    (case a9 => k_is)
    (case a10 => k_is)
    (case i10 => k_is)
    (case a14 => k_is)
    (case i14 => k_is)
    (case a15 => k_is)
    (case a16 => k_is)
    (case a17 => k_is)
    (case a18 => k_is)
    (case a19 => k_is)
    (case a20 => k_is)
    (case a21 => k_is)
    (case a22 => k_is)
    (case a23 => k_is)
    (case a24 => k_is)
    (case a25 => k_is)
    (case a26 => k_is)
    (case a27 => k_is)
    (case a28 => k_is)
    (case a29 => k_is)
    (case a30 => k_is)
    (case u1 => k_is)
    (case v1 => k_is)
    (case w1 => k_is)
    (case x1 => k_is)
    (case u2 => k_is)
    (case v2 => k_is)
    (case w2 => k_is)
    (case x2 => k_is)
    (case u3 => k_is)
    (case v3 => k_is)
    (case w3 => k_is)
    (case x3 => k_is)
    (case l0 => k_is)
    (case c0 => k_is)
    (case k0 => k_is)
    (case l1 => k_is)
    (case c1 => k_is)
    (case k1 => k_is)
    (case l2 => k_is)
    (case c2 => k_is)
    (case k2 => k_is)
    (case l3 => k_is)
    (case c3 => k_is)
    (case k3 => k_is)
    (case l4 => k_is)
    (case c4 => k_is)
    (case k4 => k_is)
    (case l5 => k_is)
    (case c5 => k_is)
    (case k5 => k_is)
    (case l6 => k_is)
    (case c6 => k_is)
    (case k6 => k_is)
    (case l7 => k_is)
    (case c7 => k_is)
    (case k7 => k_is)
    (case l8 => k_is)
    (case c8 => k_is)
    (case k8 => k_is)
    (case l9 => k_is)
    (case c9 => k_is)
    (case k9 => k_is)
    (case l10 => k_is)
    (case c10 => k_is)
    (case k10 => k_is)
    (case l11 => k_is)
    (case c11 => k_is)
    (case k11 => k_is)
    (case l12 => k_is)
    (case c12 => k_is)
    (case k12 => k_is)
    (case l13 => k_is)
    (case c13 => k_is)
    (case k13 => k_is)
    (case l14 => k_is)
    (case c14 => k_is)
    (case k14 => k_is)
    (case l15 => k_is)
    (case c15 => k_is)
    (case k15 => k_is)
    (case l16 => k_is)
    (case c16 => k_is)
    (case k16 => k_is)
    (case l17 => k_is)
    (case c17 => k_is)
    (case k17 => k_is)
    (case l18 => k_is)
    (case c18 => k_is)
    (case k18 => k_is)
    (case l19 => k_is)
    (case c19 => k_is)
    (case k19 => k_is)
    (case l20 => k_is)
    (case c20 => k_is)
    (case k20 => k_is)
    (case l21 => k_is)
    (case c21 => k_is)
    (case k21 => k_is)
    (case l22 => k_is)
    (case c22 => k_is)
    (case k22 => k_is)
    (case l23 => k_is)
    (case c23 => k_is)
    (case k23 => k_is)
    (case l24 => k_is)
    (case c24 => k_is)
    (case k24 => k_is)
    (case l25 => k_is)
    (case c25 => k_is)
    (case k25 => k_is)
    (case l26 => k_is)
    (case c26 => k_is)
    (case k26 => k_is)
    (case l27 => k_is)
    (case c27 => k_is)
    (case k27 => k_is)
    (case l28 => k_is)
    (case c28 => k_is)
    (case k28 => k_is)
    (case l29 => k_is)
    (case c29 => k_is)
    (case k29 => k_is)
    (case l30 => k_is)
    (case c30 => k_is)
    (case k30 => k_is)
    (case pg => k_is)
    (case hd => k_is)
    (case po => k_is)
    (case sa => k_is)
    (case mk => k_is)
    (case kc => k_is)
    (case n1 => k_is)
    (case n2 => k_is)
    (case n3 => k_is)
    (case tha => k_is)
    (case thn => k_is)
    (case ttk => k_is)
    (case tmo => k_is)
    (case yg0 => k_is)
    (case yg1 => k_is)
    (case yg2 => k_is)
    (case yg3 => k_is)
    (case yg4 => k_is)
    (case yz0 => k_is)
    (case yz1 => k_is)
    (case yz2 => k_is)
    (case yz3 => k_is)
    (case yz4 => k_is)
    (case yz5 => k_is)
    (case yz6 => k_is)
    (case yz7 => k_is)
    (case yz8 => k_is)
    (case yz9 => k_is)
    (case yz10 => k_is)
    (case yz11 => k_is)
    (case yz12 => k_is)


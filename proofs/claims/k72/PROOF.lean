import PyProof.Rows.All
import Wide.All
import OpenK.AllK
import Wide.FinOn
import HandS.ForMost
import HandS.Wide
import HandS.Codes
import PyProof.ReprRoads
import HandS.Conv
import HandS.IsInst
import HandS.Style
import HandS.TupAny
import HandS.ForExc
import HandS.ExcIs
import HandS.ExcInit
import HandS.ExcField
import HandS.ExcOwn
import KE.KExcIs
import KE.KExcInit
import PyProof.ExcBaseAll.LookupError
import HandS.Lambda
import HandS.Dict
import HandS.OwnEq
import HandS.SlotsOwn
import KE.KCallOwn
import KE.KOpsOwn
import KE.KFmtOwn
import OpenK.KMeth
import PyProof.AssignAttr
import HandS.Star
import HandS.EndOwn
import HandS.TupMul
import HandS.Gcd
import KE.KMathGC
import PySem.Challenge.RW_smallchange_k72_whole_rules_joined_as_ob
set_option Elab.async false
set_option linter.all false
set_option maxRecDepth 100000
set_option maxHeartbeats 4000000
namespace Sm
open PySem PySem.Spec PyProof.Rows L2
/-! ### promises of defs where no repr is under way: as FnOk, with A's guards empty -/
structure FnG (P : Program) (w : World) (K : PySem.W.Frag) (mg : Str → Option Value) (base : Heap) (k : Nat) (f : Addr) (fd : FuncData) (ps : List Str) (sp : Sp) : Prop where
  len : ∀ vs H Q E, sp vs H Q E → vs.length = ps.length
  run : ∀ (A : Around) (outer : List Env) (s : Shared) (H : Hp) (args : Args) (us : List Value) (vs : List V) (Q : VK) (E : XK), A.guards = some [] → Room k A →
    Env0 P w K mg base A outer s H → BindsTo s fd args (ps.zip us) → Vals vs us → sp vs H Q E → codeAny (model P w) A (.call (.ref f) args) (CR CX0 outer P w H s Q E) s
section
variable {P : Program} {w : World} {K : PySem.W.Frag} {mg : Str → Option Value} {base : Heap} {k : Nat} {f : Addr} {fd : FuncData} {ps : List Str} {sp : Sp}
theorem FnG.of (F : FnOk P w K mg base CX0 k f fd ps sp) : FnG P w K mg base k f fd ps sp :=
  ⟨F.len, fun A outer s H args us vs Q E _ hr e b v h => F.run A outer s H args us vs Q E hr e b v h⟩
theorem FnG.body {x : Str} {st : Stmt} {N : List Str} (F : Fun K x x st f fd) (S : FnScope N ps (defScope st)) (len : ∀ vs H Q E, sp vs H Q E → vs.length = ps.length)
    (hb : ∀ (cdv : Value) (A : Around) (outer : List Env) (s : Shared) (H : Hp) (vs : List V) (Q : VK) (E : XK), A.guards = some [] → Room k (A.deeper (envOfC x (defScope st) s.heap.objs.size f cdv)) → sp vs H Q E →
      ∃ t, PSs (cxOf CX0 P w K mg base N x (defScope st) f cdv A outer s H E).nox (defBody st) t ∧ t { nx := fun _ H' => Q .non H', rt := Q } (start N vs) H) : FnG P w K mg base (k + 1) f fd ps sp := by
  obtain ⟨oc, od, kV, doc, pm, an, cdv, ct, osl, efd, look, code⟩ := F.ex
  subst efd
  constructor
  · exact len
  intro A outer s H args us vs Q E guard room e0 bind rel want
  have inn : K.In s.heap := e0.mod.kin.keeps fun b o e => (e0.bs b o e).1
  have nolim : s.heap.NoLimit := e0.mod.nolimit.keeps fun b o e => (e0.bs b o e).1
  refine codeAny_call_function room.depth (inn _ _ look) rfl S.co S.gen rfl (PySem.W.codeRec_of inn code) (bind _ _ _ _ ?_)
  refine wpAny_newFunctionEnv_cells S.kind ?_ ?_
  · rintro ⟨n, v⟩ there
    have := S.par n (List.of_mem_zip there).1
    cases this with
    | inl q => exact .inl q
    | inr q => exact .inr ⟨q, PySem.W.cellsFrom_some _ _ _ (.inl q)⟩
  · intro env eenv s1 laid
    subst eenv
    refine ⟨nolim.keeps laid.toInCall.keep, codeAny_func ?_⟩
    obtain ⟨t, der, goal⟩ := hb cdv A outer s H vs Q E guard (room.deeper _) want
    have I := inv_start (CX := CX0) (E := E) S room.hd e0 (len _ _ _ _ want) rel laid
    refine wpAny_mono (der.nox.run [] s1 (start N vs) H _ I goal) (fun out s' got => ?_) fun e s' got => got
    match out, got with
    | .ret u, ⟨v, σ', H', J, rv, q⟩ => exact ⟨v, H', J.os, J.bare, J.base, J.hok, rv, q⟩
    | .next, ⟨σ', H', J, q⟩ => exact ⟨V.non, H', J.os, J.bare, J.base, J.hok, rfl, q⟩
    | .brk, ⟨_, _, _, q⟩ => exact q.elim
    | .cont, ⟨_, _, _, q⟩ => exact q.elim
end
section
variable {X : Cx} {k : Nat} {f : Addr} {fd : FuncData} {ps : List Str} {sp : Sp} {x : Str} {p pos : Pos} {e : Expr} {es : List Expr} {t : TA}
theorem pe_callG (F : FnG X.prog X.w X.K X.mg X.base k f fd ps sp) (gu : X.A.guards = some []) (hr : Room k X.A) (hg : Gl X x) (hm : X.mg x = some (.ref f)) (hk : PySem.W.keepIn X.K (.ref f) = true) (hb : Binds X.K fd ps [])
    (ha : PA X (e :: es) t) (hdb : (x == ("__debug__" : Str)) = false := by decide) (he : starEach (e :: es) X.env = (false, eval e X.env) :: starEach es X.env := by rfl) (hpl : (backTo pos (starEach es X.env)).any (·.1) = false := by rfl) :
    PE X (.Call (.Name x p) (e :: es) [] pos) (tCall sp [] E0 t) := by
  constructor
  intro pins s σ H Q I want
  refine wpAny_Call_Name_kw (ld_glob I hg hm ?_ hdb)
  refine PySem.W.callWith_K (h₀ := X.base) I.ok.mod.kin hk (thn (ha.run pos pins s σ H _ I want) ?_) he hpl
  rintro us s1 ⟨vs, H1, I1, rel, q⟩
  refine ⟨I1.kIn, ?_⟩
  have q : sp vs H1 Q E0 := by
    have q : sp (vs ++ []) H1 Q E0 := q
    rw [List.append_nil] at q
    exact q
  have b := hb s1 us I1.kIn (by rw [List.append_nil, ← rel.length]; exact F.len _ _ _ _ q)
  rw [List.append_nil] at b
  refine wpAny_call (codeAny_mono (F.run X.A X.stack s1 H1 ⟨us, []⟩ us vs Q E0 gu hr I1.env0 b rel q) ?_)
  rintro (e | out) s' got
  · exact got.elim
  · match out, got with
    | .ret u, got => exact I1.after got
    | .next, got => exact got.elim
    | .brk, got => exact got.elim
    | .cont, got => exact got.elim
/-- repr of data at any depth -/
theorem call_repr_data (gu : X.A.guards = some []) (room : ∃ k, Room k X.A) : CallR X (.builtin "repr") (fun xs H Q => ∃ a d, xs = [.ref a] ∧ Dp X.K H (.ref a) d ∧ PyData.showable d = true ∧ PyData.hasDict d = false ∧ d.depth ≤ 60 ∧ d.shown.length ≤ sizeLine ∧ Q (.str d.shown) H) := by
  intro pins s σ H xs us Q I rel want
  obtain ⟨a, d, rfl, data, sh, nd, dep, len, q⟩ := want
  obtain ⟨u, rfl, ru⟩ := vals1 rel
  obtain ⟨as, reads⟩ := Dp.reads I d _ u data ru
  cases ru
  obtain ⟨k, room⟩ := room
  have un := room.un
  exact repr_of_reads' reads sh (PyData.noDict_hsm nd) gu (by omega) (fun _ _ e => e) (fun h' v tk keep => ⟨.str d.shown, H, I.kept keep, ⟨_, rfl⟩, q⟩) len
end
/-! ### the law's own call, at the caller's place -/
theorem law_at {P : Program} {w : World} {K : PySem.W.Frag} {mg mb : Str → Option Value} {k : Nat} {fa a : Addr} {fd : FuncData} {x : Str} {sp : Sp} {s₁ : Shared} {vs : List Value} {ns : List Int}
    (KX : K.In s₁.heap) (hns : s₁.heap.Ns mainGlobals mg) (hb : s₁.heap.Ns builtinsNs mb) (hbb : ∀ x : Str, x ≠ "__name__" → mb x = bootBuiltins x) (hlim : s₁.heap.NoLimit) (hg : s₁.gens = #[])
    (ha : s₁.heap.get? a = some { cls := .type "list", data := .seq vs.toArray }) (hi : IntsAre vs ns) (hl : ns.length ≤ sizeLine) (hr : Room k callerA)
    (F : ∀ base : Heap, K.In base → base.Ns mainGlobals mg → FnG P w K mg base k fa fd [x] sp) (hbind : ∀ (s : Shared) (u : Value), BindsTo s fd ⟨[u], []⟩ [(x, u)])
    (hsp : ∀ H : Hp, SqL K H a (ns.map V.int) → sp [.ref a] H (fun v _ => v = .bl true) E0) :
    codeAny (model P w) callerA (.call (.ref fa) ⟨[.ref a], []⟩) (fun r s' => r = .ok (.ret (.bool true)) ∧ OldK s₁.heap s'.heap ∧ s'.os = s₁.os ∧ AllBare s'.gens) s₁ := by
  have ivs := vals_ints hi
  -- what is tracked: the script, if the module does not hold it itself
  obtain ⟨H, seq, ok, only, free⟩ : ∃ H : Hp, SqL K H a (ns.map V.int) ∧ HOk P w H s₁.heap ∧ (∀ b u, H b = some u → b = a ∧ u = .frz { cls := .type "list", data := .seq vs.toArray } (.lst (ns.map V.int))) ∧ ∀ b u, H b = some u → K.lookup b = none := by
    cases look : K.lookup a with
    | some o =>
      have same := KX a o look
      rw [ha] at same
      injection same with same
      subst same
      have empty : ∀ {u : HO}, (none : Option HO) = some u → False := fun z => nomatch z
      refine ⟨fun _ => none, .inr ⟨_, vs.toArray, _, look, rfl, rfl, rfl, ?_, ?_⟩, fun b u z => (empty z).elim, fun b u z => (empty z).elim, fun b u z => (empty z).elim⟩
      · rw [List.size_toArray, hi.length]
        exact hl
      · simpa using ivs
    | none =>
      have at_a : ∀ b u, (fun b => if b = a then some (HO.frz { cls := .type "list", data := .seq vs.toArray } (.lst (ns.map V.int))) else none : Hp) b = some u → b = a ∧ u = .frz { cls := .type "list", data := .seq vs.toArray } (.lst (ns.map V.int)) := by
        intro b u z
        by_cases e : b = a
        · have z := (if_pos e).symm.trans z
          exact ⟨e, (Option.some.inj z).symm⟩
        · exact nomatch (if_neg e).symm.trans z
      refine ⟨_, .inl (.inr ⟨_, if_pos rfl⟩), fun b u z => ?_, at_a, fun b u z => ?_⟩
      · obtain ⟨rfl, rfl⟩ := at_a b u z
        exact ⟨ha, by rw [List.length_map]; exact hl, vs, _, ivs, ha⟩
      · rw [(at_a b u z).1]
        exact look
  have stays : ∀ {b : Addr} {o : Obj}, s₁.heap.get? b = some o → (∀ u, H b ≠ some u) → (hidT s₁.heap H).get? b = some o := fun {b o} e no => hidT_get e (by
    cases z : H b with
    | none => rfl
    | some u => exact (no u z).elim)
  have spaces : ∀ {b : Addr} {m : Str → Option Value}, s₁.heap.Ns b m → (hidT s₁.heap H).Ns b m := by
    rintro b m ⟨o, es, ep, there, data, rest⟩
    refine ⟨o, es, ep, stays there fun u z => ?_, data, rest⟩
    rw [(only b u z).1, ha] at there
    injection there with there
    subst there
    exact nomatch data
  have inn : K.In (hidT s₁.heap H) := fun b o e => stays (KX b o e) fun u z => by
    rw [free b u z] at e
    exact nomatch e
  have mod : Mod K mg (hidT s₁.heap H) := by
    obtain ⟨mc, c1, c2⟩ := hlim
    exact ⟨inn, spaces hns, ⟨mb, spaces hb, hbb⟩, mc, spaces c1, c2⟩
  have e0 : Env0 P w K mg (hidT s₁.heap H) callerA [] s₁ H := by
    refine ⟨rfl, mod, fun b o e => of_hidT e, Nat.le_of_eq (hidT_size _ _), trivial, ?_, ok, .of_eq hg⟩
    intro b q
    exact absurd q (List.not_mem_nil (a := b))
  refine codeAny_mono ((F _ inn (spaces hns)).run callerA [] s₁ H ⟨[.ref a], []⟩ [.ref a] [.ref a] _ _ rfl hr e0 (hbind s₁ (.ref a)) (.cons rfl .nil) (hsp H seq)) ?_
  rintro (e | out) s' got
  · exact got.elim
  · match out, got with
    | .next, got => exact got.elim
    | .brk, got => exact got.elim
    | .cont, got => exact got.elim
    | .ret u, ⟨v, H', os, bare, un, ok', rel, q⟩ =>
      have q : v = V.bl true := q
      subst q
      have rel : u = Value.bool true := rel
      subst rel
      refine ⟨rfl, .of_keep fun b o e => ?_, os, bare⟩
      cases z : H b with
      | none => exact un.keep b o e z (List.not_mem_nil (a := b)) (List.not_mem_nil (a := b))
      | some u =>
        obtain ⟨rfl, rfl⟩ := only b u z
        have now := (ok' _ _ (un.frzs _ _ _ z)).1
        rw [ha] at e
        injection e with e
        rw [← e]
        exact now
theorem walk_at_law {l : PySem.W.OpenLaw} {k : Nat} {q : Program} {loose : List Str} {XP : (Str → Option Value) → Heap → Prop} {YP : World → Heap → Prop} {d : DefRec} {K : Params → PySem.W.Frag} {sp : PySem.W.Frag → Sp} {x : Str}
    (hn : l.most = some 63) (hdf : d.params.defaults = []) (hr : Room k callerA) (hY : ∀ (w : World) (h : Heap), YP w h → (K w.params).In h)
    (F : ∀ (w : World) (mg : Str → Option Value) (fa : Addr) (h : Heap), (K w.params).In h → h.Ns mainGlobals mg → mg d.name = some (.ref fa) →
      ∃ fd : FuncData, (∀ (s : Shared) (u : Value), BindsTo s fd ⟨[u], []⟩ [(x, u)]) ∧ ∀ base : Heap, (K w.params).In base → base.Ns mainGlobals mg → FnG l.prog w (K w.params) mg base k fa fd [x] (sp (K w.params)))
    (hsp : ∀ (K : PySem.W.Frag) (H : Hp) (a : Addr) (ns : List Int), ns.length ≤ 63 → SqL K H a (ns.map V.int) → sp K [.ref a] H (fun v _ => v = .bl true) E0) :
    PySem.W.WalkO q loose XP YP l.row.toRowW d [] (fun f vs => PySem.call f vs) := by
  refine Att.attach_call hn hdf ?_
  intro w s₀ s₁ mg mb fa o pm cd doc a vs ns G Y ho hd hcd hmg hobj hints hlen hg
  obtain ⟨fd, bind, each⟩ := F w mg fa _ (hY w _ Y) G.T.g hmg
  exact law_at (hY w _ Y) G.T.g G.T.b G.T.builtins G.T.nolimit hg hobj hints (Nat.le_trans hlen (by decide)) hr each bind fun H sq => hsp (K w.params) H a ns hlen sq
end Sm

set_option Elab.async false
set_option linter.all false
set_option maxRecDepth 100000
set_option maxHeartbeats 4000000
namespace Sm
open PySem PySem.Spec PyProof.Rows L2
section
variable {P : Program} {w : World} {K : PySem.W.Frag} {mg : Str → Option Value} {base : Heap}
def Df (K : PySem.W.Frag) (mg : Str → Option Value) (x : Str) (st : Stmt) (ps : List Str) : Prop :=
  ∃ (f : Addr) (fd : FuncData), Fun K x x st f fd ∧ mg x = some (.ref f) ∧ Binds K fd ps []
def Cal (P : Program) (w : World) (K : PySem.W.Frag) (mg : Str → Option Value) (base : Heap) (x : Str) (ps : List Str) (k : Nat) (sp : Sp) : Prop :=
  ∃ (f : Addr) (fd : FuncData), FnOk P w K mg base CX0 k f fd ps sp ∧ mg x = some (.ref f) ∧ PySem.W.keepIn K (.ref f) = true ∧ Binds K fd ps []
theorem Df.cal {x : Str} {st : Stmt} {N ps : List Str} {k : Nat} {sp : Sp} (D : Df K mg x st ps) (S : FnScope N ps (defScope st)) (len : ∀ vs H Q E, sp vs H Q E → vs.length = ps.length)
    (hbody : ∀ (f : Addr) (cdv : Value) (A : Around) (outer : List Env) (s : Shared) (H : Hp) (vs : List V) (Q : VK) (E : XK), Room k (A.deeper (envOfC x (defScope st) s.heap.objs.size f cdv)) → sp vs H Q E →
      ∃ t, PSs (cxOf CX0 P w K mg base N x (defScope st) f cdv A outer s H E).nox (defBody st) t ∧ t { nx := fun _ H' => Q .non H', rt := Q } (start N vs) H) : Cal P w K mg base x ps (k + 1) sp := by
  obtain ⟨f, fd, F, m, b⟩ := D
  exact ⟨f, fd, F.ok S len (fun cdv A outer s H vs Q E hr h => hbody f cdv A outer s H vs Q E hr h), m, F.kp, b⟩
theorem same_upd {H : Hp} {p : Addr} {o : HO} (h : H p = none) : Same H (upd H p o) := fun b x e => by
  rw [upd_ne (ne_of_none e h)]
  exact e
theorem iteP {p A B : Prop} [Decidable p] (h : p) (a : A) : if decide p = true then A else B := by
  rw [decide_eq_true h]
  exact iteT a
theorem iteN {p A B : Prop} [Decidable p] (h : ¬ p) (b : B) : if decide p = true then A else B := by
  rw [decide_eq_false h]
  exact iteF b
theorem iteNP {p A B : Prop} [Decidable p] (h : p) (b : B) : if (!decide p) = true then A else B := by
  rw [decide_eq_true h]
  exact iteF b
theorem iteNN {p A B : Prop} [Decidable p] (h : ¬ p) (a : A) : if (!decide p) = true then A else B := by
  rw [decide_eq_false h]
  exact iteT a
theorem ite3 {p A B : Prop} [Decidable p] (h1 : p → A) (h2 : ¬ p → B) : if decide p = true then A else B := by
  by_cases h : p
  · exact iteP h (h1 h)
  · exact iteN h (h2 h)
theorem fmod_pos {a b : Int} (h : 0 < b) : a.fmod b = a % b := Int.fmod_eq_emod_of_nonneg a (by omega)
end
/-! ### the deck -/
structure Deck (H : Hp) (p l : Addr) (n : Int) : Prop where
  hp : H p = some (.lst [.ref l, .int n])
  hl : ∃ cells : List Int, H l = some (.lst (cells.map V.int)) ∧ (∀ c ∈ cells, 0 ≤ c) ∧ cells.length ≤ 63
theorem deck_ne {l : Addr} {n : Int} {cells : List Int} : HO.lst [.ref l, .int n] ≠ HO.lst (cells.map V.int) := by
  intro q
  injection q with q
  cases cells with
  | nil => cases q
  | cons c r => cases (List.cons.inj q).1
/-- all but the deck is as it was -/
def Fr (p l : Addr) (H H' : Hp) : Prop := ∀ b o, b ≠ p → b ≠ l → H b = some o → H' b = some o
theorem Fr.trans {p l : Addr} {H H1 H2 : Hp} (a : Fr p l H H1) (b : Fr p l H1 H2) : Fr p l H H2 := fun c o h1 h2 h => b c o h1 h2 (a c o h1 h2 h)
theorem Same.fr {p l : Addr} {H H' : Hp} (s : Same H H') : Fr p l H H' := fun b o _ _ h => s b o h
theorem Deck.same {H H' : Hp} {p l : Addr} {n : Int} (D : Deck H p l n) (s : Same H H') : Deck H' p l n := by
  obtain ⟨cells, hl, hc⟩ := D.hl
  exact ⟨s _ _ D.hp, cells, s _ _ hl, hc⟩
theorem Fr.tup {H H' : Hp} {p l b : Addr} {n : Int} {xs : List V} (f : Fr p l H H') (D : Deck H p l n) (h : H b = some (.tup xs)) : H' b = some (.tup xs) := by
  obtain ⟨cells, hl, hc⟩ := D.hl
  exact f b _ (ne_of h D.hp (by intro q; cases q)) (ne_of h hl (by intro q; cases q)) h
def sp_l_deck (K : PySem.W.Frag) : Sp := fun vs H Q _ => ∃ (a : Addr) (ns : List Int), vs = [.ref a] ∧ SqL K H a (ns.map V.int) ∧ ns.length ≤ 63 ∧ ∀ H' p l, Same H H' → Deck H' p l 0 → Q (.ref p) H'
def sp_l_draw (K : PySem.W.Frag) : Sp := fun vs H Q _ => ∃ (p l : Addr) (n m : Int), vs = [.ref p, .int m] ∧ Deck H p l n ∧ 0 ≤ n ∧ n ≤ 1000000 ∧ 0 < m ∧ m ≤ 1000000000000000000000000000000000000000000000000000000000000 ∧
  ∀ r H', 0 ≤ r → r < m → Fr p l H H' → Deck H' p l (n + 1) → Q (.int r) H'
def sp_l_one (K : PySem.W.Frag) : Sp := fun vs H Q _ => ∃ (p l b : Addr) (n : Int) (xs : List V), vs = [.ref p, .ref b] ∧ Deck H p l n ∧ 0 ≤ n ∧ n ≤ 1000000 ∧ H b = some (.lst xs) ∧ b ≠ p ∧ b ≠ l ∧ 0 < xs.length ∧ xs.length ≤ 1000 ∧
  ∀ x H', x ∈ xs → Fr p l H H' → Deck H' p l (n + 1) → Q x H'
theorem cut63 {ns : List Int} (h : ns.length ≤ 63) : cutV (ns.map V.int) none (some 63) = ns.map V.int := by
  unfold cutV
  rw [HT.sIx_none, show HT.sIx (ns.map V.int).length (ns.map V.int).length (some 63) = min 63 (ns.map V.int).length from HT.sIx_nat _ _ 63]
  rw [List.length_map, Nat.min_eq_right h, List.drop_zero]
  exact List.take_of_length_le (by rw [List.length_map]; omega)
def absI (n : Int) : Int := if n < 0 then -n else n
theorem absI_pos (n : Int) : 0 ≤ absI n := by
  unfold absI
  split <;> omega
theorem div_draw {c m : Int} (h0 : 0 < m) (h : m ≤ 1000000000000000000000000000000000000000000000000000000000000) : CDivW c m :=
  wide_div (b := 300) h0 (by omega) (by decide) (by decide)
theorem cut_all {xs : List V} {n : Nat} : cutV xs none (some (n : Int)) = xs.take n := by
  unfold cutV
  rw [HT.sIx_none, HT.sIx_nat, List.drop_zero, Nat.sub_zero]
  rcases Nat.le_total n xs.length with h | h
  · rw [Nat.min_eq_left h]
  · rw [Nat.min_eq_right h, List.take_length, List.take_of_length_le h]
theorem ne_new {H : Hp} {p b : Addr} {o : HO} (h : H p = some o) (n : H b = none) : b ≠ p := (ne_of_none h n).symm
/-- what the deck's second list is not -/
theorem Deck.lne {H : Hp} {p l b : Addr} {n : Int} (D : Deck H p l n) (h : H b = none) : b ≠ p ∧ b ≠ l := by
  obtain ⟨cells, hl, hc⟩ := D.hl
  exact ⟨ne_new D.hp h, ne_new hl h⟩
section
variable {X : Cx}
/-- repr of an int or None -/
theorem call_repr_some : CallR X (.builtin "repr") (fun xs H Q => (∃ i, xs = [.int i] ∧ i.natAbs.log2 < 1920 ∧ Q (.str (toString i)) H) ∨ (xs = [.non] ∧ Q (.str "None") H)) := by
  intro pins s σ H xs us Q I r h
  rcases h with ⟨i, rfl, hz, q⟩ | ⟨rfl, q⟩
  · obtain ⟨u, rfl, t, rfl⟩ := vals1 r
    exact PySem.P.repr_of_int hz ⟨.str _, H, I.tok _, ⟨_, rfl⟩, q⟩
  · obtain ⟨u, rfl, rfl⟩ := vals1 r
    exact PySem.P.repr_of_none ⟨.str _, H, I.tok _, ⟨_, rfl⟩, q⟩
def dataI (ns : List Int) : PyData := .list (ns.map PyData.int)
theorem dp_ints {K : PySem.W.Frag} {H : Hp} : ∀ ns : List Int, DpAll K H (ns.map V.int) (ns.map PyData.int)
  | [] => .nil
  | n :: ns => .cons (.int n) (dp_ints ns)
theorem showable_ints : ∀ {ns : List Int}, (∀ n ∈ ns, n.natAbs.log2 < 1920) → PyData.showableAll (ns.map PyData.int) = true
  | [], _ => rfl
  | n :: ns, h => by
    have a := h n (List.mem_cons_self ..)
    have b := showable_ints (ns := ns) fun m hm => h m (List.mem_cons_of_mem _ hm)
    simp only [List.map_cons, PyData.showableAll, PyData.showable, decide_eq_true a, b, Bool.and_self]
theorem hasDict_ints : ∀ ns : List Int, PyData.hasDictAll (ns.map PyData.int) = false
  | [] => rfl
  | n :: ns => by
    simp only [List.map_cons, PyData.hasDictAll, PyData.hasDict, hasDict_ints ns, Bool.or_self]
theorem depth_ints : ∀ ns : List Int, PyData.depthAll (ns.map PyData.int) ≤ 1
  | [] => by simp [PyData.depthAll]
  | n :: ns => by
    have := depth_ints ns
    simp only [List.map_cons, PyData.depthAll, PyData.depth]
    omega
theorem shown_ints : ∀ {ns : List Int}, (∀ n ∈ ns, n.natAbs.log2 < 1920) → ((PyData.shownAll (ns.map PyData.int)).map (·.length)).sum ≤ 1921 * ns.length ∧ (PyData.shownAll (ns.map PyData.int)).length = ns.length
  | [], _ => by simp [PyData.shownAll]
  | n :: ns, h => by
    have a := PyProof.Rows.int_text_len_1921 (h n (List.mem_cons_self ..))
    obtain ⟨b, c⟩ := shown_ints (ns := ns) fun m hm => h m (List.mem_cons_of_mem _ hm)
    simp only [List.map_cons, PyData.shownAll, PyData.shown, List.sum_cons, List.length_cons]
    omega
/-- repr of a list of ints -/
theorem call_repr_ints (gu : X.A.guards = some []) (room : ∃ k, Room k X.A) : CallR X (.builtin "repr") (fun xs H Q => ∃ a ns, xs = [.ref a] ∧ SqL X.K H a (ns.map V.int) ∧ ns.length ≤ 5000 ∧ (∀ n ∈ ns, n.natAbs.log2 < 1920) ∧ Q (.str (dataI ns).shown) H) := by
  intro pins s σ H xs us Q I r h
  obtain ⟨a, ns, rfl, hS, len, small, q⟩ := h
  refine call_repr_data gu room pins s σ H _ us Q I r ⟨a, dataI ns, rfl, .lst hS (dp_ints ns), ?_, ?_, ?_, ?_, q⟩
  · unfold dataI
    simp only [PyData.showable, showable_ints small]
  · unfold dataI
    simp only [PyData.hasDict, hasDict_ints]
  · have := depth_ints ns
    unfold dataI
    simp only [PyData.depth]
    omega
  · obtain ⟨s1, s2⟩ := shown_ints small
    have := listText_len_le (PyData.shownAll (ns.map PyData.int))
    unfold dataI
    simp only [PyData.shown]
    rw [sizeLine_eq]
    omega
end
end Sm

set_option Elab.async false
set_option linter.all false
set_option maxRecDepth 100000
set_option maxHeartbeats 4000000
namespace Sm
open PySem PySem.Spec PyProof.Rows L2
/-- isinstance of the exception that the suite holds, with its dict: one class, or a tuple of classes just laid -/
def rIsX (K : PySem.W.Frag) (cls : Value) (d : Option Addr) (a : Addr) : List V → Hp → VK → Prop := fun xs H Q => ∃ (D dd : Addr) (fs : List (Str × V)), cls = .ref D ∧ d = some dd ∧ H dd = some (.xd fs) ∧ ExcC K D ∧
  ((∃ (c : V) (cv : Value) (b : Bool), xs = [.ref a, c] ∧ ClsV c cv ∧ PySem.W.kitOne K (.ref D) cv = some b ∧ Q (.bl b) H) ∨
   ∃ (tp : Addr) (cs : List V) (us : List Value) (b : Bool), xs = [.ref a, .ref tp] ∧ H tp = some (.tup cs) ∧ Paired ClsV cs us ∧ PySem.W.kitAny K (.ref D) us = some b ∧ Q (.bl b) H)
theorem call_isX {X : Cx} {a : Addr} {cls : Value} {d : Option Addr} {oe : Obj} {pn : List (Addr × Obj)} (hz : Zc cls d oe) (hf : ∃ vs, oe.data = .fields vs) : CallR (X.suite a ((a, oe) :: pn)) (.builtin "isinstance") (rIsX X.K cls d a) := by
  intro pins s σ H xs us Q I r h
  obtain ⟨D, dd, fs, rfl, rfl, ea, C, h⟩ := h
  obtain ⟨ha, _⟩ := I.pin (a, oe) (List.mem_append_left _ List.mem_cons_self)
  obtain ⟨vs, hd⟩ := hf
  have hx : ObjOk X.prog X.w H s.heap dd (.xd fs) := I.hok dd _ ea
  obtain ⟨mA, hns, hr⟩ := hx
  obtain ⟨od, ho, hl⟩ := lookIn_ns hns
  have J : PySem.W.InstAt s.heap a oe D (some od) := ⟨ha, hz.1, by unfold PySem.W.notCls; rw [hd] <;> rfl, by rw [hz.2]; exact ho⟩
  obtain ⟨cd, hc, _⟩ := PySem.W.any_some C.hd
  have Z := PySem.W.kitx_exc (x := a) (ox := oe) (od := some od) (by rw [hc]; rfl) C.hg C.hk C.hs C.ha C.hn C.ht C.hm
  rcases h with ⟨c, cv, b, rfl, k, e, q⟩ | ⟨tp, cs, ws, b, rfl, hT, k, e, q⟩
  · obtain ⟨u1, u2, rfl, r1, r2⟩ := vals2 r
    cases (show u1 = Value.ref a from r1)
    cases k.eq r2
    exact PySem.W.kia_one Z I.kIn J e (fun z => nomatch z) fun tk => ⟨.bl b, H, I.kept (t' := tk) fun _ _ z => z, rfl, q⟩
  · obtain ⟨u1, u2, rfl, r1, r2⟩ := vals2 r
    cases (show u1 = Value.ref a from r1)
    cases (show u2 = Value.ref tp from r2)
    obtain ⟨_, its, rv, o, h1, h2, n, h3⟩ := (show ObjOk X.prog X.w H s.heap tp (.tup cs) from I.hok tp _ hT)
    have e3 := ClsV.all k rv
    subst e3
    obtain ⟨oc, od', dt, sl⟩ := o
    simp only at h2 h3
    subst h2 h3
    exact PySem.W.kia_tup Z I.kIn J h1 e (fun z => nomatch z) fun tk => ⟨.bl b, H, I.kept (t' := tk) fun _ _ z => z, rfl, q⟩
theorem kit_own {K : PySem.W.Frag} {D C : Addr} {b : Bool} (h1 : PySem.W.isClsIn K C = true) (h2 : PySem.W.typeIn K (.ref C) = some (.type "type")) (h3 : PySem.W.subIn K (.ref D) (.ref C) = some b) (h4 : PySem.W.subIn K (.ref D) (.ref D) = some true) : PySem.W.kitOne K (.ref D) (.ref C) = some b := by
  unfold PySem.W.kitOne
  by_cases e : D = C
  · subst e
    rw [h4] at h3
    rw [if_pos (beq_self_eq_true _)]
    exact h3
  · rw [if_neg (fun q => e (Value.ref.inj (beq_iff_eq.mp q)))]
    have h1' : (PySem.W.clsIn K C).isSome = true := h1
    have z : ((PySem.W.clsIn K C).isSome && PySem.W.typeIn K (.ref C) == some (.type "type")) = true := by rw [h1', h2] <;> rfl
    show (if ((PySem.W.clsIn K C).isSome && PySem.W.typeIn K (.ref C) == some (.type "type")) = true then PySem.W.subIn K (.ref D) (.ref C) else none) = some b
    rw [if_pos z]
    exact h3
theorem kit_valerr {K : PySem.W.Frag} {D : Addr} {b : Bool} (h : PySem.W.subIn K (.ref D) (.type "ValueError") = some b) : PySem.W.kitOne K (.ref D) (.type "ValueError") = some b := by
  have q : ((Value.ref D) == (Value.type "ValueError")) = false := beq_eq_false_iff_ne.mpr fun z => nomatch z
  unfold PySem.W.kitOne
  rw [if_neg (by rw [q]; exact Bool.false_ne_true)]
  show (if PySem.W.kitMeta "ValueError" = true then PySem.W.subIn K (.ref D) (.type "ValueError") else none) = some b
  rw [if_pos (by decide +kernel)]
  exact h
theorem kit_cons_false {K : PySem.W.Frag} {t c : Value} {cs : List Value} {b : Bool} (h : PySem.W.kitOne K t c = some false) (hr : PySem.W.kitAny K t cs = some b) : PySem.W.kitAny K t (c :: cs) = some b := by
  unfold PySem.W.kitAny
  rw [h]
  exact hr
/-- an own exception class with one field, made by its own __init__ -/
structure XcTxt (K : PySem.W.Frag) (mg : Str → Option Value) (nm fl : Str) (C fI : Addr) : Prop where
  g : mg nm = some (.ref C)
  oex : OexC K C
  no : PySem.W.findIn K (.ref C) fl = some none
  iC : PySem.W.findIn K (.ref C) "__init__" = some (some (.ref fI))
  tI : PySem.W.typeIn K (.ref fI) = some (.type "function")
  xf : XfC K C
  ec : ExcC K C
/-- C(e), told plainly: the new exception's dict holds the field -/
def tMkF (C : Addr) (fl : Str) (ta : TA) : L2.St → Hp → XK → Prop := fun σ H Q => ta σ H fun vs H1 => ∃ v, vs = [v] ∧ ∀ d, H1 d = none → Q (.ref C) (some d) (upd H1 d (.xd [(fl, v)]))
def sp_init (K : PySem.W.Frag) (fl : Str) : Sp := fun vs H Q _ => ∃ (a C : Addr) (v : V), vs = [.ref a, v] ∧ OexC K C ∧ PySem.W.findIn K (.ref C) fl = some none ∧ H a = some (exo a C none) ∧ ∀ dx, H dx = none → dx ≠ a → Q .non (upd (upd H dx (exd dx [(fl, v)])) a (exo a C (some dx)))
theorem xc_mk {C : Addr} {fl : Str} {K : PySem.W.Frag} {ta : TA} {σ : L2.St} {H : Hp} {Q : XK} (T : OexC K C) (no : PySem.W.findIn K (.ref C) fl = some none)
    (h : ta σ H fun vs H1 => ∃ v, vs = [v] ∧ ∀ d H2, Same H1 H2 → H2 d = some (.xd [(fl, v)]) → Q (.ref C) (some d) H2) (mono : ∀ {A B : List V → Hp → Prop}, (∀ vs H1, A vs H1 → B vs H1) → ta σ H A → ta σ H B) : tMkO C (sp_init K fl) [] ta σ H Q := by
  refine mono ?_ h
  rintro vs H1 ⟨v, rfl, k⟩
  refine ⟨by show 1 ≤ 1000; decide, fun a na => ⟨a, C, v, rfl, T, no, upd_same, fun dx nd da => ⟨rfl, dx, [(fl, v)], upd_same, ?_, ?_, ?_⟩⟩⟩
  · rw [upd_ne da, upd_same]
  · rw [upd_ne da] at nd
    exact nd
  · have nd1 : H1 dx = none := by
      rw [upd_ne da] at nd
      exact nd
    refine k dx _ (fun b o hb => ?_) upd_same
    rw [upd_ne (ne_of_none hb nd1), del_ne (ne_of_none hb na), upd_ne (ne_of_none hb na), upd_ne (ne_of_none hb nd1), upd_ne (ne_of_none hb na)]
    exact hb
end Sm

set_option Elab.async false
set_option linter.all false
set_option maxRecDepth 100000
set_option maxHeartbeats 4000000
namespace Sm
open PySem PySem.Spec PyProof.Rows L2
/-! ### own exception classes over LookupError, whose __init__ stores one field -/
abbrev luTail : List Value := [.type "LookupError", .type "Exception", .type "BaseException", .type "object"]
/-- what the written part says of such a class -/
structure OexL (K : PySem.W.Frag) (C : Addr) : Prop where
  obj : ∃ nm q N bs bm sn sub ab col dd k0 k1 k2 k3 k5, K.lookup C = some (excClassObj nm q C N bs bm true sn sub ab col dd k0 k1 k2 k3 k5 "LookupError.__new__") ∧ PySem.W.excTail luTail bm = true
  facts : PySem.W.findIn K (.ref C) "__setattr__" = some (some (.builtin "object.__setattr__")) ∧ PySem.W.subIn K (.ref C) (.type "BaseException") = some true ∧ PySem.W.typeIn K (.ref C) = some (.type "type") ∧ PySem.W.keepIn K (.ref C) = true
section
open Builtin Builtin.ObjectAttr
variable {prog : Program} {w : World} {A : Around} {hp : Heap} {g : Array GenState} {dw : Drawn} {t : Nat} {os : OsState} {R : Result → Shared → Prop}
/-- object.__setattr__(x, name, v), x an exception without a dict whose class stands over a built-in one -/
theorem lu_store {K : PySem.W.Frag} {B : String} {bmB : List Value} {name : Str} {tk : Tok} {v : Value} {x C : Addr} {fv : Array Value} {cd : ClassData} (SF : StoreFacts B bmB "object.__setattr__" "object")
    (kin : K.In hp) (there : hp.get? x = some { cls := .ref C, data := .fields fv }) (known : PySem.W.clsIn K C = some cd) (over : PySem.W.excOver K C bmB = true) (dict : cd.hasDict = true) (no : PySem.W.findIn K (.ref C) name = some none)
    (told : ∀ h' tk' dx, (∀ b o, b ≠ x → hp.get? b = some o → h'.get? b = some o) → hp.objs.size ≤ dx → dx ≠ x → h'.get? x = some { cls := .ref C, dict := some dx, data := .fields fv } → h'.Ns1 dx (fun y => if y = name then some v else none) → R (.ok (.ret .none)) ⟨h', g, dw, tk', os⟩) :
    codeAny (model prog w) A (.call (.builtin "object.__setattr__") ⟨[.ref x, .str name tk, v], []⟩) R ⟨hp, g, dw, t, os⟩ := by
  have at_ : PySem.W.InstAt hp x { cls := .ref C, data := .fields fv } C none := ⟨there, rfl, rfl, trivial⟩
  have taker : PySem.W.takerIn K C name = some none := by unfold PySem.W.takerIn; rw [no]; rfl
  refine PySem.W.osa_openX (s := ⟨hp, g, dw, t, os⟩) SF kin at_ over taker fun b => ?_
  have apart : x ≠ hp.objs.size := Nat.ne_of_lt (Heap.lt_size there)
  have kls : PySem.W.Looks (model prog w) hp (classData C) cd := PySem.W.looks_clsIn kin known
  show wpAny _ _ (storeInOwnDict (.ref x) (.ref C) (.str name tk) name v b) _ _ _
  obtain ⟨n1, n2, n3, n4, n5, hd, n6, n7, n8, n9, n10⟩ := cd
  dsimp only at dict
  subst dict
  unfold storeInOwnDict ownDictForStores
  repeat (first | with_reducible refine PySem.HandSPX.store_in_new ?_ ?_ | with_reducible refine wpAny_loadPart_at there ?_ | with_reducible refine kls.at ?_ | wp_step)
  · exact ⟨_, #[], _, (Heap.get?_update_ne _ _ _ _ apart.symm).trans (Heap.get?_push_at rfl rfl), rfl, fun e he => absurd he (by simp), fun _ => rfl⟩
  · intro h' tk' names same
    have on : (hp.push { cls := .type "dict", data := .dict #[] }).get? x = some { cls := .ref C, data := .fields fv } := Heap.get?_push_of_some _ there
    refine told h' tk' hp.objs.size (fun b o hb ho => (same.2 b (Nat.ne_of_lt (Heap.lt_size ho))).trans ((Heap.get?_update_ne _ _ _ _ hb).trans (Heap.get?_push_of_some _ ho))) (Nat.le_refl _) apart.symm ((same.2 x apart).trans (Heap.get?_update_self _ on rfl)) names
end
/-- the abstract heap once the first field of the exception at a stands in its new dict at dx -/
theorem lu_un {fs : List Addr} {H : Hp} {hp h' : Heap} {a C dx : Addr} {f : Str} {y : V} (ea : H a = some (exo a C none)) (dn : hp.objs.size ≤ dx) (nd : H dx = none) (there : ∃ o, h'.get? a = some o)
    (keep : ∀ b o, b ≠ a → hp.get? b = some o → h'.get? b = some o) : Un fs [] H (upd (upd H dx (exd dx [(f, y)])) a (exo a C (some dx))) hp h' := by
  have other : ∀ {b : Addr}, H b = none → b ≠ a := fun {b} n z => by rw [z, ea] at n; cases n
  have young : ∀ {b : Addr} {o : Obj}, hp.get? b = some o → b ≠ dx := fun {b o} q => Nat.ne_of_lt (Nat.lt_of_lt_of_le (Heap.lt_size q) dn)
  constructor
  · intro b o q n _ _
    exact keep b o (other n) q
  · intro b o q n _ _
    exact ⟨o.slots, keep b o (other n) q⟩
  · intro b o q n _
    rw [upd_ne (other n), upd_ne (young q)]
    exact n
  · intro b o q _
    by_cases hb : b = a
    · subst hb; exact there
    · exact ⟨o, keep b o hb q⟩
  · intro b xs q
    rw [upd_ne (at_ne ea q exo_tup), upd_ne (ne_of_none q nd)]; exact q
  · intro b o v q
    rw [upd_ne (at_ne ea q exo_frz), upd_ne (ne_of_none q nd)]; exact q
  · intro b ps q
    exact ⟨#[], by rw [upd_ne (at_ne ea q exo_tbl), upd_ne (ne_of_none q nd), q]; simp⟩
section
variable {X : Cx} {pins : List (Addr × Obj)} {σ : L2.St} {H : Hp} {s : Shared} {a C : Addr} {f : Str} {y : V} {u : Value} {Q : Unit → Shared → Prop} {E : Value → Shared → Prop} {A : Around}
theorem lu_cls {K : PySem.W.Frag} {C : Addr} (T : OexL K C) : ∃ cd, PySem.W.clsIn K C = some cd ∧ cd.hasDict = true ∧ PySem.W.excOver K C luTail = true := by
  obtain ⟨nm, q, N, bs, bm, sn, sub, ab, col, dd, k0, k1, k2, k3, k5, hC, hbm⟩ := T.obj
  have known : PySem.W.clsIn K C = some { name := nm, bases := bs, mro := .ref C :: bm, ns := N, qualname := q, hasDict := true, slotNames := sn, subclasses := sub, abstract := ab, collection := col, hasDel := false } := by unfold PySem.W.clsIn; rw [hC] <;> rfl
  refine ⟨_, known, rfl, ?_⟩
  unfold PySem.W.excOver
  rw [known]
  show (C == C && PySem.W.excTail luTail bm) = true
  rw [hbm, beq_self_eq_true]
  rfl
/-- self.f = y in __init__ -/
theorem lu_ost (T : OexL X.K C) (I : Inv X pins σ H s) (e : H a = some (exo a C none)) (no : PySem.W.findIn X.K (.ref C) f = some none) (ry : RelV y u)
    (h : ∀ dx s', H dx = none → dx ≠ a → Inv X pins σ (upd (upd H dx (exd dx [(f, y)])) a (exo a C (some dx))) s' → Q () s') : wpAny (model X.prog X.w) A (setAttr (.ref a) f u) Q E s := by
  obtain ⟨cd, known, dict, over⟩ := lu_cls T
  obtain ⟨t1, ho⟩ := exo_at I.hok e
  obtain ⟨hp, g, d, t, os⟩ := s
  refine PySem.W.set_plain I.kIn (od := none) ⟨ho, rfl, rfl, trivial⟩ T.facts.1 (lu_store PySem.F.store_LookupError I.kIn ho known over dict no fun h' tk' dx k dn dne hx hn => ?_)
  have nd : H dx = none := I.hok.fresh dn
  refine h dx _ nd dne (I.un (t' := tk') (lu_un e dn nd ⟨_, hx⟩ k) fun b o q => ?_)
  by_cases hb : b = a
  · subst hb
    rw [upd_same] at q; cases q
    exact exo_ok hx
  rw [upd_ne hb] at q
  by_cases hd : b = dx
  · subst hd
    rw [upd_same] at q; cases q
    exact exd_ok hn (relO_put (fs := []) ry fun g => True.intro)
  rw [upd_ne hd] at q
  refine (I.hok b o q).stay (fun c v hc z => k c v ?_ z) (fun c hc => ?_) (fun c xs hc => ?_)
  · rcases hc with hc | hc
    · rw [hc]; exact hb
    · exact at_ne e hc exo_own
  · rw [upd_ne (at_ne e hc exo_own), upd_ne (ne_of_none hc nd)]; exact hc
  · rw [upd_ne (at_ne e hc exo_tup), upd_ne (ne_of_none hc nd)]; exact hc
end
/-- self.f = e -/
def tOsL (K : PySem.W.Frag) (f : Str) (to te : TE) : TS := fun D σ H => te σ H fun y H1 => to σ H1 fun x H2 => ∃ a C : Addr, x = .ref a ∧ OexL K C ∧ PySem.W.findIn K (.ref C) f = some none ∧ H2 a = some (exo a C none) ∧ ∀ dx, H2 dx = none → dx ≠ a → D.nx σ (upd (upd H2 dx (exd dx [(f, y)])) a (exo a C (some dx)))
section
variable {X : Cx} {o e : Expr} {es : List Expr} {to te : TE} {ta : TA} {f : Str} {p p' pos : Pos}
theorem ps_osL (ho : PE X o to) (he : PE X e te) (hs : swapsWith e (some (.Attribute o f p')) pos.line X.env = pure false := by rfl) : PS X (.Assign [.Attribute o f p'] e pos) (tOsL X.K f to te) := by
  refine ⟨fun pins s σ H D I h => plainObj_wpAny_Assign_Attribute (thn (he.run pins s σ H _ I h) ?_) hs⟩
  rintro v s1 ⟨y, H1, I1, r1, q1⟩
  refine thn (ho.run pins s1 σ H1 _ I1 q1) ?_
  rintro u s2 ⟨x, H2, I2, r2, a, C, rfl, T, no, ea, q⟩
  obtain rfl : u = Value.ref a := r2
  exact lu_ost T I2 ea no r1 fun dx s' n ne J => ⟨σ, _, J, q dx n ne⟩
/-- C(e) -/
theorem pmk_oexL {CX : CXT} {x : Str} {C fI : Addr} {k : Nat} {fd : FuncData} {ps : List Str} {sp : Sp} (T : OexL X.K C) (iC : PySem.W.findIn X.K (.ref C) "__init__" = some (some (.ref fI))) (tI : PySem.W.typeIn X.K (.ref fI) = some (.type "function"))
    (F1 : FnOk X.prog X.w X.K X.mg X.base CX k fI fd ps sp) (hr : Room (k + 1) X.A) (hb : Binds X.K fd ps []) (hx : Passes CX X (fun _ _ _ => False)) (hg : Gl X x) (hm : X.mg x = some (.ref C)) (ha : PA X (e :: es) ta)
    (hdb : (x == ("__debug__" : Str)) = false := by decide) (he : starEach (e :: es) X.env = (false, eval e X.env) :: starEach es X.env := by rfl) (hpl : (backTo pos (starEach es X.env)).any (·.1) = false := by rfl) :
    PMk X (.Call (.Name x p) (e :: es) [] pos) (tMkO C sp [] ta) := by
  intro pins s σ H Q I h
  obtain ⟨nm, q, N, bs, bm, sn, sub, ab, col, dd, k0, k1, k2, k3, k5, hC, hbm⟩ := T.obj
  obtain ⟨_, exc, typ, keep⟩ := T.facts
  refine wpAny_Call_Name_kw (ld_glob I hg hm (PySem.W.callWith_K (h₀ := X.base) I.ok.mod.kin keep (thn (ha.run pos pins s σ H _ I h) ?_) he hpl) hdb)
  rintro us s1 ⟨vs, H1, I1, r1, hz, q1⟩
  refine ⟨I1.kIn, ?_⟩
  show wpAny _ _ (call (.ref C) us) _ _ _
  obtain ⟨hp, g, dr, tk, os⟩ := s1
  generalize hn : hp.objs.size = n
  have old : hp.objs.size ≤ n + 1 := by omega
  have hq := q1 (n + 1) (I1.hok.fresh old)
  have kk : ∀ b o, hp.get? b = some o → ((hp.push (PySem.W.kdv_tup us)).push (PySem.HandSPX.excO C n)).get? b = some o := fun b o e => Heap.get?_push_of_some _ (Heap.get?_push_of_some _ e)
  have got : ((hp.push (PySem.W.kdv_tup us)).push (PySem.HandSPX.excO C n)).get? (n + 1) = some (PySem.HandSPX.excO C n) := by subst hn; heap_get
  have I2 : Inv X pins σ (upd H1 (n + 1) (exo (n + 1) C none)) ⟨(hp.push (PySem.W.kdv_tup us)).push (PySem.HandSPX.excO C n), g, dr, tk, os⟩ := I1.laid (t' := tk) (o := exo (n + 1) C none) kk old (exo_ok got)
  have r2 : Vals (V.ref (n + 1) :: (vs ++ [])) (Value.ref (n + 1) :: us) := .cons rfl (by rw [List.append_nil]; exact r1)
  have long : (Value.ref (n + 1) :: us).length = ps.length := r2.length.symm.trans (F1.len _ _ _ _ hq)
  have few : us.length ≤ sizeLine := by rw [← Paired.length r1, sizeLine_eq]; omega
  have ran := F1.run _ X.stack _ _ ⟨Value.ref (n + 1) :: us, []⟩ (Value.ref (n + 1) :: us) _ _ (fun _ _ _ => False) (hr.make C us []) (I2.env0.make C us []) (by have b := hb ⟨(hp.push (PySem.W.kdv_tup us)).push (PySem.HandSPX.excO C n), g, dr, tk, os⟩ (Value.ref (n + 1) :: us) I2.kIn (by rw [List.append_nil]; exact long); rw [List.append_nil] at b; exact b) r2 hq
  subst hn
  refine wpAny_call (PySem.HandSPX.call_own PySem.F.excBase_LookupError (fun Y => PySem.W.excTail_contains Y bm hbm) (I1.kIn _ _ hC) (PySem.W.looks_findIn I1.kIn iC) (fun self => PySem.W.bind_fn I1.kIn self tI) few (codeAny_mono ran ?_))
  rintro (er | fl) s' hq'
  · exact hx pins σ _ _ er s' I2 hq'
  match fl, hq' with
  | .next, z => exact False.elim z
  | .brk, z => exact False.elim z
  | .cont, z => exact False.elim z
  | .ret u, ⟨v, H2, os2, bare2, un2, hok2, rv, ev, d, fs, ea, ed, hd1, q2⟩ =>
    subst ev
    obtain ⟨h2, g2, d2, t2, os'⟩ := s'
    exact ⟨rv, mk_end (raises_own exc typ) I1 old kk un2 hok2 os2 bare2 ea ed hd1 q2⟩
end
/-- __init__(self, f): self.f = f -/
def sp_initL (K : PySem.W.Frag) (fl : Str) : Sp := fun vs H Q _ => ∃ (a C : Addr) (v : V), vs = [.ref a, v] ∧ OexL K C ∧ PySem.W.findIn K (.ref C) fl = some none ∧ H a = some (exo a C none) ∧ ∀ dx, H dx = none → dx ≠ a → Q .non (upd (upd H dx (exd dx [(fl, v)])) a (exo a C (some dx)))
theorem xc_mkL {C : Addr} {fl : Str} {K : PySem.W.Frag} {ta : TA} {σ : L2.St} {H : Hp} {Q : XK} (T : OexL K C) (no : PySem.W.findIn K (.ref C) fl = some none)
    (h : ta σ H fun vs H1 => ∃ v, vs = [v] ∧ ∀ d H2, Same H1 H2 → H2 d = some (.xd [(fl, v)]) → Q (.ref C) (some d) H2) (mono : ∀ {A B : List V → Hp → Prop}, (∀ vs H1, A vs H1 → B vs H1) → ta σ H A → ta σ H B) : tMkO C (sp_initL K fl) [] ta σ H Q := by
  refine mono ?_ h
  rintro vs H1 ⟨v, rfl, k⟩
  refine ⟨by show 1 ≤ 1000; decide, fun a na => ⟨a, C, v, rfl, T, no, upd_same, fun dx nd da => ⟨rfl, dx, [(fl, v)], upd_same, ?_, ?_, ?_⟩⟩⟩
  · rw [upd_ne da, upd_same]
  · rw [upd_ne da] at nd
    exact nd
  · have nd1 : H1 dx = none := by
      rw [upd_ne da] at nd
      exact nd
    refine k dx _ (fun b o hb => ?_) upd_same
    rw [upd_ne (ne_of_none hb nd1), del_ne (ne_of_none hb na), upd_ne (ne_of_none hb na), upd_ne (ne_of_none hb nd1), upd_ne (ne_of_none hb na)]
    exact hb
theorem kit_typ {K : PySem.W.Frag} {D : Addr} {b : Bool} {n : String} (hm : PySem.W.kitMeta n = true) (h : PySem.W.subIn K (.ref D) (.type n) = some b) : PySem.W.kitOne K (.ref D) (.type n) = some b := by
  have q : ((Value.ref D) == (Value.type n)) = false := beq_eq_false_iff_ne.mpr fun z => nomatch z
  unfold PySem.W.kitOne
  rw [if_neg (by rw [q]; exact Bool.false_ne_true)]
  show (if PySem.W.kitMeta n = true then PySem.W.subIn K (.ref D) (.type n) else none) = some b
  rw [if_pos hm]
  exact h
end Sm

set_option Elab.async false
set_option linter.all false
set_option maxRecDepth 100000
set_option maxHeartbeats 4000000
namespace Sm
open PySem PySem.Spec PyProof.Rows L2 LamX
/-- told: try: return a() / except e as n: a suite that is told by ts -/
def TAs (K : PySem.W.Frag) (CS : Addr) (Ng : List Str) (i : Nat) (ts : Addr → Value → Option Addr → TS) : (XK → Hp → VK → Prop) → Hp → VK → Prop := fun tl H Q =>
  tl (fun cls d H' => ∃ b, PySem.W.exmOne K cls (.ref CS) = some b ∧ (b = true → ∀ (σ : L2.St) (c : Addr), σ.length = Ng.length → H' c = none → ts c cls d { nx := fun _ H2 => Q .non H2, rt := Q } (σ.set i (some (.ref c))) H') ∧ (b = false → False)) H Q
theorem set_read {σ : L2.St} {N : List Str} {n : Str} {i : Nat} {v : V} (h : σ.length = N.length) (hi : N[i]? = some n) : (σ.set i (some v))[i]? = some (some v) := by
  have := (List.getElem?_eq_some_iff.mp hi).1
  rw [List.getElem?_set_self (by omega)]
/-- where an exception is taken, all slots are there -/
theorem takes_len {X : Cx} {W : WX} (t : Takes X W) : Takes X (fun cls d σ H => σ.length = X.N.length → W cls d σ H) := fun u s' z => by
  obtain ⟨a, B, sI, pins, σ, H, cls, d, e, I, nb, up, sky, na, os, ag, w⟩ := z
  exact t u s' ⟨a, B, sI, pins, σ, H, cls, d, e, I, nb, up, sky, na, os, ag, w I.len⟩
section
variable {X : Cx} {Ng : List Str} {x a e n q : Str} {sg : Scope} {g CS : Addr} {cdg : Value} {i : Nat} {b₀ : Stmt} {suite : List Stmt} {p1 p2 p3 p4 p5 p6 : Pos} {ts : Addr → Value → Option Addr → TS}
/-- the def that calls what it got and holds the exception in a suite of its own -/
theorem as_gives (hge : sg.names.lookup e = some .globalImplicit) (hme : X.mg e = some (.ref CS)) (hde : (e == ("__debug__" : Str)) = false) (h0 : ∀ f : Addr, (L2.start Ng [V.ref f])[0]? = some (some (V.ref f))) (nd : Ng.Nodup) (hi : Ng[i]? = some n)
    (hln : ∀ (s : Shared) (H : Hp), (cxOf C8.CX0 X.prog X.w X.K X.mg X.base Ng x sg g cdg X.A X.stack s H C8.E0).nox.env.kindOf n = some .local)
    (hsu : ∀ (s : Shared) (H : Hp) (c : Addr) (oe : Obj) (cls : Value) (d : Option Addr) (pn : List (Addr × Obj)), Zc cls d oe → (∃ vs, oe.data = .fields vs) → PSs ((cxOf C8.CX0 X.prog X.w X.K X.mg X.base Ng x sg g cdg X.A X.stack s H C8.E0).nox.suite c ((c, oe) :: pn)) (b₀ :: suite) (ts c cls d)) :
    GivesTo X Ng x sg g cdg [.Try [.Return (some (.Call (.Name a p1) [] [] p2)) p3] [.ExceptHandler (some (.Name e p4)) (some n) (b₀ :: suite) p5] [] [] p6] a q (TAs X.K CS Ng i ts) := by
  intro f c' s H Q tl act known told
  let Z := (cxOf C8.CX0 X.prog X.w X.K X.mg X.base Ng x sg g cdg X.A X.stack s H C8.E0).nox
  have glob : Gl Z e := hge
  let body : WX → TS := fun W D σ H1 => ∃ out : XK, (∀ cls d (σ' : L2.St) H', out cls d H' → σ'.length = Ng.length → W cls d σ' H') ∧ σ[0]? = some (some (.ref f)) ∧ H1 c' = some (CodeO c' q) ∧ tl out H1 D.rt
  have inner : ∀ (W : WX) (pn : List (Addr × Obj)) (xe : Value → Shared → Prop), Takes (Z.tr pn xe) W → PassesOwn (model Z.prog Z.w) Z.A Z.env xe → PSs (Z.tr pn xe) [.Return (some (.Call (.Name a p1) [] [] p2)) p3] (body W) := by
    intro W pn xe tk _
    refine ⟨fun pins s' σ H' D I told' => ?_⟩
    obtain ⟨out, hW, h1, h2, h3⟩ := told'
    exact (pss_one (ps_ret (pos := p3) (act _ pn xe out p1 p2 (takes_len tk) hW))).run pins s' σ H' D I ⟨h1, h2, h3⟩
  refine ⟨_, pss_one (ps_try_as (X := Z) (c := .ref CS) (i := i) (tb := body) (ts := ts) (Wout := fun _ _ _ _ => False) rfl rfl nd hi (hln s H) ⟨glob, hde, .inl hme⟩ L2.takes0 inner (fun c oe cls d pn hz hf => hsu s H c oe cls d pn hz hf)), ?_⟩
  exact ⟨_, fun cls d σ' H' w len => by
    obtain ⟨b, e1, e2, e3⟩ := w
    exact ⟨b, e1, fun hb c nc => e2 hb σ' c len nc, fun hb => e3 hb⟩, h0 f, known, told⟩
end
end Sm

set_option Elab.async false
set_option linter.all false
set_option maxRecDepth 100000
set_option maxHeartbeats 4000000
namespace Sm
open PySem PySem.Spec PyProof.Rows L2
/-! ### values of all kinds as data, dicts with text keys and ints too -/
def kD : Key → PyData
  | .inl i => .int i
  | .inr x => .str x
mutual
inductive Dq (K : PySem.W.Frag) (H : Hp) : V → PyData → Prop
  | non : Dq K H .non .none
  | bl (b : Bool) : Dq K H (.bl b) (.bool b)
  | int (i : Int) : Dq K H (.int i) (.int i)
  | str (x : Str) : Dq K H (.str x) (.str x)
  | lst {a : Addr} {xs : List V} {ds : List PyData} : H a = some (.lst xs) → (a == sysModules) = false → DqAll K H xs ds → Dq K H (.ref a) (.list ds)
  | tup {a : Addr} {xs : List V} {ds : List PyData} : H a = some (.tup xs) → DqAll K H xs ds → Dq K H (.ref a) (.tuple ds)
  | dic {a : Addr} (kvs : List (Key × Int)) : H a = some (.dK (kvs.map fun q => (q.1, V.int q.2))) → Dq K H (.ref a) (.dict (kvs.map fun q => (kD q.1, PyData.int q.2)))
inductive DqAll (K : PySem.W.Frag) (H : Hp) : List V → List PyData → Prop
  | nil : DqAll K H [] []
  | cons {v : V} {vs : List V} {d : PyData} {ds : List PyData} : Dq K H v d → DqAll K H vs ds → DqAll K H (v :: vs) (d :: ds)
end
mutual
theorem Dq.mono {K : PySem.W.Frag} {H H' : Hp} (e : ∀ b o, H b = some o → H' b = some o) : ∀ (d : PyData) (v : V), Dq K H v d → Dq K H' v d
  | .none, _, h => by cases h; exact .non
  | .bool b, _, h => by cases h; exact .bl b
  | .int i, _, h => by cases h; exact .int i
  | .str x, _, h => by cases h; exact .str x
  | .list ds, _, h => by
    cases h with
    | lst hs ne ha => exact .lst (e _ _ hs) ne (Dq.monoAll e ds _ ha)
  | .tuple ds, _, h => by
    cases h with
    | tup hs ha => exact .tup (e _ _ hs) (Dq.monoAll e ds _ ha)
  | .dict _, _, h => by
    cases h with
    | dic kvs hk => exact .dic kvs (e _ _ hk)
theorem Dq.monoAll {K : PySem.W.Frag} {H H' : Hp} (e : ∀ b o, H b = some o → H' b = some o) : ∀ (ds : List PyData) (vs : List V), DqAll K H vs ds → DqAll K H' vs ds
  | [], _, h => by cases h; exact .nil
  | d :: ds, _, h => by
    cases h with
    | cons h1 h2 => exact .cons (Dq.mono e d _ h1) (Dq.monoAll e ds _ h2)
end
theorem Dq.same {K : PySem.W.Frag} {H H' : Hp} {v : V} {d : PyData} (h : Dq K H v d) (s : Same H H') : Dq K H' v d := Dq.mono (fun b o => s b o) d v h
section
variable {X : Cx} {pins : List (Addr × Obj)} {σ : L2.St} {H : Hp} {s : Shared}
theorem dic_keys {h : Heap} {P : Program} {w : World} : ∀ {es : List DictEntry} {vs : List (Key × Value)} {kvs : List (Key × Int)}, Pairs (mixKind P w) es vs → KV (kvs.map fun q => (q.1, V.int q.2)) vs →
    ReadsAll h (es.map (·.key)) (kvs.map fun q => kD q.1) [] ∧ ReadsAll h (es.map (·.val)) (kvs.map fun q => PyData.int q.2) []
  | [], _, kvs, .nil, r => by
    cases kvs with
    | nil => exact ⟨.nil, .nil⟩
    | cons a b => exact nomatch r
  | e :: es, _, kvs, .cons h1 h2 h3, r => by
    cases kvs with
    | nil => exact nomatch r
    | cons a b =>
      cases r with
      | cons r1 r2 =>
        obtain ⟨q1, q2⟩ := dic_keys (h := h) h3 r2
        obtain ⟨g1, g2⟩ := r1
        have g1 : a.1 = _ := g1
        have g2 : RelV (V.int a.2) _ := g2
        obtain ⟨t, g2⟩ := g2
        refine ⟨?_, ?_⟩
        · have hk : Reads h e.key (kD a.1) [] := by
            rcases keyIs_shape h1 with ⟨i, t, e1, e2⟩ | ⟨x, t, e1, e2⟩
            · rw [g1, e2, e1]
              exact .int i t
            · rw [g1, e2, e1]
              exact .str x t
          exact .cons hk q1
        · have hv : Reads h e.val (.int a.2) [] := by
            rw [h2, g2]
            exact .int _ t
          exact .cons hv q2
mutual
theorem Dq.reads (I : Inv X pins σ H s) : ∀ (d : PyData) (v : V) (u : Value), Dq X.K H v d → RelV v u → ∃ as, Reads s.heap u d as ∧ sysModules ∉ as
  | .none, _, _, h, r => by
    cases h
    cases r
    exact ⟨_, Reads.none, List.not_mem_nil⟩
  | .bool b, _, _, h, r => by
    cases h
    cases r
    exact ⟨_, Reads.bool b, List.not_mem_nil⟩
  | .int i, _, _, h, r => by
    cases h
    obtain ⟨t, rfl⟩ := r
    exact ⟨_, Reads.int i t, List.not_mem_nil⟩
  | .str x, _, _, h, r => by
    cases h
    obtain ⟨t, rfl⟩ := r
    exact ⟨_, Reads.str x t, List.not_mem_nil⟩
  | .list ds, _, _, h, r => by
    cases h with
    | lst hs ne ha =>
      cases r
      obtain ⟨its, rv, ⟨o, n, ho, hc, _, hd⟩, _⟩ := I.list (SqL.of hs)
      obtain ⟨as, hr, hm⟩ := Dq.readsAll I ds _ its ha rv
      refine ⟨_, Reads.list ho hc hd hr, fun m => ?_⟩
      rcases List.mem_cons.mp m with e | e
      · rw [← e, beq_self_eq_true] at ne
        cases ne
      · exact hm e
  | .tuple ds, _, _, h, r => by
    cases h with
    | tup hs ha =>
      cases r
      obtain ⟨its, rv, ⟨o, ho, hc, n, hd⟩, _⟩ := I.tuple (SqT.of hs)
      obtain ⟨as, hr, hm⟩ := Dq.readsAll I ds _ its ha rv
      exact ⟨_, Reads.tuple ho hc hd hr, hm⟩
  | .dict _, _, _, h, r => by
    cases h with
    | dic kvs hk =>
      cases r
      obtain ⟨_, hd, vs, kv, o, es, ep, h1, h2, h3, _, h4, _⟩ := dk_of I.hok hk
      obtain ⟨q1, q2⟩ := dic_keys (h := s.heap) h4 kv
      have e1 : (kvs.map fun q => (kD q.1, PyData.int q.2)).map (·.1) = kvs.map fun q => kD q.1 := by rw [List.map_map]; rfl
      have e2 : (kvs.map fun q => (kD q.1, PyData.int q.2)).map (·.2) = kvs.map fun q => PyData.int q.2 := by rw [List.map_map]; rfl
      refine ⟨_, Reads.dict h1 h2.1 h3 (by rw [e1]; exact q1) (by rw [e2]; exact q2), fun m => ?_⟩
      rw [List.append_nil] at m
      rw [← List.mem_singleton.mp m, beq_self_eq_true] at hd
      cases hd
theorem Dq.readsAll (I : Inv X pins σ H s) : ∀ (ds : List PyData) (vs : List V) (us : List Value), DqAll X.K H vs ds → Vals vs us → ∃ as, ReadsAll s.heap us ds as ∧ sysModules ∉ as
  | [], _, _, h, r => by
    cases h
    cases r
    exact ⟨_, ReadsAll.nil, List.not_mem_nil⟩
  | d :: ds, _, _, h, r => by
    cases h with
    | cons h1 h2 =>
      cases r with
      | cons r1 r2 =>
        obtain ⟨as, q1, m1⟩ := Dq.reads I d _ _ h1 r1
        obtain ⟨bs, q2, m2⟩ := Dq.readsAll I ds _ _ h2 r2
        refine ⟨_, ReadsAll.cons q1 q2, fun m => ?_⟩
        rcases List.mem_append.mp m with e | e
        · exact m1 e
        · exact m2 e
end
/-- the built-in class of such a value -/
def tyN : PyData → String
  | .none => "NoneType"
  | .bool _ => "bool"
  | .int _ => "int"
  | .str _ => "str"
  | .list _ => "list"
  | .tuple _ => "tuple"
  | .dict _ => "dict"
theorem Dq.ty {K : PySem.W.Frag} {v : V} {d : PyData} (h : Dq K H v d) : TyX K H v (.type (tyN d)) := by
  cases h with
  | non => exact .base .non
  | bl b => exact .base (.bl b)
  | int i => exact .base (.int i)
  | str x => exact .base (.str x)
  | lst e _ _ => exact .base (.lst e)
  | tup e _ => exact .base (.tup e)
  | dic kvs e => exact .base (.dK e)
end
def isT (n m : String) : Bool := m == n || (n == "int" && m == "bool")
def isOf (n : String) (d : PyData) : Bool := isT n (tyN d)
theorem kit_q {K : PySem.W.Frag} {n : String} {d : PyData} (h : n = "int" ∨ n = "bool" ∨ n = "str" ∨ n = "tuple" ∨ n = "list") : PySem.W.kitOne K (.type (tyN d)) (.type n) = some (isOf n d) := by
  refine kit_ty ?_
  unfold isOf
  have m : tyN d = "NoneType" ∨ tyN d = "bool" ∨ tyN d = "int" ∨ tyN d = "str" ∨ tyN d = "list" ∨ tyN d = "tuple" ∨ tyN d = "dict" := by
    cases d <;> simp [tyN]
  generalize tyN d = m' at m
  rcases h with rfl | rfl | rfl | rfl | rfl <;> rcases m with rfl | rfl | rfl | rfl | rfl | rfl | rfl <;> decide +kernel
section
variable {X : Cx}
/-- isinstance(x, T), x of any kind, T built in -/
def rIsQ (K : PySem.W.Frag) : List V → Hp → VK → Prop := fun xs H Q => ∃ (x : V) (d : PyData) (n : String), xs = [x, .ty n] ∧ Dq K H x d ∧ (n = "int" ∨ n = "bool" ∨ n = "str" ∨ n = "tuple" ∨ n = "list") ∧ Q (.bl (isOf n d)) H
theorem call_isQ : CallR X (.builtin "isinstance") (rIsQ X.K) := by
  intro pins s σ H xs us Q I r h
  obtain ⟨x, d, n, rfl, hd, hn, q⟩ := h
  exact call_isi pins s σ H _ us Q I r ⟨x, .ty n, _, _, _, rfl, .ty n, hd.ty, kit_q hn, q⟩
/-- repr of a value of any kind -/
def rReprQ (K : PySem.W.Frag) : List V → Hp → VK → Prop := fun xs H Q => ∃ v d, xs = [v] ∧ Dq K H v d ∧ PyData.showable d = true ∧ d.depth ≤ 60 ∧ d.shown.length ≤ sizeLine ∧ Q (.str d.shown) H
theorem call_reprQ (gu : X.A.guards = some []) (room : ∃ k, Room k X.A) : CallR X (.builtin "repr") (rReprQ X.K) := by
  intro pins s σ H xs us Q I rel want
  obtain ⟨v, d, rfl, data, sh, dep, len, q⟩ := want
  obtain ⟨u, rfl, ru⟩ := vals1 rel
  obtain ⟨as, reads, ns⟩ := Dq.reads I d _ u data ru
  obtain ⟨k, room⟩ := room
  have un := room.un
  have done : ∀ h' (v : Value) tk, (∀ b o, s.heap.get? b = some o → h'.get? b = some o) → (∃ t, v = Value.str d.shown t) → ∃ y H2, Inv X pins σ H2 { s with heap := h', toks := tk } ∧ RelV y v ∧ Q y H2 := fun h' v tk keep e => ⟨.str d.shown, H, I.kept keep, e, q⟩
  have at_ : ∀ a, u = .ref a → _ := fun a e => repr_of_reads' (A := X.A) (s := s) (prog := X.prog) (w := X.w) (E := X.xe) (Q := fun y s' => ∃ z H2, Inv X pins σ H2 s' ∧ RelV z y ∧ Q z H2) (by rw [← e]; exact reads) sh (fun _ => ns) gu (by omega) (fun _ _ e => e) (fun h' v tk keep => ⟨.str d.shown, H, I.kept keep, ⟨_, rfl⟩, q⟩) len
  cases data with
  | non =>
    cases ru
    exact PySem.P.repr_of_none ⟨.str _, H, I.tok _, ⟨_, rfl⟩, q⟩
  | bl b =>
    cases ru
    refine PySem.P.repr_of_bool ⟨.str _, H, I.tok _, ⟨_, rfl⟩, ?_⟩
    cases b <;> exact q
  | int i =>
    obtain ⟨t, rfl⟩ := ru
    exact PySem.P.repr_of_int (of_decide_eq_true (by simpa [PyData.showable] using sh)) ⟨.str _, H, I.tok _, ⟨_, rfl⟩, q⟩
  | str x =>
    obtain ⟨t, rfl⟩ := ru
    exact PySem.P.repr_of_str ⟨.str _, H, I.tok _, ⟨_, rfl⟩, q⟩ len
  | lst e1 e2 e3 =>
    cases ru
    exact at_ _ rfl
  | tup e1 e2 =>
    cases ru
    exact at_ _ rfl
  | dic kvs e1 =>
    cases ru
    exact at_ _ rfl
/-- a list is made: it is not sys.modules -/
def tLstN (t : TA) : TE := fun σ H Q => t σ H fun xs H1 => xs.length ≤ sizeLine ∧ ∀ p, H1 p = none → (p == sysModules) = false → Q (.ref p) (upd H1 p (.lst xs))
theorem pe_lstN {es : List Expr} {pos : Pos} {t : TA} (h : PA X es t) : PE X (.List es pos) (tLstN t) := by
  refine ⟨fun pins s σ H Q I hq => ?_⟩
  refine wpAny_List_spliced (thn (h.run pos pins s σ H _ I hq) fun us s1 ⟨xs, H1, I1, r, z, q⟩ => ⟨by rw [← r.length]; exact z, ?_⟩)
  have hf : H1 s1.heap.objs.size = none := I1.hok.fresh (Nat.le_refl _)
  have hs : (s1.heap.objs.size == sysModules) = false := beq_eq_false_iff_ne.mpr (Ne.symm (Nat.ne_of_lt I1.big))
  refine ⟨.ref s1.heap.objs.size, upd H1 s1.heap.objs.size (.lst xs), I1.laid (t' := s1.toks) (fun b u e => Heap.get?_push_of_some _ e) (Nat.le_refl _) ?_, rfl, q _ hf hs⟩
  exact ⟨z, us, 0, r, Heap.get?_push_size _ rfl⟩
/-- list(t) of a tuple -/
theorem call_listN : CallR X (.type "list") (fun xs H Q => ∃ p ys, xs = [.ref p] ∧ H p = some (.tup ys) ∧ ∀ l, H l = none → (l == sysModules) = false → Q (.ref l) (upd H l (.lst ys))) := by
  intro pins s σ H xs us Q I r h
  obtain ⟨p, ys, rfl, hq, q⟩ := h
  have hs : (s.heap.objs.size == sysModules) = false := beq_eq_false_iff_ne.mpr (Ne.symm (Nat.ne_of_lt I.big))
  obtain ⟨u, rfl, rx⟩ := vals1 r
  cases rx
  obtain ⟨its, r', pl, hz⟩ := I.tuple (SqT.of hq)
  have hlen := r'.length
  obtain ⟨o, ho, hc, n, hd⟩ := pl
  exact call_list_seq p (.inr rfl) ho hc hd (fun h' c' kp e => ⟨.ref s.heap.objs.size, _, I.laid (t' := s.toks) kp (Nat.le_refl _) (show ObjOk X.prog X.w _ h' _ (.lst ys) from ⟨hz, its, c', r', e⟩), rfl, q _ (I.hok.fresh (Nat.le_refl _)) hs⟩) (by simp only [List.size_toArray] <;> omega)
end
end Sm

set_option Elab.async false
set_option linter.all false
set_option maxRecDepth 100000
set_option maxHeartbeats 4000000
namespace Sm
open PySem PySem.Spec PyProof.Rows L2 LamX
/-- repr of a value of any kind, in an except suite too -/
theorem call_reprU {X : Cx} (gu : X.A.guards = some []) (un : X.A.units + 100 < cLine) : CallR X (.builtin "repr") (rReprQ X.K) := by
  rintro pins s σ H xs us Q I rel ⟨v, d, rfl, data, sh, dep, len, q⟩
  obtain ⟨u, rfl, ru⟩ := vals1 rel
  obtain ⟨as, reads, ns⟩ := Dq.reads I d _ u data ru
  have at_ : ∀ a, u = .ref a → _ := fun a e => repr_of_reads' (A := X.A) (s := s) (prog := X.prog) (w := X.w) (E := X.xe) (Q := fun y s' => ∃ z H2, Inv X pins σ H2 s' ∧ RelV z y ∧ Q z H2) (by rw [← e]; exact reads) sh (fun _ => ns) gu (by omega) (fun _ _ e => e) (fun h' v tk keep => ⟨.str d.shown, H, I.kept keep, ⟨_, rfl⟩, q⟩) len
  cases data with
  | non => cases ru; exact PySem.P.repr_of_none ⟨.str _, H, I.tok _, ⟨_, rfl⟩, q⟩
  | bl b => cases ru; exact PySem.P.repr_of_bool ⟨.str _, H, I.tok _, ⟨_, rfl⟩, by cases b <;> exact q⟩
  | int i => obtain ⟨t, rfl⟩ := ru; exact PySem.P.repr_of_int (of_decide_eq_true (by simpa [PyData.showable] using sh)) ⟨.str _, H, I.tok _, ⟨_, rfl⟩, q⟩
  | str x => obtain ⟨t, rfl⟩ := ru; exact PySem.P.repr_of_str ⟨.str _, H, I.tok _, ⟨_, rfl⟩, q⟩ len
  | lst e1 e2 e3 => cases ru; exact at_ _ rfl
  | tup e1 e2 => cases ru; exact at_ _ rfl
  | dic kvs e1 => cases ru; exact at_ _ rfl
section
variable {X : Cx} {pins : List (Addr × Obj)} {σ : L2.St} {H : Hp} {s : Shared}
/-- a local name read, nothing else happens -/
theorem ld_var {E : Value → Shared → Prop} {Q : Value → Shared → Prop} {i : Nat} {x : Str} {pos : Pos} {v : V} (I : Inv X pins σ H s) (named : X.N[i]? = some x) (seen : Vis X.env.scope x) (e : σ[i]? = some (some v)) (h : ∀ u, RelV v u → Q u s)
    (hd : (x == ("__debug__" : Str)) = false := by decide) (hcd : (x == ("__classdict__" : Str)) = false := by decide) : wpAny (model X.prog X.w) X.A (eval (.Name x pos) X.env) Q E s := by
  obtain ⟨m, hn, hl⟩ := I.loc
  obtain ⟨u, r, l⟩ := hl i x v named e seen
  rcases l with ⟨hk, hm⟩ | ⟨hk | hk, c, hc, hcell⟩
  · exact wpAny_Name (wpAny_loadName_local I.ok.kind hk hn hm (h u r)) hd
  · exact wpAny_Name (wpAny_loadName_cell I.ok.kind hk hc hcell (h u r)) hd
  · exact wpAny_Name (wpAny_loadName_free I.ok.kind hk hc hcell (h u r) hcd) hd
/-- x() in the def that got the lambda: what is raised is taken at the very slots -/
theorem pe_actS {Ng : List Str} {qg : Str} {sg : Scope} {g f c' : Addr} {cdg pm ctv : Value} {params : Arguments} {body : Expr} {scope : Scope} {k i : Nat} {a : Str} {pn : List (Addr × Obj)} {xe : Value → Shared → Prop} {W : WX} {E : XK} {tb : TE} {p1 p2 : Pos} (σ0 : L2.St)
    (I : Inv X pins σ H s) (L : LamS X.env.scope scope) (hf : s.heap.get? f = some (PySem.W.kla_obj "<lambda>" (X.env.qual ++ "<lambda>") params body scope (cloFrom X.env.cells scope.names []) pm c' ctv)) (hfn : H f = none) (hfr : f ∉ frs X.stack)
    (hbind : bindArgs (PySem.W.kla_fn "<lambda>" (X.env.qual ++ "<lambda>") params body scope (cloFrom X.env.cells scope.names []) pm (.ref c') ctv) ⟨[], []⟩ = pure [])
    (tk : Takes ((cxOf C8.CX0 X.prog X.w X.K X.mg X.base Ng qg sg g cdg X.A X.stack s H C8.E0).tr pn xe) W) (hW : ∀ cls d H', E cls d H' → W cls d σ0 H') (hr : Room (k + 1) (X.A.deeper (envOfC qg sg s.heap.objs.size g cdg)))
    (hbody : ∀ (A : Around) (outer : List Env) (s : Shared) (H : Hp), Room k (A.deeper (lamEnv X scope s.heap.objs.size f c')) → PE (lamCx X A outer s H E scope f c') body tb)
    (hN : Ng[i]? = some a) (hv : Vis sg a) (hd : (a == ("__debug__" : Str)) = false := by decide) (hcd : (a == ("__classdict__" : Str)) = false := by decide) :
    PE ((cxOf C8.CX0 X.prog X.w X.K X.mg X.base Ng qg sg g cdg X.A X.stack s H C8.E0).tr pn xe) (.Call (.Name a p1) [] [] p2) (fun σZ HZ Q => σZ = σ0 ∧ σZ[i]? = some (some (.ref f)) ∧ HZ c' = some (CodeO c' (X.env.qual ++ "<lambda>")) ∧ tb σ HZ Q) := by
  refine ⟨fun pinsZ sZ σZ HZ Q IZ h => ?_⟩
  obtain ⟨rfl, hs, hc, ht⟩ := h
  refine wpAny_Call_Name_kw (ld_var IZ (pos := p1) (i := i) hN hv hs (fun u r1 => ?_) hd hcd)
  obtain rfl : u = Value.ref f := r1
  have of1 := IZ.base.keep f _ hf hfn hfr (fun z => nomatch (show f ∈ ([] : List Addr) from z))
  refine PySem.W.callWith_F0 ⟨_, _, _, _, of1⟩ ?_
  have un : Un (frs X.stack) [] H HZ s.heap sZ.heap := IZ.base
  obtain ⟨⟨oc, vs, t, hoc, hdc, hvc⟩, _, _⟩ := IZ.hok c' _ hc
  have ran : codeAny (model X.prog X.w) (X.A.deeper (envOfC qg sg s.heap.objs.size g cdg)) (.call (.ref f) ⟨[], []⟩) (CR (L2.CX X.prog X.w) (envOfC qg sg s.heap.objs.size g cdg :: X.stack) X.prog X.w HZ sZ Q E) sZ := by
    refine PySem.W.kla_callFunE hr.depth of1 rfl L.co L.gen rfl ⟨c', oc, vs, t, rfl, hoc, hdc, hvc⟩ ?_
    rw [hbind]
    refine wpAny_pure (wpAny_newFunctionEnv (fun y hy => (L.own y hy).2) (fun y hy => absurd hy (by simp)) (fun h₁ names same => ⟨IZ.nolimit.fresh _ same, ?_⟩) L.kind)
    have keep : ∀ b o, sZ.heap.get? b = some o → h₁.get? b = some o := fun b o e => same.extBut b o (Nat.ne_of_lt (Heap.lt_size e)) (Heap.get?_push_of_some _ e)
    refine PySem.W.kla_codeExpr (wpAny_mono ((hbody _ _ sZ HZ (hr.deeper _)).run [] _ _ HZ Q (lam_start2 I L IZ.env0 hr.hd un names keep) ht) ?_ fun e s' hq => hq)
    rintro v s' ⟨w', H', J', rv, q⟩
    exact ⟨w', H', J'.os, J'.bare, J'.base, J'.hok, rv, q⟩
  refine wpAny_call (codeAny_mono ran ?_)
  rintro (e | fl) s' hq
  · exact tk e s' (XE.of_call IZ (fun cls d H' h => hW cls d H' h) hq)
  match fl, hq with
  | .ret u, hq => exact IZ.after hq
  | .next, hq => exact False.elim hq
  | .brk, hq => exact False.elim hq
  | .cont, hq => exact False.elim hq
end
/-- the def that gets a lambda and a value: TT tells what it makes of both -/
def Gives2 (X : Cx) (Ng : List Str) (x : Str) (sg : Scope) (g : Addr) (cdg : Value) (bg : List Stmt) (a : Str) (q : Str) (TT : V → (XK → Hp → VK → Prop) → Hp → VK → Prop) : Prop :=
  ∀ (f c' : Addr) (s : Shared) (H : Hp) (v : V) (Q : VK) (tl : XK → Hp → VK → Prop),
    (∀ (W : WX) (pn : List (Addr × Obj)) (xe : Value → Shared → Prop) (E : XK) (p1 p2 : Pos) (σ0 : L2.St), Takes ((cxOf C8.CX0 X.prog X.w X.K X.mg X.base Ng x sg g cdg X.A X.stack s H C8.E0).tr pn xe) W → (∀ cls d H', E cls d H' → W cls d σ0 H') →
      PE ((cxOf C8.CX0 X.prog X.w X.K X.mg X.base Ng x sg g cdg X.A X.stack s H C8.E0).tr pn xe) (.Call (.Name a p1) [] [] p2) (fun σZ HZ Q => σZ = σ0 ∧ σZ[0]? = some (some (.ref f)) ∧ HZ c' = some (CodeO c' q) ∧ tl E HZ Q)) →
    H c' = some (CodeO c' q) → TT v tl H Q →
    ∃ t, PSs (cxOf C8.CX0 X.prog X.w X.K X.mg X.base Ng x sg g cdg X.A X.stack s H C8.E0).nox bg t ∧ t { nx := fun _ H' => Q .non H', rt := Q } (L2.start Ng [.ref f, v]) H
def tLam2 (T : List (Addr × Str)) (TT : V → (XK → Hp → VK → Prop) → Hp → VK → Prop) (t : XK → TE) (j : Nat) : TE := fun σ H Q => Tabs T H ∧ ∃ v, σ[j]? = some (some v) ∧ ∀ H1, ExtN H H1 → Tabs T H1 → TT v (fun E H' Q' => t E σ H' Q') H1 Q
section
variable {X : Cx}
/-- x(lambda: body, y) -/
theorem pe_lamcall2 {T : List (Addr × Str)} {TT : V → (XK → Hp → VK → Prop) → Hp → VK → Prop} {x a b y : Str} {g c P : Addr} {k j : Nat} {pg : Arguments} {bg : List Stmt} {sg : Scope} {dV kV doc pm cdv ct oc : Value} {an od : Option Addr} {osl : Array (Option Value)} {Ng : List Str}
    {params : Arguments} {body : Expr} {scope : Scope} {t : XK → TE} {p lpos pos py : Pos} (hg : Gl X x) (hm : X.mg x = some (.ref g)) (hk : PySem.W.keepIn X.K (.ref g) = true)
    (lk : X.K.lookup g = some ⟨oc, od, .func (PySem.W.fnOf x x pg bg sg dV kV doc pm an cdv ct), osl⟩) (hcg : PySem.W.codeIn X.K cdv x = true) (hb : L2.Binds X.K (PySem.W.fnOf x x pg bg sg dV kV doc pm an cdv ct) [a, b] []) (Sg : FnScope Ng [a, b] sg) (hNg : Ng[0]? = some a) (hva : Vis sg a)
    (hG : Gives2 X Ng x sg g cdv bg a (X.env.qual ++ "<lambda>") TT)
    (TB : TabB X.base X.mg c P) (hcode : X.env.code = .ref c) (hmT : (P, X.env.qual ++ "<lambda>") ∈ T) (hu : ∀ p ∈ T, p.1 = P → p.2 = X.env.qual ++ "<lambda>") (hr : Room (k + 2) X.A) (L : LamS X.env.scope scope) (hdef : defaultsOf params X.env = ([], []))
    (hbind : ∀ (q : Str) (cl : List (Str × Addr)) (pm cv ctv : Value), bindArgs (PySem.W.kla_fn "<lambda>" q params body scope cl pm cv ctv) ⟨[], []⟩ = pure [])
    (hbody : ∀ (A : Around) (outer : List Env) (s : Shared) (H : Hp) (E : XK) (f c' : Addr), Room k (A.deeper (lamEnv X scope s.heap.objs.size f c')) → PE (lamCx X A outer s H E scope f c') body (t E))
    (named : X.N[j]? = some y) (seen : Vis X.env.scope y)
    (hdb : (x == ("__debug__" : Str)) = false := by decide) (hd : (a == ("__debug__" : Str)) = false := by decide) (hcd : (a == ("__classdict__" : Str)) = false := by decide) (hyd : (y == ("__debug__" : Str)) = false := by decide) (hycd : (y == ("__classdict__" : Str)) = false := by decide) :
    PE X (.Call (.Name x p) [.Lambda params body scope lpos, .Name y py] [] pos) (tLam2 T TT t j) := by
  refine ⟨fun pins s σ H Q I h => ?_⟩
  obtain ⟨hT, v, hv, h⟩ := h
  refine wpAny_Call_Name_kw (ld_glob I hg hm (PySem.W.callWith_K (h₀ := X.base) I.ok.mod.kin hk ?_ (by rfl) (by rfl)) hdb)
  show wpAny _ _ (spliced ((false, eval (.Lambda params body scope lpos) X.env) :: backTo pos (starEach [.Name y py] X.env))) _ _ s
  refine Calls.spliced_cons (lam_make2 I TB hcode hmT hu hT hdef (L.has I.ok) ?_)
  intro f c' pm' ctv H1 s' I1 eN T1 hf hfn hfr hco
  show wpAny _ _ (spliced ((false, eval (.Name y py) X.env) :: backTo pos (starEach [] X.env))) _ _ s'
  refine Calls.spliced_cons (ld_var I1 named seen hv (fun u r1 => ?_) hyd hycd)
  refine Calls.spliced_nil ⟨I1.kIn, ?_⟩
  have ran : codeAny (model X.prog X.w) X.A (.call (.ref g) ⟨[.ref f, u], []⟩) (CR C8.CX0 X.stack X.prog X.w H1 s' Q C8.E0) s' := by
    refine run_ofS (N := Ng) (ps := [a, b]) (us := [.ref f, u]) (vs := [.ref f, v]) lk hcg Sg hr I1.env0 (hb s' [.ref f, u] I1.kIn rfl) (.cons rfl (.cons r1 .nil)) rfl fun room => ?_
    obtain ⟨t', got, fine⟩ := hG f c' s' H1 v Q (fun E H' Q' => t E σ H' Q') (fun W pn xe E p1 p2 σ0 tk hW => pe_actS (i := 0) σ0 I1 L hf hfn hfr (hbind _ _ _ _ _) tk hW room (fun A outer s H r2 => hbody A outer s H E f c' r2) hNg hva hd hcd) hco (h H1 eN T1)
    exact ⟨t', got.nox, fine⟩
  refine wpAny_call (codeAny_mono ran ?_)
  rintro (e | fl) s2 hq
  · exact (show False from hq).elim
  match fl, hq with
  | .ret u, hq => exact I1.after hq
  | .next, hq => exact False.elim hq
  | .brk, hq => exact False.elim hq
  | .cont, hq => exact False.elim hq
/-- try: a() / except e as n: a suite that is told by ts -/
def tActAs (K : PySem.W.Frag) (CS f c' : Addr) (q : Str) (i : Nat) (ts : Addr → Value → Option Addr → TS) (tl : XK → Hp → VK → Prop) : TS := fun D σ H => σ[0]? = some (some (.ref f)) ∧ H c' = some (CodeO c' q) ∧
  tl (fun cls d H' => wAs K (.ref CS) i ts (fun _ _ _ _ => False) D cls d σ H') H (fun _ H' => D.nx σ H')
theorem ps_act_as {Ng : List Str} {x a e n q : Str} {sg : Scope} {g CS f c' : Addr} {cdg : Value} {i : Nat} {b₀ : Stmt} {suite : List Stmt} {p1 p2 p3 p4 p5 p6 : Pos} {ts : Addr → Value → Option Addr → TS} {s : Shared} {H : Hp} {tl : XK → Hp → VK → Prop}
    (hge : sg.names.lookup e = some .globalImplicit) (hme : X.mg e = some (.ref CS)) (hde : (e == ("__debug__" : Str)) = false) (nd : Ng.Nodup) (hi : Ng[i]? = some n)
    (hln : (cxOf C8.CX0 X.prog X.w X.K X.mg X.base Ng x sg g cdg X.A X.stack s H C8.E0).nox.env.kindOf n = some .local)
    (act : ∀ (W : WX) (pn : List (Addr × Obj)) (xe : Value → Shared → Prop) (E : XK) (p1 p2 : Pos) (σ0 : L2.St), Takes ((cxOf C8.CX0 X.prog X.w X.K X.mg X.base Ng x sg g cdg X.A X.stack s H C8.E0).tr pn xe) W → (∀ cls d H', E cls d H' → W cls d σ0 H') →
      PE ((cxOf C8.CX0 X.prog X.w X.K X.mg X.base Ng x sg g cdg X.A X.stack s H C8.E0).tr pn xe) (.Call (.Name a p1) [] [] p2) (fun σZ HZ Q => σZ = σ0 ∧ σZ[0]? = some (some (.ref f)) ∧ HZ c' = some (CodeO c' q) ∧ tl E HZ Q))
    (hsu : ∀ (c : Addr) (oe : Obj) (cls : Value) (d : Option Addr) (pn : List (Addr × Obj)), Zc cls d oe → (∃ vs, oe.data = .fields vs) → PSs ((cxOf C8.CX0 X.prog X.w X.K X.mg X.base Ng x sg g cdg X.A X.stack s H C8.E0).nox.suite c ((c, oe) :: pn)) (b₀ :: suite) (ts c cls d)) :
    PS (cxOf C8.CX0 X.prog X.w X.K X.mg X.base Ng x sg g cdg X.A X.stack s H C8.E0).nox (.Try [.Expr (.Call (.Name a p1) [] [] p2) p3] [.ExceptHandler (some (.Name e p4)) (some n) (b₀ :: suite) p5] [] [] p6) (tActAs X.K CS f c' q i ts tl) := by
  let Z := (cxOf C8.CX0 X.prog X.w X.K X.mg X.base Ng x sg g cdg X.A X.stack s H C8.E0).nox
  have glob : Gl Z e := hge
  let tried : WX → TS := fun W D σ H1 => ∃ out : XK, (∀ cls d H', out cls d H' → W cls d σ H') ∧ σ[0]? = some (some (.ref f)) ∧ H1 c' = some (CodeO c' q) ∧ tl out H1 (fun _ H2 => D.nx σ H2)
  have inner : ∀ (W : WX) (pn : List (Addr × Obj)) (xe : Value → Shared → Prop), Takes (Z.tr pn xe) W → PassesOwn (model Z.prog Z.w) Z.A Z.env xe → PSs (Z.tr pn xe) [.Expr (.Call (.Name a p1) [] [] p2) p3] (tried W) := by
    intro W pn xe tk _
    refine ⟨fun pins s' σ H' D I told' => ?_⟩
    obtain ⟨out, hW, h1, h2, h3⟩ := told'
    exact (pss_one (ps_expr (pos := p3) (act _ pn xe out p1 p2 σ tk hW))).run pins s' σ H' D I ⟨rfl, h1, h2, h3⟩
  have whole := ps_try_as (X := Z) (c := .ref CS) (i := i) (tb := tried) (ts := ts) (Wout := fun _ _ _ _ => False) (pos := p6) (pos' := p5) (np := p4) rfl rfl nd hi hln ⟨glob, hde, .inl hme⟩ L2.takes0 inner (fun c oe cls d pn hz hf => hsu c oe cls d pn hz hf)
  refine ⟨fun pins s' σ H1 D I h => whole.run pins s' σ H1 D I ?_⟩
  obtain ⟨h1, h2, h3⟩ := h
  exact ⟨_, fun cls d H' h => h, h1, h2, h3⟩
end
end Sm

set_option Elab.async false
set_option linter.all false
set_option maxRecDepth 100000
set_option maxHeartbeats 4000000
namespace Sm
open PySem PySem.Spec PyProof.Rows L2
/-! ### try with several clauses `except C as n`, which together take all that the body raises -/
/-- behind a suite its name is gone -/
def offN (i : Nat) (D : Ends) : Ends := { nx := fun τ K => D.nx (τ.set i none) K, rt := D.rt, bk := fun τ K => D.bk (τ.set i none) K, ct := fun τ K => D.ct (τ.set i none) K }
def wNames (K : PySem.W.Frag) (D : Ends) : List (Value × Nat × (Addr → Value → Option Addr → TS)) → WX
  | [] => fun _ _ _ _ => False
  | (c, i, ts) :: more => fun cls d σ H => ∃ b, PySem.W.exmOne K cls c = some b ∧ (b = true → ∀ e, H e = none → ts e cls d (offN i D) (σ.set i (some (.ref e))) H) ∧ (b = false → wNames K D more cls d σ H)
inductive Clauses (X : Cx) : List ExceptHandler → List (Value × Nat × (Addr → Value → Option Addr → TS)) → Prop
  | nil : Clauses X [] []
  | cons {x n : Str} {c : Value} {i : Nat} {ts : Addr → Value → Option Addr → TS} {first : Stmt} {suite : List Stmt} {p q : Pos} {hds : List ExceptHandler} {more : List (Value × Nat × (Addr → Value → Option Addr → TS))}
      (known : Names X x c) (slot : X.N[i]? = some n) (own : X.env.kindOf n = some .local)
      (told : ∀ (e : Addr) (o : Obj) (cls : Value) (d : Option Addr) (pn : List (Addr × Obj)), Zc cls d o → (∃ vs, o.data = .fields vs) → PSs (X.suite e ((e, o) :: pn)) (first :: suite) (ts e cls d)) (rest : Clauses X hds more) :
      Clauses X (.ExceptHandler (some (.Name x p)) (some n) (first :: suite) q :: hds) ((c, i, ts) :: more)
section
variable {X : Cx} {body : List Stmt} {h₀ : ExceptHandler} {hds : List ExceptHandler} {cl : List (Value × Nat × (Addr → Value → Option Addr → TS))} {pos : Pos} {tb : WX → TS}
theorem ps_try_names (stk : X.stack = X.env :: X.outer) (frm : X.env.frame = some X.env.locals) (nd : X.N.Nodup)
    (inner : ∀ (W : WX) (pn : List (Addr × Obj)) (xe : Value → Shared → Prop), Takes (X.tr pn xe) W → PassesOwn (model X.prog X.w) X.A X.env xe → PSs (X.tr pn xe) body (tb W)) (cs : Clauses X (h₀ :: hds) cl) :
    PS X (.Try body (h₀ :: hds) [] [] pos) (fun D σ H => tb (wNames X.K D cl) D σ H) := by
  refine ⟨fun pins s σ H D I h => wpAny_Try_except ?_⟩
  have ok := I.ok
  refine wpAny_mono ((inner (wNames X.K D cl) (X.pn ++ pins) (fun e s₁ => wpAny (model X.prog X.w) X.A (noteFrame e X.env) (fun _ s₂ => wpAny (model X.prog X.w) X.A (setFlight e none) (fun _ s₃ => wpAny (model X.prog X.w) X.A (handleBy e X.env (h₀ :: hds)) (SP X pins D) X.xe s₃) X.xe s₂) X.xe s₁) ?_ PassesOwn.looking).run [] s σ H D (I.toTry _) h) ?_ (fun e s1 he => he)
  · rintro u s' ⟨a, B, sI, pins', τ, G, cls, d, rfl, J', bare, up, sky, fresh, os, ag, w⟩
    have J : Inv X pins τ G sI := J'.ofTry ok
    have sky2 : Sky B (X.env :: X.outer) a (Zc cls d) X.env.locals s'.heap := by rw [← stk]; exact sky
    show wpAny (model X.prog X.w) X.A (noteFrame (.ref a) X.env) _ _ _
    refine Sky.land Zc.steady (by rw [ok.frames, stk]) frm sky2 fun h3 fly up3 => ?_
    have landed : Inv X pins τ G { s' with heap := h3 } := J.landed bare fly.1 (up.trans up3) os ag
    obtain ⟨o3, vs3, there, kind, data⟩ := fly.there
    have outside : a ∉ frs (X.env :: X.outer) := fun m => by
      obtain ⟨_, o', e', no⟩ := fly.2.2.1.mem m
      rw [there] at e'; cases e'
      exact no _ data
    have nL : a ≠ X.env.locals := fun z => outside (List.mem_filterMap.mpr ⟨X.env, List.mem_cons_self, by rw [frm, z]⟩)
    have nF : a ∉ X.fs := fun m => by
      obtain ⟨e, he, q⟩ := List.mem_filterMap.mp m
      exact outside (List.mem_filterMap.mpr ⟨e, List.mem_cons_of_mem _ he, q⟩)
    have S3 := landed.suite there data fresh nL nF
    have typ : PySem.W.Looks (model X.prog X.w) h3 (typeOf (.ref a)) cls := fun A Q E s k q => wpAny_typeOf_ref (k _ _ there) (by rw [kind.1]; exact q)
    have each : ∀ {hs : List ExceptHandler} {ls : List (Value × Nat × (Addr → Value → Option Addr → TS))}, Clauses X hs ls → wNames X.K D ls cls d τ G → wpAny (model X.prog X.w) X.A (handleBy (.ref a) X.env hs) (SP X pins D) X.xe { s' with heap := h3 } := by
      intro hs ls cs
      induction cs with
      | nil => exact fun w => False.elim w
      | @cons x n c i ts first suite p q hds2 more known slot own told rest ih =>
        rintro ⟨b, asked, yes, no⟩
        refine wpAny_handleBy_cons (codeAny_handlers_test ?_) (by intro q; cases q)
        have match_ := PySem.W.exm_one (M := model X.prog X.w) landed.kIn typ asked
        have named : ∀ {Q : Value → Shared → Prop} {E : Value → Shared → Prop}, Q c { s' with heap := h3 } → wpAny (model X.prog X.w) (X.A.mark (some (.ref a))) (eval (.Name x p) X.env) Q E { s' with heap := h3 } := by
          intro Q E z
          obtain ⟨hg, hdbg, hm | ⟨hm, hv, hnn⟩⟩ := known
          · exact ld_glob (X := X.suite a ((a, o3) :: (X.pn ++ pins))) S3 hg hm z hdbg
          · exact ld_blt (X := X.suite a ((a, o3) :: (X.pn ++ pins))) S3 hg hm hv z hnn hdbg
        refine named (match_.here ?_)
        cases b with
        | false => exact ih (no rfl)
        | true =>
          refine codeAny_handlers_suite_as (HandSPX.lands_againZ fly fun h4 fly4 up4 => ?_)
          have J4 : Inv X pins τ G { s' with heap := h4 } := J.landed bare fly4.1 ((up.trans up3).trans up4) os ag
          obtain ⟨o4, vs4, there4, kind4, data4⟩ := fly4.there
          refine store_ok (X := X.suite a ((a, o4) :: (X.pn ++ pins))) (v := .ref a) (J4.suite there4 data4 fresh nL nF) nd slot (.inl own) rfl (fun s5 S5 => ?_) (.inr own)
          refine wpAny_mono ((told a o4 cls d (X.pn ++ pins) kind4 ⟨_, data4⟩).run [] s5 _ G _ S5 (yes rfl a fresh)) ?_ (fun _ _ z => False.elim z)
          intro fl s6 out
          have gone : ∀ {τ6 : L2.St} {H6 : Hp} {Q : Shared → Prop}, Inv (X.suite a ((a, o4) :: (X.pn ++ pins))) [] τ6 H6 s6 → (∀ s7, Inv X pins (τ6.set i none) H6 s7 → Q s7) → wpAny (model X.prog X.w) X.A (do bindName X.env n .none; unbindBehindTheSuite X.env n q) (fun _ s7 => Q s7) X.xe s6 :=
            fun {τ6 H6 Q} S6 z => gone_ok (S6.unsuite ok) nd slot own z
          match fl, out with
          | .next, ⟨τ6, H6, S6, z⟩ => exact gone S6 fun s7 J7 => ⟨_, _, J7, z⟩
          | .brk, ⟨τ6, H6, S6, z⟩ => exact gone S6 fun s7 J7 => ⟨_, _, J7, z⟩
          | .cont, ⟨τ6, H6, S6, z⟩ => exact gone S6 fun s7 J7 => ⟨_, _, J7, z⟩
          | .ret u, ⟨v6, τ6, H6, S6, r6, z⟩ => exact gone S6 fun s7 J7 => ⟨_, _, _, J7, r6, z⟩
    exact each cs w
  · intro fl s1 out
    match fl, out with
    | .next, ⟨τ, G, J', z⟩ => exact wpAny_execs_nil ⟨τ, G, J'.ofTry ok, z⟩
    | .brk, ⟨τ, G, J', z⟩ => exact ⟨τ, G, J'.ofTry ok, z⟩
    | .cont, ⟨τ, G, J', z⟩ => exact ⟨τ, G, J'.ofTry ok, z⟩
    | .ret u, ⟨v, τ, G, J', r, z⟩ => exact ⟨v, τ, G, J'.ofTry ok, r, z⟩
end
end Sm

set_option Elab.async false
set_option linter.all false
set_option maxRecDepth 100000
set_option maxHeartbeats 4000000
namespace Sm
open PySem PySem.Spec PyProof.Rows L2
/-! ### own exception classes with one field, over ValueError (XVal) and LookupError (XLook): what the written part says of them -/
structure XVal (K : PySem.W.Frag) (mg : Str → Option Value) (nm fl : Str) (C fI : Addr) : Prop where
  g : mg nm = some (.ref C)
  oex : OexC K C
  no : PySem.W.findIn K (.ref C) fl = some none
  iC : PySem.W.findIn K (.ref C) "__init__" = some (some (.ref fI))
  tI : PySem.W.typeIn K (.ref fI) = some (.type "function")
  xf : XfC K C
  ec : ExcC K C
  te : PySem.W.exmOne K (.ref C) (.ref C) = some true
structure XLook (K : PySem.W.Frag) (mg : Str → Option Value) (nm fl : Str) (C fI : Addr) : Prop where
  g : mg nm = some (.ref C)
  oex : OexL K C
  no : PySem.W.findIn K (.ref C) fl = some none
  iC : PySem.W.findIn K (.ref C) "__init__" = some (some (.ref fI))
  tI : PySem.W.typeIn K (.ref fI) = some (.type "function")
  xf : XfC K C
  ec : ExcC K C
  te : PySem.W.exmOne K (.ref C) (.ref C) = some true
/-- the def __init__ of such a class -/
def IniF (K : PySem.W.Frag) (q fl : Str) (st : Stmt) (fI : Addr) : Prop := ∃ fd, Fun K "__init__" q st fI fd ∧ Binds K fd ["self", fl] []
def CalX (P : Program) (w : World) (K : PySem.W.Frag) (mg : Str → Option Value) (base : Heap) (x : Str) (ps : List Str) (k : Nat) (sp : Sp) : Prop :=
  ∃ (f : Addr) (fd : FuncData), FnOk P w K mg base (L2.CX P w) k f fd ps sp ∧ mg x = some (.ref f) ∧ PySem.W.keepIn K (.ref f) = true ∧ Binds K fd ps []
/-- what is raised may be wished for at any slots that are there -/
theorem passL {X : Cx} {W : WX} {P : Program} {w : World} {n : Nat} (tk : Takes X W) (hp : X.prog = P := by rfl) (hw : X.w = w := by rfl) (hn : X.N.length = n := by rfl) : Passes (L2.CX P w) X (fun cls d H => ∀ σ : L2.St, σ.length = n → W cls d σ H) := by
  subst hp hw hn
  exact passes_call (takes_len tk) fun cls d σ H h => h σ
theorem un_mk {k : Nat} {A : Around} {h : Option Value} (r : Room k A) : (A.mark h).units + 100 < cLine := by
  have := r.un
  show A.units + 100 < cLine
  omega
theorem un_of {k : Nat} {A : Around} (r : Room k A) : A.units + 100 < cLine := by have := r.un; omega
/-- isinstance of an own instance -/
structure InsC (K : PySem.W.Frag) (C : Addr) : Prop where
  cl : Cls K C
  ha : PySem.W.findIn K (.ref C) "__class__" = some (some (.builtin "object.__class__"))
  hn : PySem.W.specialIn K (.builtin "object.__class__") "__get__" = some (some (.builtin "getset_descriptor.__get__"))
  ht : PySem.W.takesIn K (.builtin "object.__class__") = some true
  hm : PySem.W.mroIn K C (.type "object") = some true
theorem InsC.ty {K : PySem.W.Frag} {C a dx : Addr} {H : Hp} {fs : List (Str × V)} (c : InsC K C) (e : H a = some (.ins C dx fs)) : TyX K H (.ref a) (.ref C) := .base (.ins e c.cl c.ha c.hn c.ht c.hm)
/-! ### texts of texts -/
theorem ofString_small (s : String) : ∀ c ∈ (Str.ofString s).cps.toList, c < 16 ^ 8 := by
  intro c hc
  rw [signs_ofString] at hc
  obtain ⟨x, _, rfl⟩ := List.mem_map.mp hc
  have h : x.toNat < 1114112 := by
    have := x.valid
    rcases this with h | h
    · exact Nat.lt_trans h (by decide)
    · exact h.2
  exact Nat.lt_trans h (by decide)
end Sm

set_option Elab.async false
set_option linter.all false
set_option maxRecDepth 100000
set_option maxHeartbeats 4000000
namespace Sm
open PySem PySem.Spec PyProof.Rows L2
theorem own_ne {prog : Program} {w : World} {A : Around} {E : Value → Shared → Prop} {s : Shared} {K : PySem.W.Frag} {x C f : Addr} {ox : Obj} {od : Option Obj} {b tb : Value} {Q : Value → Shared → Prop} (u0 : A.units + 4 < cLine) (X : K.In s.heap) (J : PySem.W.InstAt s.heap x ox C od)
    (hb : PySem.W.Looks (model prog w) s.heap (typeOf b) tb) (nf : PySem.W.notFirst K C tb = true) (an : PySem.W.findIn K (.ref C) "__ne__" = some (some (.builtin "object.__ne__"))) (mo : PySem.W.mroIn K C (.type "object") = some true)
    (ae : PySem.W.findIn K (.ref C) "__eq__" = some (some (.ref f))) (fn : PySem.W.isFn K (.ref f) = true)
    (h : wpAny (model prog w) A.in1 (call (.ref f) [.ref x, b]) (fun v s' => ∃ r : Bool, v = .bool r ∧ Q (.bool (!r)) s') E s) : wpAny (model prog w) A (richCompare .NotEq (.ref x) b) Q E s := by
  have inner : wpAny (model prog w) A (call (.builtin "object.__ne__") [.ref x, b]) (fun v s' => ∃ r : Bool, v = .bool r ∧ Q (.bool r) s') E s := by
    refine wpAny_call (codeAny_call_builtin PySem.F.slot_object_ne.plain PySem.F.entry_object_ne (PySem.W.check_slot (i := "object.__ne__") (owner := "object") (n := "__ne__") (by decide +kernel) (by decide +kernel) (J.type.andThen (PySem.W.looks_mroIn X mo)) (PySem.F.args_object_ne_2 _ _) ?_))
    unfold Builtin.«object.__ne__»
    refine wpAny_bind (m := slotArgs "__ne__" 1 _) (wpAny_pure ?_)
    refine wpAny_bind (m := cRoomFor _ _) (wpAny_cRoomFor (by show A.units + 1 < cLine; omega) ?_)
    refine wpAny_bind (m := callSpecialIfBound? (.ref x) (Str.ofString "__eq__") _) (PySem.W.ifBound_K X J ae fn (wpAny_mono h ?_ fun _ _ z => z))
    rintro v s' ⟨r, rfl, q⟩
    exact wpAny_bind (wpAny_truthy_bool (wpAny_pure ⟨!r, rfl, q⟩))
  have one : wpAny (model prog w) A (tryCompare (.ref x) "__ne__" b) (fun r s' => ∃ z : Bool, r = some (.bool z) ∧ Q (.bool z) s') E s := by
    unfold tryCompare
    refine wpAny_bind ?_
    simp only [callSpecialIfBound?, bindSpecialIfBound?]
    refine wpAny_holding (wpAny_bind (wpAny_bind (wpAny_bind (J.type.here ((PySem.W.looks_findIn X an).here ?_)))))
    refine wpAny_bind (wpAny_askSetting (wpAny_ite ?_))
    have last : wpAny (model prog w) A (call (.builtin "object.__ne__") ([.ref x] ++ [b]) >>= fun v => pure (some v)) (fun r s' => wpAny (model prog w) A (match r with
      | some .notImplemented | none => pure none
      | some v => pure (some v)) (fun r s' => ∃ z : Bool, r = some (.bool z) ∧ Q (.bool z) s') E s') E s := by
      refine wpAny_bind (wpAny_mono inner ?_ fun _ _ z => z)
      rintro v s' ⟨r, rfl, q⟩
      exact wpAny_pure (wpAny_pure ⟨r, rfl, q⟩)
    split
    · exact wpAny_bind ((PySem.W.Looks.of_pure (PySem.F.slot_object_ne.bind _)).here (wpAny_pure (by exact last)))
    · exact wpAny_tryCatch (wpAny_bind ((PySem.W.Looks.of_pure (PySem.F.slot_object_ne.bind _)).here (wpAny_pure (by exact last))))
  unfold richCompare
  simp only [oneThing_ref]
  refine wpAny_holding (wpAny_bind (wpAny_cRoomFor (by omega) ?_))
  refine wpAny_bind (J.type.here (wpAny_bind (hb.here ?_)))
  have fin : wpAny (model prog w) A (tryCompare (.ref x) (cmpInfo .NotEq).2.1 b) (fun r s' => ∃ z : Bool, r = some (.bool z) ∧ Q (.bool z) s') E s := one
  split
  · rename_i q
    have e : PySem.W.subIn K tb (.ref C) = some false := by
      rcases Bool.or_eq_true_iff.mp nf with e | e
      · rw [beq_iff_eq.mp e] at q
        simp at q
      · exact beq_iff_eq.mp e
    refine wpAny_bind ((PySem.W.looks_subIn X e).here ?_)
    simp only [Bool.false_eq_true, if_false]
    refine wpAny_bind (wpAny_mono fin ?_ fun _ _ z => z)
    rintro r s' ⟨z, rfl, q⟩
    exact wpAny_pure q
  · refine wpAny_bind (wpAny_pure ?_)
    simp only [Bool.false_eq_true, if_false]
    refine wpAny_bind (wpAny_mono fin ?_ fun _ _ z => z)
    rintro r s' ⟨z, rfl, q⟩
    exact wpAny_pure q
/-! ### own special methods (__len__, __add__, __contains__, __eq__ ..) at instances of an own class -/
/-- the class at C has the def at f as its special method nm -/
structure Spm (K : PySem.W.Frag) (C : Addr) (nm : Str) (f : Addr) : Prop where
  at_ : PySem.W.findIn K (.ref C) nm = some (some (.ref f))
  fn : PySem.W.isFn K (.ref f) = true
section
variable {X : Cx} {CX : CXT} {n : Nat} {f C : Addr} {fd : FuncData} {ps : List Str} {sp : Sp} {E : XK}
/-- the def runs below the running body -/
theorem own_run {A : Around} {pins : List (Addr × Obj)} {s : Shared} {σ : L2.St} {H : Hp} {Q : VK} {us : List Value} {vs : List V} (F : FnOk X.prog X.w X.K X.mg X.base CX n f fd ps sp) (hb : Binds X.K fd ps []) (hx : Passes CX X E) (sb : Sub X n A)
    (I : Inv X pins σ H s) (r : Vals vs us) (h : sp vs H Q E) : wpAny (model X.prog X.w) A (call (.ref f) us) (EP X pins σ Q) X.xe s := by
  have z := I.env0
  have e0 : Env0 X.prog X.w X.K X.mg X.base A X.stack s H := ⟨by rw [sb.fr]; exact z.frames, z.mod, z.bs, z.bsz, z.funs, z.frf, z.hok, z.bare⟩
  have ln := F.len _ _ _ _ h
  have bi : BindsTo s fd ⟨us, []⟩ (ps.zip us) := by
    have q := hb s us I.kIn (by rw [List.append_nil, ← r.length]; exact ln)
    rwa [List.append_nil] at q
  refine wpAny_call (codeAny_mono (F.run A X.stack s H ⟨us, []⟩ us vs Q E sb.room e0 bi r h) ?_)
  rintro (e | out) s' got
  · exact hx pins σ H s e s' I got
  · match out, got with
    | .ret u, got => exact I.after got
    | .next, got => exact got.elim
    | .brk, got => exact got.elim
    | .cont, got => exact got.elim
theorem inst_of {pins : List (Addr × Obj)} {s : Shared} {σ : L2.St} {H : Hp} {a dx : Addr} {fs : List (Str × V)} (I : Inv X pins σ H s) (h : H a = some (.ins C dx fs)) : ∃ (ox : Obj) (od : Option Obj), PySem.W.InstAt s.heap a ox C od := by
  obtain ⟨mA, J, _⟩ := ins_get I.hok h
  obtain ⟨od, J, _⟩ := J.look
  exact ⟨_, _, J⟩
/-- len(o) -/
def rLenO (C : Addr) (sp : Sp) (E : XK) : List V → Hp → VK → Prop := fun xs H Q => ∃ (a dx : Addr) (fs : List (Str × V)), xs = [V.ref a] ∧ H a = some (.ins C dx fs) ∧ sp [.ref a] H (fun z H' => ∃ i : Int, z = .int i ∧ 0 ≤ i ∧ i < 2 ^ 63 ∧ Q (.int i) H') E
theorem call_lenO (m : Spm X.K C "__len__" f) (F : FnOk X.prog X.w X.K X.mg X.base CX n f fd ps sp) (hb : Binds X.K fd ps []) (hr : Room (n + 1) X.A) (hx : Passes CX X E) : CallR X (.builtin "len") (rLenO C sp E) := by
  intro pins s σ H xs us Q I r h
  obtain ⟨a, dx, fs, rfl, ha, q⟩ := h
  obtain ⟨u, rfl, ru⟩ := vals1 r
  cases (show u = Value.ref a from ru)
  obtain ⟨ox, od, J⟩ := inst_of I ha
  obtain ⟨mm, hF⟩ := I.fr
  refine PySem.W.len_K hF I.ok.mod.kin J m.at_ m.fn (wpAny_mono (own_run (A := X.A.in1) (vs := [.ref a]) F hb hx ⟨hr.in1, rfl⟩ I (.cons rfl .nil) q) ?_ fun _ _ z => z)
  rintro v s' ⟨z, H', I', rz, i, rfl, i0, i1, q⟩
  obtain ⟨t, rfl⟩ := (show ∃ t, v = Value.int i t from rz)
  exact ⟨⟨i0, i1⟩, .int i, H', I'.tok _, ⟨_, rfl⟩, q⟩
/-- x op y, both of the class -/
def rBinO (C : Addr) (sp : Sp) (E : XK) : R2 := fun x y H Q => ∃ (a dx : Addr) (fs : List (Str × V)) (b dy : Addr) (gs : List (Str × V)), x = .ref a ∧ y = .ref b ∧ H a = some (.ins C dx fs) ∧ H b = some (.ins C dy gs) ∧ sp [x, y] H Q E
theorem op_binO {op : Operator} (m : Spm X.K C (PySem.dunder op.info.2) f) (hc : PySem.W.selfFirst X.K C = true) (F : FnOk X.prog X.w X.K X.mg X.base CX n f fd ps sp) (hb : Binds X.K fd ps []) (hr : Room n X.A) (hx : Passes CX X E) : OpR X (binaryOp op) (rBinO C sp E) := by
  intro pins s σ H x y v u Q I rx ry h
  obtain ⟨a, dx, fs, b, dy, gs, rfl, rfl, ha, hb', q⟩ := h
  cases (show v = Value.ref a from rx)
  cases (show u = Value.ref b from ry)
  obtain ⟨ox, od, J⟩ := inst_of I ha
  obtain ⟨oy, ody, J'⟩ := inst_of I hb'
  obtain ⟨mm, hF⟩ := I.fr
  refine PySem.W.binop_K hF I.ok.mod.kin J J'.type hc m.at_ m.fn (wpAny_mono (own_run (vs := [.ref a, .ref b]) F hb hx ⟨hr, rfl⟩ I (.cons rfl (.cons rfl .nil)) q) ?_ fun _ _ z => z)
  rintro v s' ⟨z, H', I', rz, q⟩
  exact SlX.cmpback rz ⟨z, H', I', rz, q⟩
/-- x in o, x not in o -/
def rInO (neg : Bool) (C : Addr) (sp : Sp) (E : XK) : R2 := fun x y H Q => ∃ (b dy : Addr) (gs : List (Str × V)), y = .ref b ∧ H b = some (.ins C dy gs) ∧ sp [y, x] H (fun z H' => ∃ r : Bool, z = .bl r ∧ Q (.bl (if neg = true then !r else r)) H') E
theorem op_inO (m : Spm X.K C "__contains__" f) (F : FnOk X.prog X.w X.K X.mg X.base CX n f fd ps sp) (hb : Binds X.K fd ps []) (hr : Room n X.A) (hx : Passes CX X E) : OpR X (compareOp .In) (rInO false C sp E) := by
  intro pins s σ H x y v u Q I rx ry h
  obtain ⟨b, dy, gs, rfl, hb', q⟩ := h
  cases (show u = Value.ref b from ry)
  obtain ⟨oy, ody, J⟩ := inst_of I hb'
  obtain ⟨mm, hF⟩ := I.fr
  refine PySem.W.in_K hF I.ok.mod.kin J m.at_ m.fn (wpAny_mono (own_run (vs := [.ref b, x]) F hb hx ⟨hr, rfl⟩ I (.cons rfl (.cons rx .nil)) q) ?_ fun _ _ z => z)
  rintro v s' ⟨z, H', I', rz, r, rfl, q⟩
  cases (show v = Value.bool r from rz)
  exact wpAny_truthy_bool ⟨.bl r, H', I', rfl, q⟩
theorem op_notInO (m : Spm X.K C "__contains__" f) (F : FnOk X.prog X.w X.K X.mg X.base CX n f fd ps sp) (hb : Binds X.K fd ps []) (hr : Room n X.A) (hx : Passes CX X E) : OpR X (compareOp .NotIn) (rInO true C sp E) := by
  intro pins s σ H x y v u Q I rx ry h
  obtain ⟨b, dy, gs, rfl, hb', q⟩ := h
  cases (show u = Value.ref b from ry)
  obtain ⟨oy, ody, J⟩ := inst_of I hb'
  obtain ⟨mm, hF⟩ := I.fr
  refine PySem.W.notIn_K hF I.ok.mod.kin J m.at_ m.fn (wpAny_mono (own_run (vs := [.ref b, x]) F hb hx ⟨hr, rfl⟩ I (.cons rfl (.cons rx .nil)) q) ?_ fun _ _ z => z)
  rintro v s' ⟨z, H', I', rz, r, rfl, q⟩
  cases (show v = Value.bool r from rz)
  exact wpAny_truthy_bool ⟨.bl (!r), H', I', rfl, q⟩
/-- x == y, both of the class -/
theorem op_eqO (m : Spm X.K C "__eq__" f) (F : FnOk X.prog X.w X.K X.mg X.base CX n f fd ps sp) (hb : Binds X.K fd ps []) (hr : Room n X.A) (hx : Passes CX X E) : OpR X (compareOp .Eq) (rBinO C sp E) := by
  intro pins s σ H x y v u Q I rx ry h
  obtain ⟨a, dx, fs, b, dy, gs, rfl, rfl, ha, hb', q⟩ := h
  cases (show v = Value.ref a from rx)
  cases (show u = Value.ref b from ry)
  obtain ⟨ox, od, J⟩ := inst_of I ha
  obtain ⟨oy, ody, J'⟩ := inst_of I hb'
  obtain ⟨mm, hF⟩ := I.fr
  show wpAny (model X.prog X.w) X.A (richCompare .Eq (.ref a) (.ref b)) (EP X pins σ Q) X.xe s
  refine PySem.W.cmp_K (op := .Eq) (tb := .ref C) hr.units0 hF I.ok.mod.kin J J'.type (by simp [PySem.W.notFirst]) m.at_ m.fn (wpAny_mono (own_run (vs := [.ref a, .ref b]) F hb hx ⟨hr, rfl⟩ I (.cons rfl (.cons rfl .nil)) q) ?_ fun _ _ z => z)
  rintro v s' ⟨z, H', I', rz, q⟩
  exact SlX.cmpback rz ⟨z, H', I', rz, q⟩
/-- x != y, both of the class, which has no __ne__ of its own -/
def rNeO (C : Addr) (sp : Sp) (E : XK) : R2 := fun x y H Q => ∃ (a dx : Addr) (fs : List (Str × V)) (b dy : Addr) (gs : List (Str × V)), x = .ref a ∧ y = .ref b ∧ H a = some (.ins C dx fs) ∧ H b = some (.ins C dy gs) ∧ sp [x, y] H (fun z H' => ∃ r : Bool, z = .bl r ∧ Q (.bl (!r)) H') E
theorem op_neO (m : Spm X.K C "__eq__" f) (an : PySem.W.findIn X.K (.ref C) "__ne__" = some (some (.builtin "object.__ne__"))) (mo : PySem.W.mroIn X.K C (.type "object") = some true) (F : FnOk X.prog X.w X.K X.mg X.base CX n f fd ps sp) (hb : Binds X.K fd ps []) (hr : Room (n + 1) X.A) (hx : Passes CX X E) : OpR X (compareOp .NotEq) (rNeO C sp E) := by
  intro pins s σ H x y v u Q I rx ry h
  obtain ⟨a, dx, fs, b, dy, gs, rfl, rfl, ha, hb', q⟩ := h
  cases (show v = Value.ref a from rx)
  cases (show u = Value.ref b from ry)
  obtain ⟨ox, od, J⟩ := inst_of I ha
  obtain ⟨oy, ody, J'⟩ := inst_of I hb'
  show wpAny (model X.prog X.w) X.A (richCompare .NotEq (.ref a) (.ref b)) (EP X pins σ Q) X.xe s
  refine own_ne (by have := hr.un; omega) I.kIn J J'.type (by simp [PySem.W.notFirst]) an mo m.at_ m.fn (wpAny_mono (own_run (vs := [.ref a, .ref b]) F hb hx ⟨hr.in1, rfl⟩ I (.cons rfl (.cons rfl .nil)) q) ?_ fun _ _ z => z)
  rintro v s' ⟨z, H', I', rz, r, rfl, q⟩
  cases (show v = Value.bool r from rz)
  exact ⟨r, rfl, .bl (!r), H', I', rfl, q⟩
end
end Sm

set_option Elab.async false
set_option linter.all false
set_option maxRecDepth 100000
set_option maxHeartbeats 4000000
namespace Sm
open PySem PySem.Spec PyProof.Rows L2
/-! ### an attribute as a target: a.f, b.g = t -/
def gFld (K : PySem.W.Frag) (to : TE) (f : Str) : TG := fun v σ H Q => to σ H fun x G => ∃ (a C dx : Addr) (fs : List (Str × V)), x = V.ref a ∧ G a = some (.ins C dx fs) ∧ Cls K C ∧ NoAttr K C f ∧ fs.length < 1000 ∧ Q σ (upd G a (.ins C dx (putF f v fs)))
theorem pg_fld {X : Cx} {o : Expr} {f : Str} {pos : Pos} {to : TE} (ho : PE X o to) : PG X (.Attribute o f pos) (gFld X.K to f) := by
  constructor
  intro pins s σ H v u Q I r want
  rw [assign_Attribute]
  refine wpAny_bind (wpAny_holding (thn (ho.run pins s σ H _ I want) ?_))
  rintro ov s1 ⟨x, G, J, rx, a, C, dx, fs, rfl, ha, c, n, l, q⟩
  cases (show ov = Value.ref a from rx)
  refine wpAny_bind (wpAny_standAt (wpAny_bind (wpAny_holding (setattr_ok J ha c n l r fun s2 J2 => ?_))))
  exact wpAny_release ⟨σ, _, J2, q⟩
end Sm

set_option Elab.async false
set_option linter.all false
set_option maxRecDepth 100000
set_option maxHeartbeats 4000000
namespace Sm
open PySem PySem.Spec PyProof.Rows L2
/-! ### max of a list, with a default -/
theorem max_loop_kw {prog : Program} {w : World} {A : Around} {R : Result → Shared → Prop} {I : Addr} {fp wr : List Addr} {n : Nat} {P : Nat → Value → Prop} {St : Nat → Heap → Prop} (W : Walks prog w A.in1 I fp wr n P St) (bt : Nat → Nat → Bool) (hcmp : CmpOf prog w A.in1 CmpOp.Gt P bt)
    (S : Addr) (hSf : ¬ S ∈ fp) (kw : List (Str × Value)) : ∀ (k j : Nat) (s : Shared) (vb : Value) (c : Nat), n - (j + 1) = k → j + 1 ≤ n → St (j + 1) s.heap → P (argBest bt j) vb → s.heap.get? S = some { cls := Value.type "list", data := Data.seq #[vb, vb] c } →
      (∀ (v : Value) (h' : Heap) (tk : Nat), P (argBest bt (n - 1)) v → (∀ (b : Addr) (o : Obj), ¬ b ∈ wr → b ≠ S → s.heap.get? b = some o → h'.get? b = some o) → R (Except.ok (Flow.ret v)) { heap := h', gens := s.gens, drawn := s.drawn, toks := tk, os := s.os }) →
      codeAny (model prog w) A (Code.builtin "max.loop" { pos := [Value.ref I, Value.none, Value.ref S], kw := kw }) R s := by
  have hSw : ¬ S ∈ wr := fun h => hSf (W.sub S h)
  intro k
  induction k with
  | zero =>
    intro j s vb c hk hj hst hPb hS hR
    have hin : j + 1 = n := by omega
    refine codeAny_builtin F.entry_max_loop ?_
    rw [Around.under_plainId F.plain_max_loop]
    refine wpAny_bind (wpAny_seqItems hS rfl (wpAny_bind (wpAny_tryCatch (W.done s _ _ (hin ▸ hst) fun h' tk hk' => ?_))))
    have hS' := hk' S _ hSw hS
    refine wpAny_bind (wpAny_updateSeq hS' rfl (wpAny_bind (wpAny_letGo (wpAny_pure (hR vb _ tk ?_ fun b o hbw hbS e => ?_)))) ?_ ?_)
    · rw [← hin]
      exact hPb
    · exact (Heap.get?_update_other _ _ (Ne.symm hbS)).trans (hk' b o hbw e)
    · show 2 ≤ sizeLine
      decide
    · show 0 ≤ sizeLine + 1
      exact Nat.zero_le _
  | succ k ih =>
    intro j s vb c hk hj hst hPb hS hR
    have hlt : j + 1 < n := by omega
    refine codeAny_builtin F.entry_max_loop ?_
    rw [Around.under_plainId F.plain_max_loop]
    refine wpAny_bind (wpAny_seqItems hS rfl (wpAny_bind (wpAny_tryCatch (W.item (j + 1) s _ _ hlt hst fun v h' tk hP hst' hk' => ?_))))
    have hS' := hk' S _ hSw hS
    have hname : (toString "max" ++ toString ".loop" : String) = "max.loop" := by decide
    refine wpAny_bind (wpAny_pure ?_)
    refine wpAny_bind (wpAny_tryCatch (wpAny_holding (wpAny_bind (hcmp (j + 1) (argBest bt j) v vb _ _ _ hP hPb (wpAny_bind (wpAny_holding (wpAny_truthy_bool (wpAny_bind (wpAny_letGo (wpAny_pure ?_))))))))))
    have ab : argBest bt (j + 1) = if bt (j + 1) (argBest bt j) = true then j + 1 else argBest bt j := rfl
    cases hb : bt (j + 1) (argBest bt j) with
    | false =>
      rw [hb] at ab
      refine wpAny_ite_false rfl (wpAny_bind (wpAny_letGo ?_))
      rw [hname]
      exact wpAny_pure ⟨plainId_quiet F.plain_max_loop _, ih (j + 1) _ vb c (by omega) (by omega) hst' (by rw [ab]; exact hPb) hS' fun v' h'' tk'' hP' hk'' => hR v' h'' tk'' hP' fun b o hbw hbS e => hk'' b o hbw hbS (hk' b o hbw e)⟩
    | true =>
      rw [hb] at ab
      refine wpAny_ite_true rfl (wpAny_bind (wpAny_updateSeq hS' rfl (wpAny_bind (wpAny_letGo ?_)) ?_ ?_))
      · rw [hname]
        refine wpAny_pure ⟨plainId_quiet F.plain_max_loop _, ih (j + 1) _ v _ (by omega) (by omega) (W.frame _ _ _ hst' fun b hb' o e => (Heap.get?_update_other _ _ (fun q => hSf (by rw [q]; exact hb'))).trans e) (by rw [ab]; exact hP) (Heap.get?_update_self _ hS' rfl) fun v' h'' tk'' hP' hk'' => hR v' h'' tk'' hP' fun b o hbw hbS e => hk'' b o hbw hbS ((Heap.get?_update_other _ _ (Ne.symm hbS)).trans (hk' b o hbw e))⟩
      · show 2 ≤ sizeLine
        decide
      · show 2 ≤ sizeLine + 1
        decide
theorem max_first_kw {prog : Program} {w : World} {A : Around} {R : Result → Shared → Prop} {I : Addr} {fp wr : List Addr} {n : Nat} {P : Nat → Value → Prop} {St : Nat → Heap → Prop} (W : Walks prog w A.in1 I fp wr n P St) (bt : Nat → Nat → Bool) (hcmp : CmpOf prog w A.in1 CmpOp.Gt P bt)
    (S : Addr) (hSf : ¬ S ∈ fp) (x : Str) (d : Value) {s : Shared} {c : Nat} (hst : St 0 s.heap) (hS : s.heap.get? S = some { cls := Value.type "list", data := Data.seq #[] c })
    (h0 : n = 0 → ∀ h' tk, (∀ (b : Addr) (o : Obj), ¬ b ∈ wr → s.heap.get? b = some o → h'.get? b = some o) → R (Except.ok (Flow.ret d)) { heap := h', gens := s.gens, drawn := s.drawn, toks := tk, os := s.os })
    (hR : 0 < n → ∀ (v : Value) (h' : Heap) (tk : Nat), P (argBest bt (n - 1)) v → (∀ (b : Addr) (o : Obj), ¬ b ∈ wr → b ≠ S → s.heap.get? b = some o → h'.get? b = some o) → R (Except.ok (Flow.ret v)) { heap := h', gens := s.gens, drawn := s.drawn, toks := tk, os := s.os }) :
    codeAny (model prog w) A (Code.builtin "max.loop" { pos := [Value.ref I, Value.none, Value.ref S], kw := [(x, d)] }) R s := by
  have hSw : ¬ S ∈ wr := fun h => hSf (W.sub S h)
  have hname : (toString "max" ++ toString ".loop" : String) = "max.loop" := by decide
  refine codeAny_builtin F.entry_max_loop ?_
  rw [Around.under_plainId F.plain_max_loop]
  by_cases hn : 0 < n
  · refine wpAny_bind (wpAny_seqItems hS rfl (wpAny_bind (wpAny_tryCatch (W.item 0 s _ _ hn hst fun v h' tk hP hst' hk' => ?_))))
    have hS' := hk' S _ hSw hS
    refine wpAny_bind (wpAny_pure ?_)
    refine wpAny_bind (wpAny_updateSeq hS' rfl ?_ ?_ ?_)
    · rw [hname]
      refine wpAny_pure ⟨plainId_quiet F.plain_max_loop _, max_loop_kw W bt hcmp S hSf _ (n - (0 + 1)) 0 _ v _ rfl hn (W.frame _ _ _ hst' fun b hb' o e => (Heap.get?_update_other _ _ (fun q => hSf (by rw [q]; exact hb'))).trans e) hP (Heap.get?_update_self _ hS' rfl) fun v' h'' tk'' hP' hk'' => hR hn v' h'' tk'' hP' fun b o hbw hbS e => hk'' b o hbw hbS ((Heap.get?_update_other _ _ (Ne.symm hbS)).trans (hk' b o hbw e))⟩
    · show 0 ≤ sizeLine
      exact Nat.zero_le _
    · show 2 ≤ sizeLine + 1
      decide
  · have z : n = 0 := by omega
    subst z
    refine wpAny_bind (wpAny_seqItems hS rfl (wpAny_bind (wpAny_tryCatch (W.done s _ _ hst fun h' tk hk' => ?_))))
    exact wpAny_bind (wpAny_rule (wpAny_pure (h0 rfl h' tk hk')))
theorem intSize (xs : Array (Int × Tok)) : (intItems xs).size = xs.size := by simp [intItems]
theorem max_kw {prog : Program} {w : World} {A : Around} {E : Value → Shared → Prop} {s : Shared} {l : Addr} {xs : Array (Int × Tok)} {x : Value} {Q : Value → Shared → Prop} (hh : A.handled = none) (hl : s.heap.IsList l (intItems xs))
    (h0 : xs.size = 0 → ∀ h' tk, (∀ (b : Addr) (o : Obj), s.heap.get? b = some o → h'.get? b = some o) → Q x { heap := h', gens := s.gens, drawn := s.drawn, toks := tk, os := s.os })
    (hR : 0 < xs.size → ∀ v h' tk, (intItems xs)[argBest (fun i j => decide (numAt xs i > numAt xs j)) (xs.size - 1)]? = some v → (∀ (b : Addr) (o : Obj), s.heap.get? b = some o → h'.get? b = some o) → Q v { heap := h', gens := s.gens, drawn := s.drawn, toks := tk, os := s.os }) :
    wpAny (model prog w) A (call (Value.builtin "max") [Value.ref l] [(Str.ofString "default", x)]) Q E s := by
  have hname : (toString "max" ++ toString ".loop" : String) = "max.loop" := by decide
  refine PyProof.Rows.kmk_tree F.kind_max F.plain_max F.entry_max rfl ?_
  have hbind : Builtin.Builtins.bindParams "max" ["key", "default"] 0 { kw := [(Str.ofString "default", x)] } = pure [none, some x] := rfl
  refine wpAny_bind (wpAny_of_eq hbind (wpAny_bind (wpAny_pure ?_)))
  refine wpAny_bind (wpAny_pyIter_list hl (wpAny_bind (wpAny_newObj_type ?_ ?_)))
  rotate_left
  · show 0 ≤ sizeLine
    exact Nat.zero_le _
  have hlt : l < s.heap.objs.size := by
    obtain ⟨o, e, _⟩ := hl
    exact Heap.lt_size e
  have ne : l ≠ s.heap.objs.size := Nat.ne_of_lt hlt
  have sz : (s.heap.push { cls := Value.type "list_iterator", data := Data.fields #[Value.ref l, Value.int 0 0] }).objs.size = s.heap.objs.size + 1 := Heap.size_push _ _
  have keep : ∀ (b : Addr) (o : Obj), s.heap.get? b = some o → ((s.heap.push { cls := Value.type "list_iterator", data := Data.fields #[Value.ref l, Value.int 0 0] }).push { cls := Value.type "list", data := Data.seq #[] }).get? b = some o := fun b o e => Heap.get?_push_of_some _ (Heap.get?_push_of_some _ e)
  rw [hname]
  refine wpAny_pure ⟨plainId_quiet F.plain_max_loop _, ?_⟩
  refine max_first_kw (Walks.list (A := A.in1) hh s.heap.objs.size l ne (intItems xs)) (fun i j => decide (numAt xs i > numAt xs j)) (CmpOf.ints_gt (numAt xs) fun i v hv => ?_) _ ?_ _ _ ⟨⟨_, Heap.get?_push_of_some _ (Heap.get?_push_size s.heap rfl), rfl, rfl⟩, hl.at fun o e => keep l o e⟩ (Heap.get?_push_size _ rfl) (fun hz h' tk hk => ?_) (fun hn v h' tk hv hk => ?_)
  · obtain ⟨t, e⟩ := intItems_at hv
    exact ⟨t, e⟩
  · intro hm
    rw [sz] at hm
    rcases List.mem_cons.mp hm with q | q
    · exact absurd q (Nat.succ_ne_self _)
    · have q := List.mem_singleton.mp q
      exact absurd hlt (by rw [← q]; exact Nat.not_lt.mpr (Nat.le_succ _))
  · refine h0 (by rw [← intSize xs]; exact hz) h' tk fun b o e => hk b o ?_ (keep b o e)
    intro q
    have q := List.mem_singleton.mp q
    have lt := Heap.lt_size e
    rw [q] at lt
    exact Nat.lt_irrefl _ lt
  · refine hR ?_ v h' tk ?_ fun b o e => hk b o ?_ ?_ (keep b o e)
    · rw [← intSize xs]
      exact hn
    · rw [← intSize xs]
      exact hv
    · intro q
      have q := List.mem_singleton.mp q
      have lt := Heap.lt_size e
      rw [q] at lt
      exact Nat.lt_irrefl _ lt
    · rw [sz]
      have lt := Heap.lt_size e
      exact Nat.ne_of_lt (Nat.lt_succ_of_lt lt)
theorem max_kw_ints {prog : Program} {w : World} {A : Around} {E : Value → Shared → Prop} {s : Shared} {l : Addr} {its : List Value} {ns : List Int} {x : Value} {Q : Value → Shared → Prop} (hh : A.handled = none) (hl : s.heap.IsList l its.toArray) (hi : PyProof.Rows.IntsAre its ns)
    (h0 : ns = [] → ∀ h' tk, (∀ (b : Addr) (o : Obj), s.heap.get? b = some o → h'.get? b = some o) → Q x { heap := h', gens := s.gens, drawn := s.drawn, toks := tk, os := s.os })
    (hR : ∀ (h' : Heap) (tk : Nat) (M : Int) (t' : Tok), (∀ (b : Addr) (o : Obj), s.heap.get? b = some o → h'.get? b = some o) → M ∈ ns → (∀ a, a ∈ ns → a ≤ M) → Q (Value.int M t') { heap := h', gens := s.gens, drawn := s.drawn, toks := tk, os := s.os }) :
    wpAny (model prog w) A (call (Value.builtin "max") [Value.ref l] [(Str.ofString "default", x)]) Q E s := by
  obtain ⟨xs, e⟩ := AllInts.items (PyProof.Rows.IntsAre.allInts hi)
  have hn : numsOf (intItems xs).toList = ns := by
    rw [← e]
    exact PyProof.Rows.IntsAre.numsOf hi
  rw [nums_intItems] at hn
  rw [e] at hl
  have ln : ns.length = xs.size := by rw [← hn]; simp
  refine max_kw hh hl (fun hz h' tk hk => h0 (List.length_eq_zero_iff.mp (by rw [ln]; exact hz)) h' tk hk) (fun hp v h' tk hv hk => ?_)
  obtain ⟨t, rfl⟩ := intItems_at hv
  obtain ⟨g1, g2⟩ := argBest_gt (numAt xs) (xs.size - 1)
  have nd : ∀ j, numAt xs j = ns.getD j 0 := fun j => by rw [← hn]; exact numAt_eq xs j
  refine hR h' tk _ t hk ?_ fun a ha => ?_
  · rw [nd]
    have lt : argBest (fun i j => decide (numAt xs i > numAt xs j)) (xs.size - 1) < ns.length := by omega
    rw [List.getD_eq_getElem?_getD, List.getElem?_eq_getElem lt]
    exact List.getElem_mem lt
  · obtain ⟨j, hj, rfl⟩ := List.mem_iff_getElem.mp ha
    have q := g2 j (by omega)
    rw [nd j, List.getD_eq_getElem?_getD, List.getElem?_eq_getElem hj] at q
    exact q
section
variable {X : Cx}
def rMaxDef (K : PySem.W.Frag) (i : Int) : List V → Hp → VK → Prop := fun vs H Q => ∃ (a : Addr) (ns : List Int), vs = [V.ref a] ∧ SqL K H a (ns.map V.int) ∧ (ns = [] → Q (.int i) H) ∧ ∀ m, m ∈ ns → (∀ y, y ∈ ns → y ≤ m) → Q (.int m) H
theorem pe_maxDef {e : Expr} {t : TA} {p pos cp kp : Pos} {i : Int} {j : Nat} (hc : X.calm = true) (hg : Gl X "max") (hm : X.mg "max" = none) (ha : PA X [e] t) (he : starEach [e] X.env = (false, eval e X.env) :: starEach [] X.env := by rfl)
    (hpl : ((backTo pos (starEach [e] X.env)).any fun x => x.1) = false := by rfl) :
    PE X (.Call (.Name "max" p) [e] [{ arg := some "default", value := .Constant (.int i) j cp, pos := kp }] pos) (tCB (rMaxDef X.K i) t) := by
  constructor
  intro pins s σ H Q I want
  refine wpAny_Call_Name_kw (ld_blt I hg hm (u := .builtin "max") rfl ?_)
  refine PyProof.Rows.callWith_kw (thn (ha.run pos pins s σ H _ I want) ?_) (by rw [he]; rfl) hpl rfl rfl
  rintro us s1 ⟨vs, H1, I1, rel, a, ns, rfl, hs, h0, hR⟩
  refine wpAny_evalAll_cons ?_
  refine wpAny_bind (wpAny_mono ((pe_int (X := X) (i := i) (j := j) (pos := cp)).run pins s1 σ H1 (fun v H' => v = .int i ∧ H' = H1) I1 ⟨rfl, rfl⟩) ?_ (fun _ _ q => q))
  rintro u s2 ⟨v, H2, I2, ru, rfl, rfl⟩
  refine wpAny_bind (wpAny_standAt (wpAny_pure ?_))
  refine wpAny_evalAll_nil ?_
  obtain ⟨its, rv, hl, hz⟩ := I2.list hs
  rw [Vals.ref1 rel]
  exact max_kw_ints (I2.ok.hd hc) (PlainL.isList hl) (Vals.ints rv) (fun e h' tk hk => ⟨_, _, I2.kept hk, ru, h0 e⟩) (fun h' tk M t' hk h1 h2 => ⟨.int M, _, I2.kept hk, ⟨t', rfl⟩, hR M h1 h2⟩)
end
end Sm

set_option Elab.async false
set_option linter.all false
set_option maxRecDepth 100000
set_option maxHeartbeats 4000000
namespace Sm
open PySem PySem.Spec PyProof.Rows L2
section
variable {X : Cx}
/-- max(list, default=ed), ed told to be the int i -/
theorem pe_maxDefE {e ed : Expr} {t : TA} {td : TE} {p pos kp : Pos} {i : Int} (hc : X.calm = true) (hg : Gl X "max") (hm : X.mg "max" = none) (hd : PE X ed td) (hi : ∀ σ H (Q : VK), Q (.int i) H → td σ H Q) (ha : PA X [e] t) (he : starEach [e] X.env = (false, eval e X.env) :: starEach [] X.env := by rfl)
    (hpl : ((backTo pos (starEach [e] X.env)).any fun x => x.1) = false := by rfl) :
    PE X (.Call (.Name "max" p) [e] [{ arg := some "default", value := ed, pos := kp }] pos) (tCB (rMaxDef X.K i) t) := by
  constructor
  intro pins s σ H Q I want
  refine wpAny_Call_Name_kw (ld_blt I hg hm (u := .builtin "max") rfl ?_)
  refine PyProof.Rows.callWith_kw (thn (ha.run pos pins s σ H _ I want) ?_) (by rw [he]; rfl) hpl rfl rfl
  rintro us s1 ⟨vs, H1, I1, rel, a, ns, rfl, hs, h0, hR⟩
  refine wpAny_evalAll_cons ?_
  refine wpAny_bind (wpAny_mono (hd.run pins s1 σ H1 (fun v H' => v = .int i ∧ H' = H1) I1 (hi _ _ _ ⟨rfl, rfl⟩)) ?_ (fun _ _ q => q))
  rintro u s2 ⟨v, H2, I2, ru, rfl, rfl⟩
  refine wpAny_bind (wpAny_standAt (wpAny_pure ?_))
  refine wpAny_evalAll_nil ?_
  obtain ⟨its, rv, hl, hz⟩ := I2.list hs
  rw [Vals.ref1 rel]
  exact max_kw_ints (I2.ok.hd hc) (PlainL.isList hl) (Vals.ints rv) (fun e h' tk hk => ⟨_, _, I2.kept hk, ru, h0 e⟩) (fun h' tk M t' hk h1 h2 => ⟨.int M, _, I2.kept hk, ⟨t', rfl⟩, hR M h1 h2⟩)
end
end Sm

set_option Elab.async false
set_option linter.all false
set_option maxRecDepth 100000
set_option maxHeartbeats 4000000
namespace Sm
open PySem PySem.Spec PyProof.Rows L2 LamX
/-- what is raised in a lambda's body goes to who called it -/
theorem passE {X : Cx} {E : XK} (tk : Takes X (fun cls d _ H => E cls d H)) : Passes (L2.CX X.prog X.w) X E := fun pins σ H s e s' I c => passAt tk σ pins H s e s' I c
section
variable {X : Cx} {CX : CXT} {k : Nat} {f C : Addr} {fd : FuncData} {ps : List Str} {sp : Sp} {E : XK} {fe e : Expr} {es : List Expr} {tf : TE} {t : TA} {pos : Pos}
/-- f(e, ..) where f gives an instance of a class with its own __call__ -/
theorem pe_ownCall (hf : PE X fe tf) (m : Spm X.K C "__call__" f) (fi : PySem.W.fnIn X.K f = true) (F : FnOk X.prog X.w X.K X.mg X.base CX k f fd ps sp) (hb : Binds X.K fd ps []) (hr : Room k X.A) (hx : Passes CX X E) (ha : PA X (e :: es) t)
    (ht : eval (.Call fe (e :: es) [] pos) X.env = (do callWith pos (← eval fe X.env) [] (backTo pos (starEach (e :: es) X.env)) (backToKw pos (keywordEach [] X.env))) := by rfl)
    (he : starEach (e :: es) X.env = (false, eval e X.env) :: starEach es X.env := by rfl) (hpl : (backTo pos (starEach es X.env)).any (·.1) = false := by rfl) : PE X (.Call fe (e :: es) [] pos) (StX.tCallO X C sp E tf t) :=
  StX.pe_callO hf ⟨m.at_, m.fn, fi⟩ ((F.raw hb .nil).imp fun vs H Q E h => by rw [List.append_nil]; exact h) hr hx ha ht he hpl
end
/-- told: try: a() / except e as n: a suite that is told by ts; behind it tr -/
def TAx (K : PySem.W.Frag) (CS : Addr) (Ng : List Str) (i : Nat) (ts : Addr → Value → Option Addr → TS) (tr : TS) : (XK → Hp → VK → Prop) → Hp → VK → Prop := fun tl H Q =>
  ∀ f : Addr, tl (fun cls d H' => ∃ b, PySem.W.exmOne K cls (.ref CS) = some b ∧ (b = true → ∀ (σ : L2.St) (c : Addr), σ.length = Ng.length → H' c = none → ts c cls d { nx := fun σ' H2 => tr { nx := fun _ H3 => Q .non H3, rt := Q } (σ'.set i none) H2, rt := Q } (σ.set i (some (.ref c))) H') ∧ (b = false → False)) H
    (fun _ H' => tr { nx := fun _ H2 => Q .non H2, rt := Q } (L2.start Ng [V.ref f]) H')
section
variable {X : Cx} {Ng : List Str} {x a e n q : Str} {sg : Scope} {g CS : Addr} {cdg : Value} {i : Nat} {b₀ r₀ : Stmt} {suite rest : List Stmt} {p1 p2 p3 p4 p5 p6 : Pos} {ts : Addr → Value → Option Addr → TS} {tr : TS}
/-- the def that calls what it got and drops the answer -/
theorem act_gives (hge : sg.names.lookup e = some .globalImplicit) (hme : X.mg e = some (.ref CS)) (hde : (e == ("__debug__" : Str)) = false) (h0 : ∀ f : Addr, (L2.start Ng [V.ref f])[0]? = some (some (V.ref f))) (nd : Ng.Nodup) (hi : Ng[i]? = some n)
    (hln : ∀ (s : Shared) (H : Hp), (cxOf C8.CX0 X.prog X.w X.K X.mg X.base Ng x sg g cdg X.A X.stack s H C8.E0).nox.env.kindOf n = some .local)
    (hsu : ∀ (s : Shared) (H : Hp) (c : Addr) (oe : Obj) (cls : Value) (d : Option Addr) (pn : List (Addr × Obj)), Zc cls d oe → (∃ vs, oe.data = .fields vs) → PSs ((cxOf C8.CX0 X.prog X.w X.K X.mg X.base Ng x sg g cdg X.A X.stack s H C8.E0).nox.suite c ((c, oe) :: pn)) (b₀ :: suite) (ts c cls d))
    (hrest : ∀ (s : Shared) (H : Hp), PSs (cxOf C8.CX0 X.prog X.w X.K X.mg X.base Ng x sg g cdg X.A X.stack s H C8.E0).nox (r₀ :: rest) tr) :
    GivesTo X Ng x sg g cdg (.Try [.Expr (.Call (.Name a p1) [] [] p2) p3] [.ExceptHandler (some (.Name e p4)) (some n) (b₀ :: suite) p5] [] [] p6 :: r₀ :: rest) a q (TAx X.K CS Ng i ts tr) := by
  intro f c' s H Q tl act known told
  let Z := (cxOf C8.CX0 X.prog X.w X.K X.mg X.base Ng x sg g cdg X.A X.stack s H C8.E0).nox
  have glob : Gl Z e := hge
  let body : WX → TS := fun W D σ H1 => ∃ out : XK, (∀ cls d (σ' : L2.St) H', out cls d H' → σ'.length = Ng.length → W cls d σ' H') ∧ σ[0]? = some (some (.ref f)) ∧ H1 c' = some (CodeO c' q) ∧ tl out H1 (fun _ H2 => D.nx σ H2)
  have inner : ∀ (W : WX) (pn : List (Addr × Obj)) (xe : Value → Shared → Prop), Takes (Z.tr pn xe) W → PassesOwn (model Z.prog Z.w) Z.A Z.env xe → PSs (Z.tr pn xe) [.Expr (.Call (.Name a p1) [] [] p2) p3] (body W) := by
    intro W pn xe tk _
    refine ⟨fun pins s' σ H' D I told' => ?_⟩
    obtain ⟨out, hW, h1, h2, h3⟩ := told'
    exact (pss_one (ps_expr (pos := p3) (act _ pn xe out p1 p2 (takes_len tk) hW))).run pins s' σ H' D I ⟨h1, h2, h3⟩
  refine ⟨_, pss_cons (ps_try_as (X := Z) (c := .ref CS) (i := i) (tb := body) (ts := ts) (Wout := fun _ _ _ _ => False) rfl rfl nd hi (hln s H) ⟨glob, hde, .inl hme⟩ L2.takes0 inner (fun c oe cls d pn hz hf => hsu s H c oe cls d pn hz hf)) (hrest s H), ?_⟩
  exact ⟨_, fun cls d σ' H' w len => by
    obtain ⟨b, e1, e2, e3⟩ := w
    exact ⟨b, e1, fun hb c nc => e2 hb σ' c len nc, fun hb => e3 hb⟩, h0 f, known, told f⟩
end
end Sm

set_option Elab.async false
set_option linter.all false
set_option maxRecDepth 100000
set_option maxHeartbeats 4000000
namespace Sm
open PySem PySem.Spec PyProof.Rows L2 LamX
/-! ### the law's own call where the law makes lambdas: its table of code objects is tracked too -/
theorem law_atT {P : Program} {w : World} {K : PySem.W.Frag} {mg mb : Str → Option Value} {k : Nat} {fa a c Pt : Addr} {fd : FuncData} {x : Str} {sp : Sp} {s₁ : Shared} {vs : List Value} {ns : List Int}
    (inK : K.In s₁.heap) (names : s₁.heap.Ns mainGlobals mg) (bnames : s₁.heap.Ns builtinsNs mb) (boots : ∀ x : Str, x ≠ "__name__" → mb x = bootBuiltins x) (unlim : s₁.heap.NoLimit) (nogen : s₁.gens = #[])
    (empty : s₁.heap.get? Pt = some (PySem.W.tabObj #[])) (loose : K.lookup Pt = none) (head : PySem.W.codeHdIn K c Pt = true)
    (mods : ∃ (bm : Addr) (ob : Obj), mg "__builtins__" = some (.ref bm) ∧ bm ≠ builtinsNs ∧ s₁.heap.get? bm = some ob ∧ ob.cls = .type "module" ∧ ob.dict = some builtinsNs ∧ ob.data = .plain)
    (script : s₁.heap.get? a = some { cls := .type "list", data := .seq vs.toArray }) (whole : IntsAre vs ns) (few : ns.length ≤ sizeLine) (room : Room k callerA)
    (each : ∀ base : Heap, K.In base → base.Ns mainGlobals mg → TabB base mg c Pt → FnG P w K mg base k fa fd [x] sp) (binds : ∀ (s : Shared) (u : Value), BindsTo s fd ⟨[u], []⟩ [(x, u)])
    (asked : ∀ H : Hp, H Pt = some (.tbl #[]) → SqL K H a (ns.map V.int) → sp [.ref a] H (fun v _ => v = .bl true) E0) :
    codeAny (model P w) callerA (.call (.ref fa) ⟨[.ref a], []⟩) (fun r s' => r = .ok (.ret (.bool true)) ∧ OldK s₁.heap s'.heap ∧ s'.os = s₁.os ∧ AllBare s'.gens) s₁ := by
  have ivs := vals_ints whole
  have apart : a ≠ Pt := fun e => by
    rw [e, empty] at script
    have z : Data.fields #[] = Data.seq vs.toArray _ := congrArg Obj.data (Option.some.inj script)
    cases z
  -- what is tracked: the table, and the script if the module does not hold it itself
  obtain ⟨H, table, seq, ok, only, free⟩ : ∃ H : Hp, H Pt = some (.tbl #[]) ∧ SqL K H a (ns.map V.int) ∧ HOk P w H s₁.heap ∧ (∀ b u, H b = some u → (b = a ∧ u = .frz { cls := .type "list", data := .seq vs.toArray } (.lst (ns.map V.int))) ∨ (b = Pt ∧ u = .tbl #[])) ∧ ∀ b u, H b = some u → K.lookup b = none := by
    cases look : K.lookup a with
    | some o =>
      have same := inK a o look
      rw [script] at same
      injection same with same
      subst same
      have one : ∀ b u, (fun b => if b = Pt then some (HO.tbl #[]) else none : Hp) b = some u → b = Pt ∧ u = .tbl #[] := by
        intro b u z
        by_cases e : b = Pt
        · exact ⟨e, (Option.some.inj ((if_pos e).symm.trans z)).symm⟩
        · exact nomatch (if_neg e).symm.trans z
      refine ⟨fun b => if b = Pt then some (.tbl #[]) else none, if_pos rfl, .inr ⟨_, vs.toArray, _, look, rfl, rfl, rfl, ?_, ?_⟩, fun b u z => ?_, fun b u z => .inr (one b u z), fun b u z => ?_⟩
      · rw [List.size_toArray, whole.length]
        exact few
      · simpa using ivs
      · obtain ⟨rfl, rfl⟩ := one b u z
        exact empty
      · rw [(one b u z).1]
        exact loose
    | none =>
      have two : ∀ b u, (fun b => if b = a then some (HO.frz { cls := .type "list", data := .seq vs.toArray } (.lst (ns.map V.int))) else if b = Pt then some (HO.tbl #[]) else none : Hp) b = some u → (b = a ∧ u = .frz { cls := .type "list", data := .seq vs.toArray } (.lst (ns.map V.int))) ∨ (b = Pt ∧ u = .tbl #[]) := by
        intro b u z
        by_cases e : b = a
        · exact .inl ⟨e, (Option.some.inj ((if_pos e).symm.trans z)).symm⟩
        · have z := (if_neg e).symm.trans z
          by_cases e2 : b = Pt
          · exact .inr ⟨e2, (Option.some.inj ((if_pos e2).symm.trans z)).symm⟩
          · exact nomatch (if_neg e2).symm.trans z
      refine ⟨_, (if_neg apart.symm).trans (if_pos rfl), .inl (.inr ⟨_, if_pos rfl⟩), fun b u z => ?_, two, fun b u z => ?_⟩
      · rcases two b u z with ⟨rfl, rfl⟩ | ⟨rfl, rfl⟩
        · exact ⟨script, by rw [List.length_map]; exact few, vs, _, ivs, script⟩
        · exact empty
      · rcases two b u z with ⟨rfl, _⟩ | ⟨rfl, _⟩
        · exact look
        · exact loose
  have stays : ∀ {b : Addr} {o : Obj}, s₁.heap.get? b = some o → (∀ u, H b ≠ some u) → (hidT s₁.heap H).get? b = some o := fun {b o} e no => hidT_get e (by
    cases z : H b with
    | none => rfl
    | some u => exact (no u z).elim)
  have plainly : ∀ {b : Addr} {o : Obj}, s₁.heap.get? b = some o → (∀ v n, o.data ≠ .seq v n) → (∀ v, o.data ≠ .fields v) → (hidT s₁.heap H).get? b = some o := fun {b o} e n1 n2 => stays e fun u z => by
    rcases only b u z with ⟨rfl, _⟩ | ⟨rfl, _⟩
    · rw [script] at e
      injection e with e
      subst e
      exact n1 _ _ rfl
    · rw [empty] at e
      injection e with e
      subst e
      exact n2 _ rfl
  have spaces : ∀ {b : Addr} {m : Str → Option Value}, s₁.heap.Ns b m → (hidT s₁.heap H).Ns b m := by
    rintro b m ⟨o, es, ep, there, data, rest⟩
    refine ⟨o, es, ep, plainly there (fun v n z => ?_) (fun v z => ?_), data, rest⟩
    · rw [data] at z
      exact nomatch z
    · rw [data] at z
      exact nomatch z
  have inn : K.In (hidT s₁.heap H) := fun b o e => stays (inK b o e) fun u z => by
    rw [free b u z] at e
    exact nomatch e
  have mod : Mod K mg (hidT s₁.heap H) := by
    obtain ⟨mc, c1, c2⟩ := unlim
    exact ⟨inn, spaces names, ⟨mb, spaces bnames, boots⟩, mc, spaces c1, c2⟩
  have tb : TabB (hidT s₁.heap H) mg c Pt := by
    refine ⟨PySem.W.codeHd_of_K inn head, ?_, fun z => ?_⟩
    · obtain ⟨bm, ob, m1, m2, m3, m4, m5, m6⟩ := mods
      refine ⟨bm, ob, m1, m2, fun z => ?_, fun z => ?_, plainly m3 (fun v n z => ?_) (fun v z => ?_), m4, m5, m6⟩
      · obtain ⟨o, es, ep, there, data, _⟩ := names
        rw [z, there] at m3
        injection m3 with m3
        subst m3
        rw [data] at m6
        exact nomatch m6
      · rw [z, empty] at m3
        injection m3 with m3
        subst m3
        exact nomatch m6
      · rw [m6] at z
        exact nomatch z
      · rw [m6] at z
        exact nomatch z
    · obtain ⟨o, es, ep, there, data, _⟩ := names
      rw [z, empty] at there
      injection there with there
      subst there
      exact nomatch data
  have e0 : Env0 P w K mg (hidT s₁.heap H) callerA [] s₁ H := by
    refine ⟨rfl, mod, fun b o e => of_hidT e, Nat.le_of_eq (hidT_size _ _), trivial, ?_, ok, .of_eq nogen⟩
    intro b q
    exact absurd q (List.not_mem_nil (a := b))
  refine codeAny_mono ((each _ inn (spaces names) tb).run callerA [] s₁ H ⟨[.ref a], []⟩ [.ref a] [.ref a] _ _ rfl room e0 (binds s₁ (.ref a)) (.cons rfl .nil) (asked H table seq)) ?_
  rintro (e | out) s' got
  · exact got.elim
  · match out, got with
    | .next, got => exact got.elim
    | .brk, got => exact got.elim
    | .cont, got => exact got.elim
    | .ret u, ⟨v, H', os, bare, un, ok', rel, q⟩ =>
      have q : v = V.bl true := q
      subst q
      have rel : u = Value.bool true := rel
      subst rel
      have kept : ∀ b o, b ≠ Pt → s₁.heap.get? b = some o → s'.heap.get? b = some o := fun b o other e => by
        cases z : H b with
        | none => exact un.keep b o e z (List.not_mem_nil (a := b)) (List.not_mem_nil (a := b))
        | some u =>
          rcases only b u z with ⟨rfl, rfl⟩ | ⟨rfl, rfl⟩
          · have now := (ok' _ _ (un.frzs _ _ _ z)).1
            rw [script] at e
            injection e with e
            rw [← e]
            exact now
          · exact (other rfl).elim
      obtain ⟨more, grown⟩ := un.tbls Pt #[] table
      have grown := ok' Pt _ grown
      refine ⟨rfl, ⟨fun b o e => ?_, fun b o e => ?_⟩, os, bare⟩
      · by_cases eb : b = Pt
        · subst eb
          rw [empty] at e
          injection e with e
          subst e
          exact .inr (.inl ⟨((PySem.W.codeHd_of_K inK head).tab empty).isCodeTable, rfl, #[], _, rfl, by rw [Array.empty_append]; exact grown⟩)
        · exact .inl (kept b o eb e)
      · by_cases eb : b = Pt
        · subst eb
          exact ⟨_, grown⟩
        · exact ⟨o, kept b o eb e⟩
/-- at the end of a law that makes lambdas of its own -/
theorem walk_at_lawT {l : PySem.W.OpenLaw} {k : Nat} {q : Program} {loose : List Str} {XP : (Str → Option Value) → Heap → Prop} {YP : World → Heap → Prop} {d : DefRec} {K : Params → PySem.W.Frag} {sp : PySem.W.Frag → Addr → Sp} {x : Str}
    (hn : l.most = some 63) (hdf : d.params.defaults = []) (listed : ((recsOf q).any fun e => e.name == d.name) = true) (hr : Room k callerA) (hY : ∀ (w : World) (h : Heap), YP w h → (K w.params).In h)
    (F : ∀ (w : World) (mg : Str → Option Value) (fa : Addr) (h : Heap), (K w.params).In h → h.Ns mainGlobals mg → mg d.name = some (.ref fa) → OwnTab (K w.params) fa h →
      ∃ (fd : FuncData) (c Pt : Addr), h.get? Pt = some (PySem.W.tabObj #[]) ∧ (K w.params).lookup Pt = none ∧ PySem.W.codeHdIn (K w.params) c Pt = true ∧ (∀ (s : Shared) (u : Value), BindsTo s fd ⟨[u], []⟩ [(x, u)]) ∧
        ∀ base : Heap, (K w.params).In base → base.Ns mainGlobals mg → TabB base mg c Pt → FnG l.prog w (K w.params) mg base k fa fd [x] (sp (K w.params) Pt))
    (asked : ∀ (K : PySem.W.Frag) (Pt : Addr) (H : Hp) (a : Addr) (ns : List Int), ns.length ≤ 63 → H Pt = some (.tbl #[]) → SqL K H a (ns.map V.int) → sp K Pt [.ref a] H (fun v _ => v = .bl true) E0) :
    PySem.W.WalkO q loose XP YP l.row.toRowW d [] (fun f vs => PySem.call f vs) := by
  refine Att.attach_call hn hdf ?_
  intro w s₀ s₁ mg mb fa o pm cd doc a vs ns G Y ho hd hcd hmg hobj hints hlen hg
  have inn := hY w _ Y
  have mine : OwnTab (K w.params) fa s₁.heap := by
    intro c Pt o1 fd1 e dd vs1 sl z1 z2 z3 z4 z5
    obtain ⟨r, mem, same⟩ := List.any_eq_true.mp listed
    obtain ⟨a2, o2, fd2, c2, P2, y1, y2, y3, y4, _, ⟨oc, vc, x1, _, x3, x4⟩, there⟩ := G.T.tab r mem
    rw [beq_iff_eq.mp same, hmg] at y1
    obtain rfl : fa = a2 := by
      injection y1 with y1
      injection y1
    have f1 := inn _ _ z1
    rw [y2] at f1
    injection f1 with f1
    subst f1
    rw [z2] at y3
    injection y3 with y3
    subst y3
    rw [z3] at y4
    injection y4 with y4
    subst y4
    have f2 := inn _ _ z4
    rw [x1] at f2
    injection f2 with f2
    subst f2
    injection x3 with x3
    subst x3
    rw [z5] at x4
    injection x4 with x4
    injection x4 with x4
    subst x4
    exact there
  obtain ⟨fd, c, Pt, t1, t2, t3, bind, each⟩ := F w mg fa _ inn G.T.g hmg mine
  exact law_atT inn G.T.g G.T.b G.T.builtins G.T.nolimit hg t1 t2 t3 G.T.bmain hobj hints (Nat.le_trans hlen (by decide)) hr each bind fun H tb sq => asked (K w.params) Pt H a ns hlen tb sq
/-- the law's own def, its code object known -/
theorem FnG.bodyC {P : Program} {w : World} {K : PySem.W.Frag} {mg : Str → Option Value} {base : Heap} {k : Nat} {f c : Addr} {fd : FuncData} {ps : List Str} {sp : Sp} {x : Str} {st : Stmt} {N : List Str} (F : Fun K x x st f fd) (code : fd.code = .ref c) (S : FnScope N ps (defScope st)) (len : ∀ vs H Q E, sp vs H Q E → vs.length = ps.length)
    (hb : ∀ (A : Around) (outer : List Env) (s : Shared) (H : Hp) (vs : List V) (Q : VK) (E : XK), A.guards = some [] → Room k (A.deeper (envOfC x (defScope st) s.heap.objs.size f (.ref c))) → sp vs H Q E →
      ∃ t, PSs (cxOf CX0 P w K mg base N x (defScope st) f (.ref c) A outer s H E).nox (defBody st) t ∧ t { nx := fun _ H' => Q .non H', rt := Q } (L2.start N vs) H) : FnG P w K mg base (k + 1) f fd ps sp := by
  obtain ⟨oc, od, kV, doc, pm, an, cdv, ct, osl, efd, look, coded⟩ := F.ex
  subst efd
  have known : cdv = .ref c := code
  subst known
  constructor
  · exact len
  intro A outer s H args us vs Q E guard room e0 bind rel want
  have inn : K.In s.heap := e0.mod.kin.keeps fun b o e => (e0.bs b o e).1
  have nolim : s.heap.NoLimit := e0.mod.nolimit.keeps fun b o e => (e0.bs b o e).1
  refine codeAny_call_function room.depth (inn _ _ look) rfl S.co S.gen rfl (PySem.W.codeRec_of inn coded) (bind _ _ _ _ ?_)
  refine wpAny_newFunctionEnv_cells S.kind ?_ ?_
  · rintro ⟨n, v⟩ there
    have := S.par n (List.of_mem_zip there).1
    cases this with
    | inl q => exact .inl q
    | inr q => exact .inr ⟨q, PySem.W.cellsFrom_some _ _ _ (.inl q)⟩
  · intro env eenv s1 laid
    subst eenv
    refine ⟨nolim.keeps laid.toInCall.keep, codeAny_func ?_⟩
    obtain ⟨t, der, goal⟩ := hb A outer s H vs Q E guard (room.deeper _) want
    have I := inv_start (CX := CX0) (E := E) S room.hd e0 (len _ _ _ _ want) rel laid
    refine wpAny_mono (der.nox.run [] s1 (L2.start N vs) H _ I goal) (fun out s' got => ?_) fun e s' got => got
    match out, got with
    | .ret u, ⟨v, σ', H', J, rv, q⟩ => exact ⟨v, H', J.os, J.bare, J.base, J.hok, rv, q⟩
    | .next, ⟨σ', H', J, q⟩ => exact ⟨V.non, H', J.os, J.bare, J.base, J.hok, rfl, q⟩
    | .brk, ⟨_, _, _, q⟩ => exact q.elim
    | .cont, ⟨_, _, _, q⟩ => exact q.elim
end Sm

set_option Elab.async false
set_option linter.all false
set_option maxRecDepth 100000
set_option maxHeartbeats 4000000
namespace Sm
open PySem PySem.Spec PyProof.Rows L2 LamX
/-! ### the law's own call where the law makes lambdas: its table of code objects is tracked too -/
theorem law_atTs {P : Program} {w : World} {K : PySem.W.Frag} {mg mb : Str → Option Value} {k : Nat} {fa a : Addr} {ct : List (Addr × Addr)} {TT : List (Addr × Str)} {fd : FuncData} {x : Str} {sp : Sp} {s₁ : Shared} {vs : List Value} {ns : List Int}
    (inK : K.In s₁.heap) (names : s₁.heap.Ns mainGlobals mg) (bnames : s₁.heap.Ns builtinsNs mb) (boots : ∀ x : Str, x ≠ "__name__" → mb x = bootBuiltins x) (unlim : s₁.heap.NoLimit) (nogen : s₁.gens = #[])
    (empty : ∀ t ∈ ct, s₁.heap.get? t.2 = some (PySem.W.tabObj #[])) (loose : ∀ t ∈ ct, K.lookup t.2 = none) (head : ∀ t ∈ ct, PySem.W.codeHdIn K t.1 t.2 = true) (names2 : TT.map (·.1) = ct.map (·.2))
    (mods : ∃ (bm : Addr) (ob : Obj), mg "__builtins__" = some (.ref bm) ∧ bm ≠ builtinsNs ∧ s₁.heap.get? bm = some ob ∧ ob.cls = .type "module" ∧ ob.dict = some builtinsNs ∧ ob.data = .plain)
    (script : s₁.heap.get? a = some { cls := .type "list", data := .seq vs.toArray }) (whole : IntsAre vs ns) (few : ns.length ≤ sizeLine) (room : Room k callerA)
    (each : ∀ base : Heap, K.In base → base.Ns mainGlobals mg → (∀ t ∈ ct, TabB base mg t.1 t.2) → FnG P w K mg base k fa fd [x] sp) (binds : ∀ (s : Shared) (u : Value), BindsTo s fd ⟨[u], []⟩ [(x, u)])
    (asked : ∀ H : Hp, Tabs TT H → SqL K H a (ns.map V.int) → sp [.ref a] H (fun v _ => v = .bl true) E0) :
    codeAny (model P w) callerA (.call (.ref fa) ⟨[.ref a], []⟩) (fun r s' => r = .ok (.ret (.bool true)) ∧ OldK s₁.heap s'.heap ∧ s'.os = s₁.os ∧ AllBare s'.gens) s₁ := by
  have ivs := vals_ints whole
  obtain ⟨Ps, hPs⟩ : ∃ Ps, Ps = ct.map (·.2) := ⟨_, rfl⟩
  have emptyP : ∀ b ∈ Ps, s₁.heap.get? b = some (PySem.W.tabObj #[]) := fun b hb => by
    rw [hPs] at hb
    obtain ⟨t, ht, rfl⟩ := List.mem_map.mp hb
    exact empty t ht
  have looseP : ∀ b ∈ Ps, K.lookup b = none := fun b hb => by
    rw [hPs] at hb
    obtain ⟨t, ht, rfl⟩ := List.mem_map.mp hb
    exact loose t ht
  have headP : ∀ b ∈ Ps, ∃ c, PySem.W.codeHdIn K c b = true := fun b hb => by
    rw [hPs] at hb
    obtain ⟨t, ht, rfl⟩ := List.mem_map.mp hb
    exact ⟨t.1, head t ht⟩
  have apart : a ∉ Ps := fun e => by
    rw [emptyP a e] at script
    have z : Data.fields #[] = Data.seq vs.toArray _ := congrArg Obj.data (Option.some.inj script)
    cases z
  -- what is tracked: the table, and the script if the module does not hold it itself
  obtain ⟨H, table, seq, ok, only, free⟩ : ∃ H : Hp, (∀ b ∈ Ps, H b = some (.tbl #[])) ∧ SqL K H a (ns.map V.int) ∧ HOk P w H s₁.heap ∧ (∀ b u, H b = some u → (b = a ∧ u = .frz { cls := .type "list", data := .seq vs.toArray } (.lst (ns.map V.int))) ∨ (b ∈ Ps ∧ u = .tbl #[])) ∧ ∀ b u, H b = some u → K.lookup b = none := by
    cases look : K.lookup a with
    | some o =>
      have same := inK a o look
      rw [script] at same
      injection same with same
      subst same
      have one : ∀ b u, (fun b => if b ∈ Ps then some (HO.tbl #[]) else none : Hp) b = some u → b ∈ Ps ∧ u = .tbl #[] := by
        intro b u z
        by_cases e : b ∈ Ps
        · exact ⟨e, (Option.some.inj ((if_pos e).symm.trans z)).symm⟩
        · exact nomatch (if_neg e).symm.trans z
      refine ⟨fun b => if b ∈ Ps then some (.tbl #[]) else none, fun b hb => if_pos hb, .inr ⟨_, vs.toArray, _, look, rfl, rfl, rfl, ?_, ?_⟩, fun b u z => ?_, fun b u z => .inr (one b u z), fun b u z => ?_⟩
      · rw [List.size_toArray, whole.length]
        exact few
      · simpa using ivs
      · obtain ⟨mem, rfl⟩ := one b u z
        exact emptyP b mem
      · exact looseP b (one b u z).1
    | none =>
      have two : ∀ b u, (fun b => if b = a then some (HO.frz { cls := .type "list", data := .seq vs.toArray } (.lst (ns.map V.int))) else if b ∈ Ps then some (HO.tbl #[]) else none : Hp) b = some u → (b = a ∧ u = .frz { cls := .type "list", data := .seq vs.toArray } (.lst (ns.map V.int))) ∨ (b ∈ Ps ∧ u = .tbl #[]) := by
        intro b u z
        by_cases e : b = a
        · exact .inl ⟨e, (Option.some.inj ((if_pos e).symm.trans z)).symm⟩
        · have z := (if_neg e).symm.trans z
          by_cases e2 : b ∈ Ps
          · exact .inr ⟨e2, (Option.some.inj ((if_pos e2).symm.trans z)).symm⟩
          · exact nomatch (if_neg e2).symm.trans z
      refine ⟨fun b => if b = a then some (HO.frz { cls := .type "list", data := .seq vs.toArray } (.lst (ns.map V.int))) else if b ∈ Ps then some (HO.tbl #[]) else none, fun b hb => (if_neg (show ¬ b = a from fun e => apart (e ▸ hb))).trans (if_pos hb), .inl (.inr ⟨_, if_pos rfl⟩), fun b u z => ?_, two, fun b u z => ?_⟩
      · rcases two b u z with ⟨rfl, rfl⟩ | ⟨mem, rfl⟩
        · exact ⟨script, by rw [List.length_map]; exact few, vs, _, ivs, script⟩
        · exact emptyP b mem
      · rcases two b u z with ⟨rfl, _⟩ | ⟨mem, _⟩
        · exact look
        · exact looseP b mem
  have stays : ∀ {b : Addr} {o : Obj}, s₁.heap.get? b = some o → (∀ u, H b ≠ some u) → (hidT s₁.heap H).get? b = some o := fun {b o} e no => hidT_get e (by
    cases z : H b with
    | none => rfl
    | some u => exact (no u z).elim)
  have plainly : ∀ {b : Addr} {o : Obj}, s₁.heap.get? b = some o → (∀ v n, o.data ≠ .seq v n) → (∀ v, o.data ≠ .fields v) → (hidT s₁.heap H).get? b = some o := fun {b o} e n1 n2 => stays e fun u z => by
    rcases only b u z with ⟨rfl, _⟩ | ⟨mem, _⟩
    · rw [script] at e
      injection e with e
      subst e
      exact n1 _ _ rfl
    · rw [emptyP b mem] at e
      injection e with e
      subst e
      exact n2 _ rfl
  have spaces : ∀ {b : Addr} {m : Str → Option Value}, s₁.heap.Ns b m → (hidT s₁.heap H).Ns b m := by
    rintro b m ⟨o, es, ep, there, data, rest⟩
    refine ⟨o, es, ep, plainly there (fun v n z => ?_) (fun v z => ?_), data, rest⟩
    · rw [data] at z
      exact nomatch z
    · rw [data] at z
      exact nomatch z
  have inn : K.In (hidT s₁.heap H) := fun b o e => stays (inK b o e) fun u z => by
    rw [free b u z] at e
    exact nomatch e
  have mod : Mod K mg (hidT s₁.heap H) := by
    obtain ⟨mc, c1, c2⟩ := unlim
    exact ⟨inn, spaces names, ⟨mb, spaces bnames, boots⟩, mc, spaces c1, c2⟩
  have tb : ∀ t ∈ ct, TabB (hidT s₁.heap H) mg t.1 t.2 := fun t ht => by
    have empty := empty t ht
    refine ⟨PySem.W.codeHd_of_K inn (head t ht), ?_, fun z => ?_⟩
    · obtain ⟨bm, ob, m1, m2, m3, m4, m5, m6⟩ := mods
      refine ⟨bm, ob, m1, m2, fun z => ?_, fun z => ?_, plainly m3 (fun v n z => ?_) (fun v z => ?_), m4, m5, m6⟩
      · obtain ⟨o, es, ep, there, data, _⟩ := names
        rw [z, there] at m3
        injection m3 with m3
        subst m3
        rw [data] at m6
        exact nomatch m6
      · rw [z, empty] at m3
        injection m3 with m3
        subst m3
        exact nomatch m6
      · rw [m6] at z
        exact nomatch z
      · rw [m6] at z
        exact nomatch z
    · obtain ⟨o, es, ep, there, data, _⟩ := names
      rw [z, empty] at there
      injection there with there
      subst there
      exact nomatch data
  have e0 : Env0 P w K mg (hidT s₁.heap H) callerA [] s₁ H := by
    refine ⟨rfl, mod, fun b o e => of_hidT e, Nat.le_of_eq (hidT_size _ _), trivial, ?_, ok, .of_eq nogen⟩
    intro b q
    exact absurd q (List.not_mem_nil (a := b))
  refine codeAny_mono ((each _ inn (spaces names) tb).run callerA [] s₁ H ⟨[.ref a], []⟩ [.ref a] [.ref a] _ _ rfl room e0 (binds s₁ (.ref a)) (.cons rfl .nil) (asked H (fun y hy => by
    have m : y.1 ∈ Ps := by
      rw [hPs, ← names2]
      exact List.mem_map.mpr ⟨y, hy, rfl⟩
    exact TabS.nil (table _ m)) seq)) ?_
  rintro (e | out) s' got
  · exact got.elim
  · match out, got with
    | .next, got => exact got.elim
    | .brk, got => exact got.elim
    | .cont, got => exact got.elim
    | .ret u, ⟨v, H', os, bare, un, ok', rel, q⟩ =>
      have q : v = V.bl true := q
      subst q
      have rel : u = Value.bool true := rel
      subst rel
      have kept : ∀ b o, b ∉ Ps → s₁.heap.get? b = some o → s'.heap.get? b = some o := fun b o other e => by
        cases z : H b with
        | none => exact un.keep b o e z (List.not_mem_nil (a := b)) (List.not_mem_nil (a := b))
        | some u =>
          rcases only b u z with ⟨rfl, rfl⟩ | ⟨mem, rfl⟩
          · have now := (ok' _ _ (un.frzs _ _ _ z)).1
            rw [script] at e
            injection e with e
            rw [← e]
            exact now
          · exact (other mem).elim
      have grow : ∀ b ∈ Ps, ∃ more : Array Value, s'.heap.get? b = some (PySem.W.tabObj (#[] ++ more)) := fun b hb => by
        obtain ⟨more, grown⟩ := un.tbls b #[] (table b hb)
        exact ⟨more, ok' b _ grown⟩
      refine ⟨rfl, ⟨fun b o e => ?_, fun b o e => ?_⟩, os, bare⟩
      · by_cases eb : b ∈ Ps
        · obtain ⟨more, grown⟩ := grow b eb
          obtain ⟨c, hc⟩ := headP b eb
          have e0 := emptyP b eb
          rw [e0] at e
          injection e with e
          subst e
          exact .inr (.inl ⟨((PySem.W.codeHd_of_K inK hc).tab e0).isCodeTable, rfl, #[], _, rfl, by rw [Array.empty_append]; rw [Array.empty_append] at grown; exact grown⟩)
        · exact .inl (kept b o eb e)
      · by_cases eb : b ∈ Ps
        · obtain ⟨more, grown⟩ := grow b eb
          exact ⟨_, grown⟩
        · exact ⟨o, kept b o eb e⟩
/-- at the end of a law that makes lambdas of its own -/
theorem walk_at_lawTs {l : PySem.W.OpenLaw} {k : Nat} {q : Program} {loose : List Str} {XP : (Str → Option Value) → Heap → Prop} {YP : World → Heap → Prop} {d : DefRec} {K : Params → PySem.W.Frag} {sp : PySem.W.Frag → List (Addr × Str) → Sp} {x : Str}
    (hn : l.most = some 63) (hdf : d.params.defaults = []) (hr : Room k callerA) (hY : ∀ (w : World) (h : Heap), YP w h → (K w.params).In h)
    (F : ∀ (w : World) (mg : Str → Option Value) (fa : Addr) (h : Heap), (K w.params).In h → h.Ns mainGlobals mg → mg d.name = some (.ref fa) → (∀ (nm : Str) (f : Addr), ((recsOf q).any fun e => e.name == nm) = true → mg nm = some (.ref f) → OwnTab (K w.params) f h) →
      ∃ (fd : FuncData) (ct : List (Addr × Addr)) (TT : List (Addr × Str)), (∀ t ∈ ct, h.get? t.2 = some (PySem.W.tabObj #[])) ∧ (∀ t ∈ ct, (K w.params).lookup t.2 = none) ∧ (∀ t ∈ ct, PySem.W.codeHdIn (K w.params) t.1 t.2 = true) ∧ TT.map (·.1) = ct.map (·.2) ∧ (∀ (s : Shared) (u : Value), BindsTo s fd ⟨[u], []⟩ [(x, u)]) ∧
        ∀ base : Heap, (K w.params).In base → base.Ns mainGlobals mg → (∀ t ∈ ct, TabB base mg t.1 t.2) → FnG l.prog w (K w.params) mg base k fa fd [x] (sp (K w.params) TT))
    (asked : ∀ (K : PySem.W.Frag) (TT : List (Addr × Str)) (H : Hp) (a : Addr) (ns : List Int), ns.length ≤ 63 → Tabs TT H → SqL K H a (ns.map V.int) → sp K TT [.ref a] H (fun v _ => v = .bl true) E0) :
    PySem.W.WalkO q loose XP YP l.row.toRowW d [] (fun f vs => PySem.call f vs) := by
  refine Att.attach_call hn hdf ?_
  intro w s₀ s₁ mg mb fa o pm cd doc a vs ns G Y ho hd hcd hmg hobj hints hlen hg
  have inn := hY w _ Y
  have mine : ∀ (nm : Str) (f : Addr), ((recsOf q).any fun e => e.name == nm) = true → mg nm = some (.ref f) → OwnTab (K w.params) f s₁.heap := by
    intro nm fa listed hmg c Pt o1 fd1 e dd vs1 sl z1 z2 z3 z4 z5
    obtain ⟨r, mem, same⟩ := List.any_eq_true.mp listed
    obtain ⟨a2, o2, fd2, c2, P2, y1, y2, y3, y4, _, ⟨oc, vc, x1, _, x3, x4⟩, there⟩ := G.T.tab r mem
    rw [beq_iff_eq.mp same, hmg] at y1
    obtain rfl : fa = a2 := by
      injection y1 with y1
      injection y1
    have f1 := inn _ _ z1
    rw [y2] at f1
    injection f1 with f1
    subst f1
    rw [z2] at y3
    injection y3 with y3
    subst y3
    rw [z3] at y4
    injection y4 with y4
    subst y4
    have f2 := inn _ _ z4
    rw [x1] at f2
    injection f2 with f2
    subst f2
    injection x3 with x3
    subst x3
    rw [z5] at x4
    injection x4 with x4
    injection x4 with x4
    subst x4
    exact there
  obtain ⟨fd, ct, TT, t1, t2, t3, t4, bind, each⟩ := F w mg fa _ inn G.T.g hmg mine
  exact law_atTs inn G.T.g G.T.b G.T.builtins G.T.nolimit hg t1 t2 t3 t4 G.T.bmain hobj hints (Nat.le_trans hlen (by decide)) hr each bind fun H tb sq => asked (K w.params) TT H a ns hlen tb sq
end Sm

set_option Elab.async false
set_option linter.all false
set_option maxRecDepth 100000
set_option maxHeartbeats 4000000
namespace Sm
open PySem PySem.Spec PyProof.Rows L2
/-! ### comprehensions whose items are told one by one, what stands stays -/
abbrev lcmQ (H : Hp) (D : Addr) (fv : Nat → V) (i : Nat) : VK := fun y H4 => ∃ acc, H4 D = some (.lst acc) ∧ acc.length < sizeLine ∧ Same H (upd H4 D (.lst (acc ++ [y]))) ∧ upd H4 D (.lst (acc ++ [y])) D = some (.lst ((List.range (i + 1)).map fv))
theorem lcm_step {H H' H4 : Hp} {D : Addr} {i n : Nat} {fv : Nat → V} (nD : H D = none) (s : Same H H') (hD : H' D = some (.lst ((List.range i).map fv))) (hi : i ≤ n) (ln : n ≤ 20000) (s4 : Same H' H4) :
    ∃ acc, H4 D = some (.lst acc) ∧ acc.length < sizeLine ∧ Same H (upd H4 D (.lst (acc ++ [fv i]))) ∧ upd H4 D (.lst (acc ++ [fv i])) D = some (.lst ((List.range (i + 1)).map fv)) := by
  refine ⟨_, s4 _ _ hD, ?_, fun b o e => ?_, ?_⟩
  · rw [List.length_map, List.length_range]
    exact Nat.lt_of_le_of_lt (show i ≤ 20000 by omega) (by decide)
  · rw [upd_ne (ne_of_none e nD)]
    exact s4 _ _ (s _ _ e)
  · rw [upd_same, List.range_succ, List.map_append]
    rfl
theorem lc_mT {K : PySem.W.Frag} {a : Addr} {xs : List V} {g : TG} {te : TE} {vs : List Nat} {σ : L2.St} {H : Hp} {D : Addr} {Qd : Hp → Prop} (fv : Nat → V) (ha : H a = some (.tup xs)) (nD : H D = none) (ln : xs.length ≤ 20000)
    (hs : ∀ i x H', xs[i]? = some x → Same H H' → ∀ R : VK, (∀ H4, Same H' H4 → R (fv i) H4) → g x (wipe σ vs) H' fun σ2 H2 => wipe σ2 vs = wipe σ vs ∧ te σ2 H2 R)
    (mono : ∀ x H' (A B : L2.St → Hp → Prop), (∀ σ2 H2, A σ2 H2 → B σ2 H2) → g x (wipe σ vs) H' A → g x (wipe σ vs) H' B)
    (hd : ∀ H', Same H H' → H' D = some (.lst ((List.range xs.length).map fv)) → Qd H') :
    ∃ W : Nat → Nat → Hp → Prop, (∃ m, W 0 m (upd H D (.lst []))) ∧ ∀ i m H, W i m H → ((Itt K a).stop i H ∧ Qd H) ∨ ((Itt K a).go i H ∧ ∃ Nx : Hp → Prop, (∀ H', Nx H' → ∃ m', m' < m ∧ W (i + 1) m' H') ∧ ∀ x H', (Itt K a).yld i H x H' → g x (wipe σ vs) H' fun σ2 H2 => wipe σ2 vs = wipe σ vs ∧ tYes σ2 H2 fun b H3 =>
        if b = true then te σ2 H3 fun y H4 => ∃ acc, H4 D = some (.lst acc) ∧ acc.length < sizeLine ∧ Nx (upd H4 D (.lst (acc ++ [y]))) else Nx H3) := by
  refine lc_tup (K := K) (a := a) (xs := xs) (fun i H' => Same H H' ∧ H' D = some (.lst ((List.range i).map fv))) ⟨same_upd nD, upd_same⟩ (fun i H' _ h => SqT.of (h.1 _ _ ha)) ?_ (fun H' h => hd H' h.1 h.2)
  rintro i x H' hx ⟨s, hD⟩
  have il : i < xs.length := (List.getElem?_eq_some_iff.mp hx).1
  refine mono x H' _ _ ?_ (hs i x H' hx s (lcmQ H D fv i) fun H4 s4 => lcm_step nD s hD (Nat.le_of_lt il) ln s4)
  rintro σ2 H2 ⟨e, h⟩
  refine ⟨e, ?_⟩
  unfold tYes
  exact iteT h
theorem lc_mL {K : PySem.W.Frag} {a : Addr} {xs : List V} {g : TG} {te : TE} {vs : List Nat} {σ : L2.St} {H : Hp} {D : Addr} {Qd : Hp → Prop} (fv : Nat → V) (ha : H a = some (.lst xs)) (nD : H D = none) (ln : xs.length ≤ 20000)
    (hs : ∀ i x H', xs[i]? = some x → Same H H' → ∀ R : VK, (∀ H4, Same H' H4 → R (fv i) H4) → g x (wipe σ vs) H' fun σ2 H2 => wipe σ2 vs = wipe σ vs ∧ te σ2 H2 R)
    (mono : ∀ x H' (A B : L2.St → Hp → Prop), (∀ σ2 H2, A σ2 H2 → B σ2 H2) → g x (wipe σ vs) H' A → g x (wipe σ vs) H' B)
    (hd : ∀ H', Same H H' → H' D = some (.lst ((List.range xs.length).map fv)) → Qd H') :
    ∃ W : Nat → Nat → Hp → Prop, (∃ m, W 0 m (upd H D (.lst []))) ∧ ∀ i m H, W i m H → ((Itl K a).stop i H ∧ Qd H) ∨ ((Itl K a).go i H ∧ ∃ Nx : Hp → Prop, (∀ H', Nx H' → ∃ m', m' < m ∧ W (i + 1) m' H') ∧ ∀ x H', (Itl K a).yld i H x H' → g x (wipe σ vs) H' fun σ2 H2 => wipe σ2 vs = wipe σ vs ∧ tYes σ2 H2 fun b H3 =>
        if b = true then te σ2 H3 fun y H4 => ∃ acc, H4 D = some (.lst acc) ∧ acc.length < sizeLine ∧ Nx (upd H4 D (.lst (acc ++ [y]))) else Nx H3) := by
  refine lc_list (K := K) (a := a) (xs := xs) (fun i H' => Same H H' ∧ H' D = some (.lst ((List.range i).map fv))) ⟨same_upd nD, upd_same⟩ (fun i H' _ h => SqL.of (h.1 _ _ ha)) ?_ (fun H' h => hd H' h.1 h.2)
  rintro i x H' hx ⟨s, hD⟩
  have il : i < xs.length := (List.getElem?_eq_some_iff.mp hx).1
  refine mono x H' _ _ ?_ (hs i x H' hx s (lcmQ H D fv i) fun H4 s4 => lcm_step nD s hD (Nat.le_of_lt il) ln s4)
  rintro σ2 H2 ⟨e, h⟩
  refine ⟨e, ?_⟩
  unfold tYes
  exact iteT h
theorem lc_mR {lo : Int} {n : Nat} {g : TG} {te : TE} {vs : List Nat} {σ : L2.St} {H : Hp} {D : Addr} {Qd : Hp → Prop} (fv : Nat → V) (nD : H D = none) (ln : n ≤ 20000)
    (hs : ∀ i H', i < n → Same H H' → ∀ R : VK, (∀ H4, Same H' H4 → R (fv i) H4) → g (.int (lo + i)) (wipe σ vs) H' fun σ2 H2 => wipe σ2 vs = wipe σ vs ∧ te σ2 H2 R)
    (mono : ∀ x H' (A B : L2.St → Hp → Prop), (∀ σ2 H2, A σ2 H2 → B σ2 H2) → g x (wipe σ vs) H' A → g x (wipe σ vs) H' B)
    (hd : ∀ H', Same H H' → H' D = some (.lst ((List.range n).map fv)) → Qd H') :
    ∃ W : Nat → Nat → Hp → Prop, (∃ m, W 0 m (upd H D (.lst []))) ∧ ∀ i m H, W i m H → ((Itr lo n).stop i H ∧ Qd H) ∨ ((Itr lo n).go i H ∧ ∃ Nx : Hp → Prop, (∀ H', Nx H' → ∃ m', m' < m ∧ W (i + 1) m' H') ∧ ∀ x H', (Itr lo n).yld i H x H' → g x (wipe σ vs) H' fun σ2 H2 => wipe σ2 vs = wipe σ vs ∧ tYes σ2 H2 fun b H3 =>
        if b = true then te σ2 H3 fun y H4 => ∃ acc, H4 D = some (.lst acc) ∧ acc.length < sizeLine ∧ Nx (upd H4 D (.lst (acc ++ [y]))) else Nx H3) := by
  refine lc_range (fun i H' => Same H H' ∧ H' D = some (.lst ((List.range i).map fv))) ⟨same_upd nD, upd_same⟩ ?_ (fun H' h => hd H' h.1 h.2)
  rintro i H' il ⟨s, hD⟩
  refine mono _ H' _ _ ?_ (hs i H' il s (lcmQ H D fv i) fun H4 s4 => lcm_step nD s hD (Nat.le_of_lt il) ln s4)
  rintro σ2 H2 ⟨e, h⟩
  refine ⟨e, ?_⟩
  unfold tYes
  exact iteT h
/-- one name -/
theorem gName_mono {j : Nat} {σ : L2.St} : ∀ (x : V) (H' : Hp) (A B : L2.St → Hp → Prop), (∀ σ2 H2, A σ2 H2 → B σ2 H2) → gName j x σ H' A → gName j x σ H' B := fun x H' A B h a => h _ _ a
end Sm

set_option Elab.async false
set_option linter.all false
set_option maxRecDepth 100000
set_option maxHeartbeats 4000000
namespace Sm
open PySem PySem.Spec PyProof.Rows L2
/-! ### comprehensions of draws over a range: each item is told by something that outlives all but its own tuples -/
def KeepT (H H' : Hp) : Prop := ∀ b xs, H b = some (.tup xs) → H' b = some (.tup xs)
/-- a row of values and what they are -/
def RowOf {α : Type} (rel : Hp → V → α → Prop) (H : Hp) (vs : List V) (as : List α) : Prop := vs.length = as.length ∧ ∀ (i : Nat) (v : V), vs[i]? = some v → ∃ a, as[i]? = some a ∧ rel H v a
theorem RowOf.keep {α : Type} {rel : Hp → V → α → Prop} (st : ∀ H H' v a, KeepT H H' → rel H v a → rel H' v a) {H H' : Hp} {vs : List V} {as : List α} (r : RowOf rel H vs as) (k : KeepT H H') : RowOf rel H' vs as :=
  ⟨r.1, fun i v e => by obtain ⟨a, h1, h2⟩ := r.2 i v e; exact ⟨a, h1, st _ _ _ _ k h2⟩⟩
theorem RowOf.snoc {α : Type} {rel : Hp → V → α → Prop} {H : Hp} {vs : List V} {as : List α} {v : V} {a : α} (r : RowOf rel H vs as) (h : rel H v a) : RowOf rel H (vs ++ [v]) (as ++ [a]) := by
  refine ⟨by rw [List.length_append, List.length_append, r.1]; rfl, fun i z e => ?_⟩
  rcases Nat.lt_or_ge i vs.length with c | c
  · rw [List.getElem?_append_left c] at e
    obtain ⟨b, h1, h2⟩ := r.2 i z e
    exact ⟨b, by rw [List.getElem?_append_left (by rw [← r.1]; exact c)]; exact h1, h2⟩
  · rw [List.getElem?_append_right c] at e
    have hi : i - vs.length = 0 := by
      rcases Nat.eq_zero_or_pos (i - vs.length) with q | q
      · exact q
      · rw [List.getElem?_eq_none (by show [v].length ≤ _; exact q)] at e
        cases e
    rw [hi] at e
    have e : z = v := (Option.some.inj e).symm
    subst e
    refine ⟨a, ?_, h⟩
    rw [List.getElem?_append_right (by rw [← r.1]; exact c), ← r.1, hi]
    rfl
theorem lc_rdA {α : Type} (rel : Hp → V → α → Prop) (st : ∀ H H' v a, KeepT H H' → rel H v a → rel H' v a) {lo : Int} {n : Nat} {g : TG} {te : TE} {vs : List Nat} {σ : L2.St} {H : Hp} {D p l : Addr} {n0 c : Int} {Qd : Hp → Prop} (G : α → Prop) (D0 : Deck H p l n0) (nD : H D = none) (ln : n ≤ 20000) (c0 : 0 ≤ c)
    (hs : ∀ i H' n', i < n → Fr p l H H' → Deck H' p l n' → n0 ≤ n' → n' ≤ n0 + c * (i : Int) → ∀ R : VK, (∀ H4 v a n4, Fr p l H' H4 → Deck H4 p l n4 → n' ≤ n4 → n4 ≤ n' + c → G a → rel H4 v a → R v H4) → g (.int (lo + i)) (wipe σ vs) H' fun σ2 H2 => wipe σ2 vs = wipe σ vs ∧ te σ2 H2 R)
    (mono : ∀ x H' (A B : L2.St → Hp → Prop), (∀ σ2 H2, A σ2 H2 → B σ2 H2) → g x (wipe σ vs) H' A → g x (wipe σ vs) H' B)
    (hd : ∀ H' (n' : Int) (us : List V) (as : List α), Fr p l H H' → Deck H' p l n' → n0 ≤ n' → n' ≤ n0 + c * (n : Int) → as.length = n → (∀ a ∈ as, G a) → RowOf rel H' us as → H' D = some (.lst us) → Qd H') :
    ∃ W : Nat → Nat → Hp → Prop, (∃ m, W 0 m (upd H D (.lst []))) ∧ ∀ i m H, W i m H → ((Itr lo n).stop i H ∧ Qd H) ∨ ((Itr lo n).go i H ∧ ∃ Nx : Hp → Prop, (∀ H', Nx H' → ∃ m', m' < m ∧ W (i + 1) m' H') ∧ ∀ x H', (Itr lo n).yld i H x H' → g x (wipe σ vs) H' fun σ2 H2 => wipe σ2 vs = wipe σ vs ∧ tYes σ2 H2 fun b H3 =>
        if b = true then te σ2 H3 fun y H4 => ∃ acc, H4 D = some (.lst acc) ∧ acc.length < sizeLine ∧ Nx (upd H4 D (.lst (acc ++ [y]))) else Nx H3) := by
  obtain ⟨Dp, Dl⟩ := D0.lne nD
  refine lc_range (fun i H' => ∃ (n' : Int) (us : List V) (as : List α), Fr p l H H' ∧ Deck H' p l n' ∧ n0 ≤ n' ∧ n' ≤ n0 + c * (i : Int) ∧ as.length = i ∧ (∀ a ∈ as, G a) ∧ RowOf rel H' us as ∧ H' D = some (.lst us)) ?_ ?_ ?_
  · exact ⟨n0, [], [], Same.fr (same_upd nD), D0.same (same_upd nD), by omega, by simp, rfl, fun x hx => (nomatch hx), ⟨rfl, fun i v e => by simp at e⟩, upd_same⟩
  · rintro i H' il ⟨n', us, as, f, D1, a0, a1, xl, xg, row, hD⟩
    refine mono _ H' _ _ ?_ (hs i H' n' il f D1 a0 a1 (fun y H4 => ∃ acc, H4 D = some (.lst acc) ∧ acc.length < sizeLine ∧ ∃ (n' : Int) (us : List V) (as : List α), Fr p l H (upd H4 D (.lst (acc ++ [y]))) ∧ Deck (upd H4 D (.lst (acc ++ [y]))) p l n' ∧ n0 ≤ n' ∧ n' ≤ n0 + c * ((i + 1 : Nat) : Int) ∧ as.length = i + 1 ∧ (∀ a ∈ as, G a) ∧ RowOf rel (upd H4 D (.lst (acc ++ [y]))) us as ∧ upd H4 D (.lst (acc ++ [y])) D = some (.lst us)) fun H4 v a n4 f4 D4 b0 b1 ga ra => ?_)
    · rintro σ2 H2 ⟨e, h⟩
      refine ⟨e, ?_⟩
      unfold tYes
      exact iteT h
    · have hD4 := f4 _ _ Dp Dl hD
      have kt : KeepT H4 (upd H4 D (.lst (us ++ [v]))) := fun b xs e => by
        rw [upd_ne (ne_of e hD4 (by intro q; cases q))]
        exact e
      refine ⟨us, hD4, ?_, n4, us ++ [v], as ++ [a], ?_, ⟨by rw [upd_ne Dp.symm]; exact D4.hp, ?_⟩, by omega, ?_, ?_, ?_, ?_, upd_same⟩
      · rw [row.1, xl]
        exact Nat.lt_of_le_of_lt (show i ≤ 20000 by omega) (by decide)
      · intro b o h1 h2 hb
        rw [upd_ne (ne_of_none hb nD)]
        exact f4 b o h1 h2 (f b o h1 h2 hb)
      · obtain ⟨cells, q1, q2⟩ := D4.hl
        exact ⟨cells, by rw [upd_ne Dl.symm]; exact q1, q2⟩
      · have : c * ((i + 1 : Nat) : Int) = c * (i : Int) + c := by rw [Int.natCast_add, Int.mul_add, show ((1 : Nat) : Int) = 1 from rfl, Int.mul_one]
        omega
      · rw [List.length_append, List.length_singleton, xl]
      · intro z hz
        rcases List.mem_append.mp hz with hz | hz
        · exact xg z hz
        · rw [List.mem_singleton.mp hz]
          exact ga
      · exact (row.keep st (H' := upd H4 D (.lst (us ++ [v]))) fun b xs e => kt b xs (f4.tup D1 e)).snoc (st _ _ _ _ kt ra)
  · rintro H' ⟨n', us, as, f, D1, a0, a1, xl, xg, row, hD⟩
    exact hd H' n' us as f D1 a0 a1 xl xg row hD
/-- ints -/
def relI : Hp → V → Int → Prop := fun _ v a => v = .int a
theorem relI_keep : ∀ H H' v a, KeepT H H' → relI H v a → relI H' v a := fun _ _ _ _ _ h => h
theorem RowOf.ints {H : Hp} : ∀ {vs : List V} {as : List Int}, RowOf relI H vs as → vs = as.map V.int
  | [], [], _ => rfl
  | [], _ :: _, h => nomatch h.1
  | _ :: _, [], h => nomatch h.1
  | v :: vs, a :: as, h => by
    obtain ⟨b, h1, h2⟩ := h.2 0 v rfl
    have h1 : a = b := Option.some.inj h1
    have h2 : v = .int b := h2
    have r : RowOf relI H vs as := ⟨Nat.succ.inj h.1, fun i z e => h.2 (i + 1) z e⟩
    rw [h2, ← h1, r.ints]
    rfl
end Sm

set_option Elab.async false
set_option linter.all false
set_option maxRecDepth 100000
set_option maxHeartbeats 4000000
namespace Sm
open PySem PySem.Spec PyProof.Rows L2
/-! ### a tuple taken once, or no times -/
theorem tuple_once (l : Addr) (items : Array Value) (n : Nat) (dd : Option Addr) (sl : Array (Option Value)) (u : Tok) :
    Meets (Builtin.«tuple.__mul__» ⟨[.ref l, .int 1 u], []⟩) (fun _ R s => s.heap.get? l = some { cls := .type "tuple", dict := dd, data := .seq items n, slots := sl } ∧ R (.ok (.ret (Value.ref l))) s) :=
  .of_wp fun prog w A R s h => by
    obtain ⟨hp, g, d, tk, os⟩ := s
    obtain ⟨hl, h⟩ := h
    have f1 := AutoSeq1.idx_int
    have c0 : (decide ((1 : Int) < -(2 ^ 63)) || decide ((1 : Int) ≥ 2 ^ 63)) = false := by decide
    wp_walk using wpAny_loadPart' hl
    exact ⟨_, rfl, h⟩
theorem tuple_zero (l : Addr) (items : Array Value) (n : Nat) (dd : Option Addr) (sl : Array (Option Value)) (u : Tok) (hi : items.isEmpty = false) :
    Meets (Builtin.«tuple.__mul__» ⟨[.ref l, .int 0 u], []⟩) (fun _ R s => s.heap.get? l = some { cls := .type "tuple", dict := dd, data := .seq items n, slots := sl } ∧ R (.ok (.ret (Value.ref s.heap.objs.size))) { s with heap := s.heap.push { cls := Value.type "tuple", data := Data.seq #[] } }) :=
  .of_wp fun prog w A R s h => by
    obtain ⟨hp, g, d, tk, os⟩ := s
    obtain ⟨hl, h⟩ := h
    have f1 := AutoSeq1.idx_int
    wp_walk using wpAny_loadPart' hl
    exact ⟨_, rfl, h⟩
section
variable {X : Cx}
/-- tuple * int, the int from 0 on -/
theorem op_rep0 : OpR X (binaryOp .Mult) (fun x y H Q => ∃ (l : Addr) (k : Int) (xs : List V), x = .ref l ∧ y = .int k ∧ H l = some (.tup xs) ∧ xs ≠ [] ∧ 0 ≤ k ∧ k ≤ 1000 ∧ xs.length ≤ 1000 ∧
    ∀ H' q, Same H H' → H' q = some (.tup (List.replicate k.toNat xs).flatten) → Q (.ref q) H') := by
  intro pins s σ H x y v u Q I rx ry want
  obtain ⟨l, k, xs, rfl, rfl, hT, hne, h0, h1, hz, q⟩ := want
  by_cases big : 2 ≤ k
  · exact op_repT pins s σ H _ _ v u Q I rx ry ⟨l, k, xs, rfl, rfl, SqT.of hT, hne, big, h1, hz, fun p np => q _ p (fun b o e => by rw [upd_ne (ne_of_none e np)]; exact e) upd_same⟩
  cases rx
  obtain ⟨t, rfl⟩ := ry
  obtain ⟨its, r, ⟨⟨cls, dd, data, sl⟩, ho, hc, n, hd⟩, hs⟩ := I.tuple (SqT.of hT)
  simp only at hc hd
  subst hc hd
  have hi : its.toArray.isEmpty = false := by
    cases its with
    | nil =>
      have := r.length
      exact absurd (List.eq_nil_of_length_eq_zero this) hne
    | cons a b => rfl
  by_cases one : k = 1
  · subst one
    refine wpAny_binaryOp_repeat_ref (T := "tuple") (U := "int") (by decide) ⟨_, ho, rfl⟩ (fun s' => typeIs_int s' 1 t) noFill_tuple_mul F.fills_int_mul F.slot_int_rmul repeat_tuple F.slot_int_index.lookup
      (call_meets F.slot_int_rmul (typeIs_int s 1 t) F.entry_int_rmul (F.args_int_rmul_2 _ _) (int_rmul_tuple 1 t l its.toArray n dd sl) ⟨ho, rfl, ⟨_, ho, rfl⟩, ?_⟩)
    refine call_meets F.slot_tuple_mul ⟨_, ho, rfl⟩ F.entry_tuple_mul (F.args_tuple_mul_2 _ _) (tuple_once l its.toArray n dd sl t) ⟨ho, ?_⟩
    refine ⟨.ref l, H, I, rfl, q H l (Same.refl H) ?_⟩
    rw [hT]
    simp
  · have zero : k = 0 := by omega
    subst zero
    refine wpAny_binaryOp_repeat_ref (T := "tuple") (U := "int") (by decide) ⟨_, ho, rfl⟩ (fun s' => typeIs_int s' 0 t) noFill_tuple_mul F.fills_int_mul F.slot_int_rmul repeat_tuple F.slot_int_index.lookup
      (call_meets F.slot_int_rmul (typeIs_int s 0 t) F.entry_int_rmul (F.args_int_rmul_2 _ _) (int_rmul_tuple 0 t l its.toArray n dd sl) ⟨ho, rfl, ⟨_, ho, rfl⟩, ?_⟩)
    refine call_meets F.slot_tuple_mul ⟨_, ho, rfl⟩ F.entry_tuple_mul (F.args_tuple_mul_2 _ _) (tuple_zero l its.toArray n dd sl t hi) ⟨ho, ?_⟩
    have fresh := I.hok.fresh (Nat.le_refl s.heap.objs.size)
    refine ⟨.ref s.heap.objs.size, upd H s.heap.objs.size (.tup []), I.laid (t' := s.toks) (fun b ob e => Heap.get?_push_of_some _ e) (Nat.le_refl _) ?_, rfl, q _ _ (fun b o e => by rw [upd_ne (ne_of_none e fresh)]; exact e) upd_same⟩
    exact ⟨Nat.zero_le _, [], .nil, IsTup.new _ _⟩
end
end Sm

set_option maxHeartbeats 4000000
namespace Sm
/-! offers, boards, and what leads where -/
structure Of where
  a : Nat
  x : Int
  b : Nat
  y : Int
def Of.ns (o : Of) : List Int := [(o.a : Int), o.x, (o.b : Int), o.y]
structure OfOk (k : Nat) (o : Of) : Prop where
  a : o.a < k
  b : o.b < k
  ne : o.a ≠ o.b
  x0 : 1 ≤ o.x
  x1 : o.x ≤ 30
  y0 : 0 ≤ o.y
  y1 : o.y ≤ 30
def Edge (L : List Of) (a b : Nat) : Prop := ∃ o ∈ L, o.a = a ∧ o.b = b ∧ 0 < o.y
def Rn (L : List Of) (s : Nat) : Nat → Nat → Prop
  | 0, c => c = s
  | n + 1, c => Rn L s n c ∨ ∃ b, Rn L s n b ∧ Edge L b c
def Lead (L : List Of) (s c : Nat) : Prop := ∃ n, Rn L s n c
section
variable {L : List Of} {s c d k : Nat}
theorem Rn.up {n m : Nat} (h : n ≤ m) (r : Rn L s n c) : Rn L s m c := by
  induction m with
  | zero => rw [show n = 0 by omega] at r; exact r
  | succ m ih =>
    by_cases q : n = m + 1
    · rw [← q]; exact r
    · exact .inl (ih (by omega))
theorem Lead.self : Lead L s s := ⟨0, rfl⟩
theorem Lead.step (h : Lead L s c) (e : Edge L c d) : Lead L s d := by
  obtain ⟨n, r⟩ := h
  exact ⟨n + 1, .inr ⟨c, r, e⟩⟩
theorem Lead.closed {S : Nat → Prop} (h0 : S s) (hs : ∀ a b, S a → Edge L a b → S b) (h : Lead L s c) : S c := by
  obtain ⟨n, r⟩ := h
  induction n generalizing c with
  | zero => rw [show c = s from r]; exact h0
  | succ n ih =>
    rcases r with r | ⟨b, r, e⟩
    · exact ih r
    · exact hs _ _ (ih r) e
theorem Lead.trans (h1 : Lead L s c) (h2 : Lead L c d) : Lead L s d := h2.closed (S := fun x => Lead L s x) h1 fun _ _ h e => h.step e
theorem filter_less {α : Type} {p q : α → Bool} : ∀ {l : List α}, (∀ x ∈ l, p x = true → q x = true) → (∃ x ∈ l, q x = true ∧ p x = false) → (l.filter p).length + 1 ≤ (l.filter q).length
  | [], _, h => by obtain ⟨_, h, _⟩ := h; cases h
  | a :: l, h, ⟨x, hx, h1, h2⟩ => by
    have le : (l.filter p).length ≤ (l.filter q).length := by
      clear hx h1 h2
      induction l with
      | nil => exact Nat.le_refl _
      | cons b l ih =>
        have i := ih fun x hx => by
          rcases List.mem_cons.mp hx with e | e
          · exact h x (by rw [e]; exact List.mem_cons_self)
          · exact h x (List.mem_cons_of_mem _ (List.mem_cons_of_mem _ e))
        have hb := h b (List.mem_cons_of_mem _ List.mem_cons_self)
        rw [List.filter_cons, List.filter_cons]
        cases e : p b with
        | true => rw [if_pos rfl, if_pos (hb e)]; simp; exact i
        | false =>
          rw [if_neg Bool.false_ne_true]
          split
          · simp; omega
          · exact i
    rw [List.filter_cons, List.filter_cons]
    rcases List.mem_cons.mp hx with e | e
    · subst e
      rw [h1, h2, if_neg Bool.false_ne_true, if_pos rfl]
      simp
      exact le
    · have i := filter_less (fun x hx => h x (List.mem_cons_of_mem _ hx)) ⟨x, e, h1, h2⟩
      have ha := h a List.mem_cons_self
      cases e : p a with
      | true => rw [if_pos rfl, if_pos (ha e)]; simp; omega
      | false =>
        rw [if_neg Bool.false_ne_true]
        split
        · simp; omega
        · exact i
noncomputable def cnt (L : List Of) (s k n : Nat) : Nat := ((List.range k).filter fun c => @decide (Rn L s n c) (Classical.propDecidable _)).length
theorem cdec {p : Prop} : (@decide p (Classical.propDecidable _)) = true ↔ p := @decide_eq_true_iff p (Classical.propDecidable _)
theorem cdecf {p : Prop} : (@decide p (Classical.propDecidable _)) = false ↔ ¬ p := @decide_eq_false_iff_not p (Classical.propDecidable _)
theorem Rn.lt {n : Nat} (hL : ∀ o ∈ L, OfOk k o) (hs : s < k) (r : Rn L s n c) : c < k := by
  induction n generalizing c with
  | zero => rw [show c = s from r]; exact hs
  | succ n ih =>
    rcases r with r | ⟨b, r, o, ho, _, e, _⟩
    · exact ih r
    · rw [← e]; exact (hL o ho).b
theorem Lead.lt (hL : ∀ o ∈ L, OfOk k o) (hs : s < k) (h : Lead L s c) : c < k := by
  obtain ⟨n, r⟩ := h
  exact r.lt hL hs
theorem Lead.to (hL : ∀ o ∈ L, OfOk k o) (hs : s < k) (h : Lead L s c) : Rn L s k c := by
  have key : ∀ n, (∃ m, m ≤ n ∧ ∀ c, Rn L s (m + 1) c → Rn L s m c) ∨ n + 1 ≤ cnt L s k n := by
    intro n
    induction n with
    | zero =>
      right
      have : 0 < cnt L s k 0 := List.length_pos_of_mem (a := s) (List.mem_filter.mpr ⟨List.mem_range.mpr hs, cdec.mpr rfl⟩)
      omega
    | succ n ih =>
      rcases ih with ⟨m, h1, h2⟩ | ih
      · exact .inl ⟨m, by omega, h2⟩
      · rcases Classical.em (∀ c, Rn L s (n + 1) c → Rn L s n c) with q | q
        · exact .inl ⟨n, by omega, q⟩
        · right
          obtain ⟨c, hc⟩ := Classical.not_forall.mp q
          obtain ⟨h1, h2⟩ := Classical.not_imp.mp hc
          have := filter_less (l := List.range k) (p := fun c => @decide (Rn L s n c) (Classical.propDecidable _)) (q := fun c => @decide (Rn L s (n + 1) c) (Classical.propDecidable _))
            (fun x _ hx => cdec.mpr (.inl (cdec.mp hx))) ⟨c, List.mem_range.mpr (h1.lt hL hs), cdec.mpr h1, cdecf.mpr h2⟩
          unfold cnt at ih ⊢
          omega
  rcases key k with ⟨m, h1, h2⟩ | q
  · refine Rn.up h1 ?_
    exact h.closed (S := fun x => Rn L s m x) (Rn.up (Nat.zero_le _) rfl) fun a b ha e => h2 b (.inr ⟨a, ha, e⟩)
  · have : cnt L s k k ≤ k := by
      unfold cnt
      exact Nat.le_trans (List.length_filter_le ..) (by rw [List.length_range]; exact Nat.le_refl _)
    omega
end
/-! sorted lists -/
theorem srt_eq {α : Type} {lt : α → α → Prop} (irr : ∀ x, ¬ lt x x) (tr : ∀ x y z, lt x y → lt y z → lt x z) : ∀ {l m : List α}, l.Pairwise lt → m.Pairwise lt → (∀ x, x ∈ l ↔ x ∈ m) → l = m
  | [], [], _, _, _ => rfl
  | [], b :: m, _, _, h => by have := (h b).mpr List.mem_cons_self; cases this
  | a :: l, [], _, _, h => by have := (h a).mp List.mem_cons_self; cases this
  | a :: l, b :: m, h1, h2, h => by
    obtain ⟨p1, q1⟩ := List.pairwise_cons.mp h1
    obtain ⟨p2, q2⟩ := List.pairwise_cons.mp h2
    have e : a = b := by
      rcases List.mem_cons.mp ((h a).mp List.mem_cons_self) with e | e
      · exact e
      · rcases List.mem_cons.mp ((h b).mpr List.mem_cons_self) with f | f
        · exact f.symm
        · exact (irr a (tr _ _ _ (p1 b f) (p2 a e))).elim
    subst e
    rw [srt_eq irr tr q1 q2 fun x => ⟨fun hx => ?_, fun hx => ?_⟩]
    · rcases List.mem_cons.mp ((h x).mp (List.mem_cons_of_mem _ hx)) with e | e
      · subst e; exact (irr _ (p1 _ hx)).elim
      · exact e
    · rcases List.mem_cons.mp ((h x).mpr (List.mem_cons_of_mem _ hx)) with e | e
      · subst e; exact (irr _ (p2 _ hx)).elim
      · exact e
theorem range_lt (k : Nat) : (List.range k).Pairwise (· < ·) := List.pairwise_lt_range
noncomputable def leadsL (L : List Of) (k s : Nat) : List Nat := (List.range k).filter fun c => @decide (Lead L s c) (Classical.propDecidable _)
noncomputable def backs (L : List Of) (k s : Nat) : List Nat := (List.range k).filter fun c => @decide (Lead L s c ∧ Lead L c s) (Classical.propDecidable _)
theorem mem_leads {L : List Of} {k s c : Nat} : c ∈ leadsL L k s ↔ c < k ∧ Lead L s c := by
  unfold leadsL
  rw [List.mem_filter, List.mem_range, cdec]
theorem mem_backs {L : List Of} {k s c : Nat} : c ∈ backs L k s ↔ c < k ∧ Lead L s c ∧ Lead L c s := by
  unfold backs
  rw [List.mem_filter, List.mem_range, cdec]
theorem backs_same {L : List Of} {k s c : Nat} (h : c ∈ backs L k s) : backs L k c = backs L k s := by
  obtain ⟨h0, h1, h2⟩ := mem_backs.mp h
  unfold backs
  refine List.filter_congr fun x _ => ?_
  have : (Lead L c x ∧ Lead L x c) ↔ (Lead L s x ∧ Lead L x s) := ⟨fun ⟨a, b⟩ => ⟨h1.trans a, b.trans h2⟩, fun ⟨a, b⟩ => ⟨h2.trans a, b.trans h1⟩⟩
  rw [Bool.eq_iff_iff, cdec, cdec]
  exact this
theorem backs_self {L : List Of} {k s : Nat} (h : s < k) : s ∈ backs L k s := mem_backs.mpr ⟨h, .self, .self⟩
theorem leads_lt (L : List Of) (k s : Nat) : (leadsL L k s).Pairwise (· < ·) := (range_lt k).filter _
theorem backs_lt (L : List Of) (k s : Nat) : (backs L k s).Pairwise (· < ·) := (range_lt k).filter _
theorem backs_len (L : List Of) (k s : Nat) : (backs L k s).length ≤ k := Nat.le_trans (List.length_filter_le ..) (by rw [List.length_range]; exact Nat.le_refl _)
theorem leads_len (L : List Of) (k s : Nat) : (leadsL L k s).length ≤ k := Nat.le_trans (List.length_filter_le ..) (by rw [List.length_range]; exact Nat.le_refl _)
theorem backs_filter (L : List Of) (k s : Nat) : (leadsL L k s).filter (fun c => @decide (Lead L c s) (Classical.propDecidable _)) = backs L k s := by
  unfold leadsL backs
  rw [List.filter_filter]
  refine List.filter_congr fun x _ => ?_
  rw [Bool.eq_iff_iff, Bool.and_eq_true, cdec, cdec, cdec]
  exact ⟨fun ⟨a, b⟩ => ⟨b, a⟩, fun ⟨a, b⟩ => ⟨b, a⟩⟩
theorem nd_len {α : Type} [DecidableEq α] : ∀ {l m : List α}, l.Nodup → (∀ x, x ∈ l → x ∈ m) → l.length ≤ m.length
  | [], _, _, _ => Nat.zero_le _
  | a :: l, m, hn, hs => by
    have hm : a ∈ m := hs a List.mem_cons_self
    obtain ⟨n1, n2⟩ := List.nodup_cons.mp hn
    have ih := nd_len (m := m.erase a) n2 fun x hx => (List.mem_erase_of_ne (by rintro rfl; exact n1 hx)).mpr (hs x (List.mem_cons_of_mem _ hx))
    rw [List.length_erase_of_mem hm] at ih
    have := List.length_pos_of_mem hm
    simp only [List.length_cons]
    omega
/-- numbers as integers -/
abbrev ni (l : List Nat) : List Int := l.map fun (c : Nat) => (c : Int)
theorem mem_ni {l : List Nat} {c : Nat} : (c : Int) ∈ ni l ↔ c ∈ l := by
  constructor
  · intro h
    obtain ⟨d, hd, e⟩ := List.mem_map.mp h
    rw [← Int.ofNat.inj e]
    exact hd
  · intro h
    exact List.mem_map.mpr ⟨c, h, rfl⟩
theorem ni_sorted {l : List Nat} (h : l.Pairwise (· < ·)) : (ni l).Pairwise (· < ·) := by
  rw [List.pairwise_map]
  exact h.imp fun q => Int.ofNat_lt.mpr q
theorem ni_nodup {l : List Nat} (h : l.Nodup) : (ni l).Nodup := by
  unfold List.Nodup at h ⊢
  rw [List.pairwise_map]
  exact h.imp fun q e => q (Int.ofNat.inj e)
/-- a sorted arrangement of given numbers -/
theorem ni_sort {F l : List Nat} {ys : List Int} (pm : ys.Perm (ni F)) (le : ys.Pairwise (· ≤ ·)) (nd : F.Nodup) (up : l.Pairwise (· < ·)) (h : ∀ c, c ∈ F ↔ c ∈ l) : ys = ni l := by
  have ny : ys.Nodup := (pm.nodup_iff).mpr (ni_nodup nd)
  have lt : ys.Pairwise (· < ·) := by
    have both := List.Pairwise.and le ny
    exact both.imp fun ⟨a, b⟩ => by omega
  refine srt_eq (lt := fun a b : Int => a < b) (fun x => Int.lt_irrefl x) (fun x y z => Int.lt_trans) lt (ni_sorted up) fun x => ?_
  rw [pm.mem_iff]
  constructor
  · intro hx
    obtain ⟨c, hc, rfl⟩ := List.mem_map.mp hx
    exact mem_ni.mpr ((h c).mp hc)
  · intro hx
    obtain ⟨c, hc, rfl⟩ := List.mem_map.mp hx
    exact mem_ni.mpr ((h c).mpr hc)
end Sm

set_option maxHeartbeats 4000000
namespace Sm
/-! ways: what they need and change -/
structure Tl where
  n : Nat → Int
  c : Nat → Int
def Tl.zero : Tl := ⟨fun _ => 0, fun _ => 0⟩
def Tl.seq (t u : Tl) : Tl := ⟨fun k => max (t.n k) (u.n k - t.c k), fun k => t.c k + u.c k⟩
def Tl.rnd (t : Tl) (m : Int) : Tl := ⟨fun k => max (t.n k) (t.n k - (m - 1) * t.c k), fun k => m * t.c k⟩
def n1 (o : Of) (k : Nat) : Int := if k = o.a then o.x else 0
def c1 (o : Of) (k : Nat) : Int := if k = o.b then o.y else if k = o.a then -o.x else 0
def runT (o : Of) (m : Int) : Tl := ⟨fun k => if k = o.a then m * o.x else 0, fun k => if k = o.b then m * o.y else if k = o.a then -m * o.x else 0⟩
def ofI (L : List Of) (i : Nat) : Of := L.getD i ⟨0, 0, 0, 0⟩
theorem ofI_at {L : List Of} {i : Nat} {o : Of} (h : L[i]? = some o) : ofI L i = o := by
  unfold ofI
  rw [List.getD_eq_getElem?_getD, h]
  rfl
theorem ofI_mem {L : List Of} {i : Nat} (h : i < L.length) : ofI L i ∈ L := by
  unfold ofI
  rw [List.getD_eq_getElem?_getD, List.getElem?_eq_getElem h]
  exact List.getElem_mem h
inductive St where
  | run (i : Nat) (m : Int)
  | rnd (rs : List (Nat × Int)) (m : Int)
def runsT (L : List Of) (rs : List (Nat × Int)) : Tl := rs.foldl (fun t r => t.seq (runT (ofI L r.1) r.2)) Tl.zero
def stT (L : List Of) : St → Tl
  | .run i m => runT (ofI L i) m
  | .rnd rs m => (runsT L rs).rnd m
def wayT (L : List Of) (ss : List St) : Tl := ss.foldl (fun t s => t.seq (stT L s)) Tl.zero
/-- a list of runs as a way -/
def asWay (rs : List (Nat × Int)) : List St := rs.map fun r => .run r.1 r.2
theorem asWay_T (L : List Of) (rs : List (Nat × Int)) : wayT L (asWay rs) = runsT L rs := by
  unfold wayT asWay runsT
  rw [List.foldl_map]
  rfl
theorem wayT_take {L : List Of} {ss : List St} {j : Nat} {s : St} (h : ss[j]? = some s) : wayT L (ss.take (j + 1)) = (wayT L (ss.take j)).seq (stT L s) := by
  unfold wayT
  rw [List.take_add_one, h, List.foldl_append]
  rfl
/-! uses, one after another -/
def bn : List Of → Nat → Int
  | [], _ => 0
  | o :: U, k => max (n1 o k) (bn U k - c1 o k)
def bc : List Of → Nat → Int
  | [], _ => 0
  | o :: U, k => c1 o k + bc U k
theorem bn_pos (U : List Of) (h : ∀ o ∈ U, 0 ≤ o.x) (k : Nat) : 0 ≤ bn U k := by
  cases U with
  | nil => exact Int.le_refl _
  | cons o U =>
    have := h o List.mem_cons_self
    unfold bn n1
    split <;> omega
theorem bc_app (U W : List Of) (k : Nat) : bc (U ++ W) k = bc U k + bc W k := by
  induction U with
  | nil => show bc W k = 0 + bc W k; omega
  | cons o U ih =>
    show c1 o k + bc (U ++ W) k = c1 o k + bc U k + bc W k
    omega
theorem bn_app {U W : List Of} (hW : ∀ o ∈ W, 0 ≤ o.x) (k : Nat) : bn (U ++ W) k = max (bn U k) (bn W k - bc U k) := by
  induction U with
  | nil =>
    have := bn_pos W hW k
    show bn W k = max 0 (bn W k - 0)
    omega
  | cons o U ih =>
    show max (n1 o k) (bn (U ++ W) k - c1 o k) = max (max (n1 o k) (bn U k - c1 o k)) (bn W k - (c1 o k + bc U k))
    rw [ih]
    omega
def reps (m : Nat) (U : List Of) : List Of := (List.replicate m U).flatten
theorem reps_x {m : Nat} {U : List Of} (h : ∀ o ∈ U, 0 ≤ o.x) : ∀ o ∈ reps m U, 0 ≤ o.x := fun o ho => by
  obtain ⟨l, hl, hl2⟩ := List.mem_flatten.mp ho
  rw [List.eq_of_mem_replicate hl] at hl2
  exact h o hl2
theorem reps_succ (m : Nat) (U : List Of) : reps (m + 1) U = U ++ reps m U := by
  unfold reps
  rw [List.replicate_succ, List.flatten_cons]
theorem bc_reps (m : Nat) (U : List Of) (k : Nat) : bc (reps m U) k = (m : Int) * bc U k := by
  induction m with
  | zero => simp [reps, bc]
  | succ m ih =>
    rw [reps_succ, bc_app, ih, Int.natCast_add, Int.add_mul]
    simp
    omega
theorem bn_reps {U : List Of} (h : ∀ o ∈ U, 0 ≤ o.x) (m : Nat) (k : Nat) : bn (reps (m + 1) U) k = max (bn U k) (bn U k - (m : Int) * bc U k) := by
  induction m with
  | zero =>
    rw [reps_succ]
    show bn (U ++ reps 0 U) k = _
    rw [show reps 0 U = [] from rfl, List.append_nil]
    simp
  | succ m ih =>
    rw [reps_succ, bn_app (reps_x h), ih]
    have p := bn_pos U h k
    have e : ((m + 1 : Nat) : Int) * bc U k = (m : Int) * bc U k + bc U k := by
      rw [Int.natCast_add, Int.add_mul]
      simp
    rw [e]
    rcases Int.le_total 0 (bc U k) with q | q
    · have : 0 ≤ (m : Int) * bc U k := Int.mul_nonneg (by omega) q
      omega
    · have : (m : Int) * bc U k ≤ 0 := Int.mul_nonpos_of_nonneg_of_nonpos (by omega) q
      omega
/-- what a list of uses needs and changes -/
def useT (U : List Of) : Tl := ⟨bn U, bc U⟩
theorem useT_app {U W : List Of} (hW : ∀ o ∈ W, 0 ≤ o.x) : useT (U ++ W) = (useT U).seq (useT W) := by
  unfold useT Tl.seq
  congr 1
  · exact funext fun k => bn_app hW k
  · exact funext fun k => bc_app U W k
theorem useT_reps {U : List Of} (h : ∀ o ∈ U, 0 ≤ o.x) {m : Nat} (m1 : 1 ≤ m) : useT (reps m U) = (useT U).rnd (m : Int) := by
  obtain ⟨j, rfl⟩ : ∃ j, m = j + 1 := ⟨m - 1, by omega⟩
  unfold useT Tl.rnd
  congr 1
  · refine funext fun k => ?_
    rw [bn_reps h, show ((j + 1 : Nat) : Int) - 1 = (j : Int) by omega]
  · exact funext fun k => bc_reps (j + 1) U k
theorem useT_run {o : Of} (x0 : 0 ≤ o.x) (y0 : 0 ≤ o.y) (ne : o.a ≠ o.b) {m : Nat} (m1 : 1 ≤ m) : useT (reps m [o]) = runT o (m : Int) := by
  rw [useT_reps (fun o' h => by rw [List.mem_singleton.mp h]; exact x0) m1]
  unfold useT Tl.rnd runT
  congr 1
  · refine funext fun k => ?_
    show max (max (n1 o k) (0 - c1 o k)) (max (n1 o k) (0 - c1 o k) - ((m : Int) - 1) * (c1 o k + 0)) = if k = o.a then (m : Int) * o.x else 0
    unfold n1 c1
    by_cases ha : k = o.a
    · have hb : k ≠ o.b := by rw [ha]; exact ne
      rw [if_pos ha, if_neg hb, if_pos ha, if_pos ha, Int.add_zero, Int.mul_neg, Int.sub_mul, Int.one_mul]
      have : o.x ≤ (m : Int) * o.x := by
        have := Int.mul_le_mul_of_nonneg_right (show (1 : Int) ≤ (m : Int) by omega) x0
        omega
      omega
    · by_cases hb : k = o.b
      · rw [if_neg ha, if_pos hb, if_neg ha, Int.add_zero]
        have : 0 ≤ ((m : Int) - 1) * o.y := Int.mul_nonneg (by omega) y0
        omega
      · rw [if_neg ha, if_neg hb, if_neg ha, if_neg ha]
        simp
  · refine funext fun k => ?_
    show (m : Int) * (c1 o k + 0) = if k = o.b then (m : Int) * o.y else if k = o.a then -(m : Int) * o.x else 0
    unfold c1
    rw [Int.add_zero]
    by_cases hb : k = o.b
    · rw [if_pos hb, if_pos hb]
    · rw [if_neg hb, if_neg hb]
      by_cases ha : k = o.a
      · rw [if_pos ha, if_pos ha, Int.mul_neg, Int.neg_mul]
      · rw [if_neg ha, if_neg ha, Int.mul_zero]
/-! the uses of a way -/
def runI (r : Nat × Int) : List Nat := List.replicate r.2.toNat r.1
def runsI (rs : List (Nat × Int)) : List Nat := rs.flatMap runI
def stI : St → List Nat
  | .run i m => runI (i, m)
  | .rnd rs m => (List.replicate m.toNat (runsI rs)).flatten
def wayI (ss : List St) : List Nat := ss.flatMap stI
def us (L : List Of) (I : List Nat) : List Of := I.map (ofI L)
/-- a run, a step, within the board -/
def RunOk (L : List Of) (r : Nat × Int) : Prop := r.1 < L.length ∧ 1 ≤ r.2
def StOk (L : List Of) : St → Prop
  | .run i m => RunOk L (i, m)
  | .rnd rs m => (∀ r ∈ rs, RunOk L r) ∧ 1 ≤ m
section
variable {k : Nat} {L : List Of} (ok : ∀ o ∈ L, OfOk k o)
include ok
theorem us_x {I : List Nat} (h : ∀ i ∈ I, i < L.length) : ∀ o ∈ us L I, 0 ≤ o.x := fun o ho => by
  obtain ⟨i, hi, rfl⟩ := List.mem_map.mp ho
  have := (ok _ (ofI_mem (h i hi))).x0
  omega
theorem us_run {r : Nat × Int} (h : RunOk L r) : useT (us L (runI r)) = runT (ofI L r.1) r.2 ∧ ∀ i ∈ runI r, i < L.length := by
  have o := ok _ (ofI_mem h.1)
  have x0 := o.x0
  have m1 := h.2
  refine ⟨?_, fun i hi => by rw [List.eq_of_mem_replicate hi]; exact h.1⟩
  have e : us L (runI r) = reps r.2.toNat [ofI L r.1] := by
    unfold us runI reps
    rw [List.map_replicate, List.flatten_replicate_singleton]
  rw [e, useT_run (by omega) o.y0 o.ne (show 1 ≤ r.2.toNat by omega), Int.toNat_of_nonneg (by omega)]
theorem us_runs : ∀ {rs : List (Nat × Int)}, (∀ r ∈ rs, RunOk L r) → useT (us L (runsI rs)) = runsT L rs ∧ ∀ i ∈ runsI rs, i < L.length := by
  suffices h : ∀ (rs : List (Nat × Int)) (I : List Nat) (t : Tl), (∀ r ∈ rs, RunOk L r) → useT (us L I) = t → (∀ i ∈ I, i < L.length) → useT (us L (I ++ runsI rs)) = rs.foldl (fun t r => t.seq (runT (ofI L r.1) r.2)) t ∧ ∀ i ∈ I ++ runsI rs, i < L.length by
    intro rs hr
    exact h rs [] Tl.zero hr rfl fun i hi => nomatch hi
  intro rs
  induction rs with
  | nil =>
    intro I t _ e hI
    refine ⟨?_, fun i hi => ?_⟩
    · show useT (us L (I ++ [])) = t
      rw [List.append_nil]
      exact e
    · rw [show runsI [] = [] from rfl, List.append_nil] at hi
      exact hI i hi
  | cons r rs ih =>
    intro I t hr e hI
    obtain ⟨e1, h1⟩ := us_run ok (hr r List.mem_cons_self)
    have step := ih (I ++ runI r) (t.seq (runT (ofI L r.1) r.2)) (fun r' h => hr r' (List.mem_cons_of_mem _ h)) (by
      rw [show us L (I ++ runI r) = us L I ++ us L (runI r) from List.map_append, useT_app (us_x ok h1), e, e1]) (fun i hi => by
      rcases List.mem_append.mp hi with hi | hi
      · exact hI i hi
      · exact h1 i hi)
    rw [List.append_assoc] at step
    exact step
theorem us_st {s : St} (h : StOk L s) : useT (us L (stI s)) = stT L s ∧ ∀ i ∈ stI s, i < L.length := by
  match s, h with
  | .run i m, h => exact us_run ok h
  | .rnd rs m, ⟨h, m1⟩ =>
    obtain ⟨e, hi⟩ := us_runs ok h
    refine ⟨?_, fun i hi' => ?_⟩
    · have e2 : us L (stI (.rnd rs m)) = reps m.toNat (us L (runsI rs)) := by
        show ((List.replicate m.toNat (runsI rs)).flatten).map (ofI L) = _
        rw [List.map_flatten, List.map_replicate]
        rfl
      rw [e2, useT_reps (us_x ok hi) (show 1 ≤ m.toNat by omega), e, Int.toNat_of_nonneg (by omega)]
      rfl
    · obtain ⟨l, hl, hl2⟩ := List.mem_flatten.mp hi'
      rw [List.eq_of_mem_replicate hl] at hl2
      exact hi i hl2
theorem us_way : ∀ {ss : List St}, (∀ s ∈ ss, StOk L s) → useT (us L (wayI ss)) = wayT L ss ∧ ∀ i ∈ wayI ss, i < L.length := by
  suffices h : ∀ (ss : List St) (I : List Nat) (t : Tl), (∀ s ∈ ss, StOk L s) → useT (us L I) = t → (∀ i ∈ I, i < L.length) → useT (us L (I ++ wayI ss)) = ss.foldl (fun t s => t.seq (stT L s)) t ∧ ∀ i ∈ I ++ wayI ss, i < L.length by
    intro ss hr
    exact h ss [] Tl.zero hr rfl fun i hi => nomatch hi
  intro ss
  induction ss with
  | nil =>
    intro I t _ e hI
    refine ⟨?_, fun i hi => ?_⟩
    · show useT (us L (I ++ [])) = t
      rw [List.append_nil]
      exact e
    · rw [show wayI [] = [] from rfl, List.append_nil] at hi
      exact hI i hi
  | cons s ss ih =>
    intro I t hr e hI
    obtain ⟨e1, h1⟩ := us_st ok (hr s List.mem_cons_self)
    have step := ih (I ++ stI s) (t.seq (stT L s)) (fun r' h => hr r' (List.mem_cons_of_mem _ h)) (by
      rw [show us L (I ++ stI s) = us L I ++ us L (stI s) from List.map_append, useT_app (us_x ok h1), e, e1]) (fun i hi => by
      rcases List.mem_append.mp hi with hi | hi
      · exact hI i hi
      · exact h1 i hi)
    rw [List.append_assoc] at step
    exact step
end
/-- amounts of the kinds as a list -/
def vec (k : Nat) (f : Nat → Int) : List Int := (List.range k).map f
theorem vec_len (k : Nat) (f : Nat → Int) : (vec k f).length = k := by
  unfold vec
  rw [List.length_map, List.length_range]
theorem vec_get {k i : Nat} {f : Nat → Int} (h : i < k) : (vec k f)[i]? = some (f i) := by
  unfold vec
  rw [List.getElem?_map, List.getElem?_range h]
  rfl
theorem vec_set {k i : Nat} {f g : Nat → Int} {v : Int} (h : g i = v) (hg : ∀ j, j ≠ i → g j = f j) : (vec k f).set i v = vec k g := by
  refine List.ext_getElem? fun j => ?_
  rw [List.getElem?_set]
  by_cases e : i = j
  · subst e
    rw [if_pos rfl]
    by_cases l : i < k
    · rw [vec_len, if_pos l, vec_get l, h]
    · rw [vec_len, if_neg l, List.getElem?_eq_none (by rw [vec_len]; omega)]
  · rw [if_neg e]
    by_cases l : j < k
    · rw [vec_get l, vec_get l, hg j (Ne.symm e)]
    · rw [List.getElem?_eq_none (by rw [vec_len]; omega), List.getElem?_eq_none (by rw [vec_len]; omega)]
theorem vec_rep (k : Nat) : List.replicate k (0 : Int) = vec k fun _ => 0 := by
  refine List.ext_getElem? fun j => ?_
  by_cases l : j < k
  · rw [vec_get l, List.getElem?_replicate, if_pos l]
  · rw [List.getElem?_eq_none (by rw [List.length_replicate]; omega), List.getElem?_eq_none (by rw [vec_len]; omega)]
theorem vec_succ (k : Nat) (f : Nat → Int) : vec (k + 1) f = vec k f ++ [f k] := by
  unfold vec
  rw [List.range_succ, List.map_append]
  rfl
end Sm

set_option Elab.async false
set_option linter.all false
set_option maxRecDepth 100000
set_option maxHeartbeats 4000000
namespace Sm
open PySem PySem.Spec PyProof.Rows L2
theorem ints_lay : ∀ t : List Int, PyData.canLayAll0 (t.map PyData.int) = true
  | [] => rfl
  | i :: t => by simp [PyData.canLayAll0, PyData.canLay0, ints_lay t]
theorem depth_int : ∀ t : List Int, PyData.depthAll (t.map PyData.int) ≤ 1
  | [] => by simp [PyData.depthAll]
  | i :: t => by
    have := depth_int t
    simp only [List.map_cons, PyData.depthAll, PyData.depth]
    omega
theorem lst_shaped (t : List Int) : SeqAt.shaped (.list (t.map PyData.int)) = true := by
  have d := depth_int t
  have d2 : PyData.depth (.list (t.map PyData.int)) ≤ 64 := by
    simp only [PyData.depth]
    omega
  unfold SeqAt.shaped
  rw [show PyData.canLay0 (.list (t.map PyData.int)) = true by simp only [PyData.canLay0, ints_lay], decide_eq_true d2]
  rfl
theorem tup_shaped (t : List Int) : SeqAt.shaped (.tuple (t.map PyData.int)) = true := by
  have d := depth_int t
  have d2 : PyData.depth (.tuple (t.map PyData.int)) ≤ 64 := by
    simp only [PyData.depth]
    omega
  unfold SeqAt.shaped
  rw [show PyData.canLay0 (.tuple (t.map PyData.int)) = true by simp only [PyData.canLay0, ints_lay], decide_eq_true d2]
  rfl
theorem eqv_nil (l : List Int) : PyData.eqv (.list (l.map PyData.int)) (.list []) = decide (l = []) := by
  cases l with
  | nil => rfl
  | cons a l => simp [PyData.eqv, PyData.eqvAll]
theorem no_part {σ : L2.St} {H : Hp} {Q : Option Int → Hp → Prop} (h : Q none H) : tNoPart σ H Q := h
theorem pickI (L : List Int) {r : Int} (h0 : 0 ≤ r) (h1 : r < (L.length : Int)) : ∃ z ∈ L, (L.map V.int)[r.toNat]? = some (.int z) := by
  have q : r.toNat < L.length := by omega
  refine ⟨L[r.toNat], List.getElem_mem q, ?_⟩
  rw [List.getElem?_map, List.getElem?_eq_getElem q]
  rfl
theorem cut_from {xs : List V} {n : Nat} : cutV xs (some (n : Int)) none = xs.drop n := by
  unfold cutV
  rw [HT.sIx_none, HT.sIx_nat]
  rcases Nat.le_total n xs.length with h | h
  · rw [Nat.min_eq_left h]
    exact List.take_of_length_le (by rw [List.length_drop]; omega)
  · rw [Nat.min_eq_right h, List.drop_length, List.drop_eq_nil_of_le h, List.take_nil]
theorem eqv_selfT (t : List Int) : PyData.eqv (.tuple (t.map PyData.int)) (.tuple (t.map PyData.int)) = true := SeqAt.eqv_refl _ (SeqAt.canLay_of_shaped (tup_shaped t))
theorem dp_tup {K : PySem.W.Frag} {H : Hp} {q : Addr} {t : List Int} (h : H q = some (.tup (t.map V.int))) : Dp K H (.ref q) (.tuple (t.map PyData.int)) := .tup (SqT.of h) (dp_ints t)
theorem vec_congr {k : Nat} {f g : Nat → Int} (h : ∀ i, i < k → f i = g i) : vec k f = vec k g := List.map_congr_left fun i hi => h i (List.mem_range.mp hi)
section
variable {K : PySem.W.Frag} {H : Hp} {Q : VK}
theorem sl_uni {a : Addr} {xs : List V} {lo hi : Option Int} (h : H a = some (.tup xs)) (q : ∀ u H', Same H H' → H' u = some (.tup (cutV xs lo hi)) → Q (.ref u) H') : rSlA K (.ref a) lo hi H Q := by
  refine ⟨a, xs, rfl, SqT.of h, fun w => q a H (Same.refl H) ?_, fun _ u nu => q u _ (same_upd nu) upd_same⟩
  rw [h]
  unfold cutV
  rw [w.1, w.2, List.drop_zero, Nat.sub_zero, List.take_length]
theorem cat_uni {a b : Addr} {xs ys : List V} (ha : H a = some (.tup xs)) (hb : H b = some (.tup ys)) (l : xs.length + ys.length ≤ sizeLine) (q : ∀ u H', Same H H' → H' u = some (.tup (xs ++ ys)) → Q (.ref u) H') : rCatA K (.ref a) (.ref b) H Q := by
  refine ⟨a, b, xs, ys, rfl, rfl, SqT.of ha, SqT.of hb, l, fun e => q b H (Same.refl H) ?_, fun _ e => q a H (Same.refl H) ?_, fun _ _ u nu => q u _ (same_upd nu) upd_same⟩
  · rw [hb, e, List.nil_append]
  · rw [ha, e, List.append_nil]
end
theorem eqv_selfL (t : List Int) : PyData.eqv (.list (t.map PyData.int)) (.list (t.map PyData.int)) = true := SeqAt.eqv_refl _ (SeqAt.canLay_of_shaped (lst_shaped t))
end Sm

set_option maxHeartbeats 4000000
namespace Sm
/-! rules: a table that repeats -/
def vl (T : List Int) (p : Nat) (r : Int) (x : Nat) : Int :=
  if x < T.length then T.getD x 0 else T.getD (x - ((x - T.length) / p + 1) * p) 0 + (((x - T.length) / p + 1 : Nat) : Int) * r
structure RuleOk (T : List Int) (p : Nat) (r : Int) : Prop where
  p0 : 0 < p
  p1 : p ≤ T.length
  r0 : 0 ≤ r
  nn : ∀ i, i < T.length → 0 ≤ T.getD i 0
  mono : ∀ i, i + 1 < T.length → T.getD i 0 ≤ T.getD (i + 1) 0
  wrap : T.getD (T.length - 1) 0 ≤ T.getD (T.length - p) 0 + r
theorem place {n p x : Nat} (hp : 0 < p) (hpn : p ≤ n) (h : n ≤ x) : ((x - n) / p + 1) * p ≤ x ∧ n - p ≤ x - ((x - n) / p + 1) * p ∧ x - ((x - n) / p + 1) * p < n := by
  have a := Nat.div_add_mod (x - n) p
  have b := Nat.mod_lt (x - n) hp
  have c : ((x - n) / p + 1) * p = p * ((x - n) / p) + p := by rw [Nat.add_mul, Nat.one_mul, Nat.mul_comm]
  omega
theorem vl_lt {T : List Int} {p : Nat} {r : Int} {x : Nat} (h : x < T.length) : vl T p r x = T.getD x 0 := if_pos h
theorem vl_step {T : List Int} {p : Nat} {r : Int} {x : Nat} (hp : 0 < p) (hpn : p ≤ T.length) (h : T.length ≤ x) : vl T p r x = vl T p r (x - p) + r := by
  by_cases q : x - p < T.length
  · have e : (x - T.length) / p = 0 := Nat.div_eq_of_lt (by omega)
    rw [vl_lt q]
    unfold vl
    rw [if_neg (by omega), e]
    simp
  · have e : (x - T.length) / p = (x - p - T.length) / p + 1 := by
      rw [Nat.div_eq_sub_div hp (by omega), show x - T.length - p = x - p - T.length by omega]
    unfold vl
    rw [if_neg (by omega), if_neg q, e]
    have i : x - ((x - p - T.length) / p + 1 + 1) * p = x - p - ((x - p - T.length) / p + 1) * p := by
      rw [Nat.add_mul ((x - p - T.length) / p + 1) 1 p, Nat.one_mul]
      omega
    rw [i]
    have k : (((x - p - T.length) / p + 1 + 1 : Nat) : Int) * r = (((x - p - T.length) / p + 1 : Nat) : Int) * r + r := by
      rw [Int.natCast_add ((x - p - T.length) / p + 1) 1, Int.add_mul]
      simp
    rw [k, Int.add_assoc]
theorem vl_add {T : List Int} {p : Nat} {r : Int} {x : Nat} (hp : 0 < p) (hpn : p ≤ T.length) (h : T.length - p ≤ x) : vl T p r (x + p) = vl T p r x + r := by
  rw [vl_step hp hpn (by omega), Nat.add_sub_cancel]
theorem vl_addk {T : List Int} {p : Nat} {r : Int} {x : Nat} (hp : 0 < p) (hpn : p ≤ T.length) (h : T.length - p ≤ x) : ∀ k : Nat, vl T p r (x + k * p) = vl T p r x + (k : Int) * r
  | 0 => by simp
  | k + 1 => by
    have ih := vl_addk (r := r) hp hpn h k
    rw [show x + (k + 1) * p = x + k * p + p by rw [Nat.add_mul, Nat.one_mul, Nat.add_assoc], vl_add hp hpn (by omega), ih]
    rw [Int.natCast_add, Int.add_mul]
    simp
    omega
section
variable {T : List Int} {p : Nat} {r : Int}
theorem RuleOk.up (o : RuleOk T p r) : ∀ x, vl T p r x ≤ vl T p r (x + 1) := by
  intro x
  induction x using Nat.strongRecOn with
  | _ x ih =>
    have p0 := o.p0
    have p1 := o.p1
    by_cases a : x + 1 < T.length
    · rw [vl_lt a, vl_lt (by omega)]
      exact o.mono x a
    · by_cases b : x < T.length
      · rw [vl_lt b, vl_step p0 p1 (by omega), vl_lt (by omega)]
        have w := o.wrap
        rw [show x = T.length - 1 by omega]
        rw [show T.length - 1 + 1 - p = T.length - p by omega]
        exact w
      · rw [vl_step p0 p1 (by omega), vl_step (x := x + 1) p0 p1 (by omega)]
        have := ih (x - p) (by omega)
        rw [show x - p + 1 = x + 1 - p by omega] at this
        omega
theorem RuleOk.le (o : RuleOk T p r) {x y : Nat} (h : x ≤ y) : vl T p r x ≤ vl T p r y := by
  obtain ⟨k, rfl⟩ := Nat.le.dest h
  induction k with
  | zero => exact Int.le_refl _
  | succ k ih => exact Int.le_trans (ih (by omega)) (o.up _)
theorem RuleOk.pos (o : RuleOk T p r) (x : Nat) : 0 ≤ vl T p r x := by
  have a := o.le (Nat.zero_le x)
  have p0 := o.p0
  have p1 := o.p1
  rw [vl_lt (x := 0) (by omega)] at a
  have := o.nn 0 (by omega)
  omega
theorem RuleOk.row (o : RuleOk T p r) {i j : Nat} (h : i ≤ j) (hj : j < T.length) : T.getD i 0 ≤ T.getD j 0 := by
  have a := o.le h
  rw [vl_lt hj, vl_lt (by omega)] at a
  exact a
/-- the values of the last period repeat by s, increased by c -/
def Rep (T : List Int) (p : Nat) (r : Int) (s : Nat) (c : Int) : Prop := ∀ i, T.length - p ≤ i → i < T.length → vl T p r (i + s) = T.getD i 0 + c
theorem rep_all {s : Nat} {c : Int} (o : RuleOk T p r) (h : Rep T p r s c) : ∀ y, T.length - p ≤ y → vl T p r (y + s) = vl T p r y + c := by
  intro y
  induction y using Nat.strongRecOn with
  | _ y ih =>
    intro hy
    have p0 := o.p0
    have p1 := o.p1
    by_cases a : y < T.length
    · rw [vl_lt a]
      exact h y hy a
    · have e := ih (y - p) (by omega) (by omega)
      rw [vl_step (x := y) p0 p1 (by omega), vl_step (x := y + s) p0 p1 (by omega), show y + s - p = y - p + s by omega, e]
      omega
theorem rep_self (o : RuleOk T p r) : Rep T p r p r := fun i h1 h2 => by
  rw [vl_add o.p0 o.p1 h1, vl_lt h2]
theorem getD_take {n i : Nat} (h : i < n) : (T.take n).getD i 0 = T.getD i 0 := by
  rw [List.getD_eq_getElem?_getD, List.getD_eq_getElem?_getD, List.getElem?_take_of_lt h]
/-- the table cut: still a rule, with the same values -/
theorem cut_ok {a s : Nat} {c : Int} (o : RuleOk T p r) (hs : 0 < s) (ha : a + s ≤ T.length) (c0 : 0 ≤ c) (h : ∀ y, a ≤ y → vl T p r (y + s) = vl T p r y + c) : RuleOk (T.take (a + s)) s c := by
  have len : (T.take (a + s)).length = a + s := by rw [List.length_take]; omega
  refine ⟨hs, by omega, c0, fun i hi => ?_, fun i hi => ?_, ?_⟩
  · rw [getD_take (by omega)]
    exact o.nn i (by omega)
  · rw [getD_take (by omega), getD_take (by omega)]
    exact o.mono i (by omega)
  · rw [len, getD_take (by omega), getD_take (by omega), show a + s - s = a by omega]
    have e := h a (Nat.le_refl _)
    have u := o.up (a + s - 1)
    rw [show a + s - 1 + 1 = a + s by omega, e, vl_lt (by omega), vl_lt (by omega)] at u
    exact u
theorem cut_vl {a s : Nat} {c : Int} (hs : 0 < s) (ha : a + s ≤ T.length) (h : ∀ y, a ≤ y → vl T p r (y + s) = vl T p r y + c) : ∀ x, vl (T.take (a + s)) s c x = vl T p r x := by
  have len : (T.take (a + s)).length = a + s := by rw [List.length_take]; omega
  intro x
  induction x using Nat.strongRecOn with
  | _ x ih =>
    by_cases q : x < a + s
    · rw [vl_lt (by omega), vl_lt (by omega), getD_take q]
    · rw [vl_step hs (by omega) (by omega), ih (x - s) (by omega), ← h (x - s) (by omega), show x - s + s = x by omega]
/-- the least amount, or none -/
def IsLf (T : List Int) (p : Nat) (r : Int) (y : Int) : Option Nat → Prop
  | none => r = 0 ∧ T.getD (T.length - 1) 0 < y
  | some x => y ≤ vl T p r x ∧ ∀ z, z < x → vl T p r z < y
theorem lf_near {y : Int} {i : Nat} (hi : i < T.length) (h1 : y ≤ T.getD i 0) (h2 : ∀ j, j < i → T.getD j 0 < y) : IsLf T p r y (some i) :=
  ⟨by rw [vl_lt hi]; exact h1, fun z hz => by rw [vl_lt (by omega)]; exact h2 z hz⟩
theorem lf_far {y : Int} {i k : Nat} (o : RuleOk T p r) (k0 : 0 < k) (hk : T.getD (T.length - 1) 0 + ((k : Int) - 1) * r < y) (h0 : T.length - p ≤ i) (hi : i < T.length) (h1 : y - (k : Int) * r ≤ T.getD i 0)
    (h2 : ∀ j, T.length - p ≤ j → j < i → T.getD j 0 < y - (k : Int) * r) : IsLf T p r y (some (i + k * p)) := by
  have p0 := o.p0
  have p1 := o.p1
  refine ⟨?_, fun z hz => ?_⟩
  · rw [vl_addk p0 p1 h0, vl_lt hi]
    omega
  · have kp : p ≤ k * p := Nat.le_mul_of_pos_left p k0
    refine Int.lt_of_le_of_lt (o.le (show z ≤ i + k * p - 1 by omega)) ?_
    by_cases q : i = T.length - p
    · obtain ⟨k, rfl⟩ : ∃ j, k = j + 1 := ⟨k - 1, by omega⟩
      have e : i + (k + 1) * p - 1 = T.length - 1 + k * p := by
        rw [Nat.add_mul, Nat.one_mul] at kp ⊢
        omega
      rw [e, vl_addk p0 p1 (by omega), vl_lt (by omega)]
      have c : ((k + 1 : Nat) : Int) - 1 = (k : Int) := by omega
      rw [c] at hk
      exact hk
    · rw [show i + k * p - 1 = i - 1 + k * p by omega, vl_addk p0 p1 (by omega), vl_lt (by omega)]
      have := h2 (i - 1) (by omega) (by omega)
      omega
theorem lf_one {y : Int} {a b : Option Nat} (o : RuleOk T p r) (ha : IsLf T p r y a) (hb : IsLf T p r y b) : a = b := by
  have no : ∀ {x : Nat}, IsLf T p r y none → IsLf T p r y (some x) → False := by
    rintro x ⟨h1, h2⟩ ⟨h3, _⟩
    have p0 := o.p0
    have p1 := o.p1
    have all : ∀ x, vl T p r x ≤ T.getD (T.length - 1) 0 := by
      intro x
      induction x using Nat.strongRecOn with
      | _ x ih =>
        by_cases q : x < T.length
        · rw [vl_lt q]
          exact o.row (by omega) (by omega)
        · rw [vl_step p0 p1 (by omega)]
          have := ih (x - p) (by omega)
          omega
    have := all x
    omega
  match a, b, ha, hb with
  | none, none, _, _ => rfl
  | none, some x, ha, hb => exact (no ha hb).elim
  | some x, none, ha, hb => exact (no hb ha).elim
  | some x, some z, ⟨h1, h2⟩, ⟨h3, h4⟩ =>
    rcases Nat.lt_trichotomy x z with q | q | q
    · have := h4 x q
      omega
    · rw [q]
    · have := h2 z q
      omega
end
theorem div_cast {x n p : Nat} (h : n ≤ x) : ((x : Int) - (n : Int)) / (p : Int) + 1 = (((x - n) / p + 1 : Nat) : Int) := by
  rw [← Int.natCast_sub h]
  rfl
theorem ceil_lo {a r : Int} (hr : 0 < r) : a ≤ (a + r - 1) / r * r ∧ ((a + r - 1) / r - 1) * r < a := by
  have h1 := Int.mul_ediv_add_emod (a + r - 1) r
  have h2 := Int.emod_nonneg (a + r - 1) (show r ≠ 0 by omega)
  have h3 := Int.emod_lt_of_pos (a + r - 1) hr
  have e : (a + r - 1) / r * r = r * ((a + r - 1) / r) := Int.mul_comm _ _
  have e2 : ((a + r - 1) / r - 1) * r = r * ((a + r - 1) / r) - r := by rw [Int.sub_mul, Int.mul_comm]; omega
  omega
end Sm

set_option maxHeartbeats 4000000
namespace Sm
structure RuleW (T : List Int) (p : Nat) (r : Int) : Prop where
  p0 : 0 < p
  p1 : p ≤ T.length
  r0 : 0 ≤ r
theorem RuleOk.w {T : List Int} {p : Nat} {r : Int} (o : RuleOk T p r) : RuleW T p r := ⟨o.p0, o.p1, o.r0⟩
section
variable {T : List Int} {p : Nat} {r : Int}
theorem rep_allW {s : Nat} {c : Int} (o : RuleW T p r) (h : Rep T p r s c) : ∀ y, T.length - p ≤ y → vl T p r (y + s) = vl T p r y + c := by
  intro y
  induction y using Nat.strongRecOn with
  | _ y ih =>
    intro hy
    have p0 := o.p0
    have p1 := o.p1
    by_cases a : y < T.length
    · rw [vl_lt a]
      exact h y hy a
    · have e := ih (y - p) (by omega) (by omega)
      rw [vl_step (x := y) p0 p1 (by omega), vl_step (x := y + s) p0 p1 (by omega), show y + s - p = y - p + s by omega, e]
      omega
theorem rep_selfW (o : RuleW T p r) : Rep T p r p r := fun i h1 h2 => by
  rw [vl_add o.p0 o.p1 h1, vl_lt h2]
/-- a weak rule that does not fall within its table and behind it is a rule -/
theorem W_ok (o : RuleW T p r) (nn : ∀ i, i < T.length → 0 ≤ T.getD i 0) (h : ∀ x, x < T.length → T.getD x 0 ≤ vl T p r (x + 1)) : RuleOk T p r := by
  have p0 := o.p0
  have p1 := o.p1
  refine ⟨p0, p1, o.r0, nn, fun i hi => ?_, ?_⟩
  · have := h i (by omega)
    rw [vl_lt hi] at this
    exact this
  · have := h (T.length - 1) (by omega)
    rw [vl_step p0 p1 (by omega), show T.length - 1 + 1 - p = T.length - p by omega, vl_lt (by omega)] at this
    exact this
end
section
variable {T1 T2 : List Int} {p1 p2 : Nat} {r1 r2 : Int}
def gp (T1 : List Int) (p1 : Nat) (r1 : Int) (T2 : List Int) (p2 : Nat) (r2 : Int) (x : Nat) : Int := vl T1 p1 r1 x - vl T2 p2 r2 x
/-- the first amount at which the one is above, or none -/
def IsFst (T1 : List Int) (p1 : Nat) (r1 : Int) (T2 : List Int) (p2 : Nat) (r2 : Int) : Option Nat → Prop
  | none => ∀ x, gp T1 p1 r1 T2 p2 r2 x ≤ 0
  | some x => 0 < gp T1 p1 r1 T2 p2 r2 x ∧ ∀ z, z < x → gp T1 p1 r1 T2 p2 r2 z ≤ 0
theorem fst_one {a b : Option Nat} (ha : IsFst T1 p1 r1 T2 p2 r2 a) (hb : IsFst T1 p1 r1 T2 p2 r2 b) : a = b := by
  match a, b, ha, hb with
  | none, none, _, _ => rfl
  | none, some x, ha, hb =>
    have := ha x
    have := hb.1
    omega
  | some x, none, ha, hb =>
    have := hb x
    have := ha.1
    omega
  | some x, some z, ⟨h1, h2⟩, ⟨h3, h4⟩ =>
    rcases Nat.lt_trichotomy x z with q | q | q
    · have := h4 x q
      omega
    · rw [q]
    · have := h2 z q
      omega
/-- by a common turn t = a p1 = b p2 the gap grows by g, from a start of both on -/
theorem gp_turn {B a b : Nat} (w1 : RuleW T1 p1 r1) (w2 : RuleW T2 p2 r2) (hB1 : T1.length - p1 ≤ B) (hB2 : T2.length - p2 ≤ B) (e : a * p1 = b * p2) {x : Nat} (hx : B ≤ x) :
    gp T1 p1 r1 T2 p2 r2 (x + a * p1) = gp T1 p1 r1 T2 p2 r2 x + ((a : Int) * r1 - (b : Int) * r2) := by
  unfold gp
  rw [vl_addk w1.p0 w1.p1 (by omega) a, e, vl_addk w2.p0 w2.p1 (by omega) b]
  omega
theorem gp_turns {B t : Nat} {g : Int} (h : ∀ x, B ≤ x → gp T1 p1 r1 T2 p2 r2 (x + t) = gp T1 p1 r1 T2 p2 r2 x + g) {x : Nat} (hx : B ≤ x) : ∀ k : Nat, gp T1 p1 r1 T2 p2 r2 (x + k * t) = gp T1 p1 r1 T2 p2 r2 x + (k : Int) * g
  | 0 => by simp
  | k + 1 => by
    have ih := gp_turns h hx k
    rw [show x + (k + 1) * t = x + k * t + t by rw [Nat.add_mul, Nat.one_mul, Nat.add_assoc], h _ (by omega), ih, Int.natCast_add, Int.add_mul]
    simp
    omega
theorem split_turn {B t z : Nat} (t0 : 0 < t) (hz : B ≤ z) : ∃ x k, B ≤ x ∧ x < B + t ∧ z = x + k * t := by
  have a := Nat.div_add_mod (z - B) t
  have b := Nat.mod_lt (z - B) t0
  refine ⟨B + (z - B) % t, (z - B) / t, by omega, by omega, ?_⟩
  rw [Nat.mul_comm]
  omega
theorem none_of {B t : Nat} {g : Int} (t0 : 0 < t) (h : ∀ x, B ≤ x → gp T1 p1 r1 T2 p2 r2 (x + t) = gp T1 p1 r1 T2 p2 r2 x + g) (hg : g ≤ 0) (early : ∀ x, x < B + t → gp T1 p1 r1 T2 p2 r2 x ≤ 0) : IsFst T1 p1 r1 T2 p2 r2 none := by
  intro z
  by_cases q : z < B
  · exact early z (by omega)
  · obtain ⟨x, k, h1, h2, rfl⟩ := split_turn t0 (show B ≤ z by omega)
    rw [gp_turns h h1 k]
    have := early x h2
    have : (k : Int) * g ≤ 0 := Int.mul_nonpos_of_nonneg_of_nonpos (by omega) hg
    omega
/-- the least of the first amounts of all rests -/
theorem some_of {B t m : Nat} {g : Int} (t0 : 0 < t) (h : ∀ x, B ≤ x → gp T1 p1 r1 T2 p2 r2 (x + t) = gp T1 p1 r1 T2 p2 r2 x + g) (hg : 0 < g) (early : ∀ x, x < B + t → gp T1 p1 r1 T2 p2 r2 x ≤ 0)
    (hm : ∃ x, B ≤ x ∧ x < B + t ∧ (m : Int) = (x : Int) + (t : Int) * ((-gp T1 p1 r1 T2 p2 r2 x) / g + 1)) (least : ∀ x, B ≤ x → x < B + t → (m : Int) ≤ (x : Int) + (t : Int) * ((-gp T1 p1 r1 T2 p2 r2 x) / g + 1)) : IsFst T1 p1 r1 T2 p2 r2 (some m) := by
  constructor
  · obtain ⟨x, h1, h2, e⟩ := hm
    have ex := early x h2
    have q0 : 0 ≤ (-gp T1 p1 r1 T2 p2 r2 x) / g := Int.ediv_nonneg (by omega) (by omega)
    obtain ⟨k, hk⟩ : ∃ k : Nat, (-gp T1 p1 r1 T2 p2 r2 x) / g = (k : Int) := ⟨_, (Int.toNat_of_nonneg q0).symm⟩
    have e2 : m = x + (k + 1) * t := by
      rw [hk] at e
      have : ((x + (k + 1) * t : Nat) : Int) = (x : Int) + (t : Int) * ((k : Int) + 1) := by
        rw [Int.natCast_add, Int.natCast_mul, Int.mul_comm]
        rfl
      omega
    rw [e2, gp_turns h h1]
    have d1 := Int.mul_ediv_add_emod (-gp T1 p1 r1 T2 p2 r2 x) g
    have d2 := Int.emod_lt_of_pos (-gp T1 p1 r1 T2 p2 r2 x) hg
    rw [hk] at d1
    have e3 : ((k + 1 : Nat) : Int) * g = g * (k : Int) + g := by rw [Int.natCast_add, Int.add_mul, Int.mul_comm]; simp
    omega
  · intro z hz
    by_cases q : z < B
    · exact early z (by omega)
    · obtain ⟨x, k, h1, h2, rfl⟩ := split_turn t0 (show B ≤ z by omega)
      rcases Int.lt_or_le 0 (gp T1 p1 r1 T2 p2 r2 (x + k * t)) with w | w
      · exfalso
        have l := least x h1 h2
        rw [gp_turns h h1 k] at w
        have d1 := Int.mul_ediv_add_emod (-gp T1 p1 r1 T2 p2 r2 x) g
        have d2 := Int.emod_nonneg (-gp T1 p1 r1 T2 p2 r2 x) (show g ≠ 0 by omega)
        have lt : (-gp T1 p1 r1 T2 p2 r2 x) / g < (k : Int) := by
          rcases Int.lt_or_le ((-gp T1 p1 r1 T2 p2 r2 x) / g) (k : Int) with c | c
          · exact c
          · have := Int.mul_le_mul_of_nonneg_left c (show 0 ≤ g by omega)
            rw [Int.mul_comm g (k : Int)] at this
            omega
        have le := Int.mul_le_mul_of_nonneg_left (show (-gp T1 p1 r1 T2 p2 r2 x) / g + 1 ≤ (k : Int) by omega) (show 0 ≤ (t : Int) by omega)
        have c1 : ((k * t : Nat) : Int) = (t : Int) * (k : Int) := by rw [Int.natCast_mul, Int.mul_comm]
        omega
      · exact w
end
end Sm

set_option maxHeartbeats 4000000
namespace Sm
/-! just one shortest tuple has given values -/
structure Short (T : List Int) (p : Nat) (r : Int) : Prop where
  ok : RuleOk T p r
  turn : ∀ s c, 0 < s → s < p → s ∣ p → ¬ Rep T p r s c
  start : p = T.length ∨ vl T p r (T.length - 1) ≠ T.getD (T.length - p - 1) 0 + r
theorem vl_ge_turn {T : List Int} {p : Nat} {r : Int} (o : RuleOk T p r) {x : Nat} (h : T.length - p ≤ x) (k : Nat) : vl T p r (x + k * p) = vl T p r x + (k : Int) * r := vl_addk o.p0 o.p1 h k
/-- what holds far off holds from the start of the turns on -/
theorem rep_down {T : List Int} {p s A : Nat} {r c : Int} (o : RuleOk T p r) (h : ∀ x, A ≤ x → vl T p r (x + s) = vl T p r x + c) {x : Nat} (hx : T.length - p ≤ x) : vl T p r (x + s) = vl T p r x + c := by
  have p0 := o.p0
  have e1 := vl_ge_turn o (x := x) hx A
  have e2 := vl_ge_turn o (x := x + s) (by omega) A
  have far : A ≤ x + A * p := by
    have : A * 1 ≤ A * p := Nat.mul_le_mul_left A p0
    omega
  have e3 := h _ far
  rw [show x + A * p + s = x + s + A * p by omega] at e3
  omega
/-- two turns have a turn as long as their greatest common divisor -/
theorem gcd_turn {f : Nat → Int} {A : Nat} : ∀ (n p q : Nat), p + q ≤ n → 0 < p → 0 < q → (∃ r, ∀ x, A ≤ x → f (x + p) = f x + r) → (∃ t, ∀ x, A ≤ x → f (x + q) = f x + t) → ∃ c, ∀ x, A ≤ x → f (x + Nat.gcd p q) = f x + c
  | 0, p, q, h, p0, q0, _, _ => by omega
  | n + 1, p, q, h, p0, q0, ⟨r, hr⟩, ⟨t, ht⟩ => by
    rcases Nat.lt_trichotomy p q with l | l | l
    · have g : Nat.gcd p (q - p) = Nat.gcd p q := Nat.gcd_sub_self_right (Nat.le_of_lt l)
      rw [← g]
      refine gcd_turn n p (q - p) (by omega) p0 (by omega) ⟨r, hr⟩ ⟨t - r, fun x hx => ?_⟩
      have e1 := ht x hx
      have e2 := hr (x + (q - p)) (by omega)
      rw [show x + (q - p) + p = x + q by omega] at e2
      omega
    · subst l
      rw [Nat.gcd_self]
      exact ⟨r, hr⟩
    · have g : Nat.gcd (p - q) q = Nat.gcd p q := Nat.gcd_sub_self_left (Nat.le_of_lt l)
      rw [← g]
      refine gcd_turn n (p - q) q (by omega) (by omega) q0 ⟨r - t, fun x hx => ?_⟩ ⟨t, ht⟩
      have e1 := hr x hx
      have e2 := ht (x + (p - q)) (by omega)
      rw [show x + (p - q) + q = x + p by omega] at e2
      omega
theorem short_le {T1 T2 : List Int} {p1 p2 : Nat} {r1 r2 : Int} (s1 : Short T1 p1 r1) (o2 : RuleOk T2 p2 r2) (h : ∀ x, vl T1 p1 r1 x = vl T2 p2 r2 x) : Nat.gcd p1 p2 = p1 := by
  have o1 := s1.ok
  obtain ⟨c, hc⟩ := gcd_turn (f := vl T1 p1 r1) (A := max (T1.length - p1) (T2.length - p2)) _ p1 p2 (Nat.le_refl _) o1.p0 o2.p0 ⟨r1, fun x hx => vl_add o1.p0 o1.p1 (by omega)⟩ ⟨r2, fun x hx => by rw [h, h]; exact vl_add o2.p0 o2.p1 (by omega)⟩
  have g0 : 0 < Nat.gcd p1 p2 := Nat.gcd_pos_of_pos_left _ o1.p0
  have gl : Nat.gcd p1 p2 ≤ p1 := Nat.le_of_dvd o1.p0 (Nat.gcd_dvd_left ..)
  by_cases q : Nat.gcd p1 p2 = p1
  · exact q
  · exact absurd (fun i h1 h2 => by rw [← vl_lt (p := p1) (r := r1) h2]; exact rep_down o1 hc h1) (s1.turn _ c g0 (by omega) (Nat.gcd_dvd_left ..))
theorem short_start {T1 T2 : List Int} {p : Nat} {r : Int} (s1 : Short T1 p r) (s2 : Short T2 p r) (h : ∀ x, vl T1 p r x = vl T2 p r x) : T2.length ≤ T1.length := by
  have o1 := s1.ok
  have o2 := s2.ok
  have p0 := o1.p0
  have l1 := o1.p1
  have l2 := o2.p1
  rcases Nat.lt_or_ge T1.length T2.length with q | q
  · exfalso
    rcases s2.start with e | e
    · omega
    · apply e
      have := vl_add (T := T1) (p := p) (r := r) p0 l1 (x := T2.length - p - 1) (by omega)
      rw [show T2.length - p - 1 + p = T2.length - 1 by omega, h, h, vl_lt (T := T2) (x := T2.length - p - 1) (by omega)] at this
      exact this
  · exact q
/-- just one shortest tuple has given values -/
theorem short_one {T1 T2 : List Int} {p1 p2 : Nat} {r1 r2 : Int} (s1 : Short T1 p1 r1) (s2 : Short T2 p2 r2) (h : ∀ x, vl T1 p1 r1 x = vl T2 p2 r2 x) : T1 = T2 ∧ p1 = p2 ∧ r1 = r2 := by
  have a := short_le s1 s2.ok h
  have b := short_le s2 s1.ok fun x => (h x).symm
  rw [Nat.gcd_comm] at b
  obtain rfl : p1 = p2 := a.symm.trans b
  have o1 := s1.ok
  have o2 := s2.ok
  have e1 := vl_add o1.p0 o1.p1 (r := r1) (x := max (T1.length - p1) (T2.length - p1)) (by omega)
  have e2 := vl_add o2.p0 o2.p1 (r := r2) (x := max (T1.length - p1) (T2.length - p1)) (by omega)
  rw [h, h] at e1
  obtain rfl : r1 = r2 := by omega
  have l : T1.length = T2.length := Nat.le_antisymm (short_start s2 s1 fun x => (h x).symm) (short_start s1 s2 h)
  refine ⟨List.ext_getElem l fun i h1 h2 => ?_, rfl, rfl⟩
  have e := h i
  rw [vl_lt h1, vl_lt h2, List.getD_eq_getElem?_getD, List.getD_eq_getElem?_getD, List.getElem?_eq_getElem h1, List.getElem?_eq_getElem h2] at e
  exact e
theorem rep_slope {T : List Int} {p s : Nat} {r c : Int} (o : RuleOk T p r) (sd : s ∣ p) (h : Rep T p r s c) : r * (s : Int) = c * (p : Int) := by
  obtain ⟨k, rfl⟩ := sd
  have all := rep_all o h
  have up : ∀ n : Nat, vl T (s * k) r (T.length - s * k + n * s) = vl T (s * k) r (T.length - s * k) + (n : Int) * c := by
    intro n
    induction n with
    | zero => simp
    | succ n ih =>
      rw [show T.length - s * k + (n + 1) * s = T.length - s * k + n * s + s by rw [Nat.add_mul]; omega, all _ (by omega), ih, Int.natCast_add, Int.add_mul]
      simp
      omega
  have e1 := up k
  have e2 := vl_add o.p0 o.p1 (r := r) (x := T.length - s * k) (Nat.le_refl _)
  rw [Nat.mul_comm k s, e2] at e1
  have e3 : r = (k : Int) * c := by omega
  rw [e3, Int.natCast_mul, Int.mul_comm (k : Int) c, Int.mul_assoc, Int.mul_comm (k : Int)]
theorem rep_quot {T : List Int} {p s : Nat} {r c : Int} (o : RuleOk T p r) (sd : s ∣ p) (h : Rep T p r s c) : r * (s : Int) / (p : Int) = c ∧ r * (s : Int) % (p : Int) = 0 := by
  have p0 := o.p0
  rw [rep_slope o sd h]
  exact ⟨Int.mul_ediv_cancel _ (by omega), Int.mul_emod_left _ _⟩
theorem cut_short {T : List Int} {p a s : Nat} {r c : Int} (o : RuleOk T p r) (hs : 0 < s) (sd : s ∣ p) (ha : a ≤ T.length - p) (c0 : 0 ≤ c) (h : ∀ y, a ≤ y → vl T p r (y + s) = vl T p r y + c)
    (hm : ∀ s' c', 0 < s' → s' < s → s' ∣ p → ¬ Rep T p r s' c') (st : a = 0 ∨ vl T p r (a - 1 + s) ≠ T.getD (a - 1) 0 + c) : Short (T.take (a + s)) s c := by
  have p1 := o.p1
  have sp : s ≤ p := Nat.le_of_dvd o.p0 sd
  have ok := cut_ok o hs (by omega) c0 h
  have eq := cut_vl (T := T) (p := p) (r := r) hs (show a + s ≤ T.length by omega) h
  have len : (T.take (a + s)).length = a + s := by rw [List.length_take]; omega
  refine ⟨ok, fun s' c' h1 h2 h3 rep => hm s' c' h1 h2 (Nat.dvd_trans h3 sd) fun i g1 g2 => ?_, ?_⟩
  · have all := rep_all ok rep i (by rw [len]; omega)
    rw [eq, eq, vl_lt (T := T) g2] at all
    exact all
  · by_cases z : a = 0
    · left
      rw [len, z, Nat.zero_add]
    · right
      rw [len, eq, show a + s - 1 = a - 1 + s by omega, show a + s - s - 1 = a - 1 by omega, getD_take (by omega)]
      rcases st with q | q
      · exact absurd q z
      · exact q
theorem dvd_of {p i : Nat} (h : (p : Int).fmod (1 + (i : Int)) = 0) : 1 + i ∣ p := by
  rw [Int.fmod_eq_emod_of_nonneg _ (by omega)] at h
  exact Int.natCast_dvd_natCast.mp (Int.dvd_of_emod_eq_zero (b := (p : Int)) (a := ((1 + i : Nat) : Int)) h)
theorem of_dvd {p i : Nat} (h : 1 + i ∣ p) : (p : Int).fmod (1 + (i : Int)) = 0 := by
  rw [Int.fmod_eq_emod_of_nonneg _ (by omega)]
  exact Int.emod_eq_zero_of_dvd (a := ((1 + i : Nat) : Int)) (Int.natCast_dvd_natCast.mpr h)
end Sm

set_option maxHeartbeats 4000000
namespace Sm
/-! a list that comes back when it is turned; the steps of the last period -/
def Rot (I : List Int) (s : Nat) : Prop := I = I.drop s ++ I.take s
structure Cyc (I : List Int) (s : Nat) : Prop where
  s0 : 0 < s
  s1 : s ≤ I.length
  dv : s ∣ I.length
  rot : s < I.length → Rot I s
  least : ∀ t, 0 < t → t < s → t ∣ I.length → ¬ Rot I t
def stepsOf (T : List Int) (p : Nat) (r : Int) : List Int := (List.range p).map fun i => vl T p r (T.length - p + i + 1) - vl T p r (T.length - p + i)
theorem stepsOf_len (T : List Int) (p : Nat) (r : Int) : (stepsOf T p r).length = p := by
  unfold stepsOf
  rw [List.length_map, List.length_range]
theorem stepsOf_get {T : List Int} {p : Nat} {r : Int} {i : Nat} (h : i < p) : (stepsOf T p r)[i]? = some (vl T p r (T.length - p + i + 1) - vl T p r (T.length - p + i)) := by
  unfold stepsOf
  rw [List.getElem?_map, List.getElem?_range h]
  rfl
theorem rot_get {I : List Int} {s i : Nat} (h : Rot I s) (hs : s ≤ I.length) (hi : i < I.length) : I[i]? = if i + s < I.length then I[i + s]? else I[i + s - I.length]? := by
  have e : I[i]? = (I.drop s ++ I.take s)[i]? := congrArg (fun l => l[i]?) h
  rw [e, List.getElem?_append, List.length_drop]
  by_cases q : i < I.length - s
  · rw [if_pos q, if_pos (by omega), List.getElem?_drop, Nat.add_comm]
  · rw [if_neg q, if_neg (by omega), List.getElem?_take_of_lt (by omega), show i - (I.length - s) = i + s - I.length by omega]
theorem of_rot {I : List Int} {s : Nat} (hs : s ≤ I.length) (h : ∀ i, i < I.length → I[i]? = if i + s < I.length then I[i + s]? else I[i + s - I.length]?) : Rot I s := by
  refine List.ext_getElem? fun i => ?_
  by_cases hi : i < I.length
  · rw [h i hi, List.getElem?_append, List.length_drop]
    by_cases q : i < I.length - s
    · rw [if_pos q, if_pos (by omega), List.getElem?_drop, Nat.add_comm]
    · rw [if_neg q, if_neg (by omega), List.getElem?_take_of_lt (by omega), show i - (I.length - s) = i + s - I.length by omega]
  · rw [List.getElem?_eq_none (by omega), List.getElem?_eq_none (by rw [List.length_append, List.length_drop, List.length_take]; omega)]
theorem rot_rep {T : List Int} {p s : Nat} {r : Int} (o : RuleW T p r) (sp : s < p) (h : Rot (stepsOf T p r) s) : Rep T p r s (vl T p r (T.length - p + s) - vl T p r (T.length - p)) := by
  have p0 := o.p0
  have p1 := o.p1
  have ln := stepsOf_len T p r
  have d : ∀ j, j < p → vl T p r (T.length - p + (j + s) + 1) - vl T p r (T.length - p + (j + s)) = vl T p r (T.length - p + j + 1) - vl T p r (T.length - p + j) := by
    intro j hj
    have e := rot_get h (by omega) (i := j) (by omega)
    rw [ln, stepsOf_get hj] at e
    by_cases q : j + s < p
    · rw [if_pos q, stepsOf_get q] at e
      exact (Option.some.inj e).symm
    · rw [if_neg q, stepsOf_get (by omega)] at e
      have e := Option.some.inj e
      have e1 := vl_add p0 p1 (r := r) (x := T.length - p + (j + s - p) + 1) (by omega)
      have e2 := vl_add p0 p1 (r := r) (x := T.length - p + (j + s - p)) (by omega)
      rw [show T.length - p + (j + s - p) + 1 + p = T.length - p + (j + s) + 1 by omega] at e1
      rw [show T.length - p + (j + s - p) + p = T.length - p + (j + s) by omega] at e2
      omega
  have all : ∀ j, j ≤ p → vl T p r (T.length - p + j + s) = vl T p r (T.length - p + j) + (vl T p r (T.length - p + s) - vl T p r (T.length - p)) := by
    intro j
    induction j with
    | zero => intro _; simp; omega
    | succ j ih =>
      intro hj
      have a := ih (by omega)
      have b := d j (by omega)
      rw [show T.length - p + (j + s) + 1 = T.length - p + (j + 1) + s by omega, show T.length - p + (j + s) = T.length - p + j + s by omega] at b
      rw [show T.length - p + (j + 1) = T.length - p + j + 1 by omega] at b ⊢
      omega
  intro i h1 h2
  have := all (i - (T.length - p)) (by omega)
  rw [show T.length - p + (i - (T.length - p)) = i by omega] at this
  rw [this, vl_lt h2]
theorem rep_rot {T : List Int} {p s : Nat} {r c : Int} (o : RuleW T p r) (sp : s ≤ p) (h : Rep T p r s c) : Rot (stepsOf T p r) s := by
  have p0 := o.p0
  have p1 := o.p1
  have ln := stepsOf_len T p r
  have all := rep_allW o h
  refine of_rot (by omega) fun i hi => ?_
  rw [ln] at hi ⊢
  rw [stepsOf_get hi]
  have a := all (T.length - p + i) (by omega)
  have b := all (T.length - p + i + 1) (by omega)
  by_cases q : i + s < p
  · rw [if_pos q, stepsOf_get q]
    rw [show T.length - p + i + s = T.length - p + (i + s) by omega] at a
    rw [show T.length - p + i + 1 + s = T.length - p + (i + s) + 1 by omega] at b
    congr 1
    omega
  · rw [if_neg q, stepsOf_get (by omega)]
    have e1 := vl_add p0 p1 (r := r) (x := T.length - p + (i + s - p) + 1) (by omega)
    have e2 := vl_add p0 p1 (r := r) (x := T.length - p + (i + s - p)) (by omega)
    rw [show T.length - p + (i + s - p) + 1 + p = T.length - p + i + 1 + s by omega] at e1
    rw [show T.length - p + (i + s - p) + p = T.length - p + i + s by omega] at e2
    congr 1
    omega
/-- the least turn of the steps is the rule's least turn -/
theorem cyc_rule {T : List Int} {p s : Nat} {r : Int} (o : RuleOk T p r) (h : Cyc (stepsOf T p r) s) : 0 < s ∧ s ≤ p ∧ s ∣ p ∧ Rep T p r s (r * (s : Int) / (p : Int)) ∧ ∀ s' c', 0 < s' → s' < s → s' ∣ p → ¬ Rep T p r s' c' := by
  obtain ⟨s0, s1, dv, rot, least⟩ := h
  rw [stepsOf_len] at s1 dv rot least
  have p0 := o.p0
  refine ⟨s0, s1, dv, ?_, fun s' c' h1 h2 h3 rep => least s' h1 h2 h3 (rep_rot o.w (by omega) rep)⟩
  by_cases q : s < p
  · have rep := rot_rep o.w q (rot q)
    rw [(rep_quot o dv rep).1]
    exact rep
  · obtain rfl : s = p := by omega
    rw [Int.mul_ediv_cancel _ (by omega)]
    exact rep_self o
/-! values told by a function, as a rule -/
theorem tab_getD {f : Nat → Int} {n i : Nat} (h : i < n) : ((List.range n).map f).getD i 0 = f i := by
  rw [List.getD_eq_getElem?_getD, List.getElem?_map, List.getElem?_range h]
  rfl
theorem tab_len {f : Nat → Int} {n : Nat} : ((List.range n).map f).length = n := by rw [List.length_map, List.length_range]
theorem tab_vl {f : Nat → Int} {B t : Nat} {R : Int} (t0 : 0 < t) (h : ∀ x, B ≤ x → f (x + t) = f x + R) : ∀ x, vl ((List.range (B + t)).map f) t R x = f x := by
  intro x
  induction x using Nat.strongRecOn with
  | _ x ih =>
    by_cases q : x < B + t
    · rw [vl_lt (by rw [tab_len]; exact q), tab_getD q]
    · rw [vl_step t0 (by rw [tab_len]; omega) (by rw [tab_len]; omega), ih (x - t) (by omega)]
      have := h (x - t) (by omega)
      rw [show x - t + t = x by omega] at this
      omega
theorem tab_ok {f : Nat → Int} {B t : Nat} {R : Int} (t0 : 0 < t) (R0 : 0 ≤ R) (h : ∀ x, B ≤ x → f (x + t) = f x + R) (f0 : ∀ x, 0 ≤ f x) (up : ∀ x, f x ≤ f (x + 1)) : RuleOk ((List.range (B + t)).map f) t R := by
  refine ⟨t0, by rw [tab_len]; omega, R0, fun i hi => ?_, fun i hi => ?_, ?_⟩
  · rw [tab_len] at hi
    rw [tab_getD hi]
    exact f0 i
  · rw [tab_len] at hi
    rw [tab_getD hi, tab_getD (by omega)]
    exact up i
  · rw [tab_len, tab_getD (by omega), tab_getD (by omega), show B + t - t = B by omega]
    have a := h B (Nat.le_refl _)
    have b := up (B + t - 1)
    rw [show B + t - 1 + 1 = B + t by omega] at b
    omega
end Sm

set_option linter.all false
set_option maxRecDepth 100000
namespace Sm
section
variable {T1 T2 : List Int} {p1 p2 : Nat} {r1 r2 : Int}
/-- two rules that are equal far off: the shorter one's period divides the other one's -/
theorem far_le {A : Nat} (s1 : Short T1 p1 r1) (o2 : RuleOk T2 p2 r2) (h : ∀ x, A ≤ x → vl T1 p1 r1 x = vl T2 p2 r2 x) : Nat.gcd p1 p2 = p1 := by
  have o1 := s1.ok
  obtain ⟨c, hc⟩ := gcd_turn (f := vl T1 p1 r1) (A := max A (max (T1.length - p1) (T2.length - p2))) _ p1 p2 (Nat.le_refl _) o1.p0 o2.p0 ⟨r1, fun x hx => vl_add o1.p0 o1.p1 (by omega)⟩
    ⟨r2, fun x hx => by rw [h x (by omega), h (x + p2) (by omega)]; exact vl_add o2.p0 o2.p1 (by omega)⟩
  have g0 : 0 < Nat.gcd p1 p2 := Nat.gcd_pos_of_pos_left _ o1.p0
  have gl : Nat.gcd p1 p2 ≤ p1 := Nat.le_of_dvd o1.p0 (Nat.gcd_dvd_left ..)
  by_cases q : Nat.gcd p1 p2 = p1
  · exact q
  · refine absurd (fun i h1 h2 => ?_) (s1.turn (Nat.gcd p1 p2) c g0 (by omega) (Nat.gcd_dvd_left ..))
    have := rep_down o1 hc (x := i) h1
    rw [vl_lt h2] at this
    exact this
theorem far_turn {A : Nat} (s1 : Short T1 p1 r1) (s2 : Short T2 p2 r2) (h : ∀ x, A ≤ x → vl T1 p1 r1 x = vl T2 p2 r2 x) : p1 = p2 ∧ r1 = r2 := by
  have a := far_le s1 s2.ok h
  have b := far_le s2 s1.ok fun x hx => (h x hx).symm
  rw [Nat.gcd_comm] at b
  have e : p1 = p2 := a.symm.trans b
  refine ⟨e, ?_⟩
  subst e
  have e1 := vl_add (r := r1) s1.ok.p0 s1.ok.p1 (x := A + T1.length + T2.length) (by omega)
  have e2 := vl_add (r := r2) s2.ok.p0 s2.ok.p1 (x := A + T1.length + T2.length) (by omega)
  rw [h _ (by omega), h _ (by omega)] at e1
  omega
/-- from B on the one is nowhere below: the greater values repeat as it does -/
theorem over_turn {B : Nat} (o1 : RuleOk T1 p1 r1) (hB : T1.length - p1 ≤ B) (hL : ∀ x, B ≤ x → vl T2 p2 r2 x ≤ vl T1 p1 r1 x) : ∀ x, B ≤ x → max (vl T1 p1 r1 (x + p1)) (vl T2 p2 r2 (x + p1)) = max (vl T1 p1 r1 x) (vl T2 p2 r2 x) + r1 := by
  intro x hx
  have a := hL x hx
  have b := hL (x + p1) (by omega)
  have c := vl_add o1.p0 o1.p1 (r := r1) (x := x) (by omega)
  omega
/-- the shortest table of the greater values: it ends a period behind the last amount at which the flat one is above -/
theorem over_len {T : List Int} {p L : Nat} {r : Int} (s : Short T p r) (s1 : Short T1 p1 r1) (hv : ∀ x, vl T p r x = max (vl T1 p1 r1 x) (vl T2 p2 r2 x)) (hL : T1.length - p1 ≤ L) (above : vl T1 p1 r1 L < vl T2 p2 r2 L) (behind : ∀ x, L < x → vl T2 p2 r2 x ≤ vl T1 p1 r1 x) :
    p = p1 ∧ r = r1 ∧ T.length = L + 1 + p1 := by
  have far : ∀ x, L + 1 ≤ x → vl T p r x = vl T1 p1 r1 x := fun x hx => by
    rw [hv]
    have := behind x (by omega)
    omega
  obtain ⟨rfl, rfl⟩ := far_turn s s1 far
  refine ⟨rfl, rfl, ?_⟩
  have o := s.ok
  have o1 := s1.ok
  have p0 := o.p0
  have q1 := o.p1
  rcases Nat.lt_trichotomy T.length (L + 1 + p) with l | l | l
  · exfalso
    have a := vl_add (r := r) p0 q1 (x := L) (by omega)
    have b := vl_add (r := r) p0 o1.p1 (x := L) hL
    rw [far (L + p) (by omega), b, hv L] at a
    omega
  · exact l
  · exfalso
    rcases s.start with e | e
    · omega
    · apply e
      have c := far (T.length - 1) (by omega)
      have d := far (T.length - p - 1) (by omega)
      have f := vl_add (r := r) p0 o1.p1 (x := T.length - p - 1) (by omega)
      rw [show T.length - p - 1 + p = T.length - 1 by omega] at f
      rw [c, f, ← d, vl_lt (by omega)]
end
end Sm

set_option linter.all false
set_option maxRecDepth 100000
namespace Sm
/-- the last amount at which d is above 0, or -1 -/
def IsLast (d : Nat → Int) (L : Int) : Prop := (L = -1 ∨ ∃ n : Nat, L = (n : Int) ∧ 0 < d n) ∧ ∀ x : Nat, 0 < d x → (x : Int) ≤ L
def earlyL (d : Nat → Int) (n : Nat) : List Int := ((List.range n).filter fun x => decide (0 < d x)).map fun (x : Nat) => (x : Int)
def lateL (d : Nat → Int) (B t : Nat) (g : Int) (n : Nat) : List Int := ((List.range n).filter fun i => decide (0 < d (B + i))).map fun i => ((B + i : Nat) : Int) + (t : Int) * ((d (B + i) - 1) / g)
theorem down_turns {d : Nat → Int} {B t : Nat} {g : Int} (h : ∀ x, B ≤ x → d (x + t) = d x - g) {x : Nat} (hx : B ≤ x) : ∀ k : Nat, d (x + k * t) = d x - (k : Int) * g
  | 0 => by simp
  | k + 1 => by
    have ih := down_turns h hx k
    rw [show x + (k + 1) * t = x + k * t + t by rw [Nat.add_mul, Nat.one_mul, Nat.add_assoc], h _ (by omega), ih, Int.natCast_add, Int.add_mul]
    simp
    omega
theorem last_of {d : Nat → Int} {B t : Nat} {g M : Int} (t0 : 0 < t) (hg : 0 < g) (h : ∀ x, B ≤ x → d (x + t) = d x - g) (up : ∀ y ∈ earlyL d B ++ lateL d B t g t, y ≤ M) : ∀ x : Nat, 0 < d x → (x : Int) ≤ M := by
  intro x hx
  by_cases q : x < B
  · refine up _ (List.mem_append_left _ (List.mem_map.mpr ⟨x, List.mem_filter.mpr ⟨List.mem_range.mpr q, decide_eq_true hx⟩, rfl⟩))
  · obtain ⟨y, k, h1, h2, rfl⟩ := split_turn t0 (show B ≤ x by omega)
    have e := down_turns h h1 k
    rw [e] at hx
    have k0 : 0 ≤ (k : Int) * g := Int.mul_nonneg (by omega) (by omega)
    have hk : (k : Int) ≤ (d y - 1) / g := (Int.le_ediv_iff_mul_le hg).mpr (by omega)
    have m := up (((B + (y - B) : Nat) : Int) + (t : Int) * ((d (B + (y - B)) - 1) / g)) (List.mem_append_right _ (List.mem_map.mpr ⟨y - B, List.mem_filter.mpr ⟨List.mem_range.mpr (by omega), decide_eq_true (by rw [show B + (y - B) = y by omega]; omega)⟩, rfl⟩))
    rw [show B + (y - B) = y by omega] at m
    have hm : (t : Int) * (k : Int) ≤ (t : Int) * ((d y - 1) / g) := Int.mul_le_mul_of_nonneg_left hk (by omega)
    rw [Int.natCast_add, Int.natCast_mul, Int.mul_comm]
    omega
theorem last_in {d : Nat → Int} {B t : Nat} {g M : Int} (hg : 0 < g) (h : ∀ x, B ≤ x → d (x + t) = d x - g) (hm : M ∈ earlyL d B ++ lateL d B t g t) : ∃ n : Nat, M = (n : Int) ∧ 0 < d n := by
  rcases List.mem_append.mp hm with m | m
  · obtain ⟨x, hx, rfl⟩ := List.mem_map.mp m
    exact ⟨x, rfl, of_decide_eq_true (List.mem_filter.mp hx).2⟩
  · obtain ⟨i, hi, rfl⟩ := List.mem_map.mp m
    have di := of_decide_eq_true (List.mem_filter.mp hi).2
    have q0 : 0 ≤ (d (B + i) - 1) / g := Int.ediv_nonneg (by omega) (by omega)
    refine ⟨B + i + ((d (B + i) - 1) / g).toNat * t, ?_, ?_⟩
    · rw [Int.natCast_add (B + i), Int.natCast_mul, Int.toNat_of_nonneg q0, Int.mul_comm]
    · rw [down_turns h (by omega), Int.toNat_of_nonneg q0]
      have a := Int.mul_ediv_add_emod (d (B + i) - 1) g
      have b := Int.emod_nonneg (d (B + i) - 1) (show g ≠ 0 by omega)
      rw [Int.mul_comm] at a
      omega
theorem last_is {d : Nat → Int} {B t : Nat} {g : Int} (t0 : 0 < t) (hg : 0 < g) (h : ∀ x, B ≤ x → d (x + t) = d x - g) {ns : List Int} (hns : ns = earlyL d B ++ lateL d B t g t) :
    (ns = [] → IsLast d (-1)) ∧ ∀ m, m ∈ ns → (∀ y, y ∈ ns → y ≤ m) → IsLast d m := by
  subst hns
  refine ⟨fun e => ⟨.inl rfl, last_of t0 hg h fun y hy => by rw [e] at hy; exact nomatch hy⟩, fun m hm hle => ⟨.inr (last_in hg h hm), last_of t0 hg h hle⟩⟩
end Sm

set_option maxHeartbeats 4000000
namespace Sm
/-! the two written pairs of rules at the end of the law -/
theorem vl_flat {c : Int} (x : Nat) : vl [c] 1 0 x = c := by
  unfold vl
  split
  · rename_i h
    rw [show x = 0 by simp at h; omega]
    rfl
  · rename_i h
    simp only [List.length_cons, List.length_nil] at h ⊢
    rw [show x - ((x - (0 + 1)) / 1 + 1) * 1 = 0 by rw [Nat.div_one]; omega, Int.mul_zero, Int.add_zero]
    rfl
theorem zeros_at {i n : Nat} : (List.replicate n (0 : Int)).getD i 0 = 0 := by
  rw [List.getD_eq_getElem?_getD, List.getElem?_replicate]
  split <;> rfl
theorem vl_stairs {r : Int} (x : Nat) : vl (List.replicate 40 0) 40 r x = ((x / 40 : Nat) : Int) * r := by
  unfold vl
  rw [List.length_replicate, zeros_at, zeros_at]
  split
  · rename_i h
    rw [show x / 40 = 0 by omega]
    simp
  · rename_i h
    rw [show (x - 40) / 40 + 1 = x / 40 by omega, Int.zero_add]
theorem flat_short {c : Int} (c0 : 0 ≤ c) : Short [c] 1 0 := by
  refine ⟨⟨by decide, Nat.le_refl 1, by decide, fun i hi => ?_, fun i hi => ?_, ?_⟩, fun s c h1 h2 => by omega, .inl rfl⟩
  · simp only [List.length_cons, List.length_nil] at hi
    rw [show i = 0 by omega]
    exact c0
  · simp only [List.length_cons, List.length_nil] at hi
    omega
  · show c ≤ c + 0
    omega
theorem stairs_short {r : Int} (r0 : 0 < r) : Short (List.replicate 40 0) 40 r := by
  refine ⟨⟨by decide, by rw [List.length_replicate]; exact Nat.le_refl _, by omega, fun i hi => ?_, fun i hi => ?_, ?_⟩, fun s c h1 h2 _ h => ?_, .inl (by rw [List.length_replicate])⟩
  · rw [zeros_at]
    exact Int.le_refl _
  · rw [zeros_at, zeros_at]
    exact Int.le_refl _
  · rw [zeros_at, zeros_at]
    omega
  · have a := h 0 (by rw [List.length_replicate]; omega) (by rw [List.length_replicate]; decide)
    have b := h 39 (by rw [List.length_replicate]; omega) (by rw [List.length_replicate]; decide)
    rw [vl_stairs, zeros_at, show (0 + s) / 40 = 0 by omega] at a
    rw [vl_stairs, zeros_at, show (39 + s) / 40 = 1 by omega] at b
    simp at a b
    omega
theorem far_len {T : List Int} {p : Nat} {r : Int} (s : Short T p r) (hv : ∀ x, vl T p r x = max (vl (List.replicate 40 0) 40 1 x) (vl [999999999999] 1 0 x)) : T.length = 40000000000000 := by
  have := over_len (L := 39999999999959) s (stairs_short (r := 1) (by decide)) hv (by rw [List.length_replicate]; omega) (by rw [vl_stairs, vl_flat]; decide) fun x hx => by
    rw [vl_stairs, vl_flat]
    omega
  omega
theorem near_tab {T : List Int} {p : Nat} {r : Int} (s : Short T p r) (hv : ∀ x, vl T p r x = max (vl [4960] 1 0 x) (vl (List.replicate 40 0) 40 40 x)) : T = (List.range 5000).map (fun x => max 4960 (((x / 40 : Nat) : Int) * 40)) ∧ p = 40 ∧ r = 40 := by
  have hv2 : ∀ x, vl T p r x = max (vl (List.replicate 40 0) 40 40 x) (vl [4960] 1 0 x) := fun x => by rw [hv, Int.max_comm]
  obtain ⟨e1, e2, e3⟩ := over_len (L := 4959) s (stairs_short (r := 40) (by decide)) hv2 (by rw [List.length_replicate]; omega) (by rw [vl_stairs, vl_flat]; decide) fun x hx => by
    rw [vl_stairs, vl_flat]
    omega
  refine ⟨List.ext_getElem (by rw [List.length_map, List.length_range]; omega) fun i h1 h2 => ?_, e1, e2⟩
  have h := hv i
  rw [vl_lt h1, vl_flat, vl_stairs, List.getD_eq_getElem?_getD, List.getElem?_eq_getElem h1] at h
  rw [List.getElem_map, List.getElem_range]
  exact h
end Sm

set_option maxHeartbeats 4000000
namespace Sm
/-! each rule has a shortest tuple -/
theorem least_of {Q : Nat → Prop} (h : ∃ n, Q n) : ∃ n, Q n ∧ ∀ m, m < n → ¬ Q m := by
  obtain ⟨n, hn⟩ := h
  induction n using Nat.strongRecOn with
  | _ n ih =>
    by_cases q : ∃ m, m < n ∧ Q m
    · obtain ⟨m, hm, hq⟩ := q
      exact ih m hm hq
    · exact ⟨n, hn, fun m hm hq => q ⟨m, hm, hq⟩⟩
theorem short_is {T : List Int} {p : Nat} {r : Int} (o : RuleOk T p r) : ∃ T' p' r', Short T' p' r' ∧ ∀ x, vl T' p' r' x = vl T p r x := by
  have p0 := o.p0
  have p1 := o.p1
  obtain ⟨s, ⟨s0, sd, c, hc⟩, low⟩ := least_of (Q := fun s => 0 < s ∧ s ∣ p ∧ ∃ c, Rep T p r s c) ⟨p, p0, Nat.dvd_refl p, r, rep_self o⟩
  have sp : s ≤ p := Nat.le_of_dvd p0 sd
  have all := rep_all o hc
  have slope := rep_slope o sd hc
  have c0 : 0 ≤ c := by
    have h1 : 0 ≤ r * (s : Int) := Int.mul_nonneg o.r0 (by omega)
    rw [slope] at h1
    by_cases q : 0 ≤ c
    · exact q
    · have h2 : c * (p : Int) < 0 := Int.mul_neg_of_neg_of_pos (by omega) (by omega)
      omega
  obtain ⟨a, ⟨ha, hall⟩, lowa⟩ := least_of (Q := fun a => a ≤ T.length - p ∧ ∀ y, a ≤ y → vl T p r (y + s) = vl T p r y + c) ⟨T.length - p, Nat.le_refl _, all⟩
  refine ⟨T.take (a + s), s, c, cut_short o s0 sd ha c0 hall (fun s' c' h1 h2 h3 h4 => low s' h2 ⟨h1, h3, c', h4⟩) ?_, cut_vl s0 (by omega) hall⟩
  by_cases z : a = 0
  · exact .inl z
  · refine .inr fun e => lowa (a - 1) (by omega) ⟨by omega, fun y hy => ?_⟩
    by_cases q : y = a - 1
    · rw [q, e, vl_lt (by omega)]
    · exact hall y (by omega)
end Sm

set_option maxHeartbeats 4000000
namespace Sm
/-! the second rule's value at the first one's -/
section
variable {T1 T2 : List Int} {p1 p2 : Nat} {r1 r2 : Int}
def thn (T1 : List Int) (p1 : Nat) (r1 : Int) (T2 : List Int) (p2 : Nat) (r2 : Int) (x : Nat) : Int := vl T2 p2 r2 (vl T1 p1 r1 x).toNat
theorem thn_pos (o2 : RuleOk T2 p2 r2) (x : Nat) : 0 ≤ thn T1 p1 r1 T2 p2 r2 x := o2.pos _
theorem thn_up (o1 : RuleOk T1 p1 r1) (o2 : RuleOk T2 p2 r2) (x : Nat) : thn T1 p1 r1 T2 p2 r2 x ≤ thn T1 p1 r1 T2 p2 r2 (x + 1) := by
  have := o1.up x
  exact o2.le (by omega)
theorem thn_turn {B a b : Nat} (o1 : RuleOk T1 p1 r1) (o2 : RuleOk T2 p2 r2) (hB : T1.length - p1 ≤ B) (hab : (a : Int) * r1 = (b : Int) * (p2 : Int)) (hb : b = 0 ∨ ((T2.length - p2 : Nat) : Int) ≤ vl T1 p1 r1 B) :
    ∀ x, B ≤ x → thn T1 p1 r1 T2 p2 r2 (x + a * p1) = thn T1 p1 r1 T2 p2 r2 x + (b : Int) * r2 := by
  intro x hx
  unfold thn
  have e1 := vl_addk o1.p0 o1.p1 (r := r1) (x := x) (by omega) a
  rw [e1, hab]
  have n1 := o1.pos x
  have up := o1.le hx
  rcases hb with rfl | hb
  · simp
  · have e : (vl T1 p1 r1 x + (b : Int) * (p2 : Int)).toNat = (vl T1 p1 r1 x).toNat + b * p2 := by
      rw [← Int.natCast_mul]
      omega
    rw [e]
    exact vl_addk o2.p0 o2.p1 (r := r2) (by omega) b
/-- the turns that then_rule takes -/
theorem thn_times (p0 : 0 < p2) (r0 : 0 ≤ r1) : 0 < p2 / Nat.gcd p2 r1.natAbs ∧ p2 / Nat.gcd p2 r1.natAbs ≤ p2 ∧ ((p2 / Nat.gcd p2 r1.natAbs : Nat) : Int) * r1 = ((r1.natAbs * (p2 / Nat.gcd p2 r1.natAbs) / p2 : Nat) : Int) * (p2 : Int) := by
  have g0 := Nat.gcd_pos_of_pos_left r1.natAbs p0
  obtain ⟨c, hc⟩ := Nat.gcd_dvd_left p2 r1.natAbs
  obtain ⟨d, hd⟩ := Nat.gcd_dvd_right p2 r1.natAbs
  have e : p2 / Nat.gcd p2 r1.natAbs = c := by
    rw [Nat.div_eq_of_eq_mul_right g0 hc]
  rw [e]
  have c0 : 0 < c := by
    rcases Nat.eq_zero_or_pos c with z | z
    · rw [z, Nat.mul_zero] at hc
      omega
    · exact z
  refine ⟨c0, ?_, ?_⟩
  · rw [← e]
    exact Nat.div_le_self ..
  · generalize Nat.gcd p2 r1.natAbs = g at *
    have m : r1.natAbs * c / p2 = d := by
      rw [hd, hc, show g * d * c = g * c * d by rw [Nat.mul_assoc, Nat.mul_comm d c, Nat.mul_assoc]]
      exact Nat.mul_div_cancel_left _ (Nat.mul_pos g0 c0)
    rw [m]
    have er : r1 = ((g * d : Nat) : Int) := by omega
    rw [er, hc, ← Int.natCast_mul, ← Int.natCast_mul]
    congr 1
    rw [Nat.mul_comm d, Nat.mul_assoc, Nat.mul_left_comm]
end
/-- one step, at the end -/
def stepT (N : Nat) : List Int := List.replicate N 0 ++ [9]
theorem step_len (N : Nat) : (stepT N).length = N + 1 := by
  unfold stepT
  rw [List.length_append, List.length_replicate]
  rfl
theorem step_at {N i : Nat} : (stepT N).getD i 0 = if i = N then 9 else 0 := by
  unfold stepT
  rw [List.getD_eq_getElem?_getD, List.getElem?_append, List.length_replicate]
  split
  · rw [if_neg (by omega), List.getElem?_replicate]
    split <;> rfl
  · split
    · rename_i h
      rw [h, Nat.sub_self]
      rfl
    · rw [List.getElem?_eq_none (by rw [List.length_singleton]; omega)]
      rfl
theorem step_ok {N : Nat} {r : Int} (h : 0 ≤ r) : RuleOk (stepT N) 1 r := by
  have l := step_len N
  refine ⟨by decide, by omega, h, fun i hi => ?_, fun i hi => ?_, ?_⟩
  · rw [step_at]
    split <;> omega
  · rw [step_at, step_at]
    split <;> split <;> omega
  · rw [l, Nat.add_sub_cancel]
    omega
theorem step_vl {N : Nat} (x : Nat) : vl (stepT N) 1 0 x = if x < N then 0 else 9 := by
  have l := step_len N
  unfold vl
  rw [l]
  split
  · rw [step_at]
    split <;> split <;> omega
  · rw [if_neg (by omega), Nat.div_one, Nat.mul_one, show x - (x - (N + 1) + 1) = N by omega, step_at, if_pos rfl, Int.mul_zero, Int.add_zero]
theorem step_short {N : Nat} (h : 0 < N) : Short (stepT N) 1 0 := by
  have l := step_len N
  refine ⟨step_ok (by decide), fun s c h1 h2 => by omega, .inr ?_⟩
  rw [step_vl, step_at, l, if_neg (by omega), if_neg (by omega)]
  decide
end Sm

set_option linter.all false
set_option maxHeartbeats 4000000
namespace Sm
/-! the inverse of a rule that ends rising: the least amounts -/
section
variable {T : List Int} {p : Nat} {r : Int}
theorem lf_is (o : RuleOk T p r) (r0 : 0 < r) (y : Nat) : ∃ i, IsLf T p r (y : Int) (some i) := by
  have far : (y : Int) ≤ vl T p r (T.length + y * p) := by
    have a := vl_addk o.p0 o.p1 (r := r) (x := T.length) (by omega) y
    have c := o.pos T.length
    have d : (y : Int) * 1 ≤ (y : Int) * r := Int.mul_le_mul_of_nonneg_left (by omega) (by omega)
    rw [a]
    omega
  obtain ⟨i, hi, low⟩ := least_of (Q := fun x => (y : Int) ≤ vl T p r x) ⟨_, far⟩
  exact ⟨i, hi, fun z hz => by have := low z hz; omega⟩
noncomputable def lf (T : List Int) (p : Nat) (r : Int) (y : Nat) : Nat :=
  open Classical in if h : ∃ i, IsLf T p r (y : Int) (some i) then Classical.choose h else 0
theorem lf_sp (o : RuleOk T p r) (r0 : 0 < r) (y : Nat) : IsLf T p r (y : Int) (some (lf T p r y)) := by
  have h := lf_is o r0 y
  unfold lf
  rw [dif_pos h]
  exact Classical.choose_spec h
theorem lf_le (o : RuleOk T p r) (r0 : 0 < r) {x y : Nat} : lf T p r y ≤ x ↔ (y : Int) ≤ vl T p r x := by
  obtain ⟨a, b⟩ := lf_sp o r0 y
  constructor
  · intro h
    have := o.le h
    omega
  · intro h
    rcases Nat.lt_or_ge x (lf T p r y) with q | q
    · have := b x q
      omega
    · exact q
theorem lf_up (o : RuleOk T p r) (r0 : 0 < r) (y : Nat) : lf T p r y ≤ lf T p r (y + 1) := by
  rw [lf_le o r0]
  have := (lf_sp o r0 (y + 1)).1
  omega
/-- from where on the inverse repeats: one more than this -/
def invB (T : List Int) (p : Nat) (r : Int) : Int := max (if p < T.length then T.getD (T.length - p - 1) 0 else -1) (T.getD (T.length - 1) 0 - r)
theorem invB_lo (o : RuleOk T p r) : -1 ≤ invB T p r := by
  unfold invB
  split
  · have := o.nn (T.length - p - 1) (by have := o.p0; omega)
    omega
  · omega
theorem inv_begin (o : RuleOk T p r) {x : Nat} (h : invB T p r < vl T p r x) : T.length - p ≤ x := by
  unfold invB at h
  have p0 := o.p0
  rcases Nat.lt_or_ge x (T.length - p) with q | q
  · have := o.le (show x ≤ T.length - p - 1 by omega)
    rw [vl_lt (x := T.length - p - 1) (by omega)] at this
    rw [if_pos (by omega)] at h
    omega
  · exact q
theorem inv_end (o : RuleOk T p r) {x : Nat} (h : invB T p r + r < vl T p r x) : T.length ≤ x := by
  unfold invB at h
  have p0 := o.p0
  have p1 := o.p1
  rcases Nat.lt_or_ge x T.length with q | q
  · have := o.le (show x ≤ T.length - 1 by omega)
    rw [vl_lt (x := T.length - 1) (by omega)] at this
    omega
  · exact q
theorem lf_turn (o : RuleOk T p r) (r0 : 0 < r) {s B : Nat} (hs : (s : Int) = r) (hB : invB T p r < (B : Int)) : ∀ y, B ≤ y → lf T p r (y + s) = lf T p r y + p := by
  intro y hy
  have p0 := o.p0
  have p1 := o.p1
  obtain ⟨a, b⟩ := lf_sp o r0 y
  obtain ⟨c, d⟩ := lf_sp o r0 (y + s)
  have h1 : T.length - p ≤ lf T p r y := inv_begin o (by omega)
  have h2 : T.length ≤ lf T p r (y + s) := inv_end o (by omega)
  have e1 := vl_add p0 p1 (r := r) (x := lf T p r y) h1
  have e2 := vl_add p0 p1 (r := r) (x := lf T p r (y + s) - p) (by omega)
  rw [show lf T p r (y + s) - p + p = lf T p r (y + s) by omega] at e2
  refine Nat.le_antisymm ?_ ?_
  · rw [lf_le o r0]
    omega
  · have : lf T p r y ≤ lf T p r (y + s) - p := by
      rw [lf_le o r0]
      omega
    omega
def invN (T : List Int) (p : Nat) (r : Int) : Nat := (invB T p r + 1).toNat
noncomputable def invT (T : List Int) (p : Nat) (r : Int) : List Int := (List.range (invN T p r + r.toNat)).map fun y => (lf T p r y : Int)
theorem inv_ok (o : RuleOk T p r) (r0 : 0 < r) : RuleOk (invT T p r) r.toNat (p : Int) ∧ ∀ y, vl (invT T p r) r.toNat (p : Int) y = (lf T p r y : Int) := by
  have b := invB_lo o
  have turn : ∀ x, invN T p r ≤ x → ((lf T p r (x + r.toNat) : Nat) : Int) = (lf T p r x : Int) + (p : Int) := fun x hx => by
    rw [lf_turn o r0 (s := r.toNat) (B := invN T p r) (by omega) (by unfold invN; omega) x hx, Int.natCast_add]
  exact ⟨tab_ok (f := fun y => (lf T p r y : Int)) (by omega) (by omega) turn (fun x => by omega) (fun x => by have := lf_up o r0 x; omega), tab_vl (f := fun y => (lf T p r y : Int)) (by omega) turn⟩
theorem invT_len : (invT T p r).length = invN T p r + r.toNat := by
  unfold invT
  rw [List.length_map, List.length_range]
/-- the inverse of the shortest tuple is the shortest of its values -/
theorem inv_short (s : Short T p r) (r0 : 0 < r) : Short (invT T p r) r.toNat (p : Int) := by
  have o := s.ok
  have p0 := o.p0
  have p1 := o.p1
  obtain ⟨oi, hv⟩ := inv_ok o r0
  have bl := invB_lo o
  have ln : (invT T p r).length = invN T p r + r.toNat := invT_len
  refine ⟨oi, fun u c u0 u1 ud rep => ?_, ?_⟩
  · -- no lesser turn
    have all := rep_all oi rep
    have slope := rep_slope oi ud rep
    have c0 : 0 < c := by
      by_cases q : 0 < c
      · exact q
      · have h1 : c * ((r.toNat : Nat) : Int) ≤ 0 := Int.mul_nonpos_of_nonpos_of_nonneg (by omega) (by omega)
        have h2 : 0 < (p : Int) * (u : Int) := Int.mul_pos (by omega) (by omega)
        omega
    have cp : c < (p : Int) := by
      by_cases q : c < (p : Int)
      · exact q
      · have h1 : (p : Int) * (u : Int) < (p : Int) * ((r.toNat : Nat) : Int) := Int.mul_lt_mul_of_pos_left (by omega) (by omega)
        have h2 : (p : Int) * ((r.toNat : Nat) : Int) ≤ c * ((r.toNat : Nat) : Int) := Int.mul_le_mul_of_nonneg_right (by omega) (by omega)
        omega
    obtain ⟨cn, hc⟩ : ∃ cn : Nat, c = (cn : Int) := ⟨c.toNat, (Int.toNat_of_nonneg (by omega)).symm⟩
    subst hc
    have far : ∀ y, invN T p r ≤ y → lf T p r (y + u) = lf T p r y + cn := fun y hy => by
      have := all y (by omega)
      rw [hv, hv] at this
      omega
    -- so the rule itself has a lesser turn
    have back : ∀ x, lf T p r (invN T p r) ≤ x → vl T p r (x + cn) = vl T p r x + (u : Int) := fun x hx => by
      have n0 := o.pos x
      have h1 := (lf_le o r0).mp hx
      obtain ⟨v, hvx⟩ : ∃ v : Nat, vl T p r x = (v : Int) := ⟨(vl T p r x).toNat, (Int.toNat_of_nonneg n0).symm⟩
      have a1 : lf T p r v ≤ x := by
        rw [lf_le o r0]
        omega
      have a2 : x < lf T p r (v + 1) := by
        rcases Nat.lt_or_ge x (lf T p r (v + 1)) with q | q
        · exact q
        · rw [ge_iff_le, lf_le o r0] at q
          omega
      have b1 := far v (by omega)
      have b2 := far (v + 1) (by omega)
      have d1 : ((v + u : Nat) : Int) ≤ vl T p r (x + cn) := by
        rw [← lf_le o r0]
        omega
      have d2 : ¬ ((v + 1 + u : Nat) : Int) ≤ vl T p r (x + cn) := by
        rw [← lf_le o r0]
        omega
      omega
    have key : Nat.gcd p cn = p := by
      obtain ⟨g, hg⟩ := gcd_turn (f := vl T p r) (A := max (lf T p r (invN T p r)) (T.length - p)) _ p cn (Nat.le_refl _) p0 (by omega) ⟨r, fun x hx => vl_add p0 p1 (by omega)⟩ ⟨(u : Int), fun x hx => back x (by omega)⟩
      have gl : Nat.gcd p cn ≤ p := Nat.le_of_dvd p0 (Nat.gcd_dvd_left ..)
      have g0 : 0 < Nat.gcd p cn := Nat.gcd_pos_of_pos_left _ p0
      by_cases q : Nat.gcd p cn = p
      · exact q
      · refine absurd (fun i h1 h2 => ?_) (s.turn (Nat.gcd p cn) g g0 (by omega) (Nat.gcd_dvd_left ..))
        have := rep_down o hg (x := i) h1
        rw [vl_lt h2] at this
        exact this
    have := Nat.le_of_dvd (show 0 < cn by omega) (Nat.gcd_dvd_right p cn)
    omega
  · -- no lesser start
    by_cases z : invN T p r = 0
    · left
      omega
    right
    obtain ⟨y, hy⟩ : ∃ y, invN T p r = y + 1 := ⟨invN T p r - 1, by omega⟩
    have yb : (y : Int) = invB T p r := by
      unfold invN at hy
      omega
    have g : (invT T p r).getD y 0 = (lf T p r y : Int) := by
      rw [← vl_lt (p := r.toNat) (r := (p : Int)) (by omega), hv]
    rw [ln, hv, hy, show y + 1 + r.toNat - 1 = y + r.toNat by omega, show y + 1 + r.toNat - r.toNat - 1 = y by omega, g]
    intro e
    have e : lf T p r (y + r.toNat) = lf T p r y + p := by omega
    obtain ⟨a, b⟩ := lf_sp o r0 y
    obtain ⟨c, d⟩ := lf_sp o r0 (y + r.toNat)
    have wrap := o.wrap
    unfold invB at yb
    by_cases q : p < T.length
    · rw [if_pos q] at yb
      have st := s.start
      rcases st with w | w
      · omega
      rw [vl_lt (by omega)] at w
      rcases Int.lt_or_le (T.getD (T.length - 1) 0 - r) (T.getD (T.length - p - 1) 0) with h | h
      · -- the one before
        have l1 : lf T p r y ≤ T.length - p - 1 := by
          rw [lf_le o r0, vl_lt (by omega)]
          omega
        have l2 : T.length ≤ lf T p r (y + r.toNat) := by
          rcases Nat.lt_or_ge (lf T p r (y + r.toNat)) T.length with q2 | q2
          · have := o.le (show lf T p r (y + r.toNat) ≤ T.length - 1 by omega)
            rw [vl_lt (x := T.length - 1) (by omega)] at this
            omega
          · exact q2
        omega
      · -- the one behind
        have l1 : T.length - p ≤ lf T p r y := by
          rcases Nat.lt_or_ge (lf T p r y) (T.length - p) with q2 | q2
          · have := o.le (show lf T p r y ≤ T.length - p - 1 by omega)
            rw [vl_lt (x := T.length - p - 1) (by omega)] at this
            omega
          · exact q2
        have l2 : lf T p r (y + r.toNat) ≤ T.length - 1 := by
          rw [lf_le o r0, vl_lt (by omega)]
          omega
        omega
    · rw [if_neg q] at yb
      have l2 : lf T p r (y + r.toNat) ≤ T.length - 1 := by
        rw [lf_le o r0, vl_lt (by omega)]
        omega
      omega
end
end Sm

set_option linter.all false
set_option maxHeartbeats 4000000
namespace Sm
/-- a shortest tuple is no longer than any other of the same values -/
theorem short_len {T T2 : List Int} {p p2 : Nat} {r r2 : Int} (s : Short T p r) (o2 : RuleOk T2 p2 r2) (h : ∀ x, vl T p r x = vl T2 p2 r2 x) : T.length ≤ T2.length := by
  have o := s.ok
  have p0 := o.p0
  have p1 := o.p1
  have q0 := o2.p0
  have q1 := o2.p1
  have g := short_le s o2 h
  have hd : p ≤ p2 := Nat.le_of_dvd q0 (by
    have := Nat.gcd_dvd_right p p2
    rwa [g] at this)
  rcases Nat.lt_or_ge T2.length T.length with q | q
  · exfalso
    rcases s.start with e | e
    · omega
    · have far : ∀ x, T.length - p ≤ x → vl T2 p2 r2 (x + p) = vl T2 p2 r2 x + r := fun x hx => by
        rw [← h, ← h]
        exact vl_add p0 p1 hx
      by_cases z : p = T.length
      · omega
      · have := rep_down o2 far (x := T.length - p - 1) (by omega)
        rw [← h, ← h, show T.length - p - 1 + p = T.length - 1 by omega, vl_lt (x := T.length - p - 1) (by omega)] at this
        exact e this
  · exact q
section
variable {T T1 T2 Tc : List Int} {p p1 p2 pc : Nat} {r r1 r2 rc : Int}
/-- the inverse's inverse -/
theorem lf_inv (o : RuleOk T p r) (r0 : 0 < r) (x : Nat) : lf (invT T p r) r.toNat (p : Int) x = if x = 0 then 0 else (vl T p r (x - 1) + 1).toNat := by
  obtain ⟨oi, hv⟩ := inv_ok o r0
  have p0 : (0 : Int) < (p : Int) := by have := o.p0; omega
  have key : ∀ y, lf (invT T p r) r.toNat (p : Int) x ≤ y ↔ x ≤ lf T p r y := fun y => by
    rw [lf_le oi p0, hv]
    omega
  split
  · rename_i h
    have := (key 0).mpr (by omega)
    omega
  · rename_i h
    have n := o.pos (x - 1)
    have a : lf (invT T p r) r.toNat (p : Int) x ≤ (vl T p r (x - 1) + 1).toNat := by
      rw [key]
      rcases Nat.lt_or_ge (lf T p r (vl T p r (x - 1) + 1).toNat) x with q | q
      · have : lf T p r (vl T p r (x - 1) + 1).toNat ≤ x - 1 := by omega
        rw [lf_le o r0] at this
        omega
      · exact q
    have b : ¬ lf (invT T p r) r.toNat (p : Int) x ≤ (vl T p r (x - 1)).toNat := by
      rw [key]
      intro q
      have : lf T p r (vl T p r (x - 1)).toNat ≤ x - 1 := by
        rw [lf_le o r0]
        omega
      omega
    omega
/-- the inverse of one rule behind another -/
theorem lf_thn (o1 : RuleOk T1 p1 r1) (o2 : RuleOk T2 p2 r2) (oc : RuleOk Tc pc rc) (r10 : 0 < r1) (r20 : 0 < r2) (rc0 : 0 < rc) (hv : ∀ x, vl Tc pc rc x = thn T1 p1 r1 T2 p2 r2 x) (y : Nat) : lf Tc pc rc y = lf T1 p1 r1 (lf T2 p2 r2 y) := by
  have key : ∀ x, lf Tc pc rc y ≤ x ↔ lf T1 p1 r1 (lf T2 p2 r2 y) ≤ x := fun x => by
    have n := o1.pos x
    rw [lf_le oc rc0, hv, lf_le o1 r10]
    unfold thn
    rw [← lf_le o2 r20]
    omega
  have a := (key _).mp (Nat.le_refl _)
  have b := (key _).mpr (Nat.le_refl _)
  omega
theorem thn_rises (o1 : RuleOk T1 p1 r1) (o2 : RuleOk T2 p2 r2) (oc : RuleOk Tc pc rc) (r10 : 0 < r1) (r20 : 0 < r2) (hv : ∀ x, vl Tc pc rc x = thn T1 p1 r1 T2 p2 r2 x) : 0 < rc := by
  have rc0 := oc.r0
  by_cases z : rc = 0
  · exfalso
    obtain ⟨B, hB⟩ : ∃ B, B = T1.length + T2.length * p1 + Tc.length := ⟨_, rfl⟩
    have reach : ((T2.length - p2 : Nat) : Int) ≤ vl T1 p1 r1 B := by
      have a := vl_addk o1.p0 o1.p1 (r := r1) (x := T1.length) (by omega) T2.length
      have b := o1.le (show T1.length + T2.length * p1 ≤ B by omega)
      have c := o1.pos T1.length
      have d : (T2.length : Int) * 1 ≤ (T2.length : Int) * r1 := Int.mul_le_mul_of_nonneg_left (by omega) (by omega)
      omega
    have t := thn_turn (B := B) (a := p2) (b := r1.toNat) o1 o2 (by omega) (by rw [Int.toNat_of_nonneg (by omega), Int.mul_comm]) (.inr reach) B (Nat.le_refl _)
    have u := vl_addk oc.p0 oc.p1 (r := rc) (x := B) (by omega) (p2 * p1)
    have m : B + p2 * p1 ≤ B + p2 * p1 * pc := by
      have := Nat.le_mul_of_pos_right (p2 * p1) oc.p0
      omega
    have w := oc.le m
    rw [u, hv, hv, t] at w
    rw [z, Int.mul_zero, Int.add_zero] at w
    have : 0 < ((r1.toNat : Nat) : Int) * r2 := Int.mul_pos (by omega) r20
    omega
  · omega
/-- the rule behind its inverse, the inverse behind the rule -/
theorem over_ge (o : RuleOk T p r) (r0 : 0 < r) (y : Nat) : (y : Int) ≤ thn (invT T p r) r.toNat (p : Int) T p r y := by
  unfold thn
  rw [(inv_ok o r0).2, Int.toNat_natCast]
  exact (lf_sp o r0 y).1
theorem under_le (o : RuleOk T p r) (r0 : 0 < r) (x : Nat) : thn T p r (invT T p r) r.toNat (p : Int) x ≤ (x : Int) := by
  unfold thn
  rw [(inv_ok o r0).2]
  have n := o.pos x
  have : lf T p r (vl T p r x).toNat ≤ x := by
    rw [lf_le o r0]
    omega
  omega
theorem plain_vl (x : Nat) : vl [0] 1 1 x = (x : Int) := by
  unfold vl
  split
  · rename_i h
    simp at h
    rw [h]
    rfl
  · rename_i h
    simp at h
    rw [Nat.div_one, Nat.mul_one, List.length_singleton, show x - (x - 1 + 1) = 0 by omega, show x - 1 + 1 = x by omega, Int.mul_one]
    simp
theorem plain_short : Short [0] 1 1 := by
  refine ⟨⟨by decide, by decide, by decide, fun i hi => ?_, fun i hi => ?_, by decide⟩, fun s c h1 h2 => by omega, .inl rfl⟩
  · have hi : i < 1 := hi
    rw [show i = 0 by omega]
    decide
  · have hi : i + 1 < 1 := hi
    omega
/-- how long the tables are -/
theorem inv_over (s : Short Tc pc rc) (o : RuleOk T p r) (r0 : 0 < r) (hv : ∀ x, vl Tc pc rc x = thn (invT T p r) r.toNat (p : Int) T p r x) : Tc.length ≤ invN T p r + r.toNat := by
  obtain ⟨oi, hi⟩ := inv_ok o r0
  have bl := invB_lo o
  have t := thn_turn (B := invN T p r) (a := 1) (b := 1) oi o (by rw [invT_len]; omega) (by omega) (.inr (by
    rw [hi]
    have := inv_begin o (x := lf T p r (invN T p r)) (by have := (lf_sp o r0 (invN T p r)).1; unfold invN at *; omega)
    omega))
  have t : ∀ x, invN T p r ≤ x → thn (invT T p r) r.toNat (p : Int) T p r (x + r.toNat) = thn (invT T p r) r.toNat (p : Int) T p r x + r := fun x hx => by
    have := t x hx
    rw [Nat.one_mul] at this
    rw [this]
    omega
  have ok := tab_ok (f := thn (invT T p r) r.toNat (p : Int) T p r) (B := invN T p r) (t := r.toNat) (R := r) (by omega) (by omega) t (thn_pos o) (thn_up oi o)
  have := short_len s ok fun x => by rw [hv, tab_vl (f := thn (invT T p r) r.toNat (p : Int) T p r) (by omega) t]
  rwa [tab_len] at this
theorem inv_under (s : Short Tc pc rc) (o : RuleOk T p r) (r0 : 0 < r) (hv : ∀ x, vl Tc pc rc x = thn T p r (invT T p r) r.toNat (p : Int) x) : Tc.length ≤ T.length + p := by
  obtain ⟨oi, hi⟩ := inv_ok o r0
  have p0 := o.p0
  have p1 := o.p1
  have t := thn_turn (B := T.length) (a := 1) (b := 1) o oi (by omega) (by omega) (.inr (by
    rw [invT_len]
    have a := vl_add p0 p1 (r := r) (x := T.length - p) (Nat.le_refl _)
    rw [show T.length - p + p = T.length by omega] at a
    have a2 : vl T p r (T.length - p) = T.getD (T.length - p) 0 := vl_lt (by omega)
    have wrap := o.wrap
    have : invB T p r < vl T p r T.length := by
      unfold invB
      split
      · have := o.row (show T.length - p - 1 ≤ T.length - p by omega) (by omega)
        omega
      · have := o.pos T.length
        have g := o.nn (T.length - p) (by omega)
        omega
    have nn := o.pos T.length
    unfold invN
    omega))
  have t : ∀ x, T.length ≤ x → thn T p r (invT T p r) r.toNat (p : Int) (x + p) = thn T p r (invT T p r) r.toNat (p : Int) x + (p : Int) := fun x hx => by
    have := t x hx
    rw [Nat.one_mul] at this
    rw [this]
    omega
  have ok := tab_ok (f := thn T p r (invT T p r) r.toNat (p : Int)) (B := T.length) (t := p) (R := (p : Int)) p0 (by omega) t (thn_pos oi) (thn_up o oi)
  have := short_len s ok fun x => by rw [hv, tab_vl (f := thn T p r (invT T p r) r.toNat (p : Int)) p0 t]
  rwa [tab_len] at this
theorem thn_len (s : Short Tc pc rc) (o1 : RuleOk T1 p1 r1) (o2 : RuleOk T2 p2 r2) (r10 : 0 < r1) (hv : ∀ x, vl Tc pc rc x = thn T1 p1 r1 T2 p2 r2 x) : Tc.length ≤ T1.length + T2.length * p1 + p2 * p1 := by
  have reach : ((T2.length - p2 : Nat) : Int) ≤ vl T1 p1 r1 (T1.length + T2.length * p1) := by
    have a := vl_addk o1.p0 o1.p1 (r := r1) (x := T1.length) (by omega) T2.length
    have c := o1.pos T1.length
    have d : (T2.length : Int) * 1 ≤ (T2.length : Int) * r1 := Int.mul_le_mul_of_nonneg_left (by omega) (by omega)
    omega
  have t := thn_turn (B := T1.length + T2.length * p1) (a := p2) (b := r1.toNat) o1 o2 (by omega) (by rw [Int.toNat_of_nonneg (by omega), Int.mul_comm]) (.inr reach)
  have t0 : 0 < p2 * p1 := Nat.mul_pos o2.p0 o1.p0
  have R0 : 0 ≤ ((r1.toNat : Nat) : Int) * r2 := Int.mul_nonneg (by omega) o2.r0
  have ok := tab_ok (f := thn T1 p1 r1 T2 p2 r2) t0 R0 t (thn_pos o2) (thn_up o1 o2)
  have := short_len s ok fun x => by rw [hv, tab_vl (f := thn T1 p1 r1 T2 p2 r2) t0 t]
  rwa [tab_len] at this
theorem lf_small (o : RuleOk T p r) (r0 : 0 < r) (y : Nat) : lf T p r y ≤ T.length + y * p := by
  rw [lf_le o r0]
  have a := vl_addk o.p0 o.p1 (r := r) (x := T.length) (by omega) y
  have c := o.pos T.length
  have d : (y : Int) * 1 ≤ (y : Int) * r := Int.mul_le_mul_of_nonneg_left (by omega) (by omega)
  rw [a]
  omega
end
end Sm

set_option linter.all false
set_option maxHeartbeats 4000000
namespace Sm
/-! the best parting of an amount between two rules -/
def IsC (f g : Nat → Int) (n x : Nat) (v : Int) : Prop := (∃ a, a < n ∧ a ≤ x ∧ v = f a + g (x - a)) ∧ ∀ a, a < n → a ≤ x → f a + g (x - a) ≤ v
theorem IsC.one {f g : Nat → Int} {n x : Nat} {v w : Int} (h : IsC f g n x v) (k : IsC f g n x w) : v = w := by
  obtain ⟨⟨a, a1, a2, a3⟩, h2⟩ := h
  obtain ⟨⟨b, b1, b2, b3⟩, k2⟩ := k
  have := h2 b b1 b2
  have := k2 a a1 a2
  omega
theorem IsC.swap {f g : Nat → Int} {x : Nat} {v : Int} (h : IsC f g (x + 1) x v) : IsC g f (x + 1) x v := by
  obtain ⟨⟨a, a1, a2, a3⟩, h2⟩ := h
  refine ⟨⟨x - a, by omega, by omega, ?_⟩, fun b b1 b2 => ?_⟩
  · rw [show x - (x - a) = a by omega]
    omega
  · have := h2 (x - b) (by omega) (by omega)
    rw [show x - (x - b) = b by omega] at this
    omega
def cm (f g : Nat → Int) (x : Nat) : Nat → Int
  | 0 => f 0 + g x
  | k + 1 => if k + 1 ≤ x then max (cm f g x k) (f (k + 1) + g (x - (k + 1))) else cm f g x k
theorem cm_is (f g : Nat → Int) (x : Nat) : ∀ k, IsC f g (k + 1) x (cm f g x k)
  | 0 => ⟨⟨0, by omega, by omega, rfl⟩, fun a h1 h2 => by
      rw [show a = 0 by omega]
      exact Int.le_refl _⟩
  | k + 1 => by
    obtain ⟨⟨a, a1, a2, a3⟩, h2⟩ := cm_is f g x k
    unfold cm
    split
    · rename_i hk
      constructor
      · by_cases q : cm f g x k ≤ f (k + 1) + g (x - (k + 1))
        · exact ⟨k + 1, by omega, hk, by omega⟩
        · exact ⟨a, by omega, a2, by omega⟩
      · intro b b1 b2
        by_cases e : b = k + 1
        · subst e
          omega
        · have := h2 b (by omega) b2
          omega
    · rename_i hk
      refine ⟨⟨a, by omega, a2, a3⟩, fun b b1 b2 => h2 b (by omega) b2⟩
/-- what rises by r each p places from b on -/
structure Pd (f : Nat → Int) (b p : Nat) (r : Int) : Prop where
  p0 : 0 < p
  r0 : 0 ≤ r
  up : ∀ x, f x ≤ f (x + 1)
  nn : ∀ x, 0 ≤ f x
  turn : ∀ x, b ≤ x → f (x + p) = f x + r
theorem RuleOk.pd {T : List Int} {p : Nat} {r : Int} (o : RuleOk T p r) : Pd (vl T p r) (T.length - p) p r := ⟨o.p0, o.r0, o.up, o.pos, fun _ h => vl_add o.p0 o.p1 h⟩
section
variable {f g : Nat → Int} {b p c q : Nat} {r t : Int}
theorem Pd.le (h : Pd f b p r) : ∀ {x y}, x ≤ y → f x ≤ f y := by
  intro x y e
  obtain ⟨k, rfl⟩ := Nat.le.dest e
  clear e
  induction k with
  | zero => exact Int.le_refl _
  | succ k ih => exact Int.le_trans ih (h.up (x + k))
theorem Pd.turnk (h : Pd f b p r) {x : Nat} (hx : b ≤ x) : ∀ k, f (x + k * p) = f x + (k : Int) * r
  | 0 => by simp
  | k + 1 => by
    rw [Nat.succ_mul, ← Nat.add_assoc, h.turn _ (by omega), h.turnk hx k]
    rw [show ((k + 1 : Nat) : Int) = (k : Int) + 1 from rfl, Int.add_mul, Int.one_mul]
    omega
theorem cm_up (hg : Pd g c q t) (x k : Nat) : cm f g x k ≤ cm f g (x + 1) k := by
  obtain ⟨⟨a, a1, a2, a3⟩, _⟩ := cm_is f g x k
  have := (cm_is f g (x + 1) k).2 a a1 (by omega)
  have u := hg.le (show x - a ≤ x + 1 - a by omega)
  omega
theorem cm_pos (hf : ∀ x, 0 ≤ f x) (hg : ∀ x, 0 ≤ g x) (x k : Nat) : 0 ≤ cm f g x k := by
  have := (cm_is f g x k).2 0 (by omega) (by omega)
  have := hf 0
  have := hg (x - 0)
  omega
theorem cm_turn (hg : Pd g c q t) {x k : Nat} (hx : k + c ≤ x) : cm f g (x + q) k = cm f g x k + t := by
  obtain ⟨⟨a, a1, a2, a3⟩, h⟩ := cm_is f g x k
  obtain ⟨⟨d, d1, d2, d3⟩, e⟩ := cm_is f g (x + q) k
  have h1 := h d d1 (by omega)
  have h2 := e a a1 (by omega)
  rw [show x + q - a = x - a + q by omega, hg.turn _ (by omega)] at h2
  rw [show x + q - d = x - d + q by omega, hg.turn _ (by omega)] at d3
  omega
theorem cm_pd (hf : Pd f b p r) (hg : Pd g c q t) (k : Nat) : Pd (fun x => cm f g x k) (k + c) q t := ⟨hg.p0, hg.r0, fun x => cm_up hg x k, fun x => cm_pos hf.nn hg.nn x k, fun _ hx => cm_turn hg hx⟩
end
section
variable {f s : Nat → Int} {bf pf bs ps : Nat} {rf rs : Int}
/-- the common turn: its rises -/
theorem turns {L : Nat} (hf : Pd f bf pf rf) (hs : Pd s bs ps rs) (h1 : pf ∣ L) (h2 : ps ∣ L) (sl : rf * (ps : Int) ≤ rs * (pf : Int)) : ∃ F S : Int, F ≤ S ∧ (∀ x, bf ≤ x → f (x + L) = f x + F) ∧ ∀ x, bs ≤ x → s (x + L) = s x + S := by
  obtain ⟨kf, e1⟩ := h1
  obtain ⟨ks, e2⟩ := h2
  refine ⟨(kf : Int) * rf, (ks : Int) * rs, ?_, fun x hx => ?_, fun x hx => ?_⟩
  · have p0 := hs.p0
    have a : (kf : Int) * rf * (ps : Int) ≤ (ks : Int) * rs * (ps : Int) := by
      have h : (kf : Int) * (rf * (ps : Int)) ≤ (kf : Int) * (rs * (pf : Int)) := Int.mul_le_mul_of_nonneg_left sl (by omega)
      have e : (kf : Int) * (rs * (pf : Int)) = (ks : Int) * rs * (ps : Int) := by
        have e3 : (kf : Int) * (pf : Int) = (ks : Int) * (ps : Int) := by
          have : kf * pf = ks * ps := by rw [Nat.mul_comm, ← e1, e2, Nat.mul_comm]
          exact_mod_cast this
        rw [Int.mul_left_comm, e3, Int.mul_left_comm, Int.mul_assoc]
      rw [Int.mul_assoc, ← e]
      exact h
    exact Int.le_of_mul_le_mul_right a (by omega)
  · rw [e1, Nat.mul_comm]
    exact hf.turnk hx kf
  · rw [e2, Nat.mul_comm]
    exact hs.turnk hx ks
/-- the flat part, where the steep one is in its turns -/
theorem flat_part {L : Nat} (L0 : 0 < L) {F S : Int} (FS : F ≤ S) (hf : ∀ x, bf ≤ x → f (x + L) = f x + F) (hs : ∀ x, bs ≤ x → s (x + L) = s x + S) (x : Nat) : ∀ a, a ≤ x → bs ≤ x - a → f a + s (x - a) ≤ cm f s x (bf + L - 1) := by
  intro a
  induction a using Nat.strongRecOn with
  | _ a ih =>
    intro ha hb
    by_cases q : a < bf + L
    · exact (cm_is f s x (bf + L - 1)).2 a (by omega) ha
    · have := ih (a - L) (by omega) (by omega) (by omega)
      have e1 := hf (a - L) (by omega)
      have e2 := hs (x - a) hb
      rw [show a - L + L = a by omega] at e1
      rw [show x - a + L = x - (a - L) by omega] at e2
      omega
theorem split_all {L : Nat} (L0 : 0 < L) {F S : Int} (FS : F ≤ S) (hf : ∀ x, bf ≤ x → f (x + L) = f x + F) (hs : ∀ x, bs ≤ x → s (x + L) = s x + S) (z : bs = 0) (x : Nat) : IsC f s (x + 1) x (cm f s x (bf + L - 1)) := by
  obtain ⟨⟨a, a1, a2, a3⟩, _⟩ := cm_is f s x (bf + L - 1)
  exact ⟨⟨a, by omega, a2, a3⟩, fun b _ b2 => flat_part L0 FS hf hs x b b2 (by omega)⟩
theorem split_both {L : Nat} (L0 : 0 < L) {F S : Int} (FS : F ≤ S) (hf : ∀ x, bf ≤ x → f (x + L) = f x + F) (hs : ∀ x, bs ≤ x → s (x + L) = s x + S) (z : 0 < bs) (x : Nat) : IsC f s (x + 1) x (max (cm s f x (bs - 1)) (cm f s x (bf + L - 1))) := by
  obtain ⟨⟨a, a1, a2, a3⟩, _⟩ := cm_is f s x (bf + L - 1)
  obtain ⟨⟨c, c1, c2, c3⟩, h⟩ := cm_is s f x (bs - 1)
  constructor
  · by_cases q : cm s f x (bs - 1) ≤ cm f s x (bf + L - 1)
    · exact ⟨a, by omega, a2, by omega⟩
    · exact ⟨x - c, by omega, by omega, by rw [show x - (x - c) = c by omega]; omega⟩
  · intro b _ b2
    by_cases q : bs ≤ x - b
    · have := flat_part L0 FS hf hs x b b2 q
      omega
    · have := h (x - b) (by omega) (by omega)
      rw [show x - (x - b) = b by omega] at this
      omega
/-- far off the steep one is in its turns -/
theorem split_far {L : Nat} (hf : Pd f bf pf rf) (hs : Pd s bs ps rs) (L0 : 0 < L) (h1 : pf ∣ L) (h2 : ps ∣ L) (sl : rf * (ps : Int) < rs * (pf : Int)) (z : 0 < bs) {S X : Nat} (hS : (S : Int) = rs * (pf : Int)) (hX : bs + bf + (bs + ps * pf) * S ≤ X) : cm s f X (bs - 1) ≤ cm f s X (bf + L - 1) := by
  obtain ⟨F', S', FS, tf, ts⟩ := turns hf hs h1 h2 (by omega)
  obtain ⟨⟨a, a1, a2, a3⟩, _⟩ := cm_is s f X (bs - 1)
  have pp : 0 < ps * pf := Nat.mul_pos hs.p0 hf.p0
  obtain ⟨P, hP⟩ : ∃ P, P = ps * pf := ⟨_, rfl⟩
  rw [← hP] at pp hX
  obtain ⟨m, hm⟩ : ∃ m, m = (bs - 1) / P + 1 := ⟨_, rfl⟩
  have m1 : bs ≤ m * P := by
    have := Nat.div_add_mod (bs - 1) P
    have := Nat.mod_lt (bs - 1) pp
    rw [hm, Nat.add_mul, Nat.one_mul, Nat.mul_comm]
    omega
  have m2 : m * P ≤ bs + P := by
    have := Nat.div_mul_le_self (bs - 1) P
    rw [hm, Nat.add_mul, Nat.one_mul]
    omega
  have S0 : 0 < S := by
    have r0 := hf.r0
    have : 0 ≤ rf * (ps : Int) := Int.mul_nonneg r0 (by omega)
    omega
  have km : m ≤ m * S := Nat.le_mul_of_pos_right m S0
  have kP : m * S * P ≤ (bs + P) * S := by
    rw [Nat.mul_right_comm]
    exact Nat.mul_le_mul_right S m2
  have kP2 : m * P ≤ m * S * P := Nat.mul_le_mul_right P km
  -- the flat part's fall
  have e1 : f (X - a - m * S * P + m * S * P) = f (X - a - m * S * P) + ((m * S * ps : Nat) : Int) * rf := by
    have := hf.turnk (x := X - a - m * S * P) (by omega) (m * S * ps)
    rw [Nat.mul_assoc (m * S) ps pf, ← hP] at this
    exact this
  -- the steep part's rise
  have e2 : s (a + m * P + (m * S - m) * P) = s (a + m * P) + (((m * S - m) * pf : Nat) : Int) * rs := by
    have := hs.turnk (x := a + m * P) (by omega) ((m * S - m) * pf)
    rw [Nat.mul_assoc (m * S - m) pf ps, Nat.mul_comm pf ps, ← hP] at this
    exact this
  have e3 : a + m * P + (m * S - m) * P = X - (X - a - m * S * P) := by
    rw [Nat.sub_mul]
    omega
  have e4 := hs.le (show a ≤ a + m * P by omega)
  have e5 := flat_part L0 FS tf ts X (X - a - m * S * P) (by omega) (by omega)
  rw [e3] at e2
  rw [show X - a - m * S * P + m * S * P = X - a by omega] at e1
  -- k (S - F) ≥ m S
  have e6 : ((m * S * ps : Nat) : Int) * rf ≤ (((m * S - m) * pf : Nat) : Int) * rs := by
    have i1 : ((m * S * ps : Nat) : Int) * rf = (m : Int) * (S : Int) * (rf * (ps : Int)) := by
      rw [Int.natCast_mul, Int.natCast_mul, Int.mul_assoc, Int.mul_comm (ps : Int) rf]
    have i2 : (((m * S - m) * pf : Nat) : Int) * rs = ((m : Int) * (S : Int) - (m : Int)) * (S : Int) := by
      rw [Int.natCast_mul, Int.natCast_sub km, Int.natCast_mul, Int.mul_assoc, Int.mul_comm (pf : Int) rs, ← hS]
    rw [i1, i2, Int.sub_mul]
    have i3 : (m : Int) * (S : Int) * (rf * (ps : Int)) ≤ (m : Int) * (S : Int) * ((S : Int) - 1) := Int.mul_le_mul_of_nonneg_left (by omega) (Int.mul_nonneg (by omega) (by omega))
    rw [Int.mul_sub, Int.mul_one] at i3
    exact i3
  omega
/-- the rule of the best partings, and how long it is -/
theorem split_is {L : Nat} (hf : Pd f bf pf rf) (hs : Pd s bs ps rs) (L0 : 0 < L) (h1 : pf ∣ L) (h2 : ps ∣ L) (sl : rf * (ps : Int) ≤ rs * (pf : Int)) (z : 0 < bs) : ∃ T p r, Short T p r ∧ (∀ x, vl T p r x = max (cm s f x (bs - 1)) (cm f s x (bf + L - 1))) ∧ T.length ≤ 2 * bs + 2 * bf + L + ps * pf + ps + (bs + ps * pf) * (rs * (pf : Int)).toNat := by
  have m1 : Pd (fun x => cm f s x (bf + L - 1)) (bf + L - 1 + bs) ps rs := cm_pd hf hs (bf + L - 1)
  have m2 : Pd (fun x => cm s f x (bs - 1)) (bs - 1 + bf) pf rf := cm_pd hs hf (bs - 1)
  have up : ∀ x, max (cm s f x (bs - 1)) (cm f s x (bf + L - 1)) ≤ max (cm s f (x + 1) (bs - 1)) (cm f s (x + 1) (bf + L - 1)) := fun x => by
    have := m1.up x
    have := m2.up x
    omega
  have nn : ∀ x, 0 ≤ max (cm s f x (bs - 1)) (cm f s x (bf + L - 1)) := fun x => by
    have := m1.nn x
    omega
  have fin : ∀ (B t : Nat) (R : Int), 0 < t → 0 ≤ R → (∀ x, B ≤ x → max (cm s f (x + t) (bs - 1)) (cm f s (x + t) (bf + L - 1)) = max (cm s f x (bs - 1)) (cm f s x (bf + L - 1)) + R) → ∃ T p r, Short T p r ∧ (∀ x, vl T p r x = max (cm s f x (bs - 1)) (cm f s x (bf + L - 1))) ∧ T.length ≤ B + t := fun B t R t0 R0 turn => by
    have o := tab_ok (f := fun x => max (cm s f x (bs - 1)) (cm f s x (bf + L - 1))) t0 R0 turn nn up
    obtain ⟨T, p, r, sh, e⟩ := short_is o
    have l := short_len sh o e
    rw [tab_len] at l
    exact ⟨T, p, r, sh, fun x => by rw [e, tab_vl (f := fun x => max (cm s f x (bs - 1)) (cm f s x (bf + L - 1))) t0 turn], l⟩
  by_cases q : rf * (ps : Int) < rs * (pf : Int)
  · have S0 : 0 ≤ rf * (ps : Int) := Int.mul_nonneg hf.r0 (by omega)
    obtain ⟨X, hX⟩ : ∃ X, X = bs + bf + (bs + ps * pf) * (rs * (pf : Int)).toNat := ⟨_, rfl⟩
    obtain ⟨T, p, r, sh, e, l⟩ := fin (X + (bf + L - 1 + bs)) ps rs hs.p0 hs.r0 fun x hx => by
      have a := split_far hf hs L0 h1 h2 q z (S := (rs * (pf : Int)).toNat) (X := x) (by omega) (by omega)
      have b := split_far hf hs L0 h1 h2 q z (S := (rs * (pf : Int)).toNat) (X := x + ps) (by omega) (by omega)
      have c := m1.turn x (by omega)
      omega
    exact ⟨T, p, r, sh, e, by omega⟩
  · have e0 : rf * (ps : Int) = rs * (pf : Int) := by omega
    obtain ⟨T, p, r, sh, e, l⟩ := fin (bf + L - 1 + bs + (bs - 1 + bf)) (ps * pf) (rs * (pf : Int)) (Nat.mul_pos hs.p0 hf.p0) (Int.mul_nonneg hs.r0 (by omega)) fun x hx => by
      have a := m1.turnk (x := x) (by omega) pf
      have b := m2.turnk (x := x) (by omega) ps
      rw [Nat.mul_comm, Int.mul_comm] at a
      rw [Int.mul_comm, e0] at b
      omega
    exact ⟨T, p, r, sh, e, by omega⟩
end
/-- slopes of rules of the same values -/
theorem slope_eq {T T' : List Int} {p p' : Nat} {r r' : Int} (o : RuleOk T p r) (o' : RuleOk T' p' r') (hv : ∀ x, vl T' p' r' x = vl T p r x) : r' * (p : Int) = r * (p' : Int) := by
  have e1 := vl_addk o'.p0 o'.p1 (r := r') (x := T.length + T'.length) (by omega) p
  have e2 := vl_addk o.p0 o.p1 (r := r) (x := T.length + T'.length) (by omega) p'
  rw [hv, hv, Nat.mul_comm, e2] at e1
  rw [Int.mul_comm, Int.mul_comm r]
  omega
theorem slope_le {p p' : Nat} {r r' C : Int} (p0 : 0 < p) (e : r' * (p : Int) = r * (p' : Int)) (h : r ≤ C * (p : Int)) : r' ≤ C * (p' : Int) := by
  have a : r * (p' : Int) ≤ C * (p : Int) * (p' : Int) := Int.mul_le_mul_of_nonneg_right h (by omega)
  rw [← e, Int.mul_right_comm] at a
  exact Int.le_of_mul_le_mul_right a (by omega)
/-- a shortest tuple's turns begin no later -/
theorem begin_le {T T' : List Int} {p p' : Nat} {r r' : Int} (s : Short T' p' r') (o : RuleOk T p r) (hv : ∀ x, vl T' p' r' x = vl T p r x) : T'.length - p' ≤ T.length - p := by
  have o' := s.ok
  rcases Nat.lt_or_ge (T.length - p) (T'.length - p') with q | q
  · exfalso
    rcases s.start with e | e
    · omega
    · have p0 := o'.p0
      have p1 := o'.p1
      have far : ∀ x, T'.length - p' ≤ x → vl T p r (x + p') = vl T p r x + r' := fun x hx => by
        rw [← hv, ← hv]
        exact vl_add p0 p1 hx
      have := rep_down o far (x := T'.length - p' - 1) (by omega)
      rw [← hv, ← hv, show T'.length - p' - 1 + p' = T'.length - 1 by omega, vl_lt (x := T'.length - p' - 1) (by omega)] at this
      exact e this
  · exact q
end Sm

set_option linter.all false
set_option maxHeartbeats 4000000
namespace Sm
/-! ### the law's own search for the shortest table -/
def tabF (T : List Int) (p : Nat) (r : Int) (few : Nat) : List Int := (List.range few).map (vl T p r)
def riseF (T : List Int) (p : Nat) (r : Int) (few per : Nat) : Int := vl T p r few - vl T p r (few - per)
def Fits (T : List Int) (p : Nat) (r : Int) (few per : Nat) : Prop := ∀ x, vl (tabF T p r few) per (riseF T p r few per) x = vl T p r x
theorem tabF_len (T : List Int) (p : Nat) (r : Int) (few : Nat) : (tabF T p r few).length = few := by unfold tabF; rw [List.length_map, List.length_range]
theorem tabF_get {T : List Int} {p : Nat} {r : Int} {few i : Nat} (h : i < few) : (tabF T p r few).getD i 0 = vl T p r i := by
  unfold tabF
  rw [List.getD_eq_getElem?_getD, List.getElem?_map, List.getElem?_range h]
  rfl
theorem tabF_w {T : List Int} {p : Nat} {r : Int} {few per : Nat} (o : RuleOk T p r) (h0 : 0 < per) (h1 : per ≤ few) : RuleW (tabF T p r few) per (riseF T p r few per) :=
  ⟨h0, by rw [tabF_len]; exact h1, by have := o.le (show few - per ≤ few by omega); unfold riseF; omega⟩
/-- it is enough to look at some amounts -/
theorem fits_of {T : List Int} {p : Nat} {r : Int} {few per : Nat} (o : RuleOk T p r) (h0 : 0 < per) (h1 : per ≤ few) (h : ∀ i, i < 2 * T.length + 2 * p * per → vl (tabF T p r few) per (riseF T p r few per) (few + i) = vl T p r (few + i)) : Fits T p r few per := by
  have w := tabF_w o h0 h1
  have p0 := o.p0
  have p1 := o.p1
  have near : ∀ x, x < few + (2 * T.length + 2 * p * per) → gp (tabF T p r few) per (riseF T p r few per) T p r x = 0 := fun x hx => by
    unfold gp
    rcases Nat.lt_or_ge x few with q | q
    · rw [vl_lt (by rw [tabF_len]; exact q), tabF_get q]
      omega
    · have := h (x - few) (by omega)
      rw [show few + (x - few) = x by omega] at this
      omega
  obtain ⟨B, hB⟩ : ∃ B, B = few + T.length := ⟨_, rfl⟩
  have e : p * per = per * p := Nat.mul_comm _ _
  have tt : 0 < p * per := Nat.mul_pos p0 h0
  have turn : ∀ x, B ≤ x → gp (tabF T p r few) per (riseF T p r few per) T p r (x + p * per) = gp (tabF T p r few) per (riseF T p r few per) T p r x + ((p : Int) * riseF T p r few per - (per : Int) * r) := fun x hx => gp_turn w o.w (by rw [tabF_len]; omega) (by omega) e hx
  have z : (p : Int) * riseF T p r few per - (per : Int) * r = 0 := by
    have a := turn B (Nat.le_refl _)
    have e2 : 2 * p * per = 2 * (p * per) := Nat.mul_assoc ..
    rw [near B (by omega), near (B + p * per) (by omega)] at a
    omega
  intro x
  have key : gp (tabF T p r few) per (riseF T p r few per) T p r x = 0 := by
    rcases Nat.lt_or_ge x B with q | q
    · exact near x (by omega)
    · obtain ⟨y, k, y1, y2, rfl⟩ := split_turn tt q
      rw [gp_turns turn y1 k, z, Int.mul_zero]
      have e2 : 2 * p * per = 2 * (p * per) := Nat.mul_assoc ..
      rw [near y (by omega)]
      rfl
  unfold gp at key
  omega
/-- what a shortest tuple tells -/
theorem short_rep {S T : List Int} {p q : Nat} {r t : Int} (s : Short S q t) (o : RuleOk T p r) (h : ∀ x, vl S q t x = vl T p r x) : S.length ≤ T.length ∧ (S.length = T.length → T = S ∧ p = q ∧ r = t) := by
  have so := s.ok
  have g := short_le s o h
  have d : q ∣ p := by rw [← g]; exact Nat.gcd_dvd_right ..
  have qp : q ≤ p := Nat.le_of_dvd o.p0 d
  have b := begin_le s o h
  have p1 := o.p1
  have q1 := so.p1
  refine ⟨by omega, fun e => ?_⟩
  obtain rfl : p = q := by omega
  have e1 := vl_add so.p0 so.p1 (r := t) (x := S.length) (by omega)
  have e2 := vl_add o.p0 o.p1 (r := r) (x := S.length) (by omega)
  rw [h, h] at e1
  refine ⟨List.ext_getElem e.symm fun i h1 h2 => ?_, rfl, by omega⟩
  have q := h i
  rw [vl_lt h2, vl_lt h1, List.getD_eq_getElem?_getD, List.getD_eq_getElem?_getD, List.getElem?_eq_getElem h1, List.getElem?_eq_getElem h2] at q
  exact q.symm
/-- a tuple that tells the same is found by its own length and period -/
theorem fits_self {S T : List Int} {p q : Nat} {r t : Int} (so : RuleOk S q t) (h : ∀ x, vl S q t x = vl T p r x) : tabF T p r S.length = S ∧ riseF T p r S.length q = t := by
  constructor
  · refine List.ext_getElem (tabF_len ..) fun i h1 h2 => ?_
    have e := tabF_get (T := T) (p := p) (r := r) (few := S.length) (i := i) h2
    rw [List.getD_eq_getElem?_getD, List.getElem?_eq_getElem h1] at e
    have e3 := vl_lt (p := q) (r := t) h2
    rw [List.getD_eq_getElem?_getD, List.getElem?_eq_getElem h2] at e3
    have e : (tabF T p r S.length)[i] = vl T p r i := e
    have e3 : vl S q t i = S[i] := e3
    rw [e, ← h, e3]
  · unfold riseF
    have p1 := so.p1
    have e := vl_add so.p0 so.p1 (r := t) (x := S.length - q) (Nat.le_refl _)
    rw [show S.length - q + q = S.length by omega, h, h] at e
    omega
theorem found_short {T : List Int} {p : Nat} {r : Int} {few per : Nat} (o : RuleOk T p r) (h0 : 0 < per) (h1 : per ≤ few) (f : Fits T p r few per) (no : ∀ a b, a < few → 0 < b → b ≤ a → ¬ Fits T p r a b) : Short (tabF T p r few) per (riseF T p r few per) := by
  obtain ⟨S, q, t, s, hs⟩ := short_is o
  have so := s.ok
  obtain ⟨e1, e2⟩ := fits_self so hs
  have fs : Fits T p r S.length q := fun x => by rw [e1, e2]; exact hs x
  have le : few ≤ S.length := by
    rcases Nat.lt_or_ge S.length few with c | c
    · exact absurd fs (no _ _ c so.p0 so.p1)
    · exact c
  have ok : RuleOk (tabF T p r few) per (riseF T p r few per) := by
    have w := tabF_w o h0 h1
    refine W_ok w (fun i hi => ?_) fun x hx => ?_
    · rw [tabF_len] at hi
      rw [tabF_get hi]
      exact o.pos i
    · rw [tabF_len] at hx
      rw [tabF_get hx, f]
      exact o.up x
  obtain ⟨a, b⟩ := short_rep s ok fun x => by rw [hs, f]
  rw [tabF_len] at a b
  obtain ⟨b1, b2, b3⟩ := b (by omega)
  rw [b3, b1, b2]
  exact s
theorem found_some {T : List Int} {p : Nat} {r : Int} (o : RuleOk T p r) : ∃ few per, 0 < per ∧ per ≤ few ∧ few ≤ T.length ∧ Fits T p r few per := by
  obtain ⟨S, q, t, s, hs⟩ := short_is o
  have so := s.ok
  obtain ⟨e1, e2⟩ := fits_self so hs
  exact ⟨S.length, q, so.p0, so.p1, (short_rep s o hs).1, fun x => by rw [e1, e2]; exact hs x⟩
/-- how often the period fits in -/
def qt (T : List Int) (p x : Nat) : Nat := if x < T.length then 0 else (x - T.length) / p + 1
theorem qt_ok {T : List Int} {p : Nat} {r : Int} (x : Nat) (p0 : 0 < p) (p1 : p ≤ T.length) : qt T p x * p ≤ x ∧ x - qt T p x * p < T.length ∧ vl T p r x = T.getD (x - qt T p x * p) 0 + ((qt T p x : Nat) : Int) * r := by
  unfold qt
  by_cases c : x < T.length
  · rw [if_pos c, Nat.zero_mul, Nat.sub_zero]
    refine ⟨Nat.zero_le _, c, ?_⟩
    rw [vl_lt c]
    simp
  · rw [if_neg c]
    obtain ⟨a1, a2, a3⟩ := place p0 p1 (Nat.le_of_not_lt c)
    exact ⟨a1, a3, if_neg c⟩
theorem qt_int {T : List Int} {p x : Nat} (p0 : 0 < p) : (if ((x : Int) - (T.length : Int)) / (p : Int) + 1 > 0 then ((x : Int) - (T.length : Int)) / (p : Int) + 1 else 0) = ((qt T p x : Nat) : Int) := by
  unfold qt
  by_cases c : x < T.length
  · rw [if_pos c]
    have h : ((x : Int) - (T.length : Int)) / (p : Int) < 0 := Int.ediv_neg_of_neg_of_pos (by omega) (by omega)
    rw [if_neg (by omega)]
    rfl
  · rw [if_neg c, div_cast (Nat.le_of_not_lt c), if_pos (show ((((x - T.length) / p + 1 : Nat) : Int)) > 0 from Int.natCast_pos.mpr (Nat.succ_pos _))]
end Sm

set_option Elab.async false
set_option linter.all false
set_option maxRecDepth 100000
set_option maxHeartbeats 4000000
namespace Sm
open PySem PySem.Spec PyProof.Rows L2
theorem getD_map1 {T : List Int} {i : Nat} (h : i < T.length) : (T.map (· + 1)).getD i 0 = T.getD i 0 + 1 := by
  rw [List.getD_eq_getElem?_getD, List.getD_eq_getElem?_getD, List.getElem?_map, List.getElem?_eq_getElem h]
  rfl
theorem plus_ok {T : List Int} {p : Nat} {r : Int} (o : RuleOk T p r) : RuleOk (T.map (· + 1)) p r := by
  have p0 := o.p0
  have p1 := o.p1
  refine ⟨p0, by rw [List.length_map]; exact p1, o.r0, fun i hi => ?_, fun i hi => ?_, ?_⟩
  · rw [List.length_map] at hi
    rw [getD_map1 hi]
    have := o.nn i hi
    omega
  · rw [List.length_map] at hi
    rw [getD_map1 hi, getD_map1 (by omega)]
    have := o.mono i hi
    omega
  · rw [List.length_map, getD_map1 (by omega), getD_map1 (by omega)]
    have := o.wrap
    omega
theorem late_len {T : List Int} {a : Nat} (h : a ≤ T.length) : (T.take a ++ (T.drop a).map (· + 1)).length = T.length := by
  rw [List.length_append, List.length_map, List.length_take, List.length_drop]
  omega
theorem late_get {T : List Int} {a i : Nat} (h : a ≤ T.length) (hi : i < T.length) : (T.take a ++ (T.drop a).map (· + 1)).getD i 0 = T.getD i 0 + (if i < a then 0 else 1) := by
  rw [List.getD_eq_getElem?_getD, List.getElem?_append]
  have lt : (T.take a).length = a := by rw [List.length_take]; omega
  by_cases q : i < a
  · rw [if_pos (by omega), if_pos q, List.getElem?_take_of_lt q, List.getD_eq_getElem?_getD]
    omega
  · rw [if_neg (by omega), if_neg q, lt, List.getElem?_map, List.getElem?_drop, show a + (i - a) = i by omega, List.getD_eq_getElem?_getD, List.getElem?_eq_getElem hi]
    rfl
theorem flat_one {n : Nat} {x : V} : (List.replicate n [x]).flatten = List.replicate n x := List.flatten_replicate_singleton ..
theorem rep_int {n : Nat} {c : Int} : List.replicate n (V.int c) = (List.replicate n c).map V.int := (List.map_replicate ..).symm
theorem getD_rep {n i : Nat} {c : Int} (h : i < n) : (List.replicate n c).getD i 0 = c := by
  rw [List.getD_eq_getElem?_getD, List.getElem?_replicate, if_pos h]
  rfl
theorem zero_ok {n : Nat} {r : Int} (h : 0 < n) (h0 : 0 ≤ r) : RuleOk (List.replicate n 0) n r := by
  refine ⟨h, by rw [List.length_replicate]; exact Nat.le_refl _, h0, fun i hi => ?_, fun i hi => ?_, ?_⟩
  · rw [List.length_replicate] at hi
    rw [getD_rep hi]
    exact Int.le_refl _
  · rw [List.length_replicate] at hi
    rw [getD_rep hi, getD_rep (by omega)]
    exact Int.le_refl _
  · rw [List.length_replicate, getD_rep (by omega), getD_rep (by omega)]
    omega
theorem one_ok {c r : Int} (h : 0 ≤ c) (h0 : 0 ≤ r) : RuleOk [c] 1 r := by
  refine ⟨by decide, Nat.le_refl 1, h0, fun i hi => ?_, fun i hi => ?_, ?_⟩
  · have hi : i < 1 := hi
    rw [show i = 0 by omega]
    exact h
  · have hi : i + 1 < 1 := hi
    omega
  · show c ≤ c + r
    omega
abbrev rareT (q s : Nat) : List Int := List.replicate (s + 1) ((s : Int) - 1) ++ List.replicate (q - s - 1) ((s : Int) + (q : Int) - 1)
theorem rare_get {q s i : Nat} (hs : s + 1 ≤ q) (hi : i < q) : (rareT q s).getD i 0 = if i < s + 1 then (s : Int) - 1 else (s : Int) + (q : Int) - 1 := by
  rw [List.getD_eq_getElem?_getD, List.getElem?_append, List.length_replicate]
  by_cases h : i < s + 1
  · rw [if_pos h, if_pos h, List.getElem?_replicate, if_pos h]
    rfl
  · rw [if_neg h, if_neg h, List.getElem?_replicate, if_pos (by omega)]
    rfl
theorem rare_len {q s : Nat} (hs : s + 1 ≤ q) : (rareT q s).length = q := by
  rw [List.length_append, List.length_replicate, List.length_replicate]
  omega
theorem rare_ok {q s : Nat} (h1 : 1 ≤ s) (hs : s + 1 ≤ q) : RuleOk (rareT q s) q q := by
  have l := rare_len hs
  refine ⟨by omega, by omega, by omega, fun i hi => ?_, fun i hi => ?_, ?_⟩
  · rw [rare_get hs (by omega)]
    split <;> omega
  · rw [rare_get hs (by omega), rare_get hs (by omega)]
    split <;> split <;> omega
  · rw [l, rare_get hs (by omega), rare_get hs (by omega)]
    split <;> split <;> omega
theorem lay_ints : ∀ ns : List Int, PyData.canLayAll0 (ns.map PyData.int) = true
  | [] => rfl
  | n :: ns => by
    simp only [List.map_cons, PyData.canLayAll0, PyData.canLay0, lay_ints ns, Bool.and_self]
theorem shaped_ints (ns : List Int) : SeqAt.shaped (dataI ns) = true := by
  have d := depth_ints ns
  have e : (dataI ns).depth ≤ 64 := by
    unfold dataI
    simp only [PyData.depth]
    omega
  have l : (dataI ns).canLay0 = true := by
    unfold dataI
    simp only [PyData.canLay0, lay_ints]
  unfold SeqAt.shaped
  rw [l, decide_eq_true e]
  rfl
theorem ne_nil_ints {ns : List Int} : (!PyData.eqv (dataI ns) (.list [])) = decide (ns ≠ []) := by
  cases ns with
  | nil => rfl
  | cons n ns => rfl
theorem lc_turn1 {H0 H' : Hp} {U : Addr} {ns : List Int} {j : Nat} {x : V} (hl : ns.length ≤ 9000) (nU : H0 U = none) (hx : (ns.map V.int)[j]? = some x) (sm : Same H0 H') (hU : H' U = some (.lst (((ns.take j).map (· + 1)).map V.int))) :
    ∃ y, x = .int y ∧ (((ns.take j).map (· + 1)).map V.int).length < sizeLine ∧ Same H0 (upd H' U (.lst ((((ns.take j).map (· + 1)).map V.int) ++ [V.int (y + 1)]))) ∧
      upd H' U (.lst ((((ns.take j).map (· + 1)).map V.int) ++ [V.int (y + 1)])) U = some (.lst (((ns.take (j + 1)).map (· + 1)).map V.int)) := by
  rw [List.getElem?_map] at hx
  cases e : ns[j]? with
  | none => rw [e] at hx; cases hx
  | some y =>
    rw [e] at hx
    have hj := (List.getElem?_eq_some_iff.mp e).1
    refine ⟨y, (Option.some.inj hx).symm, ?_, fun b' u e' => ?_, ?_⟩
    · rw [List.length_map, List.length_map, List.length_take]
      exact Nat.lt_of_le_of_lt (show min j ns.length ≤ 9000 by omega) (by decide)
    · rw [upd_ne (ne_of_none e' nU)]
      exact sm _ _ e'
    · rw [upd_same, List.take_add_one, e, List.map_append, List.map_append]
      rfl
theorem small_log30 {i : Nat} (h1 : i ≤ 1000000000000000000000000000000) : (i : Int).natAbs.log2 < 1920 :=
  Nat.lt_of_lt_of_le (PySem.Flt.log2_lt_of (k := 310) (by decide) (by omega)) (by decide)
section
variable {K : PySem.W.Frag} {H : Hp} {Q : VK}
end
end Sm

set_option linter.all false
set_option maxHeartbeats 4000000
namespace Sm
/-! a fee, parted with a plain rule -/
theorem rep_at {n i : Nat} {c : Int} (h : i < n) : (List.replicate n c).getD i 0 = c := by
  rw [List.getD_eq_getElem?_getD, List.getElem?_replicate, if_pos h]
  rfl
theorem fee_vl {size : Nat} {much : Int} (s0 : 0 < size) (x : Nat) : vl (List.replicate size 0) 1 much x = if x < size then 0 else (((x - size + 1 : Nat) : Int)) * much := by
  unfold vl
  rw [List.length_replicate]
  split
  · rename_i h
    exact rep_at h
  · rename_i h
    rw [Nat.div_one, Nat.mul_one, show x - (x - size + 1) = size - 1 by omega, rep_at (by omega), Int.zero_add]
theorem line_vl {m : Int} (x : Nat) : vl [0] 1 m x = (x : Int) * m := by
  have := fee_vl (size := 1) (much := m) (by decide) x
  rw [show List.replicate 1 (0 : Int) = [0] from rfl] at this
  rw [this]
  split
  · rename_i h
    rw [show x = 0 by omega]
    simp
  · rename_i h
    rw [show x - 1 + 1 = x by omega]
theorem fee_is {size : Nat} {much m : Int} (s0 : 0 < size) (m0 : 0 ≤ m) (m1 : m ≤ much) (x : Nat) : IsC (vl (List.replicate size 0) 1 much) (vl [0] 1 m) (x + 1) x (max ((x : Int) * m) (((x : Int) - (size : Int) + 1) * much)) := by
  constructor
  · by_cases h : ((x : Int) - (size : Int) + 1) * much ≤ (x : Int) * m
    · refine ⟨0, by omega, by omega, ?_⟩
      rw [fee_vl s0, line_vl, if_pos s0, Nat.sub_zero]
      omega
    · have hx : ¬ x < size := fun q => by
        have a : ((x : Int) - (size : Int) + 1) * much ≤ 0 := Int.mul_nonpos_of_nonpos_of_nonneg (by omega) (by omega)
        have b : 0 ≤ (x : Int) * m := Int.mul_nonneg (by omega) m0
        omega
      refine ⟨x, by omega, Nat.le_refl _, ?_⟩
      rw [fee_vl s0, line_vl, if_neg hx, Nat.sub_self, show ((x - size + 1 : Nat) : Int) = (x : Int) - (size : Int) + 1 by omega]
      simp only [Int.natCast_zero, Int.zero_mul, Int.add_zero]
      omega
  · intro a a1 a2
    rw [fee_vl s0, line_vl]
    have e : ((x - a : Nat) : Int) = (x : Int) - (a : Int) := by omega
    split
    · have : ((x - a : Nat) : Int) * m ≤ (x : Int) * m := Int.mul_le_mul_of_nonneg_right (by omega) m0
      omega
    · have b : ((x - a : Nat) : Int) * m ≤ ((x - a : Nat) : Int) * much := Int.mul_le_mul_of_nonneg_left m1 (by omega)
      have c : ((a - size + 1 : Nat) : Int) * much + ((x - a : Nat) : Int) * much = ((x : Int) - (size : Int) + 1) * much := by
        rw [← Int.add_mul]
        congr 1
        omega
      omega
/-- where the fee is worth while -/
def feeT (size last : Nat) (m much : Int) : List Int := (List.range (last + 1)).map (fun x : Nat => m * (x : Int)) ++ [much * ((last : Int) + 2 - (size : Int))]
theorem feeT_len {size last : Nat} {m much : Int} : (feeT size last m much).length = last + 2 := by
  unfold feeT
  rw [List.length_append, List.length_map, List.length_range]
  rfl
theorem feeT_at {size last i : Nat} {m much : Int} (h : i < last + 2) : (feeT size last m much).getD i 0 = if i ≤ last then m * (i : Int) else much * ((last : Int) + 2 - (size : Int)) := by
  unfold feeT
  rw [List.getD_eq_getElem?_getD, List.getElem?_append, List.length_map, List.length_range]
  split
  · rename_i q
    rw [if_pos (by omega), List.getElem?_map, List.getElem?_range q]
    rfl
  · rename_i q
    rw [if_neg (by omega), show i - (last + 1) = 0 by omega]
    rfl
theorem fee_tab {size last : Nat} {m much less : Int} (s1 : 2 ≤ size) (l0 : 0 < less) (m0 : 0 ≤ m) (e : much = m + less) (h1 : less * (last : Int) < much * ((size : Int) - 1)) (h2 : much * ((size : Int) - 1) ≤ less * ((last : Int) + 1)) (l1 : 1 ≤ last) :
    Short (feeT size last m much) 1 much ∧ ∀ x, vl (feeT size last m much) 1 much x = max ((x : Int) * m) (((x : Int) - (size : Int) + 1) * much) := by
  have much0 : 0 ≤ much := by omega
  have lin : ∀ x : Nat, ((x : Int) - (size : Int) + 1) * much = (x : Int) * m + (less * (x : Int) - much * ((size : Int) - 1)) := fun x => by
    have a : ((x : Int) - (size : Int) + 1) * much = (x : Int) * much - much * ((size : Int) - 1) := by
      rw [show (x : Int) - (size : Int) + 1 = (x : Int) - ((size : Int) - 1) by omega, Int.sub_mul, Int.mul_comm ((size : Int) - 1)]
    rw [a, e, Int.mul_add, Int.mul_comm (x : Int) less]
    omega
  have val : ∀ x : Nat, vl (feeT size last m much) 1 much x = if x ≤ last then (x : Int) * m else ((x : Int) - (size : Int) + 1) * much := fun x => by
    unfold vl
    rw [feeT_len, Nat.div_one, Nat.mul_one]
    split
    · rename_i q
      rw [feeT_at q]
      split
      · rw [Int.mul_comm]
      · rw [show x = last + 1 by omega, Int.mul_comm]
        congr 1
        omega
    · rename_i q
      rw [show x - (x - (last + 2) + 1) = last + 1 by omega, feeT_at (by omega), if_neg (by omega), if_neg (by omega), Int.mul_comm much, ← Int.add_mul]
      congr 1
      omega
  have far : ∀ x : Nat, last < x → 0 ≤ less * (x : Int) - much * ((size : Int) - 1) := fun x hx => by
    have : less * ((last : Int) + 1) ≤ less * (x : Int) := Int.mul_le_mul_of_nonneg_left (by omega) (by omega)
    omega
  have near : ∀ x : Nat, x ≤ last → less * (x : Int) - much * ((size : Int) - 1) < 0 := fun x hx => by
    have : less * (x : Int) ≤ less * (last : Int) := Int.mul_le_mul_of_nonneg_left (by omega) (by omega)
    omega
  have hv : ∀ x, vl (feeT size last m much) 1 much x = max ((x : Int) * m) (((x : Int) - (size : Int) + 1) * much) := fun x => by
    rw [val]
    have l := lin x
    split
    · rename_i q
      have := near x q
      omega
    · rename_i q
      have := far x (by omega)
      omega
  have up : ∀ x : Nat, max ((x : Int) * m) (((x : Int) - (size : Int) + 1) * much) ≤ max (((x + 1 : Nat) : Int) * m) ((((x + 1 : Nat) : Int) - (size : Int) + 1) * much) := fun x => by
    have a : (x : Int) * m ≤ ((x + 1 : Nat) : Int) * m := Int.mul_le_mul_of_nonneg_right (by omega) m0
    have b : ((x : Int) - (size : Int) + 1) * much ≤ (((x + 1 : Nat) : Int) - (size : Int) + 1) * much := Int.mul_le_mul_of_nonneg_right (by omega) much0
    omega
  have at_ : ∀ i, i < last + 2 → (feeT size last m much).getD i 0 = max ((i : Int) * m) (((i : Int) - (size : Int) + 1) * much) := fun i hi => by
    rw [← hv, vl_lt (by rw [feeT_len]; exact hi)]
  have ok : RuleOk (feeT size last m much) 1 much := by
    refine ⟨by decide, by rw [feeT_len]; omega, much0, fun i hi => ?_, fun i hi => ?_, by omega⟩
    · rw [feeT_len] at hi
      rw [at_ i hi]
      have : 0 ≤ (i : Int) * m := Int.mul_nonneg (by omega) m0
      omega
    · rw [feeT_len] at hi
      rw [at_ i (by omega), at_ (i + 1) hi]
      exact up i
  refine ⟨⟨ok, fun s c s0 s1 => by omega, .inr ?_⟩, hv⟩
  rw [feeT_len, show last + 2 - 1 = last + 1 by omega, show last + 1 - 1 = last by omega, val, if_neg (by omega), feeT_at (by omega), if_pos (Nat.le_refl _)]
  have a := lin last
  have b := near last (Nat.le_refl _)
  have c : (((last + 1 : Nat) : Int) - (size : Int) + 1) * much = ((last : Int) - (size : Int) + 1) * much + much := by
    rw [show ((last + 1 : Nat) : Int) - (size : Int) + 1 = ((last : Int) - (size : Int) + 1) + 1 by omega, Int.add_mul, Int.one_mul]
  rw [c, Int.mul_comm m]
  omega
/-! two stairs of coprime steps -/
/-- x is a sum of p's and q's -/
def Sg (p q x : Nat) : Prop := ∃ i j, x = i * p + j * q
theorem sg_step {p q x : Nat} (h : 0 < x) : Sg p q x ↔ (p ≤ x ∧ Sg p q (x - p)) ∨ (q ≤ x ∧ Sg p q (x - q)) := by
  constructor
  · rintro ⟨i, j, e⟩
    cases i with
    | zero =>
      cases j with
      | zero => simp at e; omega
      | succ j =>
        rw [Nat.succ_mul, Nat.zero_mul, Nat.zero_add] at e
        exact .inr ⟨by omega, 0, j, by rw [Nat.zero_mul]; omega⟩
    | succ i =>
      rw [Nat.succ_mul] at e
      exact .inl ⟨by omega, i, j, by omega⟩
  · rintro (⟨h, i, j, e⟩ | ⟨h, i, j, e⟩)
    · exact ⟨i + 1, j, by rw [Nat.succ_mul]; omega⟩
    · exact ⟨i, j + 1, by rw [Nat.succ_mul]; omega⟩
theorem stair_vl {p x : Nat} (p0 : 0 < p) : vl (List.replicate p 0) p (p : Int) x = ((x / p * p : Nat) : Int) := by
  unfold vl
  rw [List.length_replicate]
  split
  · rename_i h
    rw [rep_at h, Nat.div_eq_of_lt h, Nat.zero_mul]
    rfl
  · rename_i h
    have e : (x - p) / p + 1 = x / p := (Nat.div_eq_sub_div p0 (by omega)).symm
    rw [e]
    have m := Nat.div_add_mod x p
    have l := Nat.mod_lt x p0
    rw [show x - x / p * p = x % p by rw [Nat.mul_comm]; omega, rep_at l, Int.zero_add, Int.natCast_mul]
theorem stairs_is {p q x : Nat} (p0 : 0 < p) (q0 : 0 < q) {v : Nat} (h1 : Sg p q v) (h2 : v ≤ x) (h3 : ∀ s, Sg p q s → s ≤ x → s ≤ v) : IsC (vl (List.replicate p 0) p (p : Int)) (vl (List.replicate q 0) q (q : Int)) (x + 1) x (v : Int) := by
  have up : ∀ a, a ≤ x → a / p * p + (x - a) / q * q ≤ v := fun a ha => by
    refine h3 _ ⟨_, _, rfl⟩ ?_
    have m := Nat.div_mul_le_self a p
    have n := Nat.div_mul_le_self (x - a) q
    omega
  constructor
  · obtain ⟨i, j, e⟩ := h1
    have hip : i * p ≤ x := by omega
    refine ⟨i * p, by omega, hip, ?_⟩
    rw [stair_vl p0, stair_vl q0, Nat.mul_div_cancel _ p0]
    have a : j ≤ (x - i * p) / q := by
      rw [Nat.le_div_iff_mul_le q0]
      omega
    have b : j * q ≤ (x - i * p) / q * q := Nat.mul_le_mul_right q a
    have c := up (i * p) hip
    rw [Nat.mul_div_cancel _ p0] at c
    omega
  · intro a a1 a2
    rw [stair_vl p0, stair_vl q0]
    have := up a a2
    omega
/-- p and q without a common part: a times p leaves what is asked -/
theorem bez40 : ∀ p, p < 41 → ∀ q, q < 41 → 0 < q → Nat.gcd p q = 1 → ∃ a, a < q ∧ (a * p) % q = 1 % q := by decide +kernel
theorem bez {p q : Nat} (hp : p < 41) (hq : q < 41) (q0 : 0 < q) (h : Nat.gcd p q = 1) (n : Nat) : ∃ a, a < q ∧ (a * p) % q = n % q := by
  obtain ⟨a, a1, a2⟩ := bez40 p hp q hq q0 h
  refine ⟨a * n % q, Nat.mod_lt _ q0, ?_⟩
  rw [Nat.mod_mul_mod, Nat.mul_right_comm, ← Nat.mod_mul_mod, a2, Nat.mod_mul_mod, Nat.one_mul]
theorem sg_far {p q n : Nat} (hp : p < 41) (hq : q < 41) (p0 : 0 < p) (q0 : 0 < q) (h : Nat.gcd p q = 1) (hn : (p - 1) * (q - 1) ≤ n) : Sg p q n := by
  obtain ⟨a, a1, a2⟩ := bez hp hq q0 h n
  have e : (p - 1) * (q - 1) + (p - 1) = (p - 1) * q := by
    rw [← Nat.mul_succ]
    congr 1
    omega
  have e2 : (p - 1) * q + q = p * q := by
    rw [← Nat.succ_mul]
    congr 1
    omega
  have e3 : a * p + p ≤ q * p := by
    rw [← Nat.succ_mul]
    exact Nat.mul_le_mul_right p a1
  rw [Nat.mul_comm q p] at e3
  have d1 := Nat.div_add_mod (a * p) q
  have d2 := Nat.div_add_mod n q
  -- n's part of q is at least a p's
  have le : a * p / q ≤ n / q := by
    rcases Nat.lt_or_ge (n / q) (a * p / q) with w | w
    · exfalso
      have : q * (n / q) + q ≤ q * (a * p / q) := by
        rw [← Nat.mul_succ]
        exact Nat.mul_le_mul_left q w
      omega
    · exact w
  refine ⟨a, n / q - a * p / q, ?_⟩
  have m : q * (a * p / q) ≤ q * (n / q) := Nat.mul_le_mul_left q le
  rw [Nat.sub_mul, Nat.mul_comm (n / q), Nat.mul_comm (a * p / q)]
  omega
theorem sg_not {p q : Nat} (p1 : 1 < p) (q1 : 1 < q) (h : Nat.gcd p q = 1) : ¬ Sg p q ((p - 1) * (q - 1) - 1) := by
  rintro ⟨i, j, e⟩
  have f1 : (p - 1) * (q - 1) + (p - 1) = (p - 1) * q := by
    rw [← Nat.mul_succ]
    congr 1
    omega
  have f2 : (p - 1) * q + q = p * q := by
    rw [← Nat.succ_mul]
    congr 1
    omega
  have f3 : 0 < (p - 1) * (q - 1) := Nat.mul_pos (by omega) (by omega)
  have all : (i + 1) * p + (j + 1) * q = p * q := by
    rw [Nat.succ_mul, Nat.succ_mul]
    omega
  have dq : q ∣ (i + 1) * p := by
    have d : q ∣ (i + 1) * p + (j + 1) * q := by
      rw [all]
      exact Nat.dvd_mul_left q p
    exact (Nat.dvd_add_left (Nat.dvd_mul_left q (j + 1))).mp d
  have dp : p ∣ (j + 1) * q := by
    have d : p ∣ (i + 1) * p + (j + 1) * q := by
      rw [all]
      exact Nat.dvd_mul_right p q
    exact (Nat.dvd_add_right (Nat.dvd_mul_left p (i + 1))).mp d
  have gi : q ∣ i + 1 := Nat.Coprime.dvd_of_dvd_mul_right (Nat.Coprime.symm h) dq
  have gj : p ∣ j + 1 := Nat.Coprime.dvd_of_dvd_mul_right h dp
  have li : q ≤ i + 1 := Nat.le_of_dvd (by omega) gi
  have lj : p ≤ j + 1 := Nat.le_of_dvd (by omega) gj
  have m1 : q * p ≤ (i + 1) * p := Nat.mul_le_mul_right p li
  have m2 : p * q ≤ (j + 1) * q := Nat.mul_le_mul_right q lj
  have z : 0 < p * q := Nat.mul_pos (by omega) (by omega)
  rw [Nat.mul_comm q p] at m1
  omega
end Sm

set_option Elab.async false
set_option linter.all false
set_option maxRecDepth 100000
set_option maxHeartbeats 8000000
namespace Sm
open PySem PySem.Spec PyProof.Rows L2
open C8 (pss_cut)
def topS (i : Nat) : Stmt := PySem.Challenge.pw_smallchange_k72_whole_rules_joined_as_ob.main.body.getD i (.Pass ⟨0, 0, 0, 0⟩)
structure Txt (mg : Str → Option Value) : Prop where
  n__law_call : mg "_law_call" = none
  n_abs : mg "abs" = none
  n_all : mg "all" = none
  n_any : mg "any" = none
  n_bool : mg "bool" = none
  n_cls : mg "cls" = none
  n_int : mg "int" = none
  n_isinstance : mg "isinstance" = none
  n_iter : mg "iter" = none
  n_len : mg "len" = none
  n_list : mg "list" = none
  n_max : mg "max" = none
  n_range : mg "range" = none
  n_tuple : mg "tuple" = none
  g_gcd : mg "gcd" = some (.builtin "math.gcd")
  g_lcm : mg "lcm" = some (.builtin "math.lcm")
  c_MAX_TOLD : ∃ t, mg "MAX_TOLD" = some (.int 5000 t)
/-! ### rules in the heap -/
def RuleAt (H : Hp) (d : Addr) (T : List Int) (p : Nat) (r : Int) : Prop := ∃ t, H d = some (.tup [.ref t, .int (p : Int), .int r]) ∧ H t = some (.tup (T.map V.int))
theorem RuleAt.same {H H' : Hp} {d : Addr} {T : List Int} {p : Nat} {r : Int} (R : RuleAt H d T p r) (s : Same H H') : RuleAt H' d T p r := by
  obtain ⟨t, h1, h2⟩ := R
  exact ⟨t, s _ _ h1, s _ _ h2⟩
theorem RuleAt.fr {H H' : Hp} {d a l : Addr} {n : Int} {T : List Int} {p : Nat} {r : Int} (R : RuleAt H d T p r) (f : Fr a l H H') (D : Deck H a l n) : RuleAt H' d T p r := by
  obtain ⟨t, h1, h2⟩ := R
  exact ⟨t, f.tup D h1, f.tup D h2⟩
structure RB (T : List Int) (p : Nat) (r : Int) : Prop where
  len : T.length ≤ 30000
  r1 : r ≤ 1000000000000000000
  top : ∀ i, i < T.length → T.getD i 0 ≤ 100000000000000000000
/-- a small one, with bound M -/
structure RS (M : Int) (T : List Int) (p : Nat) (r : Int) : Prop where
  len : T.length ≤ 300
  turn : p ≤ 40
  r1 : r ≤ M
  top : ∀ i, i < T.length → T.getD i 0 ≤ M
theorem RS.rb {M : Int} {T : List Int} {p : Nat} {r : Int} (b : RS M T p r) (h : M ≤ 10000000000000000) : RB T p r := by
  have h1 := b.r1
  have h2 := b.len
  exact ⟨by omega, by omega, fun i hi => by have := b.top i hi; omega⟩
theorem RS.up {M N : Int} {T : List Int} {p : Nat} {r : Int} (b : RS M T p r) (h : M ≤ N) : RS N T p r := by
  have h1 := b.r1
  exact ⟨b.len, b.turn, by omega, fun i hi => by have := b.top i hi; omega⟩
/-- a rule cut shorter -/
structure Cut (T : List Int) (p : Nat) (r : Int) (T' : List Int) (p' : Nat) (r' : Int) : Prop where
  len : T'.length ≤ T.length
  turn : p' ≤ p
  rise : r' ≤ r
  get : ∀ i, i < T'.length → T'.getD i 0 = T.getD i 0
theorem Cut.rs {M : Int} {T T' : List Int} {p p' : Nat} {r r' : Int} (c : Cut T p r T' p' r') (b : RS M T p r) : RS M T' p' r' := by
  have h1 := c.len
  have h2 := c.turn
  have h3 := c.rise
  have b1 := b.len
  have b2 := b.turn
  have b3 := b.r1
  exact ⟨by omega, by omega, by omega, fun i hi => by rw [c.get i hi]; exact b.top i (by omega)⟩
theorem Cut.rb {T T' : List Int} {p p' : Nat} {r r' : Int} (c : Cut T p r T' p' r') (b : RB T p r) : RB T' p' r' := by
  have h1 := c.len
  have h3 := c.rise
  have b1 := b.len
  have b3 := b.r1
  exact ⟨by omega, by omega, fun i hi => by rw [c.get i hi]; exact b.top i (by omega)⟩
theorem get_int {T : List Int} {i : Nat} (h : i < T.length) : (T.map V.int)[i]? = some (.int (T.getD i 0)) := by
  rw [List.getElem?_map, List.getElem?_eq_getElem h, List.getD_eq_getElem?_getD, List.getElem?_eq_getElem h]
  rfl
theorem atI_neg1 {xs : List V} {v : V} (h0 : 0 < xs.length) (h : xs[xs.length - 1]? = some v) : atI xs (-1) = some v := by
  unfold atI ixN
  rw [if_neg (by decide), if_pos (by omega), show ((-1 : Int) + (xs.length : Int)).toNat = xs.length - 1 by omega]
  exact h
theorem last_int {T : List Int} (h : 0 < T.length) : atI (T.map V.int) (-1) = some (.int (T.getD (T.length - 1) 0)) :=
  atI_neg1 (by rw [List.length_map]; exact h) (by rw [List.length_map]; exact get_int (by omega))
theorem pick4 {a b c d r : Int} (h0 : 0 ≤ r) (h1 : r < 4) : ∃ z, [V.int a, V.int b, V.int c, V.int d][r.toNat]? = some (.int z) ∧ (z = a ∨ z = b ∨ z = c ∨ z = d) := by
  obtain rfl | rfl | rfl | rfl : r = 0 ∨ r = 1 ∨ r = 2 ∨ r = 3 := by omega
  · exact ⟨a, rfl, .inl rfl⟩
  · exact ⟨b, rfl, .inr (.inl rfl)⟩
  · exact ⟨c, rfl, .inr (.inr (.inl rfl))⟩
  · exact ⟨d, rfl, .inr (.inr (.inr rfl))⟩
section
variable {P : Program} {w : World} {K : PySem.W.Frag} {mg : Str → Option Value} {base : Heap}
abbrev s_l_deck : Stmt := topS 41
abbrev N_l_deck : List Str := ["_law_script", "_law_cell"]
theorem sc_l_deck : FnScope N_l_deck ["_law_script"] (defScope s_l_deck) := ⟨rfl, rfl, rfl, by decide +kernel, rfl, by decide +kernel, by decide +kernel⟩
theorem ok_l_deck (T : Txt mg) (D : Df K mg "_law_deck" s_l_deck ["_law_script"]) : Cal P w K mg base "_law_deck" ["_law_script"] 1 (sp_l_deck K) := by
  refine D.cal sc_l_deck (fun vs H Q E h => ?_) (fun f cdv A outer s H vs Q E hr h => ?_)
  · obtain ⟨a, ns, rfl, _⟩ := h
    rfl
  obtain ⟨a, ns, rfl, hS, hlen, k⟩ := h
  refine ⟨_, (pss_one (ps_ret (pe_lst (pa_cons (pe_lc (own := [("_law_cell", 1)]) (g := gName 1) (tt := tYes) rfl sc_l_deck.nd (pi_list (pe_slice sl_list (pv 0) po_none (po_some pe_int))) (blkOk_by (own := [("_law_cell", 1)]) (N := N_l_deck) (sc := defScope s_l_deck) (by decide +kernel)) (fun _ _ _ _ _ => pg_name (i := 1) sc_l_deck.nd rfl (Or.inl rfl)) (fun _ _ _ _ _ => pts_nil) (fun _ _ _ _ _ => (pe_callB call_abs (by rfl) T.n_abs (by decide +kernel) (pa_cons (pv 1) pa_nil)))) (pa_cons pe_int pa_nil))))), ?_⟩
  refine ⟨_, rfl, _, rfl, a, _, rfl, hS, fun c nc => ?_⟩
  rw [cut63 hlen]
  have s1 := same_upd (o := .lst (ns.map V.int)) nc
  refine ⟨c, rfl, ⟨_, SqL.of upd_same⟩, fun D nD => ?_⟩
  have s2 := s1.trans (same_upd (o := .lst []) nD)
  have hc2 : upd (upd H c (.lst (ns.map V.int))) D (.lst []) c = some (.lst (ns.map V.int)) := same_upd nD _ _ upd_same
  refine lc_list (K := K) (a := c) (xs := ns.map V.int) (fun i H' => Same H H' ∧ H' c = some (.lst (ns.map V.int)) ∧ c ≠ D ∧ H D = none ∧ H' D = some (.lst (((ns.take i).map absI).map V.int)))
    ⟨s2, hc2, ne_of_none upd_same nD, s1.free nD, upd_same⟩ (fun i H' _ h => SqL.of h.2.1) ?_ ?_
  · rintro i x H' hx ⟨sm, hc, ncD, nD0, hD⟩
    rw [List.getElem?_map] at hx
    cases e : ns[i]? with
    | none => rw [e] at hx; cases hx
    | some y =>
      rw [e] at hx
      have ex : x = .int y := (Option.some.inj hx).symm
      subst ex
      refine ⟨rfl, ?_⟩
      unfold tYes
      refine iteT ?_
      refine ⟨_, rfl, _, rfl, _, hD, ?_, ?_⟩
      · rw [List.length_map, List.length_map, List.length_take]
        exact Nat.lt_of_le_of_lt (Nat.min_le_right _ _) (small1000 (by omega))
      · refine ⟨fun b o e => ?_, ?_, ncD, nD0, ?_⟩
        · rw [upd_ne (ne_of_none e nD0)]
          exact sm _ _ e
        · rw [upd_ne ncD]
          exact hc
        · rw [upd_same, List.take_add_one, e, List.map_append, List.map_append]
          rfl
  · rintro H' ⟨sm, hc, ncD, nD0, hD⟩
    refine ⟨(by show 2 ≤ sizeLine; decide), fun p np => ?_⟩
    have s3 := sm.trans (same_upd (o := .lst [.ref D, .int 0]) np)
    refine k _ p D s3 ⟨upd_same, _, (same_upd np) _ _ hD, fun c hc => ?_, ?_⟩
    · obtain ⟨y, _, rfl⟩ := List.mem_map.mp hc
      exact absI_pos y
    · rw [List.length_map, List.length_take]
      omega
abbrev s_l_draw : Stmt := topS 42
abbrev N_l_draw : List Str := ["_law_deck_here", "_law_many", "_law_place", "_law_cell", "_law_mixed"]
theorem sc_l_draw : FnScope N_l_draw ["_law_deck_here", "_law_many"] (defScope s_l_draw) := ⟨rfl, rfl, rfl, by decide +kernel, rfl, by decide +kernel, by decide +kernel⟩
theorem ok_l_draw (T : Txt mg) (D : Df K mg "_law_draw" s_l_draw ["_law_deck_here", "_law_many"]) : Cal P w K mg base "_law_draw" ["_law_deck_here", "_law_many"] 1 (sp_l_draw K) := by
  refine D.cal sc_l_draw (fun vs H Q E h => ?_) (fun f cdv A outer s H vs Q E hr h => ?_)
  · obtain ⟨p, l, n, m, rfl, _⟩ := h
    rfl
  obtain ⟨p, l, n, m, rfl, D, n0, n1, m0, m1, k⟩ := h
  obtain ⟨cells, hl, hc⟩ := D.hl
  have npl : p ≠ l := ne_of D.hp hl deck_ne
  refine ⟨_, (pss_cons (ps_asg (pe_op op_add (pe_ix ix_list (pv 0) pe_int (fun _ _ => rfl)) pe_int) (pg_sub (pv 0) pe_int set_list))
    (pss_cons (ps_set (i := 2) sc_l_draw.nd rfl (Or.inl rfl) (pe_op op_modN (pe_callTy call_int1 (by rfl) T.n_int (by decide +kernel) (pa_cons (pe_ix ix_list (pv 0) pe_int (fun _ _ => rfl)) pa_nil)) (pe_callB (call_max2 rfl) (by rfl) T.n_max (by decide +kernel) (pa_cons pe_int (pa_cons (pe_callB call_len_seq (by rfl) T.n_len (by decide +kernel) (pa_cons (pe_ix ix_list (pv 0) pe_int (fun _ _ => rfl)) pa_nil)) pa_nil)))))
    (pss_cons (ps_set (i := 3) sc_l_draw.nd rfl (Or.inl rfl) (pe_ix ix_list (pe_op op_cat (pe_ix ix_list (pv 0) pe_int (fun _ _ => rfl)) (pe_lst (pa_cons pe_int pa_nil))) (pv 2) (fun _ _ => rfl)))
    (pss_cons (ps_if (pt_cmpR op_ge (pv 3) (pe_op op_pow pe_int pe_int) (nomark _)) (pss_cons (ps_asg (pe_op op_fdivW (pv 3) (pv 1)) (pg_sub (pe_ix ix_list (pv 0) pe_int (fun _ _ => rfl)) (pv 2) set_list))
    (pss_one (ps_ret (pe_op op_modN (pe_callTy call_int1 (by rfl) T.n_int (by decide +kernel) (pa_cons (pv 3) pa_nil)) (pv 1))))) pss_nil)
    (pss_cons (ps_set (i := 4) sc_l_draw.nd rfl (Or.inl rfl) (pe_op op_pow (pe_op op_add (pe_op op_add (pe_op op_modN (pe_callTy call_int1 (by rfl) T.n_int (by decide +kernel) (pa_cons (pv 3) pa_nil)) pe_int) (pe_op op_mul pe_int (pe_ix ix_list (pv 0) pe_int (fun _ _ => rfl)))) pe_int) pe_int))
    (pss_one (ps_ret (pe_op op_modN (pe_callTy call_int1 (by rfl) T.n_int (by decide +kernel) (pa_cons (pe_op op_modN (pe_callTy call_int1 (by rfl) T.n_int (by decide +kernel) (pa_cons (pv 4) pa_nil)) pe_int) pa_nil)) (pv 1))))))))), ?_⟩
  refine ⟨_, rfl, _, _, _, _, rfl, rfl, SqL.of D.hp, atI_nat (j := 1) rfl, _, _, rfl, rfl, _, rfl, _, _, _, _, rfl, rfl, D.hp, rfl, ?_⟩
  generalize hH0 : upd H p (HO.lst (List.set [V.ref l, V.int n] (Int.toNat 1) ((fun i j => V.int (i + j)) n 1))) = H0
  have hH0 : upd H p (.lst [.ref l, .int (n + 1)]) = H0 := hH0
  have f0 : Fr p l H H0 := fun b o h1 _ h => by rw [← hH0, upd_ne h1]; exact h
  have hl0 : H0 l = some (.lst (cells.map V.int)) := by rw [← hH0, upd_ne npl.symm]; exact hl
  have hp0 : H0 p = some (.lst [.ref l, .int (n + 1)]) := by rw [← hH0, upd_same]
  -- place
  have big : (if ((cells.map V.int).length : Int) > 1 then ((cells.map V.int).length : Int) else 1) = max 1 (cells.length : Int) := by
    rw [List.length_map]
    split <;> omega
  have fm : (n + 1).fmod (max 1 (cells.length : Int)) = (n + 1) % (max 1 (cells.length : Int)) := fmod_pos (by omega)
  have q0 : 0 ≤ (n + 1).fmod (max 1 (cells.length : Int)) := by rw [fm]; exact Int.emod_nonneg _ (by omega)
  have q1 : (n + 1).fmod (max 1 (cells.length : Int)) < max 1 (cells.length : Int) := by rw [fm]; exact Int.emod_lt_of_pos _ (by omega)
  refine ⟨_, rfl, _, _, _, _, rfl, rfl, SqL.of hp0, atI_nat (j := 1) rfl, .inl ⟨_, rfl, _, rfl, _, _, _, _, rfl, rfl, SqL.of hp0, atI_nat (j := 0) rfl, _, _, rfl, .inl (SqL.of hl0), _, _, rfl, _, _, rfl, rfl, (by rw [big]; omega), ?_⟩⟩
  have z : ∀ B : Int → Prop, B ((n + 1).fmod (max 1 (cells.length : Int))) → B ((n + 1).fmod (if ((cells.map V.int).length : Int) > 1 then ((cells.map V.int).length : Int) else 1)) := fun B h => by rw [big]; exact h
  refine z (fun y => gName 2 (.int y) _ _ _) ?_
  clear z
  -- cell
  refine ⟨_, rfl, _, _, _, _, rfl, rfl, SqL.of hp0, atI_nat (j := 0) rfl, (by show 1 ≤ sizeLine; decide), fun t nt => ?_⟩
  have st := same_upd (o := .lst [.int 0]) nt
  have hp1 := st _ _ hp0
  have hl1 := st _ _ hl0
  have f1 := f0.trans (Same.fr (p := p) (l := l) st)
  obtain ⟨hc, h63⟩ := hc
  have ln : (cells.map V.int).length = cells.length := List.length_map ..
  refine ⟨_, _, _, _, rfl, rfl, hl1, upd_same, (by rw [ln]; exact Nat.le_trans (by omega : cells.length + 1 ≤ 64) (by decide)), fun t2 nt2 => ?_⟩
  have st2 := same_upd (o := .lst (cells.map V.int ++ [.int 0])) nt2
  have hp2 := st2 _ _ hp1
  have hl2 := st2 _ _ hl1
  have f2 := f1.trans (Same.fr (p := p) (l := l) st2)
  have ht2 : upd (upd H0 t (.lst [.int 0])) t2 (.lst (cells.map V.int ++ [.int 0])) t2 = some (.lst ((cells ++ [0]).map V.int)) := by rw [upd_same, List.map_append]; rfl
  generalize upd (upd H0 t (HO.lst [V.int 0])) t2 (HO.lst (cells.map V.int ++ [V.int 0])) = H2 at hp2 hl2 f2 ht2 ⊢
  have q2 : ((n + 1).fmod (max 1 (cells.length : Int))).toNat < (cells ++ [0]).length := by rw [List.length_append, List.length_singleton]; omega
  have q3 : (n + 1).fmod (max 1 (cells.length : Int)) = (((n + 1).fmod (max 1 (cells.length : Int))).toNat : Int) := by omega
  generalize (n + 1).fmod (max 1 (cells.length : Int)) = pl at q0 q1 q2 q3 ⊢
  have q4 : ((cells ++ [0]).map V.int)[pl.toNat]? = some (.int (cells ++ [0])[pl.toNat]) := by
    rw [List.getElem?_map, List.getElem?_eq_getElem q2]
    rfl
  have c0 : 0 ≤ (cells ++ [0])[pl.toNat] := by
    rcases List.mem_append.mp (List.getElem_mem q2) with q | q
    · exact hc _ q
    · rw [List.mem_singleton.mp q]
      decide
  have inside : 1000000000000000000 ≤ (cells ++ [0])[pl.toNat] → pl.toNat < cells.length := by
    intro q
    by_cases e : pl.toNat < cells.length
    · exact e
    · rw [List.getElem_append_right (by omega)] at q
      simp at q
  generalize (cells ++ [0])[pl.toNat] = c at q4 c0 inside ⊢
  refine ⟨_, rfl, _, _, _, _, rfl, rfl, SqL.of ht2, at_of q3 q4, ?_⟩
  refine ⟨_, rfl, _, _, rfl, rfl, ⟨by decide, by decide, by decide⟩, _, _, rfl, rfl, _, rfl, ite3 (fun e => ?_) (fun e => ?_)⟩
  · have e : 1000000000000000000 ≤ c := e
    have p1 := inside e
    have ix : ixN (cells.map V.int).length pl = some pl.toNat := by
      unfold ixN
      rw [if_pos q0, if_pos (by omega)]
    refine ⟨_, rfl, _, rfl, _, _, rfl, rfl, div_draw m0 m1, _, rfl, _, _, _, _, rfl, rfl, SqL.of hp2, atI_nat (j := 0) rfl, _, rfl, _, _, _, _, rfl, rfl, hl2, ix, ?_⟩
    refine ⟨_, rfl, .inl ⟨_, rfl, _, rfl, _, _, rfl, rfl, (by omega), ?_⟩⟩
    have fm : c.fmod m = c % m := fmod_pos m0
    refine k _ _ (by rw [fm]; exact Int.emod_nonneg _ (by omega)) (by rw [fm]; exact Int.emod_lt_of_pos _ m0) (f2.trans fun b o _ h2 h => by rw [upd_ne h2]; exact h) ⟨by rw [upd_ne npl]; exact hp2, cells.set pl.toNat (c / m), by rw [upd_same, List.map_set], fun y hy => ?_, by rw [List.length_set]; exact h63⟩
    rcases List.mem_or_eq_of_mem_set hy with q | q
    · exact hc y q
    · rw [q]; exact Int.ediv_nonneg c0 (by omega)
  · refine ⟨_, rfl, .inl ⟨_, rfl, _, _, rfl, rfl, (show (2147483587 : Int) ≠ 0 by decide), _, rfl, _, _, _, _, rfl, rfl, SqL.of hp2, atI_nat (j := 1) rfl, _, _, rfl, rfl, .inl ⟨by decide, by decide⟩, _, _, rfl, rfl, _, _, rfl, rfl, ?_⟩⟩
    have fm : c.fmod 2147483587 = c % 2147483587 := fmod_pos (by decide)
    have h0 := Int.emod_nonneg c (show (2147483587 : Int) ≠ 0 by decide)
    have h1 := Int.emod_lt_of_pos c (show (0 : Int) < 2147483587 by decide)
    refine ⟨_, _, rfl, rfl, ⟨by decide, by decide, by rw [fm]; omega⟩, ?_⟩
    refine ⟨_, rfl, .inl ⟨_, rfl, _, _, rfl, rfl, (show (2147483647 : Int) ≠ 0 by decide), .inl ⟨_, rfl, _, rfl, _, _, rfl, rfl, (by omega), ?_⟩⟩⟩
    refine k _ _ ?_ ?_ f2 ⟨hp2, cells, hl2, hc, h63⟩
    · rw [fmod_pos m0]; exact Int.emod_nonneg _ (by omega)
    · rw [fmod_pos m0]; exact Int.emod_lt_of_pos _ m0
end
end Sm

set_option Elab.async false
set_option linter.all false
set_option maxRecDepth 100000
set_option maxHeartbeats 16000000
namespace Sm
open PySem PySem.Spec PyProof.Rows L2
open C8 (pss_cut tCut)
theorem RB.divW {T : List Int} {p : Nat} {r x : Int} (b : RB T p r) (o : RuleW T p r) : CDivW x (p : Int) := by
  have := b.len
  have := o.p0
  have := o.p1
  exact wide_div (b := 15) (by omega) (by omega) (by decide) (by decide)
theorem RB.mulRW {T : List Int} {p : Nat} {r x : Int} (b : RB T p r) (o : RuleW T p r) : CMul x r := by
  have := b.r1
  have := o.r0
  exact .inr ⟨by omega, by omega⟩
theorem RB.mulR'W {T : List Int} {p : Nat} {r x : Int} (b : RB T p r) (o : RuleW T p r) : CMul r x := by
  have := b.r1
  have := o.r0
  exact .inl ⟨by omega, by omega⟩
theorem RB.mulPW {T : List Int} {p : Nat} {r x : Int} (b : RB T p r) (o : RuleW T p r) : CMul x (p : Int) := by
  have := b.len
  have := o.p1
  exact .inr ⟨by omega, by omega⟩
theorem RB.div {T : List Int} {p : Nat} {r x : Int} (b : RB T p r) (o : RuleOk T p r) : CDivW x (p : Int) := by
  have := b.len
  have := o.p0
  have := o.p1
  exact wide_div (b := 15) (by omega) (by omega) (by decide) (by decide)
theorem RB.mulR {T : List Int} {p : Nat} {r x : Int} (b : RB T p r) (o : RuleOk T p r) : CMul x r := by
  have := b.r1
  have := o.r0
  exact .inr ⟨by omega, by omega⟩
theorem RB.mulR' {T : List Int} {p : Nat} {r x : Int} (b : RB T p r) (o : RuleOk T p r) : CMul r x := by
  have := b.r1
  have := o.r0
  exact .inl ⟨by omega, by omega⟩
theorem RB.mulP {T : List Int} {p : Nat} {r x : Int} (b : RB T p r) (o : RuleOk T p r) : CMul x (p : Int) := by
  have := b.len
  have := o.p1
  exact .inr ⟨by omega, by omega⟩
theorem len_int (T : List Int) : (((T.map V.int).length : Nat) : Int) = (T.length : Int) := by rw [List.length_map]
theorem turns_eq {T : List Int} {p x : Nat} (h : T.length ≤ x) : ((x : Int) - (((T.map V.int).length : Nat) : Int)) / (p : Int) + 1 = (((x - T.length) / p + 1 : Nat) : Int) := by
  rw [len_int]
  exact div_cast h
theorem index_eq {q p x : Nat} (h : q * p ≤ x) : (x : Int) - (q : Int) * (p : Int) = ((x - q * p : Nat) : Int) := by
  rw [Int.natCast_sub h, Int.natCast_mul]
/-- small rules: tables of at most so many members, numbers up to M -/
structure RM (M : Int) (T : List Int) (p : Nat) (r : Int) : Prop where
  len : T.length ≤ 60
  r1 : r ≤ M
  top : ∀ i, i < T.length → T.getD i 0 ≤ M
theorem RM.up {M N : Int} {T : List Int} {p : Nat} {r : Int} (b : RM M T p r) (h : M ≤ N) : RM N T p r := ⟨b.len, Int.le_trans b.r1 h, fun i hi => Int.le_trans (b.top i hi) h⟩
theorem RM.rb {M : Int} {T : List Int} {p : Nat} {r : Int} (b : RM M T p r) (h : M ≤ 10000000000000000) : RB T p r :=
  ⟨by have := b.len; omega, by have := b.r1; omega, fun i hi => by have := b.top i hi; omega⟩
theorem RM.vl {M : Int} {T : List Int} {p : Nat} {r : Int} (o : RuleOk T p r) (b : RM M T p r) (M0 : 0 ≤ M) : ∀ x : Nat, vl T p r x ≤ M * ((x : Int) + 2) := by
  intro x
  induction x using Nat.strongRecOn with
  | _ x ih =>
    have p0 := o.p0
    have p1 := o.p1
    have r1 := b.r1
    by_cases q : x < T.length
    · rw [vl_lt q]
      have := b.top x q
      have h2 : M * 1 ≤ M * ((x : Int) + 2) := Int.mul_le_mul_of_nonneg_left (by omega) M0
      omega
    · rw [vl_step p0 o.p1 (by omega)]
      have h1 := ih (x - p) (by omega)
      have h2 : M * (((x - p : Nat) : Int) + 2 + 1) ≤ M * ((x : Int) + 2) := Int.mul_le_mul_of_nonneg_left (by omega) M0
      rw [Int.mul_add, Int.mul_one] at h2
      omega
/-- what the search looks at is small too -/
theorem found_rm {M : Int} {T : List Int} {p few per : Nat} {r : Int} (o : RuleOk T p r) (b : RM M T p r) (M0 : 0 ≤ M) (fl : few ≤ T.length) : RM (M * 100) (tabF T p r few) per (riseF T p r few per) := by
  have bl := b.len
  have key : ∀ x : Nat, x ≤ 60 → Sm.vl T p r x ≤ M * 100 := fun x hx => Int.le_trans (RM.vl o b M0 x) (Int.mul_le_mul_of_nonneg_left (by omega) M0)
  refine ⟨by rw [tabF_len]; omega, ?_, fun i hi => ?_⟩
  · have := key few (by omega)
    have := o.pos (few - per)
    unfold riseF
    omega
  · rw [tabF_len] at hi
    rw [tabF_get hi]
    exact key i (by omega)
def sp_l_value (_ : PySem.W.Frag) : Sp := fun vs H Q _ => ∃ (d : Addr) (T : List Int) (p : Nat) (r : Int) (x : Nat), vs = [.ref d, .int (x : Int)] ∧ RuleAt H d T p r ∧ RuleW T p r ∧ RB T p r ∧ Q (.int (vl T p r x)) H
def sp_l_fits (_ : PySem.W.Frag) : Sp := fun vs H Q _ => ∃ (d : Addr) (T : List Int) (p : Nat) (r : Int) (few per : Nat) (M : Int), vs = [.ref d, .int (few : Int), .int (per : Int)] ∧ RuleAt H d T p r ∧ RuleOk T p r ∧ RM M T p r ∧ 0 ≤ M ∧ M ≤ 10000000000000 ∧ 0 < per ∧ per ≤ few ∧ few ≤ T.length ∧
  (∀ H', Same H H' → ¬ Fits T p r few per → Q .non H') ∧ (∀ H' q, Same H H' → Fits T p r few per → RuleAt H' q (tabF T p r few) per (riseF T p r few per) → Q (.ref q) H')
def sp_l_short (_ : PySem.W.Frag) : Sp := fun vs H Q _ => ∃ (d : Addr) (T : List Int) (p : Nat) (r : Int) (M : Int), vs = [.ref d] ∧ RuleAt H d T p r ∧ RuleOk T p r ∧ RM M T p r ∧ 0 ≤ M ∧ M ≤ 10000000000000 ∧
  ∀ H' q T' p' r', Same H H' → RuleAt H' q T' p' r' → Short T' p' r' → (∀ x, vl T' p' r' x = vl T p r x) → T'.length ≤ T.length → RM (M * 100) T' p' r' → Q (.ref q) H'
section
variable {P : Program} {w : World} {K : PySem.W.Frag} {mg : Str → Option Value} {base : Heap}
abbrev s_l_value : Stmt := topS 44
abbrev N_l_value : List Str := ["_law_rule", "_law_x", "_law_table", "_law_period", "_law_rise", "_law_turns"]
theorem sc_l_value : FnScope N_l_value ["_law_rule", "_law_x"] (defScope s_l_value) := ⟨rfl, rfl, rfl, by decide +kernel, rfl, by decide +kernel, by decide +kernel⟩
theorem ok_l_value (T : Txt mg) (D : Df K mg "_law_value" s_l_value ["_law_rule", "_law_x"]) : Cal P w K mg base "_law_value" ["_law_rule", "_law_x"] 1 (sp_l_value K) := by
  refine D.cal sc_l_value (fun vs H Q E h => ?_) (fun f cdv A outer s H vs Q E hr h => ?_)
  · obtain ⟨d, T0, p, r, x, rfl, _⟩ := h
    rfl
  obtain ⟨d, T0, p, r, x, rfl, ⟨t, hd, ht⟩, o, b, k⟩ := h
  have p0 := o.p0
  have p1 := o.p1
  obtain ⟨a1, a2, a3⟩ := qt_ok (r := r) x p0 p1
  have qi := qt_int (T := T0) (x := x) p0
  rw [a3] at k
  refine ⟨_, (pss_cons (ps_asg (pv 0) (pg_tup (by rfl) (pgs_cons (pg_name (i := 2) sc_l_value.nd rfl (Or.inl rfl)) (pgs_cons (pg_name (i := 3) sc_l_value.nd rfl (Or.inl rfl)) (pgs_cons (pg_name (i := 4) sc_l_value.nd rfl (Or.inl rfl)) pgs_nil)))))
    (pss_cons (ps_set (i := 5) sc_l_value.nd rfl (Or.inl rfl) (pe_callB (call_max2 rfl) (by rfl) T.n_max (by decide +kernel) (pa_cons pe_int (pa_cons (pe_op op_add (pe_op op_fdivW (pe_op op_sub (pv 1) (pe_callB call_len_seq (by rfl) T.n_len (by decide +kernel) (pa_cons (pv 2) pa_nil))) (pv 3)) pe_int) pa_nil))))
    (pss_one (ps_ret (pe_op op_add (pe_ix ix_tup (pv 2) (pe_op op_sub (pv 1) (pe_op op_mul (pv 5) (pv 3))) (fun _ _ => rfl)) (pe_op op_mul (pv 5) (pv 4))))))), ?_⟩
  refine ⟨_, rfl, _, _, rfl, SqT.of hd, rfl, _, _, rfl, _, _, rfl, _, _, rfl, rfl, ?_⟩
  refine ⟨_, rfl, _, rfl, _, _, rfl, .inr (SqT.of ht), _, _, rfl, rfl, _, rfl, _, _, rfl, rfl, b.divW o, _, _, rfl, rfl, _, _, rfl, ?_⟩
  rw [← len_int T0] at qi
  have z : ∀ B : Int → Prop, B ((qt T0 p x : Nat) : Int) → B (if ((x : Int) - (((T0.map V.int).length : Nat) : Int)) / (p : Int) + 1 > 0 then ((x : Int) - (((T0.map V.int).length : Nat) : Int)) / (p : Int) + 1 else 0) := fun B h => by rw [qi]; exact h
  refine z (fun y => gName 5 (.int y) _ _ _) ?_
  clear z qi
  generalize qt T0 p x = q at a1 a2 a3 k ⊢
  have ix : (x : Int) - (q : Int) * (p : Int) = ((x - q * p : Nat) : Int) := by
    have e : ((q * p : Nat) : Int) = (q : Int) * (p : Int) := Int.natCast_mul ..
    omega
  exact ⟨_, rfl, _, rfl, _, rfl, _, rfl, _, _, rfl, rfl, b.mulPW o, _, _, rfl, rfl, _, _, _, _, rfl, rfl, SqT.of ht, at_of ix (get_int a2), _, rfl, _, rfl, _, _, rfl, rfl, b.mulRW o, _, _, rfl, rfl, k⟩
abbrev s_l_fits : Stmt := topS 45
abbrev N_l_fits : List Str := ["_law_rule", "_law_few", "_law_period", "_law_table", "_law_found", "_law_x"]
theorem sc_l_fits : FnScope N_l_fits ["_law_rule", "_law_few", "_law_period"] (defScope s_l_fits) := ⟨rfl, rfl, rfl, by decide +kernel, rfl, by decide +kernel, by decide +kernel⟩
theorem ok_l_fits (T : Txt mg) (D : Df K mg "_law_fits" s_l_fits ["_law_rule", "_law_few", "_law_period"]) (C_l_value : Cal P w K mg base "_law_value" ["_law_rule", "_law_x"] 1 (sp_l_value K)) : Cal P w K mg base "_law_fits" ["_law_rule", "_law_few", "_law_period"] 2 (sp_l_fits K) := by
  obtain ⟨f_l_value, fd_l_value, G_l_value, m_l_value, k_l_value, b_l_value⟩ := C_l_value
  refine D.cal sc_l_fits (fun vs H Q E h => ?_) (fun f cdv A outer s H vs Q E hr h => ?_)
  · obtain ⟨d, T0, p, r, few, per, M, rfl, _⟩ := h
    rfl
  obtain ⟨d, T0, p, r, few, per, M, rfl, R, o, b, M0, M1, per0, per1, fl, kn, kf⟩ := h
  obtain ⟨t, hd, ht⟩ := id R
  have bl := b.len
  have p0 := o.p0
  have p1 := o.p1
  have bb := b.rb (by omega)
  have fm := found_rm o b M0 fl (per := per)
  have fw := tabF_w o per0 per1
  have fb := fm.rb (by omega)
  refine ⟨_, (pss_cons (ps_set (i := 3) sc_l_fits.nd rfl (Or.inl rfl) (pe_callTy call_tuple_of (by rfl) T.n_tuple (by decide +kernel) (pa_cons (pe_lc (own := [("_law_x", 5)]) (g := gName 5) (tt := tYes) rfl sc_l_fits.nd (pi_range1 (by rfl) T.n_range (pa_cons (pv 1) pa_nil)) (blkOk_by (own := [("_law_x", 5)]) (N := N_l_fits) (sc := defScope s_l_fits) (by decide +kernel)) (fun _ _ _ _ _ => pg_name (i := 5) sc_l_fits.nd rfl (Or.inl rfl)) (fun _ _ _ _ _ => pts_nil) (fun _ _ _ _ _ => (pe_call G_l_value (hr.mono (by decide)) (by rfl) m_l_value k_l_value b_l_value .nil pass0 (pa_cons (pv 0) (pa_cons (pv 5) pa_nil))))) pa_nil)))
    (pss_cons (ps_set (i := 4) sc_l_fits.nd rfl (Or.inl rfl) (pe_tup (pa_cons (pv 3) (pa_cons (pv 2) (pa_cons (pe_op op_sub (pe_call G_l_value (hr.mono (by decide)) (by rfl) m_l_value k_l_value b_l_value .nil pass0 (pa_cons (pv 0) (pa_cons (pv 1) pa_nil))) (pe_ix ix_tup (pv 3) (pe_op op_sub (pv 1) (pv 2)) (fun _ _ => rfl))) pa_nil)))))
    (pss_cons (ps_for PassesOwn.never rfl (pi_range2 (by rfl) T.n_range (pa_cons (pv 1) (pa_cons (pe_op op_add (pe_op op_add (pe_op op_mul pe_int (pe_callB call_len_seq (by rfl) T.n_len (by decide +kernel) (pa_cons (pe_ix ix_tup (pv 0) pe_int (fun _ _ => rfl)) pa_nil))) (pe_op op_mul (pe_op op_mul pe_int (pe_ix ix_tup (pv 0) pe_int (fun _ _ => rfl))) (pv 2))) (pv 1)) pa_nil))) (pg_name (i := 5) sc_l_fits.nd rfl (Or.inl rfl))
      (pss_one (ps_if (pt_cmpR op_ne (pe_call G_l_value (hr.mono (by decide)) (by rfl) m_l_value k_l_value b_l_value .nil pass0 (pa_cons (pv 4) (pa_cons (pv 5) pa_nil))) (pe_call G_l_value (hr.mono (by decide)) (by rfl) m_l_value k_l_value b_l_value .nil pass0 (pa_cons (pv 0) (pa_cons (pv 5) pa_nil))) (nomark _)) (pss_one (ps_ret pe_non)) pss_nil)))
    (pss_one (ps_ret (pv 4)))))), ?_⟩
  refine ⟨_, rfl, _, rfl, by omega, by omega, fun U nU => ?_⟩
  refine lc_mR (n := few) (fun i => .int (vl T0 p r i)) nU (by omega) ?_ gName_mono ?_
  · intro i H' hi s' R' hR
    rw [Int.zero_add]
    exact ⟨rfl, _, rfl, _, rfl, d, T0, p, r, i, rfl, R.same s', o.w, bb, hR H' (Same.refl _)⟩
  intro H1 s1 hU
  have hU : H1 U = some (.lst ((tabF T0 p r few).map V.int)) := by rw [hU]; unfold tabF; rw [List.map_map]; rfl
  refine ⟨_, _, rfl, .inl ⟨SqL.of hU, fun tb nt => ?_⟩⟩
  have s2 := s1.trans (same_upd (o := .tup ((tabF T0 p r few).map V.int)) nt)
  have htb : upd H1 tb (.tup ((tabF T0 p r few).map V.int)) tb = some (.tup ((tabF T0 p r few).map V.int)) := upd_same
  generalize upd H1 tb (.tup ((tabF T0 p r few).map V.int)) = H2 at s2 htb ⊢
  refine ⟨_, rfl, _, rfl, _, rfl, _, rfl, d, T0, p, r, few, rfl, R.same s2, o.w, bb, ?_⟩
  have ix : (few : Int) - (per : Int) = ((few - per : Nat) : Int) := by omega
  refine ⟨_, rfl, _, rfl, _, rfl, _, _, rfl, rfl, _, _, _, _, rfl, rfl, SqT.of htb, at_of ix (get_int (by rw [tabF_len]; omega)), _, _, rfl, rfl, (by show 3 ≤ sizeLine; decide), fun q nq => ?_⟩
  rw [tabF_get (show few - per < few by omega)]
  have s3 := s2.trans (same_upd (o := .tup [.ref tb, .int (per : Int), .int (vl T0 p r few - vl T0 p r (few - per))]) nq)
  have hq : upd H2 q (.tup [.ref tb, .int (per : Int), .int (vl T0 p r few - vl T0 p r (few - per))]) q = some (.tup [.ref tb, .int (per : Int), .int (riseF T0 p r few per)]) := upd_same
  have htb := same_upd (o := .tup [.ref tb, .int (per : Int), .int (vl T0 p r few - vl T0 p r (few - per))]) nq _ _ htb
  generalize upd H2 q (.tup [.ref tb, .int (per : Int), .int (vl T0 p r few - vl T0 p r (few - per))]) = H3 at s3 hq htb ⊢
  have RF : RuleAt H3 q (tabF T0 p r few) per (riseF T0 p r few per) := ⟨tb, hq, htb⟩
  refine ⟨_, rfl, _, rfl, _, _, _, _, rfl, rfl, SqT.of (s3 _ _ hd), atI_nat (j := 0) rfl, _, _, rfl, .inr (SqT.of (s3 _ _ ht)), _, _, rfl, rfl, .inl ⟨by decide, by decide⟩, _, rfl, _, _, _, _, rfl, rfl, SqT.of (s3 _ _ hd), atI_nat (j := 1) rfl, _, _, rfl, rfl, .inl ⟨by decide, by decide⟩, _, rfl, _, _, rfl, rfl, .inr ⟨by omega, by omega⟩, _, _, rfl, rfl, _, rfl, _, _, rfl, rfl, ?_⟩
  have pp : p * per ≤ 60 * 60 := Nat.mul_le_mul (by omega) (by omega)
  have pe : 2 * (p : Int) * (per : Int) = ((2 * p * per : Nat) : Int) := by rw [Int.natCast_mul, Int.natCast_mul]; rfl
  have pm : 2 * p * per = 2 * (p * per) := Nat.mul_assoc ..
  have en : 2 * (((T0.map V.int).length : Nat) : Int) + 2 * (p : Int) * (per : Int) + (few : Int) = ((2 * T0.length + 2 * p * per + few : Nat) : Int) := by rw [len_int, pe]; omega
  refine ⟨_, _, rfl, ⟨by omega, by omega, by rw [en]; omega, by rw [en]; omega⟩, ?_⟩
  rw [show Int.toNat (2 * (((T0.map V.int).length : Nat) : Int) + 2 * (p : Int) * (per : Int) + (few : Int) - (few : Int)) = 2 * T0.length + 2 * p * per by rw [en]; omega]
  refine for_range (lo := (few : Int)) (n := 2 * T0.length + 2 * p * per) (fun i σ H' => ∃ v5 : Option V, σ = [some (.ref d), some (.int (few : Int)), some (.int (per : Int)), some (.ref tb), some (.ref q), v5] ∧ Same H3 H' ∧ ∀ j, j < i → vl (tabF T0 p r few) per (riseF T0 p r few per) (few + j) = vl T0 p r (few + j))
    ⟨none, rfl, Same.refl _, fun j hj => absurd hj (Nat.not_lt_zero _)⟩ ?_ ?_
  · rintro i σ H4 hi ⟨v5, rfl, s4, al⟩
    rw [show (few : Int) + (i : Int) = ((few + i : Nat) : Int) by omega]
    refine ⟨_, rfl, _, rfl, q, _, per, _, few + i, rfl, RF.same s4, fw, fb, _, rfl, _, rfl, d, T0, p, r, few + i, rfl, R.same (s3.trans s4), o.w, bb, rfl, _, rfl, ?_⟩
    by_cases c : vl (tabF T0 p r few) per (riseF T0 p r few per) (few + i) = vl T0 p r (few + i)
    · refine iteNP (congrArg V.int c) ⟨_, rfl, s4, fun j hj => ?_⟩
      rcases Nat.lt_or_ge j i with e | e
      · exact al j e
      · rw [show j = i by omega]
        exact c
    · exact iteNN (fun e => c (V.int.inj e)) (kn H4 (s3.trans s4) fun f => c (f _))
  · rintro σ H4 ⟨v5, rfl, s4, al⟩
    exact ⟨_, rfl, kf H4 q (s3.trans s4) (fits_of o per0 per1 al) (RF.same s4)⟩
abbrev s_l_short : Stmt := topS 46
abbrev N_l_short : List Str := ["_law_rule", "_law_few", "_law_period", "_law_found"]
theorem sc_l_short : FnScope N_l_short ["_law_rule"] (defScope s_l_short) := ⟨rfl, rfl, rfl, by decide +kernel, rfl, by decide +kernel, by decide +kernel⟩
theorem ok_l_short (T : Txt mg) (D : Df K mg "_law_short" s_l_short ["_law_rule"]) (C_l_fits : Cal P w K mg base "_law_fits" ["_law_rule", "_law_few", "_law_period"] 2 (sp_l_fits K)) : Cal P w K mg base "_law_short" ["_law_rule"] 3 (sp_l_short K) := by
  obtain ⟨f_l_fits, fd_l_fits, G_l_fits, m_l_fits, k_l_fits, b_l_fits⟩ := C_l_fits
  refine D.cal sc_l_short (fun vs H Q E h => ?_) (fun f cdv A outer s H vs Q E hr h => ?_)
  · obtain ⟨d, T0, p, r, M, rfl, _⟩ := h
    rfl
  obtain ⟨d, T0, p, r, M, rfl, R, o, b, M0, M1, k⟩ := h
  obtain ⟨t, hd, ht⟩ := id R
  have bl := b.len
  have ll := len_int T0
  refine ⟨_, (pss_cons (ps_for PassesOwn.never rfl (pi_range2 (by rfl) T.n_range (pa_cons pe_int (pa_cons (pe_op op_add (pe_callB call_len_seq (by rfl) T.n_len (by decide +kernel) (pa_cons (pe_ix ix_tup (pv 0) pe_int (fun _ _ => rfl)) pa_nil)) pe_int) pa_nil))) (pg_name (i := 1) sc_l_short.nd rfl (Or.inl rfl))
      (pss_one (ps_for PassesOwn.never rfl (pi_range2 (by rfl) T.n_range (pa_cons pe_int (pa_cons (pe_op op_add (pv 1) pe_int) pa_nil))) (pg_name (i := 2) sc_l_short.nd rfl (Or.inl rfl))
      (pss_cons (ps_set (i := 3) sc_l_short.nd rfl (Or.inl rfl) (pe_call G_l_fits (hr.mono (by decide)) (by rfl) m_l_fits k_l_fits b_l_fits .nil pass0 (pa_cons (pv 0) (pa_cons (pv 1) (pa_cons (pv 2) pa_nil)))))
    (pss_one (ps_if (pt_cmpR op_notN (pv 3) pe_non (nomark _)) (pss_one (ps_ret (pv 3))) pss_nil))))))
    (pss_one (ps_ret (pv 0)))), ?_⟩
  refine ⟨_, rfl, _, _, _, _, rfl, rfl, SqT.of hd, atI_nat (j := 0) rfl, _, _, rfl, .inr (SqT.of ht), _, _, rfl, rfl, _, _, rfl, ⟨by omega, by omega, by rw [ll]; omega, by rw [ll]; omega⟩, ?_⟩
  rw [show Int.toNat ((((T0.map V.int).length : Nat) : Int) + 1 - 1) = T0.length by rw [ll]; omega]
  refine for_range (lo := 1) (n := T0.length) (fun i σ H' => ∃ v1 v2 v3 : Option V, σ = [some (.ref d), v1, v2, v3] ∧ Same H H' ∧ ∀ a b, a < i + 1 → 0 < b → b ≤ a → ¬ Fits T0 p r a b)
    ⟨none, none, none, rfl, Same.refl _, fun a b h1 h2 h3 => by omega⟩ ?_ ?_
  · rintro i σ H1 hi ⟨v1, v2, v3, rfl, s1, no⟩
    rw [show (1 : Int) + (i : Int) = ((i + 1 : Nat) : Int) by omega]
    refine ⟨_, rfl, _, _, rfl, rfl, _, _, rfl, ⟨by omega, by omega, by omega, by omega⟩, ?_⟩
    rw [show Int.toNat (((i + 1 : Nat) : Int) + 1 - 1) = i + 1 by omega]
    refine for_range (lo := 1) (n := i + 1) (fun j σ H' => ∃ v2 v3 : Option V, σ = [some (.ref d), some (.int ((i + 1 : Nat) : Int)), v2, v3] ∧ Same H H' ∧ ∀ b, b < j + 1 → 0 < b → ¬ Fits T0 p r (i + 1) b)
      ⟨v2, v3, rfl, s1, fun b h1 h2 => by omega⟩ ?_ ?_
    · rintro j σ H2 hj ⟨v2, v3, rfl, s2, no2⟩
      rw [show (1 : Int) + (j : Int) = ((j + 1 : Nat) : Int) by omega]
      refine ⟨_, rfl, _, rfl, _, rfl, d, T0, p, r, i + 1, j + 1, M, rfl, R.same s2, o, b, M0, M1, by omega, by omega, by omega, fun H3 s3 nf => ?_, fun H3 q s3 f RF => ?_⟩
      · refine ⟨_, rfl, rfl, _, rfl, iteNP rfl ⟨_, _, rfl, s2.trans s3, fun b h1 h2 => ?_⟩⟩
        rcases Nat.lt_or_ge b (j + 1) with e | e
        · exact no2 b e h2
        · rw [show b = j + 1 by omega]
          exact nf
      · refine ⟨_, rfl, rfl, _, rfl, iteNN (fun e => nomatch e) ⟨_, rfl, ?_⟩⟩
        exact k H3 q _ _ _ (s2.trans s3) RF (found_short o (by omega) (by omega) f fun a b h1 h2 h3 => no a b h1 h2 h3) f (by rw [tabF_len]; omega) (found_rm o ‹RM M T0 p r› M0 (by omega))
    · rintro σ H2 ⟨v2, v3, rfl, s2, no2⟩
      refine ⟨_, _, _, rfl, s2, fun a b h1 h2 h3 => ?_⟩
      rcases Nat.lt_or_ge a (i + 1) with e | e
      · exact no a b e h2 h3
      · rw [show a = i + 1 by omega]
        exact no2 b (by omega) h2
  · rintro σ H1 ⟨v1, v2, v3, rfl, s1, no⟩
    obtain ⟨few, per, h1, h2, h3, f⟩ := found_some o
    exact absurd f (no few per (by omega) h1 h2)
end
end Sm

set_option Elab.async false
set_option linter.all false
set_option maxRecDepth 100000
set_option maxHeartbeats 16000000
namespace Sm
open PySem PySem.Spec PyProof.Rows L2
open C8 (pss_cut tCut)
theorem getD_app {T : List Int} {x : Int} {i : Nat} : (T ++ [x]).getD i 0 = if i < T.length then T.getD i 0 else if i = T.length then x else 0 := by
  rw [List.getD_eq_getElem?_getD, List.getD_eq_getElem?_getD, List.getElem?_append]
  by_cases h : i < T.length
  · rw [if_pos h, if_pos h]
  · rw [if_neg h, if_neg h]
    by_cases e : i = T.length
    · rw [if_pos e, e, Nat.sub_self]
      rfl
    · rw [if_neg e, List.getElem?_eq_none (by rw [List.length_singleton]; omega)]
      rfl
/-- a small table -/
structure Tz (T : List Int) : Prop where
  ne : 0 < T.length
  nn : ∀ i, i < T.length → 0 ≤ T.getD i 0
  mono : ∀ i, i + 1 < T.length → T.getD i 0 ≤ T.getD (i + 1) 0
  top : ∀ i, i < T.length → T.getD i 0 ≤ 10 * ((i : Int) + 1)
  inc : ∀ i, i + 1 < T.length → T.getD (i + 1) 0 ≤ T.getD i 0 + 9
theorem Tz.more {T : List Int} (t : Tz T) {c : Int} (c0 : 0 ≤ c) (c1 : c ≤ 9) : Tz (T ++ [T.getD (T.length - 1) 0 + c]) := by
  have n := t.ne
  have l := t.nn (T.length - 1) (by omega)
  have u := t.top (T.length - 1) (by omega)
  refine ⟨by rw [List.length_append]; omega, fun i hi => ?_, fun i hi => ?_, fun i hi => ?_, fun i hi => ?_⟩
  · rw [List.length_append, List.length_singleton] at hi
    rw [getD_app]
    split
    · exact t.nn i (by assumption)
    · rw [if_pos (by omega)]
      omega
  · rw [List.length_append, List.length_singleton] at hi
    rw [getD_app, getD_app, if_pos (by omega)]
    split
    · exact t.mono i (by assumption)
    · rw [if_pos (by omega), show i = T.length - 1 by omega]
      omega
  · rw [List.length_append, List.length_singleton] at hi
    rw [getD_app]
    split
    · exact t.top i (by assumption)
    · rw [if_pos (by omega), show i = T.length by omega]
      omega
  · rw [List.length_append, List.length_singleton] at hi
    rw [getD_app, getD_app, if_pos (show i < T.length by omega)]
    split
    · exact t.inc i (by assumption)
    · rw [if_pos (by omega), show i = T.length - 1 by omega]
      omega
/-- how steep it is at most -/
theorem Tz.slope {T : List Int} (t : Tz T) : ∀ p : Nat, p < T.length → T.getD (T.length - 1) 0 ≤ T.getD (T.length - (p + 1)) 0 + 9 * (p : Int)
  | 0, _ => by show T.getD (T.length - 1) 0 ≤ T.getD (T.length - 1) 0 + 9 * ((0 : Nat) : Int); omega
  | p + 1, h => by
    have a := t.slope p (by omega)
    have b := t.inc (T.length - (p + 1 + 1)) (by omega)
    rw [show T.length - (p + 1 + 1) + 1 = T.length - (p + 1) by omega] at b
    omega
theorem Tz.one {z : Int} (z0 : 0 ≤ z) (z1 : z ≤ 10) : Tz [z] := by
  refine ⟨by show 0 < 1; decide, fun i hi => ?_, fun i hi => ?_, fun i hi => ?_, fun i hi => by have hi : i + 1 < 1 := hi; omega⟩
  · have hi : i < 1 := hi
    rw [show i = 0 by omega]
    exact z0
  · have hi : i + 1 < 1 := hi
    omega
  · have hi : i < 1 := hi
    rw [show i = 0 by omega]
    show z ≤ 10 * (((0 : Nat) : Int) + 1)
    omega
theorem Tz.rising {T : List Int} (t : Tz T) {p : Nat} {c : Int} (p0 : 0 < p) (p1 : p ≤ T.length) (c0 : 0 ≤ c) : RuleOk T p (T.getD (T.length - 1) 0 - T.getD (T.length - p) 0 + c) := by
  have up : T.getD (T.length - p) 0 ≤ T.getD (T.length - 1) 0 := by
    have z : RuleOk T 1 0 := ⟨by decide, t.ne, by decide, t.nn, t.mono, by omega⟩
    exact z.row (by omega) (by omega)
  exact ⟨p0, p1, by omega, t.nn, t.mono, by omega⟩
def sp_l_drawn (_ : PySem.W.Frag) : Sp := fun vs H Q _ => ∃ (p l : Addr) (n upto : Int), vs = [.ref p, .int upto] ∧ Deck H p l n ∧ 0 ≤ n ∧ n ≤ 900000 ∧ 1 ≤ upto ∧ upto ≤ 7 ∧
  ∀ H' d T q r n', Fr p l H H' → Deck H' p l n' → n ≤ n' → n' ≤ n + 50 → RuleAt H' d T q r → RuleOk T q r → RM 100 T q r → r ≤ 9 * (q : Int) → (T.length : Int) ≤ upto → Q (.ref d) H'
/-- what a draw needs of the deck, and an item of a list of four -/
theorem list_ne {H : Hp} {p l b : Addr} {n : Int} {xs : List V} (D : Deck H p l n) (h : H b = none) : b ≠ p ∧ b ≠ l := D.lne h
section
variable {P : Program} {w : World} {K : PySem.W.Frag} {mg : Str → Option Value} {base : Heap}
abbrev s_l_drawn : Stmt := topS 43
abbrev N_l_drawn : List Str := ["_law_deck_here", "_law_upto", "_law_table", "_law_k", "_law_period"]
theorem sc_l_drawn : FnScope N_l_drawn ["_law_deck_here", "_law_upto"] (defScope s_l_drawn) := ⟨rfl, rfl, rfl, by decide +kernel, rfl, by decide +kernel, by decide +kernel⟩
theorem ok_l_drawn (T : Txt mg) (D : Df K mg "_law_drawn" s_l_drawn ["_law_deck_here", "_law_upto"]) (C_l_draw : Cal P w K mg base "_law_draw" ["_law_deck_here", "_law_many"] 1 (sp_l_draw K)) : Cal P w K mg base "_law_drawn" ["_law_deck_here", "_law_upto"] 2 (sp_l_drawn K) := by
  obtain ⟨f_l_draw, fd_l_draw, G_l_draw, m_l_draw, k_l_draw, b_l_draw⟩ := C_l_draw
  refine D.cal sc_l_drawn (fun vs H Q E h => ?_) (fun f cdv A outer s H vs Q E hr h => ?_)
  · obtain ⟨p, l, n, upto, rfl, _⟩ := h
    rfl
  obtain ⟨p, l, n, upto, rfl, D0, n0, n1, u0, u1, k⟩ := h
  refine ⟨_, (pss_cons (ps_set (i := 2) sc_l_drawn.nd rfl (Or.inl rfl) (pe_lst (pa_cons (pe_ix ix_list (pe_lst (pa_cons pe_int (pa_cons pe_int (pa_cons pe_int (pa_cons pe_int pa_nil))))) (pe_call G_l_draw (hr.mono (by decide)) (by rfl) m_l_draw k_l_draw b_l_draw .nil pass0 (pa_cons (pv 0) (pa_cons pe_int pa_nil))) (fun _ _ => rfl)) pa_nil)))
    (pss_cons (ps_for PassesOwn.never rfl (pi_range1 (by rfl) T.n_range (pa_cons (pe_call G_l_draw (hr.mono (by decide)) (by rfl) m_l_draw k_l_draw b_l_draw .nil pass0 (pa_cons (pv 0) (pa_cons (pv 1) pa_nil))) pa_nil)) (pg_name (i := 3) sc_l_drawn.nd rfl (Or.inl rfl))
      (pss_one (ps_expr (pe_bm PySem.F.plainAttrs_list PySem.F.slot_list_append PySem.F.type_list_append mt_append (pv 2) (pa_cons (pe_op op_add (pe_ix ix_list (pv 2) (pe_un un_neg pe_int) (fun _ _ => rfl)) (pe_ix ix_list (pe_lst (pa_cons pe_int (pa_cons pe_int (pa_cons pe_int (pa_cons pe_int (pa_cons pe_int (pa_cons pe_int pa_nil))))))) (pe_call G_l_draw (hr.mono (by decide)) (by rfl) m_l_draw k_l_draw b_l_draw .nil pass0 (pa_cons (pv 0) (pa_cons pe_int pa_nil))) (fun _ _ => rfl))) pa_nil)))))
    (pss_cons (ps_set (i := 4) sc_l_drawn.nd rfl (Or.inl rfl) (pe_op op_add pe_int (pe_call G_l_draw (hr.mono (by decide)) (by rfl) m_l_draw k_l_draw b_l_draw .nil pass0 (pa_cons (pv 0) (pa_cons (pe_callB call_len_seq (by rfl) T.n_len (by decide +kernel) (pa_cons (pv 2) pa_nil)) pa_nil)))))
    (pss_one (ps_ret (pe_tup (pa_cons (pe_callTy call_tuple_of (by rfl) T.n_tuple (by decide +kernel) (pa_cons (pv 2) pa_nil)) (pa_cons (pv 4) (pa_cons (pe_op op_add (pe_op op_sub (pe_ix ix_list (pv 2) (pe_un un_neg pe_int) (fun _ _ => rfl)) (pe_ix ix_list (pv 2) (pe_op op_sub (pe_callB call_len_seq (by rfl) T.n_len (by decide +kernel) (pa_cons (pv 2) pa_nil)) (pv 4)) (fun _ _ => rfl))) (pe_call G_l_draw (hr.mono (by decide)) (by rfl) m_l_draw k_l_draw b_l_draw .nil pass0 (pa_cons (pv 0) (pa_cons pe_int pa_nil)))) pa_nil))))))))), ?_⟩
  -- the first member
  refine ⟨(by show 4 ≤ sizeLine; decide), fun b nb => ?_⟩
  have sb := same_upd (o := .lst [.int 0, .int 0, .int 1, .int 5]) nb
  obtain ⟨bp, bl⟩ := D0.lne nb
  refine ⟨_, rfl, p, l, n, 4, rfl, D0.same sb, by omega, by omega, by omega, by omega, fun i4 H4 i40 i41 f4 D4 => ?_⟩
  obtain ⟨z, zz, hz⟩ := pickI [0, 0, 1, 5] i40 (show i4 < 4 from i41)
  have z0 : 0 ≤ z ∧ z ≤ 10 := by
    simp only [List.mem_cons, List.not_mem_nil, or_false] at zz
    omega
  refine ⟨_, _, _, _, rfl, rfl, SqL.of (f4 b _ bp bl upd_same), at_of (j := i4.toNat) (by omega) hz, ?_⟩
  refine ⟨(by show 1 ≤ sizeLine; decide), fun L nL => ?_⟩
  obtain ⟨Lp, Ll⟩ := D4.lne nL
  have sL := same_upd (o := .lst [.int z]) nL
  have fr : Fr p l H (upd H4 L (.lst [.int z])) := ((Same.fr sb).trans f4).trans (Same.fr sL)
  have D5 := D4.same sL
  have hn : ∀ b o, H b = some o → b ≠ L := by
    intro b o hb e
    subst e
    by_cases q1 : b = p
    · exact Lp q1
    · by_cases q2 : b = l
      · exact Ll q2
      · have := ((Same.fr (p := p) (l := l) sb).trans f4) b o q1 q2 hb
        rw [nL] at this
        cases this
  -- the others
  refine ⟨_, rfl, _, rfl, p, l, n + 1, upto, rfl, D5, by omega, by omega, by omega, by omega, fun m H6 m0 m1 f6 D6 => ?_⟩
  refine ⟨_, rfl, by omega, by omega, ?_⟩
  refine for_range (lo := 0) (n := m.toNat) (fun i σ H' => ∃ (n' : Int) (T0 : List Int) (v : Option V), σ = [some (.ref p), some (.int upto), some (.ref L), v, none] ∧
      Deck H' p l n' ∧ n ≤ n' ∧ n' ≤ n + 4 + (i : Int) ∧ Fr p l H H' ∧ H' L = some (.lst (T0.map V.int)) ∧ T0.length = i + 1 ∧ Tz T0)
    ⟨_, [z], none, rfl, D6, by omega, by omega, fr.trans f6, f6 L _ Lp Ll upd_same, rfl, Tz.one z0.1 z0.2⟩ ?_ ?_
  · rintro i σ H' hi ⟨n', T0, v, rfl, D', a0, a1, f', hL, hT, tb⟩
    refine ⟨_, rfl, .inl ⟨rfl, _, SqL.of hL⟩, ?_⟩
    refine ⟨_, rfl, _, rfl, _, _, _, _, rfl, rfl, SqL.of hL, last_int tb.ne, ?_⟩
    refine ⟨(by show 6 ≤ sizeLine; decide), fun b' nb' => ?_⟩
    have sb' := same_upd (o := .lst [.int 0, .int 0, .int 1, .int 1, .int 2, .int 9]) nb'
    obtain ⟨bp', bl'⟩ := D'.lne nb'
    refine ⟨_, rfl, p, l, n', 6, rfl, D'.same sb', by omega, by omega, by omega, by omega, fun i5 H7 i50 i51 f7 D7 => ?_⟩
    obtain ⟨c, cc, hc⟩ := pickI [0, 0, 1, 1, 2, 9] i50 (show i5 < 6 from i51)
    have c0 : 0 ≤ c ∧ c ≤ 9 := by
      simp only [List.mem_cons, List.not_mem_nil, or_false] at cc
      omega
    have hL7 : H7 L = some (.lst (T0.map V.int)) := f7 L _ Lp Ll (sb' _ _ hL)
    refine ⟨_, _, _, _, rfl, rfl, SqL.of (f7 b' _ bp' bl' upd_same), at_of (j := i5.toNat) (by omega) hc, _, _, rfl, rfl, L, _, _, rfl, rfl, hL7, ?_, ?_⟩
    · rw [List.length_map, hT]
      exact small1000 (by omega)
    · have fL : Fr p l H (upd H7 L (.lst ((T0 ++ [T0.getD (T0.length - 1) 0 + c]).map V.int))) := by
        intro b o h1 h2 hb
        rw [upd_ne (hn b o hb)]
        exact (f'.trans ((Same.fr sb').trans f7)) b o h1 h2 hb
      refine ⟨n' + 1, T0 ++ [T0.getD (T0.length - 1) 0 + c], _, rfl, ⟨by rw [upd_ne Lp.symm]; exact D7.hp, ?_⟩, by omega, by omega, ?_, ?_, ?_, tb.more c0.1 c0.2⟩
      · obtain ⟨cells, q1, q2⟩ := D7.hl
        exact ⟨cells, by rw [upd_ne Ll.symm]; exact q1, q2⟩
      · rw [List.map_append] at fL
        exact fL
      · rw [upd_same, List.map_append]
        rfl
      · rw [List.length_append, List.length_singleton, hT]
  · rintro σ H' ⟨n', T0, v, rfl, D', a0, a1, f', hL, hT, tb⟩
    have hlen : (T0.length : Int) ≤ upto := by omega
    have ll := len_int T0
    refine ⟨_, rfl, _, rfl, _, _, rfl, .inl (SqL.of hL), p, l, n', _, rfl, D', by omega, by omega, by rw [ll]; omega, by rw [ll]; omega, fun rp H7 rp0 rp1 f7 D7 => ?_⟩
    rw [ll] at rp1
    have hL7 := f7 L _ Lp Ll hL
    refine ⟨_, _, rfl, rfl, _, rfl, L, _, rfl, .inl ⟨SqL.of hL7, fun t nt => ?_⟩⟩
    have st := same_upd (o := .tup (T0.map V.int)) nt
    have gs : (T0.map V.int)[T0.length - (1 + rp).toNat]? = some (.int (T0.getD (T0.length - (1 + rp).toNat) 0)) := get_int (by omega)
    refine ⟨_, rfl, _, rfl, _, rfl, _, _, _, _, rfl, rfl, SqL.of (st _ _ hL7), last_int tb.ne, _, rfl, _, rfl, _, _, rfl, .inl (SqL.of (st _ _ hL7)), _, rfl, _, _, rfl, rfl, _, _, _, _, rfl, rfl, SqL.of (st _ _ hL7), at_of (by rw [ll]; omega) gs, _, _, rfl, rfl, ?_⟩
    refine ⟨_, rfl, p, l, n' + 1, 3, rfl, D7.same st, by omega, by omega, by omega, by omega, fun c H8 c0 c1 f8 D8 => ?_⟩
    refine ⟨_, _, rfl, rfl, (by show 3 ≤ sizeLine; decide), fun d nd => ?_⟩
    have ht8 := f8.tup (D7.same st) (show upd H7 t (.tup (T0.map V.int)) t = some (.tup (T0.map V.int)) from upd_same)
    have ok := tb.rising (p := (1 + rp).toNat) (c := c) (by omega) (by omega) c0
    have ep : (((1 + rp).toNat : Nat) : Int) = 1 + rp := by omega
    have sd := same_upd (o := .tup [.ref t, .int (1 + rp), .int (T0.getD (T0.length - 1) 0 - T0.getD (T0.length - (1 + rp).toNat) 0 + c)]) nd
    have t1 := tb.top (T0.length - 1) (by omega)
    have t2 := tb.nn (T0.length - (1 + rp).toNat) (by omega)
    have t3 := tb.slope rp.toNat (by omega)
    rw [show T0.length - (rp.toNat + 1) = T0.length - (1 + rp).toNat by omega] at t3
    refine k _ d T0 (1 + rp).toNat (T0.getD (T0.length - 1) 0 - T0.getD (T0.length - (1 + rp).toNat) 0 + c) (n' + 1 + 1) (f'.trans (f7.trans ((Same.fr st).trans (f8.trans (Same.fr sd))))) (D8.same sd) (by omega) (by omega) ⟨t, by rw [ep]; exact upd_same, sd _ _ ht8⟩ ok ⟨by omega, by omega, fun i hi => ?_⟩ (by omega) hlen
    have := tb.top i hi
    omega
end
end Sm

set_option Elab.async false
set_option linter.all false
set_option maxRecDepth 100000
set_option maxHeartbeats 16000000
namespace Sm
open PySem PySem.Spec PyProof.Rows L2
open C8 (pss_cut tCut)
theorem RS.vl {M : Int} {T : List Int} {p : Nat} {r : Int} (o : RuleOk T p r) (b : RS M T p r) (hM : 0 ≤ M) : ∀ x : Nat, vl T p r x ≤ M * ((x : Int) + 1) := by
  intro x
  induction x using Nat.strongRecOn with
  | _ x ih =>
    have p0 := o.p0
    have p1 := o.p1
    have r1 := b.r1
    by_cases q : x < T.length
    · rw [vl_lt q]
      have h1 := b.top x q
      have h2 : M * 1 ≤ M * ((x : Int) + 1) := Int.mul_le_mul_of_nonneg_left (by omega) hM
      omega
    · rw [vl_step p0 o.p1 (by omega)]
      have h1 := ih (x - p) (by omega)
      have h2 : M * (((x - p : Nat) : Int) + 1 + 1) ≤ M * ((x : Int) + 1) := Int.mul_le_mul_of_nonneg_left (by omega) hM
      rw [Int.mul_add M (((x - p : Nat) : Int) + 1) 1] at h2
      omega
def vals (T : List Int) (p : Nat) (r : Int) (n : Nat) : List Int := (List.range n).map (vl T p r)
def sp_begin_of (_ : PySem.W.Frag) : Sp := fun vs H Q _ => ∃ (d : Addr) (T : List Int) (p : Nat) (r : Int), vs = [.ref d] ∧ RuleAt H d T p r ∧ p ≤ T.length ∧ Q (.int ((T.length - p : Nat) : Int)) H
def sp_rise_in (_ : PySem.W.Frag) : Sp := fun vs H Q _ => ∃ (d : Addr) (T : List Int) (p : Nat) (r : Int) (t : Nat), vs = [.ref d, .int (t : Int)] ∧ RuleAt H d T p r ∧ RuleOk T p r ∧ RB T p r ∧ Q (.int (r * ((t / p : Nat) : Int))) H
def sp_common_turn (_ : PySem.W.Frag) : Sp := fun vs H Q _ => ∃ (d1 d2 : Addr) (T1 T2 : List Int) (p1 p2 : Nat) (r1 r2 : Int), vs = [.ref d1, .ref d2] ∧ RuleAt H d1 T1 p1 r1 ∧ RuleAt H d2 T2 p2 r2 ∧ p1 ≤ T1.length ∧ p2 ≤ T2.length ∧ p1 ≤ 40 ∧ p2 ≤ 40 ∧
  ∀ H' q, Same H H' → H' q = some (.tup [.int ((max (T1.length - p1) (T2.length - p2) : Nat) : Int), .int ((Nat.lcm p1 p2 : Nat) : Int)]) → Q (.ref q) H'
def sp_values_to (_ : PySem.W.Frag) : Sp := fun vs H Q _ => ∃ (d : Addr) (T : List Int) (p : Nat) (r : Int) (n : Nat), vs = [.ref d, .int (n : Int)] ∧ RuleAt H d T p r ∧ RuleOk T p r ∧ RB T p r ∧ n ≤ 20000 ∧
  ∀ H' q, Same H H' → (∀ b o, H b = some o → b ≠ q) → H' q = some (.lst ((vals T p r n).map V.int)) → Q (.ref q) H'
theorem ps_no {X : Cx} {st : Stmt} : PS X st (fun _ _ _ => False) := by
  constructor
  intros
  contradiction
section
variable {X : Cx}
theorem cr_lcm : CallR X (.builtin "math.lcm") (fun vs H Q => ∃ a b : Nat, vs = [.int (a : Int), .int (b : Int)] ∧ a < 1000000 ∧ b < 1000000 ∧ Q (.int ((Nat.lcm a b : Nat) : Int)) H) := by
  intro pins s σ H vs us Q I r h
  obtain ⟨a, b, rfl, ha, hb, q⟩ := h
  obtain ⟨t, u, rfl⟩ := Vals.int2 r
  refine PySem.W.mc_lcm (by omega) (by omega) fun _ => ?_
  rw [Int.natAbs_natCast, Int.natAbs_natCast]
  exact ⟨.int _, H, I.tok _, ⟨_, rfl⟩, q⟩
end
theorem vals_len (T : List Int) (p : Nat) (r : Int) (n : Nat) : (vals T p r n).length = n := by unfold vals; rw [List.length_map, List.length_range]
theorem vals_get {T : List Int} {p : Nat} {r : Int} {n i : Nat} (h : i < n) : ((vals T p r n).map V.int)[i]? = some (.int (vl T p r i)) := by
  unfold vals
  rw [List.getElem?_map, List.getElem?_map, List.getElem?_range h]
  rfl
theorem vals_take {T : List Int} {p : Nat} {r : Int} {n : Nat} (h : n ≤ T.length) : T.take n = vals T p r n := by
  refine List.ext_getElem? fun i => ?_
  unfold vals
  by_cases q : i < n
  · rw [List.getElem?_take_of_lt q, List.getElem?_map, List.getElem?_range q, List.getElem?_eq_getElem (by omega)]
    show some _ = some (vl T p r i)
    rw [vl_lt (by omega), List.getD_eq_getElem?_getD, List.getElem?_eq_getElem (by omega)]
    rfl
  · rw [List.getElem?_eq_none (by rw [List.length_take]; omega), List.getElem?_eq_none (by rw [List.length_map, List.length_range]; omega)]
theorem vals_succ {T : List Int} {p : Nat} {r : Int} {n : Nat} : vals T p r (n + 1) = vals T p r n ++ [vl T p r n] := by
  unfold vals
  rw [List.range_succ, List.map_append]
  rfl
section
variable {P : Program} {w : World} {K : PySem.W.Frag} {mg : Str → Option Value} {base : Heap}
abbrev s_begin_of : Stmt := topS 23
abbrev N_begin_of : List Str := ["rule"]
theorem sc_begin_of : FnScope N_begin_of ["rule"] (defScope s_begin_of) := ⟨rfl, rfl, rfl, by decide +kernel, rfl, by decide +kernel, by decide +kernel⟩
theorem ok_begin_of (T : Txt mg) (D : Df K mg "begin_of" s_begin_of ["rule"]) : Cal P w K mg base "begin_of" ["rule"] 1 (sp_begin_of K) := by
  refine D.cal sc_begin_of (fun vs H Q E h => ?_) (fun f cdv A outer s H vs Q E hr h => ?_)
  · obtain ⟨d, T0, p, r, rfl, _⟩ := h
    rfl
  obtain ⟨d, T0, p, r, rfl, ⟨t, hd, ht⟩, p1, k⟩ := h
  refine ⟨_, (pss_one (ps_ret (pe_op op_sub (pe_callB call_len_seq (by rfl) T.n_len (by decide +kernel) (pa_cons (pe_ix ix_tup (pv 0) pe_int (fun _ _ => rfl)) pa_nil)) (pe_ix ix_tup (pv 0) pe_int (fun _ _ => rfl))))), ?_⟩
  refine ⟨_, rfl, _, _, _, _, rfl, rfl, SqT.of hd, atI_nat (j := 0) rfl, _, _, rfl, .inr (SqT.of ht), _, rfl, _, _, _, _, rfl, rfl, SqT.of hd, atI_nat (j := 1) rfl, _, _, rfl, rfl, ?_⟩
  have e : (((T0.map V.int).length : Nat) : Int) - (p : Int) = ((T0.length - p : Nat) : Int) := by rw [len_int]; omega
  have k := k
  rw [← e] at k
  exact k
abbrev s_rise_in : Stmt := topS 24
abbrev N_rise_in : List Str := ["rule", "turn"]
theorem sc_rise_in : FnScope N_rise_in ["rule", "turn"] (defScope s_rise_in) := ⟨rfl, rfl, rfl, by decide +kernel, rfl, by decide +kernel, by decide +kernel⟩
theorem ok_rise_in (T : Txt mg) (D : Df K mg "rise_in" s_rise_in ["rule", "turn"]) : Cal P w K mg base "rise_in" ["rule", "turn"] 1 (sp_rise_in K) := by
  refine D.cal sc_rise_in (fun vs H Q E h => ?_) (fun f cdv A outer s H vs Q E hr h => ?_)
  · obtain ⟨d, T0, p, r, t, rfl, _⟩ := h
    rfl
  obtain ⟨d, T0, p, r, n, rfl, ⟨t, hd, ht⟩, o, b, k⟩ := h
  refine ⟨_, (pss_one (ps_ret (pe_op op_mul (pe_ix ix_tup (pv 0) pe_int (fun _ _ => rfl)) (pe_op op_fdivW (pv 1) (pe_ix ix_tup (pv 0) pe_int (fun _ _ => rfl)))))), ?_⟩
  exact ⟨_, rfl, _, _, _, _, rfl, rfl, SqT.of hd, atI_nat (j := 2) rfl, _, rfl, _, rfl, _, _, _, _, rfl, rfl, SqT.of hd, atI_nat (j := 1) rfl, _, _, rfl, rfl, b.div o, _, _, rfl, rfl, b.mulR' o, k⟩
abbrev s_common_turn : Stmt := topS 25
abbrev N_common_turn : List Str := ["one", "other"]
theorem sc_common_turn : FnScope N_common_turn ["one", "other"] (defScope s_common_turn) := ⟨rfl, rfl, rfl, by decide +kernel, rfl, by decide +kernel, by decide +kernel⟩
theorem ok_common_turn (T : Txt mg) (D : Df K mg "common_turn" s_common_turn ["one", "other"]) (C_begin_of : Cal P w K mg base "begin_of" ["rule"] 1 (sp_begin_of K)) : Cal P w K mg base "common_turn" ["one", "other"] 2 (sp_common_turn K) := by
  obtain ⟨f_begin_of, fd_begin_of, G_begin_of, m_begin_of, k_begin_of, b_begin_of⟩ := C_begin_of
  refine D.cal sc_common_turn (fun vs H Q E h => ?_) (fun f cdv A outer s H vs Q E hr h => ?_)
  · obtain ⟨d1, d2, T1, T2, p1, p2, r1, r2, rfl, _⟩ := h
    rfl
  obtain ⟨d1, d2, T1, T2, p1, p2, r1, r2, rfl, R1, R2, l1, l2, b1, b2, k⟩ := h
  obtain ⟨t1, hd1, ht1⟩ := id R1
  obtain ⟨t2, hd2, ht2⟩ := id R2
  refine ⟨_, (pss_one (ps_ret (pe_tup (pa_cons (pe_callB (call_max2 rfl) (by rfl) T.n_max (by decide +kernel) (pa_cons (pe_call G_begin_of (hr.mono (by decide)) (by rfl) m_begin_of k_begin_of b_begin_of .nil pass0 (pa_cons (pv 0) pa_nil)) (pa_cons (pe_call G_begin_of (hr.mono (by decide)) (by rfl) m_begin_of k_begin_of b_begin_of .nil pass0 (pa_cons (pv 1) pa_nil)) pa_nil))) (pa_cons (pe_callBfun cr_lcm (by rfl) T.g_lcm (pa_cons (pe_ix ix_tup (pv 0) pe_int (fun _ _ => rfl)) (pa_cons (pe_ix ix_tup (pv 1) pe_int (fun _ _ => rfl)) pa_nil))) pa_nil))))), ?_⟩
  refine ⟨_, rfl, d1, T1, p1, r1, rfl, R1, l1, _, rfl, d2, T2, p2, r2, rfl, R2, l2, _, _, rfl, ?_⟩
  refine ⟨_, rfl, _, _, _, _, rfl, rfl, SqT.of hd1, atI_nat (j := 1) rfl, _, rfl, _, _, _, _, rfl, rfl, SqT.of hd2, atI_nat (j := 1) rfl, p1, p2, rfl, by omega, by omega, (by show 2 ≤ sizeLine; decide), fun q nq => ?_⟩
  have e : (if ((T2.length - p2 : Nat) : Int) > ((T1.length - p1 : Nat) : Int) then ((T2.length - p2 : Nat) : Int) else ((T1.length - p1 : Nat) : Int)) = ((max (T1.length - p1) (T2.length - p2) : Nat) : Int) := by
    split <;> omega
  refine k _ q (same_upd nq) ?_
  rw [← e]
  exact upd_same
abbrev s_values_to : Stmt := topS 20
abbrev N_values_to : List Str := ["rule", "count", "table", "period", "rise", "values", "x"]
theorem sc_values_to : FnScope N_values_to ["rule", "count"] (defScope s_values_to) := ⟨rfl, rfl, rfl, by decide +kernel, rfl, by decide +kernel, by decide +kernel⟩
theorem ok_values_to (T : Txt mg) (D : Df K mg "values_to" s_values_to ["rule", "count"]) : Cal P w K mg base "values_to" ["rule", "count"] 1 (sp_values_to K) := by
  refine D.cal sc_values_to (fun vs H Q E h => ?_) (fun f cdv A outer s H vs Q E hr h => ?_)
  · obtain ⟨d, T0, p, r, n, rfl, _⟩ := h
    rfl
  obtain ⟨d, T0, p, r, n, rfl, ⟨t, hd, ht⟩, o, b, nb, k⟩ := h
  have p0 := o.p0
  have p1 := o.p1
  have bl := b.len
  have ll := len_int T0
  have lm : (T0.map V.int).length = T0.length := List.length_map ..
  refine ⟨_, (pss_cons (ps_asg (pv 0) (pg_tup (by rfl) (pgs_cons (pg_name (i := 2) sc_values_to.nd rfl (Or.inl rfl)) (pgs_cons (pg_name (i := 3) sc_values_to.nd rfl (Or.inl rfl)) (pgs_cons (pg_name (i := 4) sc_values_to.nd rfl (Or.inl rfl)) pgs_nil)))))
    (pss_cut (ps_set (i := 5) sc_values_to.nd rfl (Or.inl rfl) (pe_callTy call_list_of (by rfl) T.n_list (by decide +kernel) (pa_cons (pe_slice sl_tupA (pv 2) po_none (po_some (pv 1))) pa_nil)))
    (pss_cons (ps_for PassesOwn.never rfl (pi_range2 (by rfl) T.n_range (pa_cons (pe_callB call_len_seq (by rfl) T.n_len (by decide +kernel) (pa_cons (pv 2) pa_nil)) (pa_cons (pv 1) pa_nil))) (pg_name (i := 6) sc_values_to.nd rfl (Or.inl rfl))
      (pss_one (ps_expr (pe_bm PySem.F.plainAttrs_list PySem.F.slot_list_append PySem.F.type_list_append mt_append (pv 5) (pa_cons (pe_op op_add (pe_ix ix_list (pv 5) (pe_op op_sub (pv 6) (pv 3)) (fun _ _ => rfl)) (pv 4)) pa_nil)))))
    (pss_one (ps_ret (pv 5)))))), ?_⟩
  refine ⟨_, rfl, _, _, rfl, SqT.of hd, rfl, _, _, rfl, _, _, rfl, _, _, rfl, rfl, ?_⟩
  refine ⟨fun σ H1 => ∃ q, σ = [some (.ref d), some (.int (n : Int)), some (.ref t), some (.int (p : Int)), some (.int r), some (.ref q), none] ∧ Same H H1 ∧ (∀ b o, H b = some o → b ≠ q) ∧ H1 q = some (.lst ((vals T0 p r (min n T0.length)).map V.int)), ?_, ?_⟩
  · have tk : (T0.map V.int).take n = (vals T0 p r (min n T0.length)).map V.int := by
      rw [← vals_take (Nat.min_le_right ..), ← List.map_take]
      congr 1
      rcases Nat.le_total n T0.length with h | h
      · rw [Nat.min_eq_left h]
      · rw [Nat.min_eq_right h, List.take_length, List.take_of_length_le h]
    refine ⟨_, rfl, _, rfl, _, rfl, _, _, rfl, SqT.of ht, fun wh => ?_, fun _ q1 nq1 => ?_⟩
    · have w2 : (T0.map V.int).take n = T0.map V.int := by
        have := wh.2
        rw [HT.sIx_nat] at this
        exact List.take_of_length_le (by omega)
      refine ⟨_, _, rfl, .inr (SqT.of ht), fun q nq => ⟨q, rfl, same_upd nq, fun b o h => ne_of_none h nq, ?_⟩⟩
      rw [upd_same, ← w2, tk]
    · have s1 := same_upd (o := .tup (cutV (T0.map V.int) none (some (n : Int)))) nq1
      refine ⟨_, _, rfl, .inr (SqT.of upd_same), fun q nq => ⟨q, rfl, s1.trans (same_upd nq), fun b o h => ne_of_none (s1 _ _ h) nq, ?_⟩⟩
      rw [upd_same, cut_all, tk]
  · rintro σ H1 ⟨q, rfl, s1, ne, hq⟩
    have ht1 := s1 _ _ ht
    refine ⟨_, rfl, _, _, rfl, .inr (SqT.of ht1), _, rfl, _, _, rfl, ⟨by rw [ll]; omega, by rw [ll]; omega, by omega, by omega⟩, ?_⟩
    refine for_range (lo := _) (n := _) (fun i σ H2 => ∃ v, σ = [some (.ref d), some (.int (n : Int)), some (.ref t), some (.int (p : Int)), some (.int r), some (.ref q), v] ∧ Same H H2 ∧ H2 q = some (.lst ((vals T0 p r (min n T0.length + i)).map V.int)))
      ⟨none, rfl, s1, hq⟩ ?_ ?_
    · rintro i σ H2 hi ⟨v, rfl, s2, hq2⟩
      rw [ll] at hi
      have hi : T0.length + i < n := by omega
      have em : min n T0.length = T0.length := by omega
      rw [em] at hq2 ⊢
      have e1 : (((T0.map V.int).length : Nat) : Int) + (i : Int) - (p : Int) = ((T0.length + i - p : Nat) : Int) := by rw [ll]; omega
      refine ⟨_, rfl, .inl ⟨rfl, _, SqL.of hq2⟩, _, rfl, _, rfl, _, rfl, _, _, rfl, rfl, _, _, _, _, rfl, rfl, SqL.of hq2, at_of e1 (vals_get (by omega)), _, rfl, _, _, rfl, rfl, q, _, _, rfl, rfl, hq2, ?_, _, rfl, fun b o h => ?_, ?_⟩
      · rw [List.length_map, vals_len]
        exact Nat.lt_of_le_of_lt (show T0.length + i ≤ 20000 by omega) (by decide)
      · rw [upd_ne (ne b o h)]
        exact s2 _ _ h
      · rw [upd_same, ← Nat.add_assoc, vals_succ, List.map_append, vl_step (x := T0.length + i) p0 p1 (by omega)]
        rfl
    · rintro σ H2 ⟨v, rfl, s2, hq2⟩
      refine ⟨_, rfl, k H2 q s2 ne ?_⟩
      rw [hq2, ll]
      congr 4
      omega
end
end Sm

set_option Elab.async false
set_option linter.all false
set_option maxRecDepth 100000
set_option maxHeartbeats 16000000
namespace Sm
open PySem PySem.Spec PyProof.Rows L2
open C8 (pss_cut tCut)
def sp_cycle_of (K : PySem.W.Frag) : Sp := fun vs H Q _ => ∃ (a : Addr) (I : List Int), vs = [.ref a] ∧ H a = some (.lst (I.map V.int)) ∧ 0 < I.length ∧ I.length ≤ 30000 ∧ ∀ H' s, Same H H' → Cyc I s → Q (.int (s : Int)) H'
theorem ints_eqvAll : ∀ I J : List Int, PyData.eqvAll (I.map PyData.int) (J.map PyData.int) = decide (I = J)
  | [], [] => by simp [PyData.eqvAll]
  | [], j :: J => by simp [PyData.eqvAll]
  | i :: I, [] => by simp [PyData.eqvAll]
  | i :: I, j :: J => by
    have := ints_eqvAll I J
    simp only [List.map_cons, PyData.eqvAll, this]
    simp [PyData.eqv]
    rfl
theorem ints_eqv (I J : List Int) : PyData.eqv (.list (I.map PyData.int)) (.list (J.map PyData.int)) = decide (I = J) := by
  rw [← ints_eqvAll]
  simp [PyData.eqv]
theorem ints_shaped (I : List Int) : SeqAt.shaped (.list (I.map PyData.int)) = true := by
  have a : PyData.canLayAll0 (I.map PyData.int) = true := by
    induction I with
    | nil => rfl
    | cons i I ih => simp [PyData.canLayAll0, PyData.canLay0, ih]
  have b := depth_ints I
  have c : PyData.depth (.list (I.map PyData.int)) ≤ 64 := by
    simp only [PyData.depth]
    omega
  simp [SeqAt.shaped, PyData.canLay0, a, c]
section
variable {P : Program} {w : World} {K : PySem.W.Frag} {mg : Str → Option Value} {base : Heap}
abbrev s_cycle_of : Stmt := topS 16
abbrev N_cycle_of : List Str := ["items", "turn"]
theorem sc_cycle_of : FnScope N_cycle_of ["items"] (defScope s_cycle_of) := ⟨rfl, rfl, rfl, by decide +kernel, rfl, by decide +kernel, by decide +kernel⟩
theorem ok_cycle_of (T : Txt mg) (D : Df K mg "cycle_of" s_cycle_of ["items"]) : Cal P w K mg base "cycle_of" ["items"] 1 (sp_cycle_of K) := by
  refine D.cal sc_cycle_of (fun vs H Q E h => ?_) (fun f cdv A outer s H vs Q E hr h => ?_)
  · obtain ⟨a, I, rfl, _⟩ := h
    rfl
  obtain ⟨a, I, rfl, hS, i0, i1, k⟩ := h
  have ll := len_int I
  have lm : (I.map V.int).length = I.length := List.length_map ..
  refine ⟨_, (pss_cons (ps_for PassesOwn.never rfl (pi_range2 (by rfl) T.n_range (pa_cons pe_int (pa_cons (pe_callB call_len_seq (by rfl) T.n_len (by decide +kernel) (pa_cons (pv 0) pa_nil)) pa_nil))) (pg_name (i := 1) sc_cycle_of.nd rfl (Or.inl rfl))
      (pss_one (ps_if (PW.pt (pw_and (pt_cmpR op_eq (pe_op op_modN (pe_callB call_len_seq (by rfl) T.n_len (by decide +kernel) (pa_cons (pv 0) pa_nil)) (pv 1)) pe_int (nomark _)) (pw_and1 (pt_cmpR (op_eqD hr.units) (pv 0) (pe_op op_cat (pe_slice sl_list (pv 0) (po_some (pv 1)) po_none) (pe_slice sl_list (pv 0) po_none (po_some (pv 1)))) (nomark _))))) (pss_one (ps_ret (pv 1))) pss_nil)))
    (pss_one (ps_ret (pe_callB call_len_seq (by rfl) T.n_len (by decide +kernel) (pa_cons (pv 0) pa_nil))))), ?_⟩
  refine ⟨_, rfl, _, _, rfl, .inl (SqL.of hS), _, _, rfl, ⟨by omega, by omega, by rw [ll]; omega, by rw [ll]; omega⟩, ?_⟩
  refine for_range (lo := _) (n := _) (fun i σ H' => ∃ v, σ = [some (.ref a), v] ∧ Same H H' ∧ H' a = some (.lst (I.map V.int)) ∧ ∀ t, 0 < t → t ≤ i → t < I.length → t ∣ I.length → ¬ Rot I t)
    ⟨none, rfl, Same.refl _, hS, fun t h1 h2 => absurd h1 (by omega)⟩ ?_ ?_
  · rintro i σ H' hi ⟨v, rfl, s, hS, least⟩
    rw [ll] at hi
    have hi : 1 + i < I.length := by omega
    have more : (1 + i ∣ I.length → ¬ Rot I (1 + i)) → ∀ t, 0 < t → t ≤ i + 1 → t < I.length → t ∣ I.length → ¬ Rot I t := by
      intro h t h1 h2 h3 h4
      by_cases q : t = 1 + i
      · subst q
        exact h h4
      · exact least t h1 (by omega) h3 h4
    refine ⟨_, rfl, _, _, rfl, .inl (SqL.of hS), _, rfl, _, _, rfl, rfl, (by omega), rfl, _, rfl, ite3 (fun e => ?_) (fun e => ?_)⟩
    · rw [ll] at e
      have dv : 1 + i ∣ I.length := dvd_of (V.int.inj e)
      refine ⟨_, rfl, _, rfl, _, rfl, _, rfl, a, _, rfl, SqL.of hS, fun c nc => ?_⟩
      have e1 : cutV (I.map V.int) (some (1 + (i : Int))) none = (I.drop (1 + i)).map V.int := by
        rw [show (1 : Int) + (i : Int) = ((1 + i : Nat) : Int) by omega, cut_from, List.map_drop]
      have e2 : cutV (I.map V.int) none (some (1 + (i : Int))) = (I.take (1 + i)).map V.int := by
        rw [show (1 : Int) + (i : Int) = ((1 + i : Nat) : Int) by omega, cut_all, List.map_take]
      have s1 := same_upd (o := .lst (cutV (I.map V.int) (some (1 + (i : Int))) none)) nc
      refine ⟨_, rfl, _, rfl, _, rfl, a, _, rfl, SqL.of (s1 _ _ hS), fun d nd => ?_⟩
      have s2 := same_upd (o := .lst (cutV (I.map V.int) none (some (1 + (i : Int))))) nd
      refine ⟨_, _, _, _, rfl, rfl, s2 _ _ upd_same, upd_same, ?_, fun g ng => ?_⟩
      · rw [e1, e2, List.length_map, List.length_map, List.length_drop, List.length_take]
        exact Nat.le_trans (show I.length - (1 + i) + min (1 + i) I.length ≤ 30000 by omega) (by decide)
      rw [e1, e2] at *
      have s3 := same_upd (o := .lst ((I.drop (1 + i)).map V.int ++ (I.take (1 + i)).map V.int)) ng
      have sz := s1.trans (s2.trans s3)
      have hg : ∀ H9 : Hp, H9 = upd (upd (upd H' c (.lst ((I.drop (1 + i)).map V.int))) d (.lst ((I.take (1 + i)).map V.int))) g (.lst ((I.drop (1 + i)).map V.int ++ (I.take (1 + i)).map V.int)) → H9 g = some (.lst ((I.drop (1 + i) ++ I.take (1 + i)).map V.int)) := by
        rintro H9 rfl
        rw [upd_same, List.map_append]
      have hg := hg _ rfl
      generalize upd (upd (upd H' c (.lst ((I.drop (1 + i)).map V.int))) d (.lst ((I.take (1 + i)).map V.int))) g (.lst ((I.drop (1 + i)).map V.int ++ (I.take (1 + i)).map V.int)) = H9 at sz hg ⊢
      refine ⟨dataI I, dataI (I.drop (1 + i) ++ I.take (1 + i)), .lst (SqL.of (sz _ _ hS)) (dp_ints _), .lst (SqL.of hg) (dp_ints _), ints_shaped _, ints_shaped _, ?_⟩
      unfold dataI
      rw [ints_eqv]
      refine ⟨_, rfl, ite3 (fun r => ?_) (fun r => ?_)⟩
      · refine ⟨_, rfl, ?_⟩
        have z : (1 : Int) + (i : Int) = ((1 + i : Nat) : Int) := by omega
        rw [z]
        exact k H9 (1 + i) (s.trans sz) ⟨by omega, by omega, dv, fun _ => r, fun t h1 h2 h3 => least t h1 (by omega) (by omega) h3⟩
      · exact ⟨_, rfl, s.trans sz, sz _ _ hS, more fun _ => r⟩
    · exact iteF ⟨_, rfl, s, hS, more fun dv => absurd (congrArg V.int (by rw [ll]; exact of_dvd dv)) e⟩
  · rintro σ H' ⟨v, rfl, s, hS, least⟩
    rw [ll] at least
    refine ⟨_, rfl, _, _, rfl, .inl (SqL.of hS), ?_⟩
    rw [ll]
    exact k H' I.length s ⟨i0, Nat.le_refl _, Nat.dvd_refl _, fun h => absurd h (Nat.lt_irrefl _), fun t h1 h2 h3 => least t h1 (by omega) (by omega) h3⟩
end
end Sm

set_option Elab.async false
set_option linter.all false
set_option maxRecDepth 100000
set_option maxHeartbeats 16000000
namespace Sm
open PySem PySem.Spec PyProof.Rows L2
open C8 (pss_cut tCut)
theorem steps_split {T : List Int} {p : Nat} {r : Int} (o : RuleW T p r) : ((List.range (p - 1)).map fun i => T.getD (T.length - p + (i + 1)) 0 - T.getD (T.length - p + i) 0) ++ [T.getD (T.length - p + 0) 0 + r - T.getD (T.length - 1) 0] = stepsOf T p r := by
  have p0 := o.p0
  have p1 := o.p1
  obtain ⟨q, rfl⟩ : ∃ q, p = q + 1 := ⟨p - 1, by omega⟩
  unfold stepsOf
  rw [List.range_succ, List.map_append, Nat.add_sub_cancel]
  congr 1
  · refine List.map_congr_left fun i hi => ?_
    have hi := List.mem_range.mp hi
    rw [vl_lt (by omega), vl_lt (by omega), Nat.add_assoc]
  · show [_] = [vl T (q + 1) r (T.length - (q + 1) + q + 1) - vl T (q + 1) r (T.length - (q + 1) + q)]
    have e := vl_add p0 p1 (r := r) (x := T.length - (q + 1)) (Nat.le_refl _)
    rw [show T.length - (q + 1) + q + 1 = T.length - (q + 1) + (q + 1) by omega, e, vl_lt (by omega), vl_lt (by omega), show T.length - (q + 1) + q = T.length - 1 by omega]
    rfl
/-! ### a list or a tuple -/
def SA (H : Hp) (a : Addr) (xs : List V) : Prop := H a = some (.lst xs) ∨ H a = some (.tup xs)
theorem SA.same {H H' : Hp} {a : Addr} {xs : List V} (h : SA H a xs) (s : Same H H') : SA H' a xs := h.imp (s _ _) (s _ _)
theorem SA.sq {K : PySem.W.Frag} {H : Hp} {a : Addr} {xs : List V} (h : SA H a xs) : SqL K H a xs ∨ SqT K H a xs := h.imp SqL.of SqT.of
theorem ix_any {K : PySem.W.Frag} {H : Hp} {a : Addr} {xs : List V} {i : Int} {v : V} {Q : VK} (h : SA H a xs) (g : atI xs i = some v) (q : Q v H) : rIx K (.ref a) (.int i) H Q := by
  rcases h with h | h
  · exact .inl ⟨_, _, _, _, rfl, rfl, SqL.of h, g, q⟩
  · exact .inr (.inl ⟨_, _, _, _, rfl, rfl, SqT.of h, g, q⟩)
theorem sl_any {X : Cx} : SlR X (fun x lo hi H Q => rSlL X.K x lo hi H Q ∨ rSlA X.K x lo hi H Q) := fun pins s σ H x v vl vu lo hi sl Q I rv sw pl pu h => h.elim (sl_list pins s σ H x v vl vu lo hi sl Q I rv sw pl pu) (sl_tupA pins s σ H x v vl vu lo hi sl Q I rv sw pl pu)
theorem sl_anyU {K : PySem.W.Frag} {H : Hp} {a : Addr} {xs : List V} {lo hi : Option Int} {Q : VK} (h : SA H a xs) (q : ∀ u H', Same H H' → SA H' u (cutV xs lo hi) → Q (.ref u) H') : rSlL K (.ref a) lo hi H Q ∨ rSlA K (.ref a) lo hi H Q := by
  rcases h with h | h
  · exact .inl ⟨a, xs, rfl, SqL.of h, fun p np => q p _ (same_upd np) (.inl upd_same)⟩
  · exact .inr (sl_uni h fun u H' s' hu => q u H' s' (.inr hu))
theorem tup_anyU {K : PySem.W.Frag} {H : Hp} {a : Addr} {xs : List V} {Q : VK} (h : SA H a xs) (q : ∀ u H', Same H H' → H' u = some (.tup xs) → Q (.ref u) H') :
    ∃ p ys, [V.ref a] = [V.ref p] ∧ ((SqL K H p ys ∧ ∀ l, H l = none → Q (.ref l) (upd H l (.tup ys))) ∨ (SqT K H p ys ∧ Q (.ref p) H)) := by
  rcases h with h | h
  · exact ⟨a, xs, rfl, .inl ⟨SqL.of h, fun l nl => q l _ (same_upd nl) upd_same⟩⟩
  · exact ⟨a, xs, rfl, .inr ⟨SqT.of h, q a H (Same.refl _) h⟩⟩
def sp_shortest (K : PySem.W.Frag) : Sp := fun vs H Q _ => ∃ (a : Addr) (T : List Int) (p : Nat) (r : Int), vs = [.ref a, .int (p : Int), .int r] ∧ SA H a (T.map V.int) ∧ RuleOk T p r ∧ RB T p r ∧
  ∀ H' d' T' p' r', Same H H' → RuleAt H' d' T' p' r' → Cut T p r T' p' r' → Short T' p' r' → (∀ x, vl T' p' r' x = vl T p r x) → Q (.ref d') H'
section
variable {P : Program} {w : World} {K : PySem.W.Frag} {mg : Str → Option Value} {base : Heap}
abbrev s_shortest : Stmt := topS 15
abbrev N_shortest : List Str := ["table", "period", "rise", "tail", "steps", "turn", "gain", "count", "at"]
theorem sc_shortest : FnScope N_shortest ["table", "period", "rise"] (defScope s_shortest) := ⟨rfl, rfl, rfl, by decide +kernel, rfl, by decide +kernel, by decide +kernel⟩
theorem ok_shortest (T : Txt mg) (D : Df K mg "shortest" s_shortest ["table", "period", "rise"]) (C_cycle_of : Cal P w K mg base "cycle_of" ["items"] 1 (sp_cycle_of K)) : Cal P w K mg base "shortest" ["table", "period", "rise"] 2 (sp_shortest K) := by
  obtain ⟨f_cycle_of, fd_cycle_of, G_cycle_of, m_cycle_of, k_cycle_of, b_cycle_of⟩ := C_cycle_of
  refine D.cal sc_shortest (fun vs H Q E h => ?_) (fun f cdv A outer s H vs Q E hr h => ?_)
  · obtain ⟨a, T0, p, r, rfl, _⟩ := h
    rfl
  obtain ⟨a, T0, p, r, rfl, hS, o, b, k⟩ := h
  have p0 := o.p0
  have p1 := o.p1
  have bl := b.len
  have r0 := o.r0
  have ll := len_int T0
  have lm : (T0.map V.int).length = T0.length := List.length_map ..
  have lo : (((T0.map V.int).length : Nat) : Int) - (p : Int) = ((T0.length - p : Nat) : Int) := by rw [ll]; omega
  refine ⟨_, (pss_cons (ps_set (i := 3) sc_shortest.nd rfl (Or.inr rfl) (pe_slice sl_any (pv 0) (po_some (pe_op op_sub (pe_callB call_len_seq (by rfl) T.n_len (by decide +kernel) (pa_cons (pv 0) pa_nil)) (pv 1))) po_none))
    (pss_cons (ps_setLc (i := 4) (own := [("at", 8)]) (g := gName 8) (tt := tYes) rfl sc_shortest.nd rfl rfl (sw_true rfl rfl rfl (by decide +kernel)) (pi_range1 (by rfl) T.n_range (pa_cons (pe_op op_sub (pv 1) pe_int) pa_nil)) (blkOk_by (own := [("at", 8)]) (N := N_shortest) (sc := defScope s_shortest) (by decide +kernel)) (fun _ _ _ _ _ => pg_name (i := 8) sc_shortest.nd rfl (Or.inl rfl)) (fun _ _ _ _ _ => pts_nil) (fun _ _ _ _ _ => (pe_op op_sub (pe_ix (show IxR _ (rIx K) from ix_seq) (pv 3) (pe_op op_add (pv 8) pe_int) (fun _ _ => rfl)) (pe_ix (show IxR _ (rIx K) from ix_seq) (pv 3) (pv 8) (fun _ _ => rfl)))))
    (pss_cons (ps_set (i := 5) sc_shortest.nd rfl (Or.inl rfl) (pe_call G_cycle_of (hr.mono (by decide)) (by rfl) m_cycle_of k_cycle_of b_cycle_of .nil pass0 (pa_cons (pe_op op_cat (pv 4) (pe_lst (pa_cons (pe_op op_sub (pe_op op_add (pe_ix ix_seq (pv 3) pe_int (fun _ _ => rfl)) (pv 2)) (pe_ix ix_seq (pv 3) (pe_un un_neg pe_int) (fun _ _ => rfl))) pa_nil))) pa_nil)))
    (pss_cons (ps_set (i := 6) sc_shortest.nd rfl (Or.inl rfl) (pe_op op_fdivW (pe_op op_mul (pv 2) (pv 5)) (pv 1)))
    (pss_cons (ps_set (i := 7) sc_shortest.nd rfl (Or.inl rfl) (pe_callB call_len_seq (by rfl) T.n_len (by decide +kernel) (pa_cons (pv 0) pa_nil)))
    (pss_cons (ps_while PassesOwn.never (PW.pt (pw_and (pt_cmpR op_gt (pv 7) (pv 5) (nomark _)) (pw_and1 (pt_cmpR op_eq (pe_ix ix_seq (pv 0) (pe_op op_sub (pv 7) pe_int) (fun _ _ => rfl)) (pe_op op_add (pe_ix ix_seq (pv 0) (pe_op op_sub (pe_op op_sub (pv 7) pe_int) (pv 5)) (fun _ _ => rfl)) (pv 6)) (nomark _)))))
      (pss_one (ps_aug (i := 7) sc_shortest.nd rfl (Or.inl rfl) pe_int ip_sub)))
    (pss_one (ps_ret (pe_tup (pa_cons (pe_callTy call_tuple_of (by rfl) T.n_tuple (by decide +kernel) (pa_cons (pe_slice sl_any (pv 0) po_none (po_some (pv 7))) pa_nil)) (pa_cons (pv 5) (pa_cons (pv 6) pa_nil)))))))))))), ?_⟩
  refine ⟨_, rfl, _, rfl, _, _, rfl, hS.sq, _, rfl, _, _, rfl, rfl, _, rfl, ?_⟩
  rw [lo]
  refine sl_anyU hS fun c H1 s1 hc => ?_
  rw [cut_from, ← List.map_drop] at hc
  have tl : (T0.drop (T0.length - p)).length = p := by rw [List.length_drop]; omega
  have tg : ∀ i, i < p → ((T0.drop (T0.length - p)).map V.int)[i]? = some (.int (T0.getD (T0.length - p + i) 0)) := by
    intro i hi
    rw [List.getElem?_map, List.getElem?_drop, List.getElem?_eq_getElem (by omega), List.getD_eq_getElem?_getD, List.getElem?_eq_getElem (by omega)]
    rfl
  have cnt : ((p : Int) - 1).toNat = p - 1 := by omega
  refine ⟨_, rfl, _, _, rfl, rfl, _, rfl, (by omega), (by omega), fun D nD => ?_⟩
  rw [cnt]
  have sD := same_upd (o := .lst []) nD
  refine lc_range (lo := 0) (n := p - 1) (fun j H' => Same H1 H' ∧ H' D = some (.lst (((List.range j).map fun i => T0.getD (T0.length - p + (i + 1)) 0 - T0.getD (T0.length - p + i) 0).map V.int))) ⟨sD, upd_same⟩ ?_ ?_
  · rintro j H' hj ⟨s', hD⟩
    refine ⟨rfl, ?_⟩
    unfold tYes
    refine iteT ?_
    have e1 : (0 : Int) + (j : Int) + 1 = ((j + 1 : Nat) : Int) := by omega
    have e0 : (0 : Int) + (j : Int) = (j : Int) := Int.zero_add _
    refine ⟨_, rfl, _, rfl, _, _, rfl, rfl, ix_any (hc.same s') (at_of e1 (tg (j + 1) (by omega))) ⟨_, rfl, _, rfl, ix_any (hc.same s') (at_of e0 (tg j (by omega))) ⟨_, _, rfl, rfl, _, hD, ?_, fun b o e => ?_, ?_⟩⟩⟩
    · rw [List.length_map, List.length_map, List.length_range]
      exact Nat.lt_of_le_of_lt (show j ≤ 30000 by omega) (by decide)
    · rw [upd_ne (ne_of_none e nD)]
      exact s' _ _ e
    · rw [upd_same, List.range_succ, List.map_append, List.map_append]
      rfl
  rintro H2 ⟨s2, hD⟩
  have hc2 := hc.same s2
  have g0 := tg 0 p0
  have gl := tg (p - 1) (by omega)
  rw [show T0.length - p + (p - 1) = T0.length - 1 by omega] at gl
  refine ⟨_, rfl, _, rfl, ix_any hc2 (atI_nat (j := 0) g0) ⟨_, rfl, _, _, rfl, rfl, _, rfl, _, rfl, ix_any hc2 (atI_neg1 (by rw [List.length_map, tl]; exact p0) (by rw [List.length_map, tl]; exact gl)) ⟨_, _, rfl, rfl, (by show 1 ≤ sizeLine; decide), fun e ne => ?_⟩⟩⟩
  have se := same_upd (o := .lst [.int (T0.getD (T0.length - p + 0) 0 + r - T0.getD (T0.length - 1) 0)]) ne
  refine ⟨_, _, _, _, rfl, rfl, se _ _ hD, upd_same, ?_, fun g ng => ?_⟩
  · rw [List.length_map, List.length_map, List.length_range]
    exact Nat.le_trans (show p - 1 + 1 ≤ 30000 by omega) (by decide)
  have sg := same_upd (o := .lst ((((List.range (p - 1)).map fun i => T0.getD (T0.length - p + (i + 1)) 0 - T0.getD (T0.length - p + i) 0).map V.int) ++ [.int (T0.getD (T0.length - p + 0) 0 + r - T0.getD (T0.length - 1) 0)])) ng
  have hg : ∀ H9 : Hp, H9 g = some (.lst ((((List.range (p - 1)).map fun i => T0.getD (T0.length - p + (i + 1)) 0 - T0.getD (T0.length - p + i) 0).map V.int) ++ [.int (T0.getD (T0.length - p + 0) 0 + r - T0.getD (T0.length - 1) 0)])) → H9 g = some (.lst ((stepsOf T0 p r).map V.int)) := by
    intro H9 h
    rw [h, ← steps_split o.w, List.map_append]
    rfl
  have s3 := s1.trans (s2.trans (se.trans sg))
  refine ⟨g, stepsOf T0 p r, rfl, hg _ upd_same, by rw [stepsOf_len]; exact p0, by rw [stepsOf_len]; omega, fun H3 s s4 cyc => ?_⟩
  obtain ⟨s0, sp, sd, hs, hm⟩ := cyc_rule o cyc
  have sz := s3.trans s4
  have hS3 := hS.same sz
  refine ⟨_, rfl, _, rfl, _, _, rfl, rfl, b.mulR' o, _, rfl, _, _, rfl, rfl, b.div o, _, rfl, _, _, rfl, hS3.sq, ?_⟩
  have c0 : 0 ≤ r * (s : Int) / (p : Int) := Int.ediv_nonneg (Int.mul_nonneg r0 (by omega)) (by omega)
  have c1 : r * (s : Int) / (p : Int) ≤ r := by
    have h1 : r * (s : Int) ≤ r * (p : Int) := Int.mul_le_mul_of_nonneg_left (by omega) r0
    have h2 := Int.ediv_le_ediv (show (0 : Int) < (p : Int) by omega) h1
    rw [Int.mul_ediv_cancel _ (by omega)] at h2
    exact h2
  have all := rep_all o hs
  obtain ⟨cc, ec⟩ : ∃ cc, cc = r * (s : Int) / (p : Int) := ⟨_, rfl⟩
  rw [← ec] at c0 c1 all
  refine ⟨fun m σ H' => σ = [some (.ref a), some (.int (p : Int)), some (.int r), some (.ref c), some (.ref D), some (.int (s : Int)), some (.int cc), some (.int ((m + s : Nat) : Int)), none] ∧ H' = H3 ∧ m + s ≤ T0.length ∧ ∀ y, m ≤ y → vl T0 p r (y + s) = vl T0 p r y + cc, ⟨T0.length - s, ?_, rfl, by omega, fun y hy => all y (by omega)⟩, ?_⟩
  · rw [ec, show T0.length - s + s = T0.length by omega, ← ll]
    rfl
  rintro m σ H' ⟨rfl, rfl, al, ha⟩
  have fin : (m = 0 ∨ vl T0 p r (m - 1 + s) ≠ T0.getD (m - 1) 0 + cc) → ∀ (H5 : Hp) (t' : Addr), Same H' H5 → H5 t' = some (.tup ((T0.take (m + s)).map V.int)) → ∀ q, H5 q = none → Q (.ref q) (upd H5 q (.tup [.ref t', .int (s : Int), .int cc])) := by
    intro st H5 t' sm h5 q nq
    have sq := same_upd (o := .tup [.ref t', .int (s : Int), .int cc]) nq
    have am : m ≤ T0.length - p := by
      rcases Nat.lt_or_ge (T0.length - p) m with w | w
      · exfalso
        rcases st with z | z
        · omega
        · apply z
          rw [all (m - 1) (by omega), vl_lt (by omega)]
      · exact w
    refine k _ q (T0.take (m + s)) s cc (sz.trans (sm.trans sq)) ⟨t', upd_same, sq _ _ h5⟩ ⟨?_, sp, c1, fun i hi => ?_⟩ (cut_short o s0 sd am c0 ha hm st) (cut_vl s0 (by omega) ha)
    · rw [List.length_take]
      omega
    · rw [List.length_take] at hi
      exact getD_take (by omega)
  have cx : cutV (T0.map V.int) none (some ((m + s : Nat) : Int)) = (T0.take (m + s)).map V.int := by rw [cut_all, List.map_take]
  refine ⟨_, rfl, _, rfl, _, _, rfl, rfl, _, rfl, ?_⟩
  by_cases e : ((m + s : Nat) : Int) > (s : Int)
  · have e1 : ((m + s : Nat) : Int) - 1 = ((m + s - 1 : Nat) : Int) := by omega
    have e2 : ((m + s : Nat) : Int) - 1 - (s : Int) = ((m - 1 : Nat) : Int) := by omega
    refine iteP e ⟨_, rfl, _, rfl, _, _, rfl, rfl, ix_any hS3 (at_of e1 (get_int (by omega))) ⟨_, rfl, _, rfl, _, _, rfl, rfl, _, rfl, _, _, rfl, rfl, ix_any hS3 (at_of e2 (get_int (by omega))) ⟨_, rfl, _, _, rfl, rfl, rfl, _, rfl, ?_⟩⟩⟩
    have e4 : vl T0 p r (m - 1 + s) = T0.getD (m + s - 1) 0 := by rw [show m - 1 + s = m + s - 1 by omega, vl_lt (by omega)]
    by_cases e3 : T0.getD (m + s - 1) 0 = T0.getD (m - 1) 0 + cc
    · refine iteP (congrArg V.int e3) ⟨fun σ H'' => σ = [some (.ref a), some (.int (p : Int)), some (.int r), some (.ref c), some (.ref D), some (.int (s : Int)), some (.int cc), some (.int ((m - 1 + s : Nat) : Int)), none] ∧ H'' = H' ∧ m - 1 + s ≤ T0.length ∧ ∀ y, m - 1 ≤ y → vl T0 p r (y + s) = vl T0 p r y + cc, fun σ' H3 hw => ⟨m - 1, by omega, hw⟩, ?_⟩
      have e5 : ((m + s : Nat) : Int) - 1 = ((m - 1 + s : Nat) : Int) := by omega
      refine ⟨_, rfl, _, _, rfl, rfl, ⟨by rw [← e5]; rfl, rfl, by omega, fun y hy => ?_⟩⟩
      by_cases q : y = m - 1
      · rw [q, e4, e3, vl_lt (by omega)]
      · exact ha y (by omega)
    · refine iteN (fun q => e3 (V.int.inj q)) ?_
      refine ⟨_, rfl, _, rfl, _, rfl, sl_anyU hS3 fun g H5 s5 hg => ?_⟩
      rw [cx] at hg
      rcases hg with hg | hg
      · refine ⟨_, _, rfl, .inl ⟨SqL.of hg, fun t' nt => ⟨_, rfl, _, rfl, (by show 3 ≤ sizeLine; decide), fun q nq => ?_⟩⟩⟩
        exact fin (.inr (by rw [e4]; exact e3)) _ t' (s5.trans (same_upd nt)) upd_same q nq
      · refine ⟨_, _, rfl, .inr ⟨SqT.of hg, _, rfl, _, rfl, (by show 3 ≤ sizeLine; decide), fun q nq => ?_⟩⟩
        exact fin (.inr (by rw [e4]; exact e3)) _ g s5 hg q nq
  · refine iteN e (iteF ?_)
    refine ⟨_, rfl, _, rfl, _, rfl, sl_anyU hS3 fun g H5 s5 hg => ?_⟩
    rw [cx] at hg
    rcases hg with hg | hg
    · refine ⟨_, _, rfl, .inl ⟨SqL.of hg, fun t' nt => ⟨_, rfl, _, rfl, (by show 3 ≤ sizeLine; decide), fun q nq => ?_⟩⟩⟩
      exact fin (.inl (by omega)) _ t' (s5.trans (same_upd nt)) upd_same q nq
    · refine ⟨_, _, rfl, .inr ⟨SqT.of hg, _, rfl, _, rfl, (by show 3 ≤ sizeLine; decide), fun q nq => ?_⟩⟩
      exact fin (.inl (by omega)) _ g s5 hg q nq
end
end Sm

set_option Elab.async false
set_option linter.all false
set_option maxRecDepth 100000
set_option maxHeartbeats 16000000
namespace Sm
open PySem PySem.Spec PyProof.Rows L2
open C8 (pss_cut tCut)
abbrev s_TooLong_init : Stmt := inClass (topS 8) 0
abbrev N_TooLong_init : List Str := ["self", "number"]
theorem sc_TooLong_init : FnScope N_TooLong_init ["self", "number"] (defScope s_TooLong_init) := ⟨rfl, rfl, rfl, by decide +kernel, rfl, by decide +kernel, by decide +kernel⟩
/-- TooLong(n) in the air -/
def Lng (c : Addr) (n : Int) (H : Hp) (E : XK) : Prop := ∀ H' d, Same H H' → H' d = some (.xd [(("number" : Str), .int n)]) → E (.ref c) (some d) H'
def sp_check_told (c : Addr) : Sp := fun vs H Q E => ∃ n : Int, vs = [.int n] ∧ (n ≤ 5000 → Q .non H) ∧ (5000 < n → Lng c n H E)
def sp_toldX (c : Addr) : Sp := fun vs H Q E => ∃ (a : Addr) (T : List Int) (p : Nat) (r : Int), vs = [.ref a, .int (p : Int), .int r] ∧ SA H a (T.map V.int) ∧ RuleOk T p r ∧ RB T p r ∧
  ∀ H' d' T' p' r', Same H H' → RuleAt H' d' T' p' r' → Cut T p r T' p' r' → Short T' p' r' → (∀ x, vl T' p' r' x = vl T p r x) → (T'.length ≤ 5000 → Q (.ref d') H') ∧ (5000 < T'.length → Lng c (T'.length : Int) H' E)
section
variable {P : Program} {w : World} {K : PySem.W.Frag} {mg : Str → Option Value} {base : Heap} {cTooLong fB : Addr}
theorem ok_TooLong_init {fd : FuncData} (F : Fun K "__init__" "TooLong.__init__" s_TooLong_init fB fd) : FnOk P w K mg base CX0 1 fB fd ["self", "number"] (sp_init K "number") := by
  refine F.ok sc_TooLong_init (fun vs H Q E h => ?_) (fun cdv A outer s H vs Q E hr h => ?_)
  · obtain ⟨a, C, v, rfl, _⟩ := h
    rfl
  obtain ⟨a, C, v, rfl, T, no, ha, k⟩ := h
  refine ⟨_, pss_one (ps_ost (pv 0) (pv 1)), ?_⟩
  exact ⟨_, rfl, _, rfl, a, C, rfl, T, no, .inl ⟨ha, k⟩⟩
abbrev s_check_told : Stmt := topS 18
abbrev N_check_told : List Str := ["number"]
theorem sc_check_told : FnScope N_check_told ["number"] (defScope s_check_told) := ⟨rfl, rfl, rfl, by decide +kernel, rfl, by decide +kernel, by decide +kernel⟩
theorem ok_check_told (T : Txt mg) (XTooLong : XVal K mg "TooLong" "number" cTooLong fB) (iTooLong : IniF K "TooLong.__init__" "number" s_TooLong_init fB) (D : Df K mg "check_told" s_check_told ["number"]) : CalX P w K mg base "check_told" ["number"] 3 (sp_check_told cTooLong) := by
  obtain ⟨fdI, FI, b_TooLong_init⟩ := iTooLong
  have G_TooLong_init : FnOk P w K mg base CX0 1 fB fdI ["self", "number"] (sp_init K "number") := ok_TooLong_init FI
  obtain ⟨f, fd, F, m, b⟩ := D
  refine ⟨f, fd, F.okX sc_check_told (fun vs H Q E h => ?_) (fun cdv A outer s H vs Q E hr h => ?_), m, F.kp, b⟩
  · obtain ⟨n, rfl, _⟩ := h
    rfl
  obtain ⟨n, rfl, k1, k2⟩ := h
  obtain ⟨_, hMAX_TOLD⟩ := T.c_MAX_TOLD
  refine ⟨_, (pss_one (ps_if (pt_cmpR op_gt (pv 0) (pe_glob (v := .int 5000) rfl hMAX_TOLD ⟨_, rfl⟩) (nomark _)) (pss_one (ps_raise rfl (takes_of rfl rfl rfl rfl) (pmk_oex XTooLong.oex XTooLong.iC XTooLong.tI G_TooLong_init (hr.mono (by decide)) b_TooLong_init .nil pass0 (by rfl) XTooLong.g (pa_cons (pv 0) pa_nil)))) pss_nil)), ?_⟩
  refine ⟨_, rfl, _, _, rfl, rfl, _, rfl, ite3 (fun e => ?_) (fun e => k1 (by omega))⟩
  refine xc_mk XTooLong.oex XTooLong.no ⟨_, rfl, V.int n, rfl, fun d H2 s2 hd => k2 (by omega) H2 d s2 hd⟩ (fun h z => ?_)
  obtain ⟨v, e, q⟩ := z
  exact ⟨v, e, h _ _ q⟩
abbrev s_told : Stmt := topS 17
abbrev N_told : List Str := ["table", "period", "rise", "rule"]
theorem sc_told : FnScope N_told ["table", "period", "rise"] (defScope s_told) := ⟨rfl, rfl, rfl, by decide +kernel, rfl, by decide +kernel, by decide +kernel⟩
theorem ok_told (T : Txt mg) (D : Df K mg "told" s_told ["table", "period", "rise"]) (C_check_told : CalX P w K mg base "check_told" ["number"] 3 (sp_check_told cTooLong)) (C_shortest : Cal P w K mg base "shortest" ["table", "period", "rise"] 2 (sp_shortest K)) : CalX P w K mg base "told" ["table", "period", "rise"] 4 (sp_toldX cTooLong) := by
  obtain ⟨f_check_told, fd_check_told, G_check_told, m_check_told, k_check_told, b_check_told⟩ := C_check_told
  obtain ⟨f_shortest, fd_shortest, G_shortest, m_shortest, k_shortest, b_shortest⟩ := C_shortest
  obtain ⟨f, fd, F, m, b⟩ := D
  refine ⟨f, fd, F.okX sc_told (fun vs H Q E h => ?_) (fun cdv A outer s H vs Q E hr h => ?_), m, F.kp, b⟩
  · obtain ⟨a, T0, p, r, rfl, _⟩ := h
    rfl
  obtain ⟨a, T0, p, r, rfl, hS, o, b, k⟩ := h
  have bl := b.len
  refine ⟨_, (pss_cons (ps_set (i := 3) sc_told.nd rfl (Or.inl rfl) (pe_call G_shortest (hr.mono (by decide)) (by rfl) m_shortest k_shortest b_shortest .nil pass0 (pa_cons (pv 0) (pa_cons (pv 1) (pa_cons (pv 2) pa_nil)))))
    (pss_cons (ps_expr (pe_callS G_check_told (hr.mono (by decide)) rfl m_check_told k_check_told b_check_told (fun σ => passAt (takes_of rfl rfl rfl rfl) σ) (pa_cons (pe_callB call_len_seq (by rfl) T.n_len (by decide +kernel) (pa_cons (pe_ix ix_tup (pv 3) pe_int (fun _ _ => rfl)) pa_nil)) pa_nil)))
    (pss_one (ps_ret (pv 3))))), ?_⟩
  refine ⟨_, rfl, _, rfl, _, rfl, a, T0, p, r, rfl, hS, o, b, fun H1 d' T' p' r' s1 R cut sh hv => ?_⟩
  obtain ⟨t, hd, ht⟩ := id R
  obtain ⟨k1, k2⟩ := k H1 d' T' p' r' s1 R cut sh hv
  refine ⟨_, rfl, _, _, _, _, rfl, rfl, SqT.of hd, atI_nat (j := 0) rfl, _, _, rfl, .inr (SqT.of ht), _, rfl, fun e => ?_, fun e => ?_⟩
  · rw [len_int] at e
    exact ⟨_, rfl, k1 (by omega)⟩
  · rw [len_int] at e ⊢
    exact k2 (by omega)
end
end Sm

set_option Elab.async false
set_option linter.all false
set_option maxRecDepth 100000
set_option maxHeartbeats 16000000
namespace Sm
open PySem PySem.Spec PyProof.Rows L2
open C8 (pss_cut tCut)
/-- the table of the greater values -/
def gtab (T1 : List Int) (p1 : Nat) (r1 : Int) (T2 : List Int) (p2 : Nat) (r2 : Int) (n : Nat) : List Int := (List.range n).map fun x => max (vl T1 p1 r1 x) (vl T2 p2 r2 x)
/-- told: the rule of the table, or TooLong with its length -/
def Told (c : Addr) (T : List Int) (p : Nat) (r : Int) (H : Hp) (Q : VK) (E : XK) : Prop := ∀ H' d' T' p' r', Same H H' → RuleAt H' d' T' p' r' → Cut T p r T' p' r' → Short T' p' r' → (∀ x, vl T' p' r' x = vl T p r x) → (T'.length ≤ 5000 → Q (.ref d') H') ∧ (5000 < T'.length → Lng c (T'.length : Int) H' E)
def sp_greater (c : Addr) : Sp := fun vs H Q E => ∃ (d1 d2 : Addr) (T1 T2 : List Int) (p1 p2 n k : Nat) (r1 r2 : Int), vs = [.ref d1, .ref d2, .int (n : Int), .int ((k * p1 : Nat) : Int)] ∧ RuleAt H d1 T1 p1 r1 ∧ RuleAt H d2 T2 p2 r2 ∧ RuleOk T1 p1 r1 ∧ RuleOk T2 p2 r2 ∧ RB T1 p1 r1 ∧ RB T2 p2 r2 ∧ n ≤ 5000 ∧
  RuleOk (gtab T1 p1 r1 T2 p2 r2 n) (k * p1) (r1 * (k : Int)) ∧ RB (gtab T1 p1 r1 T2 p2 r2 n) (k * p1) (r1 * (k : Int)) ∧ Told c (gtab T1 p1 r1 T2 p2 r2 n) (k * p1) (r1 * (k : Int)) H Q E
theorem max_if {a b : Int} : (if b > a then b else a) = max a b := by
  split <;> omega
section
variable {P : Program} {w : World} {K : PySem.W.Frag} {mg : Str → Option Value} {base : Heap} {cTooLong fB : Addr}
abbrev s_greater_values : Stmt := topS 30
abbrev N_greater_values : List Str := ["one", "other", "count", "turn", "left", "right", "x"]
theorem sc_greater_values : FnScope N_greater_values ["one", "other", "count", "turn"] (defScope s_greater_values) := ⟨rfl, rfl, rfl, by decide +kernel, rfl, by decide +kernel, by decide +kernel⟩
theorem ok_greater_values (T : Txt mg) (D : Df K mg "greater_values" s_greater_values ["one", "other", "count", "turn"]) (C_told : CalX P w K mg base "told" ["table", "period", "rise"] 4 (sp_toldX cTooLong)) (C_rise_in : Cal P w K mg base "rise_in" ["rule", "turn"] 1 (sp_rise_in K)) (C_values_to : Cal P w K mg base "values_to" ["rule", "count"] 1 (sp_values_to K)) : CalX P w K mg base "greater_values" ["one", "other", "count", "turn"] 5 (sp_greater cTooLong) := by
  obtain ⟨f_told, fd_told, G_told, m_told, k_told, b_told⟩ := C_told
  obtain ⟨f_rise_in, fd_rise_in, G_rise_in, m_rise_in, k_rise_in, b_rise_in⟩ := C_rise_in
  obtain ⟨f_values_to, fd_values_to, G_values_to, m_values_to, k_values_to, b_values_to⟩ := C_values_to
  obtain ⟨f, fd, F, m, b⟩ := D
  refine ⟨f, fd, F.okX sc_greater_values (fun vs H Q E h => ?_) (fun cdv A outer s H vs Q E hr h => ?_), m, F.kp, b⟩
  · obtain ⟨d1, d2, T1, T2, p1, p2, n, k, r1, r2, rfl, _⟩ := h
    rfl
  obtain ⟨d1, d2, T1, T2, p1, p2, n, kt, r1, r2, rfl, R1, R2, o1, o2, b1, b2, nb, og, bg, k⟩ := h
  refine ⟨_, (pss_cons (ps_set (i := 4) sc_greater_values.nd rfl (Or.inr rfl) (pe_call G_values_to (hr.mono (by decide)) (by rfl) m_values_to k_values_to b_values_to .nil pass0 (pa_cons (pv 0) (pa_cons (pv 2) pa_nil))))
    (pss_cons (ps_set (i := 5) sc_greater_values.nd rfl (Or.inr rfl) (pe_call G_values_to (hr.mono (by decide)) (by rfl) m_values_to k_values_to b_values_to .nil pass0 (pa_cons (pv 1) (pa_cons (pv 2) pa_nil))))
    (pss_one (ps_ret (pe_callS G_told (hr.mono (by decide)) rfl m_told k_told b_told (fun σ => passAt (takes_of rfl rfl rfl rfl) σ) (pa_cons (pe_lc (own := [("x", 6)]) (g := gName 6) (tt := tYes) rfl sc_greater_values.nd (pi_range1 (by rfl) T.n_range (pa_cons (pv 2) pa_nil)) (blkOk_by (own := [("x", 6)]) (N := N_greater_values) (sc := defScope s_greater_values) (by decide +kernel)) (fun _ _ _ _ _ => pg_name (i := 6) sc_greater_values.nd rfl (Or.inl rfl)) (fun _ _ _ _ _ => pts_nil) (fun _ _ _ _ _ => (pe_callB (call_max2 rfl) (by rfl) T.n_max (by decide +kernel) (pa_cons (pe_ix (show IxR _ (rIxL K) from ix_list) (pv 4) (pv 6) (fun _ _ => rfl)) (pa_cons (pe_ix (show IxR _ (rIxL K) from ix_list) (pv 5) (pv 6) (fun _ _ => rfl)) pa_nil))))) (pa_cons (pv 3) (pa_cons (pe_call G_rise_in (hr.mono (by decide)) (by rfl) m_rise_in k_rise_in b_rise_in .nil pass0 (pa_cons (pv 0) (pa_cons (pv 3) pa_nil))) pa_nil)))))))), ?_⟩
  refine ⟨_, rfl, _, rfl, d1, T1, p1, r1, n, rfl, R1, o1, b1, (by omega), fun HA qa sA neA hqa => ?_⟩
  refine ⟨_, rfl, _, rfl, d2, T2, p2, r2, n, rfl, R2.same sA, o2, b2, (by omega), fun HB qb sB neB hqb => ?_⟩
  have hqa2 := sB _ _ hqa
  have s2 := sA.trans sB
  refine ⟨_, rfl, _, rfl, by omega, by omega, fun U nU => ?_⟩
  have sU := same_upd (o := .lst []) nU
  rw [Int.toNat_natCast]
  refine lc_range (lo := 0) (n := n) (fun j H' => Same HB H' ∧ H' U = some (.lst ((gtab T1 p1 r1 T2 p2 r2 j).map V.int))) ⟨sU, upd_same⟩ ?_ ?_
  · rintro j H' hj ⟨s', hU⟩
    refine ⟨rfl, ?_⟩
    unfold tYes
    refine iteT ?_
    refine ⟨_, rfl, _, rfl, _, _, _, _, rfl, rfl, SqL.of (s' _ _ hqa2), at_of (j := j) (Int.zero_add _) (vals_get hj), _, rfl, _, rfl, _, _, _, _, rfl, rfl, SqL.of (s' _ _ hqb), at_of (j := j) (Int.zero_add _) (vals_get hj), _, _, rfl, _, hU, ?_, fun b o e => ?_, ?_⟩
    · unfold gtab
      rw [List.length_map, List.length_map, List.length_range]
      exact Nat.lt_of_le_of_lt (show j ≤ 5000 by omega) (by decide)
    · rw [upd_ne (ne_of_none e nU)]
      exact s' _ _ e
    · rw [upd_same, max_if]
      unfold gtab
      rw [List.range_succ, List.map_append, List.map_append]
      rfl
  rintro H3 ⟨s3, hU⟩
  have s13 := s2.trans s3
  refine ⟨_, rfl, _, rfl, _, rfl, d1, T1, p1, r1, kt * p1, rfl, R1.same s13, o1, b1, ?_⟩
  rw [Nat.mul_div_cancel _ o1.p0]
  exact ⟨U, _, _, _, rfl, .inl hU, og, bg, fun H' d' T' p' r' s' R c sh hv => k H' d' T' p' r' (s13.trans s') R c sh hv⟩
end
end Sm

set_option Elab.async false
set_option linter.all false
set_option maxRecDepth 100000
set_option maxHeartbeats 16000000
namespace Sm
open PySem PySem.Spec PyProof.Rows L2
open C8 (pss_cut tCut)
def sp_last_above (_ : PySem.W.Frag) : Sp := fun vs H Q _ => ∃ (d1 d2 : Addr) (T1 T2 : List Int) (p1 p2 : Nat) (r1 r2 : Int), vs = [.ref d1, .ref d2] ∧ RuleAt H d1 T1 p1 r1 ∧ RuleAt H d2 T2 p2 r2 ∧ RuleOk T1 p1 r1 ∧ RuleOk T2 p2 r2 ∧ RS 10000000000000 T1 p1 r1 ∧ RS 10000000000000 T2 p2 r2 ∧ r1 * (p2 : Int) < r2 * (p1 : Int) ∧
  ∀ H' L, Same H H' → IsLast (fun x => vl T1 p1 r1 x - vl T2 p2 r2 x) L → Q (.int L) H'
theorem maxDef_set {K : PySem.W.Frag} {σ : L2.St} {U : Addr} {ns : List Int} {i : Int} {H : Hp} {Q : VK} (hU : H U = some (.lst (ns.map V.int))) (h0 : ns = [] → Q (.int i) H) (h1 : ∀ m, m ∈ ns → (∀ y, y ∈ ns → y ≤ m) → Q (.int m) H) : tNil σ H (fun xs H2 => rMaxDef K i (V.ref U :: xs) H2 Q) :=
  ⟨U, ns, rfl, SqL.of hU, h0, h1⟩
theorem late_pos {d : Nat → Int} {B t j : Nat} {g : Int} (h : 0 < d (B + j)) : lateL d B t g (j + 1) = lateL d B t g j ++ [((B + j : Nat) : Int) + (t : Int) * ((d (B + j) - 1) / g)] := by
  unfold lateL
  rw [List.range_succ, List.filter_append, List.map_append, List.filter_cons_of_pos (by exact decide_eq_true h)]
  rfl
theorem late_neg {d : Nat → Int} {B t j : Nat} {g : Int} (h : ¬ 0 < d (B + j)) : lateL d B t g (j + 1) = lateL d B t g j := by
  unfold lateL
  rw [List.range_succ, List.filter_append, List.filter_cons_of_neg (by rw [decide_eq_false h]; exact Bool.false_ne_true), List.filter_nil, List.append_nil]
theorem early_pos {d : Nat → Int} {j : Nat} (h : 0 < d j) : earlyL d (j + 1) = earlyL d j ++ [(j : Int)] := by
  unfold earlyL
  rw [List.range_succ, List.filter_append, List.map_append, List.filter_cons_of_pos (by exact decide_eq_true h)]
  rfl
theorem early_neg {d : Nat → Int} {j : Nat} (h : ¬ 0 < d j) : earlyL d (j + 1) = earlyL d j := by
  unfold earlyL
  rw [List.range_succ, List.filter_append, List.filter_cons_of_neg (by rw [decide_eq_false h]; exact Bool.false_ne_true), List.filter_nil, List.append_nil]
theorem late_ln {d : Nat → Int} {B t j : Nat} {g : Int} : (lateL d B t g j).length ≤ j := by
  unfold lateL
  rw [List.length_map]
  exact Nat.le_trans (List.length_filter_le ..) (by rw [List.length_range]; exact Nat.le_refl _)
theorem early_len {d : Nat → Int} {j : Nat} : (earlyL d j).length ≤ j := by
  unfold earlyL
  rw [List.length_map]
  exact Nat.le_trans (List.length_filter_le ..) (by rw [List.length_range]; exact Nat.le_refl _)
section
variable {P : Program} {w : World} {K : PySem.W.Frag} {mg : Str → Option Value} {base : Heap}
abbrev s_last_above : Stmt := topS 31
abbrev N_last_above : List Str := ["flat", "steep", "begin", "turn", "left", "right", "loss", "late", "early", "x"]
theorem sc_last_above : FnScope N_last_above ["flat", "steep"] (defScope s_last_above) := ⟨rfl, rfl, rfl, by decide +kernel, rfl, by decide +kernel, by decide +kernel⟩
theorem ok_last_above (T : Txt mg) (D : Df K mg "last_above" s_last_above ["flat", "steep"]) (C_rise_in : Cal P w K mg base "rise_in" ["rule", "turn"] 1 (sp_rise_in K)) (C_values_to : Cal P w K mg base "values_to" ["rule", "count"] 1 (sp_values_to K)) (C_common_turn : Cal P w K mg base "common_turn" ["one", "other"] 2 (sp_common_turn K)) : Cal P w K mg base "last_above" ["flat", "steep"] 3 (sp_last_above K) := by
  obtain ⟨f_rise_in, fd_rise_in, G_rise_in, m_rise_in, k_rise_in, b_rise_in⟩ := C_rise_in
  obtain ⟨f_values_to, fd_values_to, G_values_to, m_values_to, k_values_to, b_values_to⟩ := C_values_to
  obtain ⟨f_common_turn, fd_common_turn, G_common_turn, m_common_turn, k_common_turn, b_common_turn⟩ := C_common_turn
  refine D.cal sc_last_above (fun vs H Q E h => ?_) (fun f cdv A outer s H vs Q E hr h => ?_)
  · obtain ⟨d1, d2, T1, T2, p1, p2, r1, r2, rfl, _⟩ := h
    rfl
  obtain ⟨d1, d2, T1, T2, p1, p2, r1, r2, rfl, R1, R2, o1, o2, s1, s2, steep, k⟩ := h
  have l1 := o1.p1
  have l2 := o2.p1
  have z1 := o1.p0
  have z2 := o2.p0
  have b1 := s1.rb (by decide)
  have b2 := s2.rb (by decide)
  have bl1 := s1.len
  have bl2 := s2.len
  have c1 := s1.turn
  have c2 := s2.turn
  obtain ⟨ka, hka⟩ := Nat.dvd_lcm_left p1 p2
  obtain ⟨kb, hkb⟩ := Nat.dvd_lcm_right p1 p2
  have lcm0 : 0 < Nat.lcm p1 p2 := Nat.lcm_pos z1 z2
  have lcm1 : Nat.lcm p1 p2 ≤ 1600 := by
    have h1 : Nat.lcm p1 p2 ≤ p1 * p2 := PySem.W.mc_lcm_le p1 p2
    have h2 : p1 * p2 ≤ 40 * 40 := Nat.mul_le_mul c1 c2
    omega
  have da : Nat.lcm p1 p2 / p1 = ka := by rw [hka]; exact Nat.mul_div_cancel_left ka z1
  have db : Nat.lcm p1 p2 / p2 = kb := by rw [hkb]; exact Nat.mul_div_cancel_left kb z2
  have ea : ka * p1 = Nat.lcm p1 p2 := by rw [Nat.mul_comm]; exact hka.symm
  have eb : kb * p2 = Nat.lcm p1 p2 := by rw [Nat.mul_comm]; exact hkb.symm
  have loss : 0 < r2 * (kb : Int) - r1 * (ka : Int) := by
    have k0 : 0 < ka := Nat.pos_of_ne_zero fun q => by rw [q, Nat.zero_mul] at ea; omega
    have ce : (ka : Int) * (p1 : Int) = (kb : Int) * (p2 : Int) := by
      rw [← Int.natCast_mul, ← Int.natCast_mul, ea, eb]
    have h1 : r1 * (p2 : Int) * (ka : Int) < r2 * (p1 : Int) * (ka : Int) := Int.mul_lt_mul_of_pos_right steep (by omega)
    have h2 : r2 * (p1 : Int) * (ka : Int) = r2 * (kb : Int) * (p2 : Int) := by
      rw [Int.mul_assoc, Int.mul_comm (p1 : Int), ce, ← Int.mul_assoc]
    have h3 : r1 * (p2 : Int) * (ka : Int) = r1 * (ka : Int) * (p2 : Int) := by
      rw [Int.mul_assoc, Int.mul_comm (p2 : Int), ← Int.mul_assoc]
    rw [h2, h3] at h1
    have := Int.lt_of_mul_lt_mul_right h1 (by omega)
    omega
  have turn0 : ∀ x, max (T1.length - p1) (T2.length - p2) ≤ x → vl T1 p1 r1 (x + ka * p1) - vl T2 p2 r2 (x + ka * p1) = vl T1 p1 r1 x - vl T2 p2 r2 x - (r2 * (kb : Int) - r1 * (ka : Int)) := fun x hx => by
    have := gp_turn o1.w o2.w (B := max (T1.length - p1) (T2.length - p2)) (by omega) (by omega) (ea.trans eb.symm) hx
    unfold gp at this
    rw [this, Int.mul_comm r1, Int.mul_comm r2]
    omega
  rw [ea] at turn0
  refine ⟨_, (pss_cons (ps_asg (pe_call G_common_turn (hr.mono (by decide)) (by rfl) m_common_turn k_common_turn b_common_turn .nil pass0 (pa_cons (pv 0) (pa_cons (pv 1) pa_nil))) (pg_tup (by rfl) (pgs_cons (pg_name (i := 2) sc_last_above.nd rfl (Or.inl rfl)) (pgs_cons (pg_name (i := 3) sc_last_above.nd rfl (Or.inr rfl)) pgs_nil))))
    (pss_cons (ps_set (i := 4) sc_last_above.nd rfl (Or.inr rfl) (pe_call G_values_to (hr.mono (by decide)) (by rfl) m_values_to k_values_to b_values_to .nil pass0 (pa_cons (pv 0) (pa_cons (pe_op op_add (pv 2) (pv 3)) pa_nil))))
    (pss_cons (ps_set (i := 5) sc_last_above.nd rfl (Or.inr rfl) (pe_call G_values_to (hr.mono (by decide)) (by rfl) m_values_to k_values_to b_values_to .nil pass0 (pa_cons (pv 1) (pa_cons (pe_op op_add (pv 2) (pv 3)) pa_nil))))
    (pss_cons (ps_set (i := 6) sc_last_above.nd rfl (Or.inr rfl) (pe_op op_sub (pe_call G_rise_in (hr.mono (by decide)) (by rfl) m_rise_in k_rise_in b_rise_in .nil pass0 (pa_cons (pv 1) (pa_cons (pv 3) pa_nil))) (pe_call G_rise_in (hr.mono (by decide)) (by rfl) m_rise_in k_rise_in b_rise_in .nil pass0 (pa_cons (pv 0) (pa_cons (pv 3) pa_nil)))))
    (pss_cons (ps_setLc (i := 7) (own := [("x", 9)]) (g := gName 9) (tt := _) rfl sc_last_above.nd rfl rfl (sw_true rfl rfl rfl (by decide +kernel)) (pi_range2 (by rfl) T.n_range (pa_cons (pv 2) (pa_cons (pe_op op_add (pv 2) (pv 3)) pa_nil))) (blkOk_by (own := [("x", 9)]) (N := N_last_above) (sc := defScope s_last_above) (by decide +kernel)) (fun _ _ _ _ _ => pg_name (i := 9) sc_last_above.nd rfl (Or.inl rfl)) (fun _ _ _ _ _ => pts_one (pt_cmpR op_gt (pe_ix (show IxR _ (rIxL K) from ix_list) (pv 4) (pv 9) (fun _ _ => rfl)) (pe_ix (show IxR _ (rIxL K) from ix_list) (pv 5) (pv 9) (fun _ _ => rfl)) (nomark _))) (fun _ _ _ _ _ => (pe_op op_add (pv 9) (pe_op op_mul (pv 3) (pe_op op_fdivW (pe_op op_sub (pe_op op_sub (pe_ix (show IxR _ (rIxL K) from ix_list) (pv 4) (pv 9) (fun _ _ => rfl)) (pe_ix (show IxR _ (rIxL K) from ix_list) (pv 5) (pv 9) (fun _ _ => rfl))) pe_int) (pv 6))))))
    (pss_cons (ps_setLc (i := 8) (own := [("x", 9)]) (g := gName 9) (tt := _) rfl sc_last_above.nd rfl rfl (sw_true rfl rfl rfl (by decide +kernel)) (pi_range1 (by rfl) T.n_range (pa_cons (pv 2) pa_nil)) (blkOk_by (own := [("x", 9)]) (N := N_last_above) (sc := defScope s_last_above) (by decide +kernel)) (fun _ _ _ _ _ => pg_name (i := 9) sc_last_above.nd rfl (Or.inl rfl)) (fun _ _ _ _ _ => pts_one (pt_cmpR op_gt (pe_ix (show IxR _ (rIxL K) from ix_list) (pv 4) (pv 9) (fun _ _ => rfl)) (pe_ix (show IxR _ (rIxL K) from ix_list) (pv 5) (pv 9) (fun _ _ => rfl)) (nomark _))) (fun _ _ _ _ _ => (pv 9)))
    (pss_one (ps_ret (pe_maxDefE (i := -1) rfl (by rfl) T.n_max (pe_un un_neg pe_int) (fun _ _ _ h => ⟨_, rfl, h⟩) (pa_cons (pe_op op_cat (pv 8) (pv 7)) pa_nil)))))))))), ?_⟩
  refine ⟨_, rfl, _, rfl, d1, d2, T1, T2, p1, p2, r1, r2, rfl, R1, R2, l1, l2, c1, c2, fun H1 q1 s1' hq1 => ?_⟩
  refine ⟨_, _, rfl, SqT.of hq1, rfl, _, _, rfl, _, _, rfl, rfl, ?_⟩
  generalize hB : max (T1.length - p1) (T2.length - p2) = B at turn0
  generalize hL : Nat.lcm p1 p2 = t at lcm0 lcm1 turn0 da db
  have Bb : B ≤ 300 := by omega
  refine ⟨_, rfl, _, rfl, _, rfl, _, _, rfl, rfl, d1, T1, p1, r1, B + t, rfl, R1.same s1', o1, b1, by omega, fun H2 L s2' nL hL2 => ?_⟩
  refine ⟨_, rfl, _, rfl, _, rfl, _, _, rfl, rfl, d2, T2, p2, r2, B + t, rfl, (R2.same s1').same s2', o2, b2, by omega, fun H3 M s3' nM hM => ?_⟩
  have hL3 := s3' _ _ hL2
  have s := s1'.trans (s2'.trans s3')
  refine ⟨_, rfl, _, rfl, d2, T2, p2, r2, t, rfl, R2.same s, o2, b2, ?_⟩
  refine ⟨_, rfl, _, rfl, d1, T1, p1, r1, t, rfl, R1.same s, o1, b1, _, _, rfl, rfl, ?_⟩
  rw [da, db]
  show gName 6 (V.int (r2 * (kb : Int) - r1 * (ka : Int))) _ _ _
  have kb1 : kb ≤ 1600 := Nat.le_trans (by rw [← db]; exact Nat.div_le_self _ _) lcm1
  have gtop : r2 * (kb : Int) ≤ 10000000000000 * 1600 := Int.mul_le_mul s2.r1 (by omega) (by omega) (by decide)
  have gbot : 0 ≤ r1 * (ka : Int) := Int.mul_nonneg o1.r0 (by omega)
  generalize hg : r2 * (kb : Int) - r1 * (ka : Int) = g at turn0 loss
  have gb : g ≤ 16000000000000000 := by omega
  have dv : ∀ x : Int, CDivW x g := fun x => wide_div (b := 60) loss (by omega) (by decide) (by decide)
  generalize hD : (fun x => vl T1 p1 r1 x - vl T2 p2 r2 x) = D at k
  have eD : ∀ x, D x = vl T1 p1 r1 x - vl T2 p2 r2 x := fun x => by rw [← hD]
  have turnD : ∀ x, B ≤ x → D (x + t) = D x - g := fun x hx => by rw [eD, eD]; exact turn0 x hx
  -- late
  refine ⟨_, rfl, _, rfl, _, rfl, _, _, rfl, rfl, _, _, rfl, ⟨by omega, by omega, by omega, by omega⟩, fun U nU => ?_⟩
  have sU := same_upd (o := .lst []) nU
  have cnt : ((B : Int) + (t : Int) - (B : Int)).toNat = t := by omega
  rw [cnt]
  refine lc_range (lo := (B : Int)) (n := t) (fun j H' => Same H3 H' ∧ H' U = some (.lst ((lateL D B t g j).map V.int))) ⟨sU, upd_same⟩ ?_ ?_
  · rintro j H' hj ⟨sm, hU⟩
    refine ⟨rfl, ?_⟩
    refine ⟨_, rfl, _, rfl, _, _, _, _, rfl, rfl, SqL.of (sm _ _ hL3), at_of (j := B + j) rfl (vals_get (by omega)), _, rfl, _, rfl, _, _, _, _, rfl, rfl, SqL.of (sm _ _ hM), at_of (j := B + j) rfl (vals_get (by omega)), _, _, rfl, rfl, _, rfl, ite3 (fun e => ?_) (fun e => ?_)⟩
    · have pos : 0 < D (B + j) := by rw [eD]; omega
      refine ⟨_, rfl, _, rfl, _, rfl, _, rfl, _, _, _, _, rfl, rfl, SqL.of (sm _ _ hL3), at_of (j := B + j) rfl (vals_get (by omega)), _, rfl, _, rfl, _, _, _, _, rfl, rfl, SqL.of (sm _ _ hM), at_of (j := B + j) rfl (vals_get (by omega)), _, _, rfl, rfl, _, _, rfl, rfl, _, rfl, _, _, rfl, rfl, dv _, _, _, rfl, rfl, .inl ⟨by omega, by omega⟩, _, _, rfl, rfl, _, hU, ?_, fun b o e' => ?_, ?_⟩
      · rw [List.length_map]
        exact Nat.lt_of_le_of_lt (Nat.le_trans late_ln (show j ≤ 1600 by omega)) (by decide)
      · rw [upd_ne (ne_of_none e' nU)]
        exact sm _ _ e'
      · rw [upd_same, late_pos pos, List.map_append, eD]
        rfl
    · refine ⟨sm, ?_⟩
      rw [late_neg (by rw [eD]; omega)]
      exact hU
  rintro H4 ⟨s4, hU⟩
  -- early
  refine ⟨_, rfl, _, rfl, by omega, by omega, fun W nW => ?_⟩
  have sW := same_upd (o := .lst []) nW
  rw [Int.toNat_natCast]
  have hL4 := s4 _ _ hL3
  have hM4 := s4 _ _ hM
  refine lc_range (lo := 0) (n := B) (fun j H' => Same H4 H' ∧ H' W = some (.lst ((earlyL D j).map V.int))) ⟨sW, upd_same⟩ ?_ ?_
  · rintro j H' hj ⟨sm, hW⟩
    refine ⟨rfl, ?_⟩
    refine ⟨_, rfl, _, rfl, _, _, _, _, rfl, rfl, SqL.of (sm _ _ hL4), at_of (j := j) (Int.zero_add _) (vals_get (by omega)), _, rfl, _, rfl, _, _, _, _, rfl, rfl, SqL.of (sm _ _ hM4), at_of (j := j) (Int.zero_add _) (vals_get (by omega)), _, _, rfl, rfl, _, rfl, ite3 (fun e => ?_) (fun e => ?_)⟩
    · have pos : 0 < D j := by rw [eD]; omega
      refine ⟨_, rfl, _, hW, ?_, fun b o e' => ?_, ?_⟩
      · rw [List.length_map]
        exact Nat.lt_of_le_of_lt (Nat.le_trans early_len (show j ≤ 1600 by omega)) (by decide)
      · rw [upd_ne (ne_of_none e' nW)]
        exact sm _ _ e'
      · rw [upd_same, early_pos pos, List.map_append, Int.zero_add]
        rfl
    · refine ⟨sm, ?_⟩
      rw [early_neg (by rw [eD]; omega)]
      exact hW
  rintro H5 ⟨s5, hW⟩
  have hU5 := s5 _ _ hU
  refine ⟨_, rfl, _, rfl, _, _, _, _, rfl, rfl, hW, hU5, ?_, fun Z nZ => ?_⟩
  · rw [List.length_map, List.length_map]
    exact Nat.le_trans (show (earlyL D B).length + (lateL D B t g t).length ≤ 6000 by have := early_len (d := D) (j := B); have := late_ln (d := D) (B := B) (t := t) (g := g) (j := t); omega) (by decide)
  have sZ := same_upd (o := .lst ((earlyL D B).map V.int ++ (lateL D B t g t).map V.int)) nZ
  obtain ⟨m0, m1⟩ := last_is lcm0 loss turnD rfl
  refine maxDef_set (ns := earlyL D B ++ lateL D B t g t) (by rw [upd_same, List.map_append]) (fun e => k _ _ (s.trans (s4.trans (s5.trans sZ))) (m0 e)) (fun m hm hle => k _ _ (s.trans (s4.trans (s5.trans sZ))) (m1 m hm hle))
end
end Sm

set_option Elab.async false
set_option linter.all false
set_option maxRecDepth 100000
set_option maxHeartbeats 16000000
namespace Sm
open PySem PySem.Spec PyProof.Rows L2
open C8 (pss_cut tCut)
/-- the shortest rule of the greater values, or TooLong with its length -/
def BestOf (c : Addr) (T1 : List Int) (p1 : Nat) (r1 : Int) (T2 : List Int) (p2 : Nat) (r2 : Int) (H : Hp) (Q : VK) (E : XK) : Prop :=
  (∀ H' d' T' p' r', Same H H' → RuleAt H' d' T' p' r' → RB T' p' r' → Short T' p' r' → (∀ x, vl T' p' r' x = max (vl T1 p1 r1 x) (vl T2 p2 r2 x)) → T'.length ≤ 5000 → Q (.ref d') H') ∧
  ∀ n : Nat, 5000 < n → (∀ T' p' r', Short T' p' r' → (∀ x, vl T' p' r' x = max (vl T1 p1 r1 x) (vl T2 p2 r2 x)) → T'.length = n) → ∀ H', Same H H' → Lng c (n : Int) H' E
def sp_over (c : Addr) : Sp := fun vs H Q E => ∃ (d1 d2 : Addr) (T1 T2 : List Int) (p1 p2 : Nat) (r1 r2 : Int), vs = [.ref d1, .ref d2] ∧ RuleAt H d1 T1 p1 r1 ∧ RuleAt H d2 T2 p2 r2 ∧ Short T1 p1 r1 ∧ RuleOk T2 p2 r2 ∧ RS 10000000000000 T1 p1 r1 ∧ RS 10000000000000 T2 p2 r2 ∧ r2 * (p1 : Int) < r1 * (p2 : Int) ∧ BestOf c T1 p1 r1 T2 p2 r2 H Q E
theorem over_tab {T1 T2 : List Int} {p1 p2 B : Nat} {r1 r2 : Int} (o1 : RuleOk T1 p1 r1) (o2 : RuleOk T2 p2 r2) (s1 : RS 10000000000000 T1 p1 r1) (s2 : RS 10000000000000 T2 p2 r2) (hB : T1.length - p1 ≤ B) (hb : B + p1 ≤ 5000) (hL : ∀ x, B ≤ x → vl T2 p2 r2 x ≤ vl T1 p1 r1 x) :
    RuleOk (gtab T1 p1 r1 T2 p2 r2 (B + p1)) p1 r1 ∧ RB (gtab T1 p1 r1 T2 p2 r2 (B + p1)) p1 r1 ∧ ∀ x, vl (gtab T1 p1 r1 T2 p2 r2 (B + p1)) p1 r1 x = max (vl T1 p1 r1 x) (vl T2 p2 r2 x) := by
  have turn := over_turn o1 hB hL
  have r1' := s1.r1
  refine ⟨tab_ok (f := fun x => max (vl T1 p1 r1 x) (vl T2 p2 r2 x)) o1.p0 o1.r0 turn (fun x => ?_) (fun x => ?_), ⟨?_, by omega, fun i hi => ?_⟩, tab_vl o1.p0 turn⟩
  · have := o1.pos x
    omega
  · have := o1.up x
    have := o2.up x
    omega
  · unfold gtab
    rw [List.length_map, List.length_range]
    omega
  · unfold gtab at hi ⊢
    rw [tab_len] at hi
    rw [tab_getD hi]
    have h1 := RS.vl o1 s1 (by decide) i
    have h2 := RS.vl o2 s2 (by decide) i
    have h3 : (10000000000000 : Int) * ((i : Int) + 1) ≤ 10000000000000 * 5001 := Int.mul_le_mul_of_nonneg_left (by omega) (by decide)
    omega
section
variable {P : Program} {w : World} {K : PySem.W.Frag} {mg : Str → Option Value} {base : Heap} {cTooLong : Addr}
abbrev s_overtaking_rule : Stmt := topS 29
abbrev N_overtaking_rule : List Str := ["steep", "flat", "count"]
theorem sc_overtaking_rule : FnScope N_overtaking_rule ["steep", "flat"] (defScope s_overtaking_rule) := ⟨rfl, rfl, rfl, by decide +kernel, rfl, by decide +kernel, by decide +kernel⟩
theorem ok_overtaking_rule (T : Txt mg) (D : Df K mg "overtaking_rule" s_overtaking_rule ["steep", "flat"]) (C_greater_values : CalX P w K mg base "greater_values" ["one", "other", "count", "turn"] 5 (sp_greater cTooLong)) (C_check_told : CalX P w K mg base "check_told" ["number"] 3 (sp_check_told cTooLong)) (C_last_above : Cal P w K mg base "last_above" ["flat", "steep"] 3 (sp_last_above K)) (C_begin_of : Cal P w K mg base "begin_of" ["rule"] 1 (sp_begin_of K)) : CalX P w K mg base "overtaking_rule" ["steep", "flat"] 6 (sp_over cTooLong) := by
  obtain ⟨f_greater_values, fd_greater_values, G_greater_values, m_greater_values, k_greater_values, b_greater_values⟩ := C_greater_values
  obtain ⟨f_check_told, fd_check_told, G_check_told, m_check_told, k_check_told, b_check_told⟩ := C_check_told
  obtain ⟨f_last_above, fd_last_above, G_last_above, m_last_above, k_last_above, b_last_above⟩ := C_last_above
  obtain ⟨f_begin_of, fd_begin_of, G_begin_of, m_begin_of, k_begin_of, b_begin_of⟩ := C_begin_of
  obtain ⟨f, fd, F, m, b⟩ := D
  refine ⟨f, fd, F.okX sc_overtaking_rule (fun vs H Q E h => ?_) (fun cdv A outer s H vs Q E hr h => ?_), m, F.kp, b⟩
  · obtain ⟨d1, d2, T1, T2, p1, p2, r1, r2, rfl, _⟩ := h
    rfl
  obtain ⟨d1, d2, T1, T2, p1, p2, r1, r2, rfl, R1, R2, sh1, o2, s1, s2, lt, kq, kl⟩ := h
  have o1 := sh1.ok
  have pp := o1.p0
  have l1 := o1.p1
  have bl1 := s1.len
  refine ⟨_, (pss_cons (ps_set (i := 2) sc_overtaking_rule.nd rfl (Or.inl rfl) (pe_op op_add (pe_callB (call_max2 rfl) (by rfl) T.n_max (by decide +kernel) (pa_cons (pe_call G_begin_of (hr.mono (by decide)) (by rfl) m_begin_of k_begin_of b_begin_of .nil pass0 (pa_cons (pv 0) pa_nil)) (pa_cons (pe_op op_add (pe_call G_last_above (hr.mono (by decide)) (by rfl) m_last_above k_last_above b_last_above .nil pass0 (pa_cons (pv 1) (pa_cons (pv 0) pa_nil))) pe_int) pa_nil))) (pe_ix ix_tup (pv 0) pe_int (fun _ _ => rfl))))
    (pss_cons (ps_if (pt_cmpR op_gt (pv 2) (pe_callB call_len_seq (by rfl) T.n_len (by decide +kernel) (pa_cons (pe_ix ix_tup (pv 0) pe_int (fun _ _ => rfl)) pa_nil)) (nomark _)) (pss_one (ps_expr (pe_callS G_check_told (hr.mono (by decide)) rfl m_check_told k_check_told b_check_told (fun σ => passAt (takes_of rfl rfl rfl rfl) σ) (pa_cons (pv 2) pa_nil)))) pss_nil)
    (pss_one (ps_ret (pe_callS G_greater_values (hr.mono (by decide)) rfl m_greater_values k_greater_values b_greater_values (fun σ => passAt (takes_of rfl rfl rfl rfl) σ) (pa_cons (pv 0) (pa_cons (pv 1) (pa_cons (pv 2) (pa_cons (pe_ix ix_tup (pv 0) pe_int (fun _ _ => rfl)) pa_nil))))))))), ?_⟩
  refine ⟨_, rfl, d1, T1, p1, r1, rfl, R1, l1, _, rfl, _, rfl, d2, d1, T2, T1, p2, p1, r2, r1, rfl, R2, R1, o2, o1, s2, s1, lt, fun H1 L sA isl => ?_⟩
  have R1a := R1.same sA
  have R2a := R2.same sA
  obtain ⟨t1, hd1, ht1⟩ := id R1a
  have L0 : -1 ≤ L := by
    rcases isl.1 with e | ⟨n, e, _⟩ <;> omega
  obtain ⟨B, hBn⟩ : ∃ B : Nat, (B : Int) = if L + 1 > ((T1.length - p1 : Nat) : Int) then L + 1 else ((T1.length - p1 : Nat) : Int) := by
    refine ⟨(if L + 1 > ((T1.length - p1 : Nat) : Int) then L + 1 else ((T1.length - p1 : Nat) : Int)).toNat, Int.toNat_of_nonneg ?_⟩
    split <;> omega
  have hB1 : T1.length - p1 ≤ B := by
    split at hBn <;> omega
  have hB2 : L < (B : Int) := by
    split at hBn <;> omega
  refine ⟨_, _, rfl, rfl, _, _, rfl, _, rfl, _, _, _, _, rfl, rfl, SqT.of hd1, atI_nat (j := 1) rfl, _, _, rfl, rfl, ?_⟩
  have z : ∀ C : Int → Prop, C ((B + p1 : Nat) : Int) → C ((if L + 1 > ((T1.length - p1 : Nat) : Int) then L + 1 else ((T1.length - p1 : Nat) : Int)) + (p1 : Int)) := fun C h => by
    rw [← hBn]
    exact h
  refine z (fun y => gName 2 (.int y) _ _ _) ?_
  clear z
  have hL : ∀ x, B ≤ x → vl T2 p2 r2 x ≤ vl T1 p1 r1 x := fun x hx => by
    have q := isl.2 x
    rcases Int.lt_or_le 0 (vl T2 p2 r2 x - vl T1 p1 r1 x) with g | g
    · have := q g
      omega
    · omega
  have rb1 := s1.rb (by decide)
  have rb2 := s2.rb (by decide)
  have args : [V.ref d1, V.ref d2, V.int ((B + p1 : Nat) : Int), V.int (p1 : Int)] = [V.ref d1, V.ref d2, V.int ((B + p1 : Nat) : Int), V.int ((1 * p1 : Nat) : Int)] := by rw [Nat.one_mul]
  have fin : B + p1 ≤ 5000 → sp_greater cTooLong [V.ref d1, V.ref d2, V.int ((B + p1 : Nat) : Int), V.int (p1 : Int)] H1 Q E := fun q => by
    obtain ⟨og, bg, ov⟩ := over_tab o1 o2 s1 s2 hB1 q hL
    have gl : (gtab T1 p1 r1 T2 p2 r2 (B + p1)).length = B + p1 := by
      unfold gtab
      rw [List.length_map, List.length_range]
    refine ⟨d1, d2, T1, T2, p1, p2, B + p1, 1, r1, r2, args, R1a, R2a, o1, o2, rb1, rb2, q, ?_, ?_, ?_⟩
    · rw [Nat.one_mul, show r1 * ((1 : Nat) : Int) = r1 from Int.mul_one r1]
      exact og
    · rw [Nat.one_mul, show r1 * ((1 : Nat) : Int) = r1 from Int.mul_one r1]
      exact bg
    · rw [Nat.one_mul, show r1 * ((1 : Nat) : Int) = r1 from Int.mul_one r1]
      intro H' d' T' p' r' s' R c sh hv
      have cl := c.len
      exact ⟨fun q2 => kq H' d' T' p' r' (sA.trans s') R (c.rb bg) sh (fun x => (hv x).trans (ov x)) q2, fun q2 => by omega⟩
  refine ⟨_, rfl, _, rfl, _, _, _, _, rfl, rfl, SqT.of hd1, atI_nat (j := 0) rfl, _, _, rfl, .inr (SqT.of ht1), _, _, rfl, rfl, _, rfl, ite3 (fun e => ?_) (fun e => ?_)⟩
  · rw [len_int] at e
    refine ⟨_, rfl, ((B + p1 : Nat) : Int), rfl, fun q => ?_, fun q => ?_⟩
    · exact ⟨_, rfl, _, rfl, _, rfl, _, rfl, _, _, _, _, rfl, rfl, SqT.of hd1, atI_nat (j := 1) rfl, fin (by omega)⟩
    · have e : T1.length < B + p1 := by omega
      have eB : (B : Int) = L + 1 := by
        split at hBn <;> omega
      obtain ⟨n, rfl, above⟩ : ∃ n : Nat, L = (n : Int) ∧ 0 < vl T2 p2 r2 n - vl T1 p1 r1 n := by
        rcases isl.1 with e1 | e1
        · omega
        · exact e1
      refine kl (B + p1) (by omega) (fun T' p' r' s hv => ?_) H1 sA
      obtain ⟨_, _, len⟩ := over_len s sh1 hv (L := n) (by omega) (by omega) fun x hx => hL x (by omega)
      omega
  · rw [len_int] at e
    exact ⟨_, rfl, _, rfl, _, rfl, _, rfl, _, _, _, _, rfl, rfl, SqT.of hd1, atI_nat (j := 1) rfl, fin (by omega)⟩
end
end Sm

set_option Elab.async false
set_option linter.all false
set_option maxRecDepth 100000
set_option maxHeartbeats 16000000
namespace Sm
open PySem PySem.Spec PyProof.Rows L2
open C8 (pss_cut tCut)
def sp_best (c : Addr) : Sp := fun vs H Q E => ∃ (d1 d2 : Addr) (T1 T2 : List Int) (p1 p2 : Nat) (r1 r2 : Int), vs = [.ref d1, .ref d2] ∧ RuleAt H d1 T1 p1 r1 ∧ RuleAt H d2 T2 p2 r2 ∧ Short T1 p1 r1 ∧ Short T2 p2 r2 ∧ RS 10000000000000 T1 p1 r1 ∧ RS 10000000000000 T2 p2 r2 ∧ BestOf c T1 p1 r1 T2 p2 r2 H Q E
theorem BestOf.swap {c : Addr} {T1 T2 : List Int} {p1 p2 : Nat} {r1 r2 : Int} {H : Hp} {Q : VK} {E : XK} (b : BestOf c T1 p1 r1 T2 p2 r2 H Q E) : BestOf c T2 p2 r2 T1 p1 r1 H Q E :=
  ⟨fun H' d' T' p' r' s R rb sh hv l => b.1 H' d' T' p' r' s R rb sh (fun x => (hv x).trans (Int.max_comm _ _)) l, fun n hn h H' s => b.2 n hn (fun T' p' r' sh hv => h T' p' r' sh fun x => (hv x).trans (Int.max_comm _ _)) H' s⟩
theorem alike_tab {T1 T2 : List Int} {p1 p2 B t ka kb : Nat} {r1 r2 : Int} (o1 : RuleOk T1 p1 r1) (o2 : RuleOk T2 p2 r2) (s1 : RS 10000000000000 T1 p1 r1) (s2 : RS 10000000000000 T2 p2 r2) (hB1 : T1.length - p1 ≤ B) (hB2 : T2.length - p2 ≤ B) (hB : B ≤ 300) (t0 : 0 < t) (ht : t ≤ 1600)
    (ea : ka * p1 = t) (eb : kb * p2 = t) (hk : ka ≤ 1600) (e : r1 * (ka : Int) = r2 * (kb : Int)) :
    RuleOk (gtab T1 p1 r1 T2 p2 r2 (B + t)) t (r1 * (ka : Int)) ∧ RB (gtab T1 p1 r1 T2 p2 r2 (B + t)) t (r1 * (ka : Int)) ∧ ∀ x, vl (gtab T1 p1 r1 T2 p2 r2 (B + t)) t (r1 * (ka : Int)) x = max (vl T1 p1 r1 x) (vl T2 p2 r2 x) := by
  have turn : ∀ x, B ≤ x → max (vl T1 p1 r1 (x + t)) (vl T2 p2 r2 (x + t)) = max (vl T1 p1 r1 x) (vl T2 p2 r2 x) + r1 * (ka : Int) := by
    intro x hx
    have e1 := vl_addk o1.p0 o1.p1 (r := r1) (x := x) (by omega) ka
    have e2 := vl_addk o2.p0 o2.p1 (r := r2) (x := x) (by omega) kb
    rw [ea, Int.mul_comm] at e1
    rw [eb, Int.mul_comm, ← e] at e2
    omega
  have u1 : r1 * (ka : Int) ≤ 10000000000000 * 1600 := Int.mul_le_mul s1.r1 (by omega) (by omega) (by decide)
  refine ⟨tab_ok (f := fun x => max (vl T1 p1 r1 x) (vl T2 p2 r2 x)) t0 (Int.mul_nonneg o1.r0 (by omega)) turn (fun x => ?_) (fun x => ?_), ⟨?_, by omega, fun i hi => ?_⟩, tab_vl t0 turn⟩
  · have := o1.pos x
    omega
  · have := o1.up x
    have := o2.up x
    omega
  · unfold gtab
    rw [List.length_map, List.length_range]
    omega
  · unfold gtab at hi ⊢
    rw [tab_len] at hi
    rw [tab_getD hi]
    have h1 := RS.vl o1 s1 (by decide) i
    have h2 := RS.vl o2 s2 (by decide) i
    have h3 : (10000000000000 : Int) * ((i : Int) + 1) ≤ 10000000000000 * 5001 := Int.mul_le_mul_of_nonneg_left (by omega) (by decide)
    omega
section
variable {P : Program} {w : World} {K : PySem.W.Frag} {mg : Str → Option Value} {base : Heap} {cTooLong : Addr}
abbrev s_best_rule : Stmt := topS 28
abbrev N_best_rule : List Str := ["one", "other", "ahead", "begin", "turn"]
theorem sc_best_rule : FnScope N_best_rule ["one", "other"] (defScope s_best_rule) := ⟨rfl, rfl, rfl, by decide +kernel, rfl, by decide +kernel, by decide +kernel⟩
theorem ok_best_rule (T : Txt mg) (D : Df K mg "best_rule" s_best_rule ["one", "other"]) (C_overtaking_rule : CalX P w K mg base "overtaking_rule" ["steep", "flat"] 6 (sp_over cTooLong)) (C_greater_values : CalX P w K mg base "greater_values" ["one", "other", "count", "turn"] 5 (sp_greater cTooLong)) (C_common_turn : Cal P w K mg base "common_turn" ["one", "other"] 2 (sp_common_turn K)) : CalX P w K mg base "best_rule" ["one", "other"] 7 (sp_best cTooLong) := by
  obtain ⟨f_greater_values, fd_greater_values, G_greater_values, m_greater_values, k_greater_values, b_greater_values⟩ := C_greater_values
  obtain ⟨f_overtaking_rule, fd_overtaking_rule, G_overtaking_rule, m_overtaking_rule, k_overtaking_rule, b_overtaking_rule⟩ := C_overtaking_rule
  obtain ⟨f_common_turn, fd_common_turn, G_common_turn, m_common_turn, k_common_turn, b_common_turn⟩ := C_common_turn
  obtain ⟨f, fd, F, m, b⟩ := D
  refine ⟨f, fd, F.okX sc_best_rule (fun vs H Q E h => ?_) (fun cdv A outer s H vs Q E hr h => ?_), m, F.kp, b⟩
  · obtain ⟨d1, d2, T1, T2, p1, p2, r1, r2, rfl, _⟩ := h
    rfl
  obtain ⟨d1, d2, T1, T2, p1, p2, r1, r2, rfl, R1, R2, sh1, sh2, s1, s2, kb⟩ := h
  obtain ⟨t1, hd1, ht1⟩ := id R1
  obtain ⟨t2, hd2, ht2⟩ := id R2
  have o1 := sh1.ok
  have o2 := sh2.ok
  have z1 := o1.p0
  have z2 := o2.p0
  have l1 := o1.p1
  have l2 := o2.p1
  have bl1 := s1.len
  have bl2 := s2.len
  have c1 := s1.turn
  have c2 := s2.turn
  refine ⟨_, (pss_cons (ps_set (i := 2) sc_best_rule.nd rfl (Or.inl rfl) (pe_op op_sub (pe_op op_mul (pe_ix ix_tup (pv 0) pe_int (fun _ _ => rfl)) (pe_ix ix_tup (pv 1) pe_int (fun _ _ => rfl))) (pe_op op_mul (pe_ix ix_tup (pv 1) pe_int (fun _ _ => rfl)) (pe_ix ix_tup (pv 0) pe_int (fun _ _ => rfl)))))
    (pss_cons (ps_if (pt_cmpR op_eq (pv 2) pe_int (nomark _)) (pss_cons (ps_asg (pe_call G_common_turn (hr.mono (by decide)) (by rfl) m_common_turn k_common_turn b_common_turn .nil pass0 (pa_cons (pv 0) (pa_cons (pv 1) pa_nil))) (pg_tup (by rfl) (pgs_cons (pg_name (i := 3) sc_best_rule.nd rfl (Or.inl rfl)) (pgs_cons (pg_name (i := 4) sc_best_rule.nd rfl (Or.inl rfl)) pgs_nil))))
    (pss_one (ps_ret (pe_callS G_greater_values (hr.mono (by decide)) rfl m_greater_values k_greater_values b_greater_values (fun σ => passAt (takes_of rfl rfl rfl rfl) σ) (pa_cons (pv 0) (pa_cons (pv 1) (pa_cons (pe_op op_add (pv 3) (pv 4)) (pa_cons (pv 4) pa_nil)))))))) pss_nil)
    (pss_cons (ps_if (pt_cmpR op_gt (pv 2) pe_int (nomark _)) (pss_one (ps_ret (pe_callS G_overtaking_rule (hr.mono (by decide)) rfl m_overtaking_rule k_overtaking_rule b_overtaking_rule (fun σ => passAt (takes_of rfl rfl rfl rfl) σ) (pa_cons (pv 0) (pa_cons (pv 1) pa_nil))))) pss_nil)
    (pss_one (ps_ret (pe_callS G_overtaking_rule (hr.mono (by decide)) rfl m_overtaking_rule k_overtaking_rule b_overtaking_rule (fun σ => passAt (takes_of rfl rfl rfl rfl) σ) (pa_cons (pv 1) (pa_cons (pv 0) pa_nil)))))))), ?_⟩
  refine ⟨_, rfl, _, _, _, _, rfl, rfl, SqT.of hd1, atI_nat (j := 2) rfl, _, rfl, _, _, _, _, rfl, rfl, SqT.of hd2, atI_nat (j := 1) rfl, _, _, rfl, rfl, .inr ⟨by omega, by omega⟩, ?_⟩
  refine ⟨_, rfl, _, _, _, _, rfl, rfl, SqT.of hd2, atI_nat (j := 2) rfl, _, rfl, _, _, _, _, rfl, rfl, SqT.of hd1, atI_nat (j := 1) rfl, _, _, rfl, rfl, .inr ⟨by omega, by omega⟩, _, _, rfl, rfl, ?_⟩
  refine ⟨_, rfl, rfl, _, rfl, ite3 (fun e => ?_) (fun e => ?_)⟩
  · have e : r1 * (p2 : Int) - r2 * (p1 : Int) = 0 := V.int.inj e
    have rb1 := s1.rb (by decide)
    have rb2 := s2.rb (by decide)
    obtain ⟨ka, hka⟩ := Nat.dvd_lcm_left p1 p2
    obtain ⟨kc, hkc⟩ := Nat.dvd_lcm_right p1 p2
    have lcm0 : 0 < Nat.lcm p1 p2 := Nat.lcm_pos z1 z2
    have lcm1 : Nat.lcm p1 p2 ≤ 1600 := by
      have h1 : Nat.lcm p1 p2 ≤ p1 * p2 := PySem.W.mc_lcm_le p1 p2
      have h2 : p1 * p2 ≤ 40 * 40 := Nat.mul_le_mul c1 c2
      omega
    have da : Nat.lcm p1 p2 / p1 = ka := by rw [hka]; exact Nat.mul_div_cancel_left ka z1
    have ea : ka * p1 = Nat.lcm p1 p2 := by rw [Nat.mul_comm]; exact hka.symm
    have ec : kc * p2 = Nat.lcm p1 p2 := by rw [Nat.mul_comm]; exact hkc.symm
    have ka1 : ka ≤ 1600 := Nat.le_trans (by rw [← da]; exact Nat.div_le_self _ _) lcm1
    have same : r1 * (ka : Int) = r2 * (kc : Int) := by
      have ce : (ka : Int) * (p1 : Int) = (kc : Int) * (p2 : Int) := by
        rw [← Int.natCast_mul, ← Int.natCast_mul, ea, ec]
      refine Int.eq_of_mul_eq_mul_right (show (p2 : Int) ≠ 0 by omega) ?_
      rw [Int.mul_assoc, Int.mul_comm (ka : Int), ← Int.mul_assoc, show r1 * (p2 : Int) = r2 * (p1 : Int) by omega, Int.mul_assoc, Int.mul_comm (p1 : Int), ce, ← Int.mul_assoc]
    refine ⟨_, rfl, _, rfl, d1, d2, T1, T2, p1, p2, r1, r2, rfl, R1, R2, l1, l2, c1, c2, fun H1 q1 s' hq1 => ?_⟩
    refine ⟨_, _, rfl, SqT.of hq1, rfl, _, _, rfl, _, _, rfl, rfl, ?_⟩
    obtain ⟨og, bg, ov⟩ := alike_tab o1 o2 s1 s2 (B := max (T1.length - p1) (T2.length - p2)) (t := ka * p1) (by omega) (by omega) (by omega) (by omega) (by omega) rfl (ec.trans ea.symm) ka1 same
    have gl : (gtab T1 p1 r1 T2 p2 r2 (max (T1.length - p1) (T2.length - p2) + ka * p1)).length = max (T1.length - p1) (T2.length - p2) + ka * p1 := by
      unfold gtab
      rw [List.length_map, List.length_range]
    refine ⟨_, rfl, _, rfl, _, rfl, _, rfl, _, _, rfl, rfl, _, rfl, d1, d2, T1, T2, p1, p2, max (T1.length - p1) (T2.length - p2) + ka * p1, ka, r1, r2, ?_, R1.same s', R2.same s', o1, o2, rb1, rb2, by omega, og, bg, fun H' d' T' p' r' s2' R c sh hv => ?_⟩
    · rw [ea]
      rfl
    · have cl := c.len
      exact ⟨fun q => kb.1 H' d' T' p' r' (s'.trans s2') R (c.rb bg) sh (fun x => (hv x).trans (ov x)) q, fun q => by omega⟩
  · refine ⟨_, rfl, _, _, rfl, rfl, _, rfl, ite3 (fun e2 => ?_) (fun e2 => ?_)⟩
    · exact ⟨_, rfl, _, rfl, d1, d2, T1, T2, p1, p2, r1, r2, rfl, R1, R2, sh1, o2, s1, s2, by omega, kb⟩
    · have e : r1 * (p2 : Int) - r2 * (p1 : Int) ≠ 0 := fun q => e (congrArg V.int q)
      exact ⟨_, rfl, _, rfl, d2, d1, T2, T1, p2, p1, r2, r1, rfl, R2, R1, sh2, o1, s2, s1, by omega, kb.swap⟩
end
end Sm

set_option Elab.async false
set_option linter.all false
set_option maxRecDepth 100000
set_option maxHeartbeats 16000000
namespace Sm
open PySem PySem.Spec PyProof.Rows L2
open C8 (pss_cut tCut)
/-- a list made of a list of ints -/
theorem lc_ints {K : PySem.W.Frag} {i j : Nat} {a : Addr} {te : TE} {vs : List Nat} {σ : L2.St} {H : Hp} {Q : VK} {ns : List Int} (g : Int → Int) (hi : σ[i]? = some (some (.ref a))) (hS : H a = some (.lst (ns.map V.int))) (ln : ns.length ≤ 20000) (hw : ∀ x : V, wipe ((wipe σ vs).set j (some x)) vs = wipe σ vs)
    (he : ∀ n ∈ ns, ∀ (H' : Hp) (Q' : VK), Same H H' → Q' (.int (g n)) H' → te ((wipe σ vs).set j (some (.int n))) H' Q') (hd : ∀ H' D, Same H H' → H D = none → H' D = some (.lst ((ns.map g).map V.int)) → Q (.ref D) H') : tLc (iList K (tVar i)) (gName j) tYes te vs σ H Q := by
  refine ⟨_, hi, a, rfl, ⟨_, SqL.of hS⟩, fun D nD => ?_⟩
  refine lc_list (K := K) (a := a) (xs := ns.map V.int) (fun k H' => Same H H' ∧ H' D = some (.lst (((ns.take k).map g).map V.int))) ⟨same_upd nD, upd_same⟩ (fun _ H' _ h => SqL.of (h.1 _ _ hS)) ?_ ?_
  · rintro k x H' hx ⟨s', hD⟩
    rw [List.getElem?_map] at hx
    cases e : ns[k]? with
    | none => rw [e] at hx; cases hx
    | some n =>
      rw [e] at hx
      have ex := (Option.some.inj hx).symm
      subst ex
      refine ⟨hw _, ?_⟩
      unfold tYes
      refine iteT ?_
      refine he n (List.mem_of_getElem? e) H' _ s' ⟨_, hD, ?_, fun b o e' => ?_, ?_⟩
      · rw [List.length_map, List.length_map, List.length_take]
        exact Nat.lt_of_le_of_lt (show min k ns.length ≤ 20000 by omega) (by decide)
      · rw [upd_ne (ne_of_none e' nD)]
        exact s' _ _ e'
      · rw [upd_same, List.take_add_one, e, List.map_append, List.map_append]
        rfl
  rintro H1 ⟨s1, hD⟩
  rw [List.length_map, List.take_length] at hD
  exact hd H1 D s1 nD hD
theorem same_v {A B : Prop} {u v : V} (h : u = v) (b : B) : (if (!decide (u = v)) = true then A else B) := by
  rw [decide_eq_true h]
  exact b
theorem ite3' {c : Prop} [Decidable c] {A B : Prop} (h : c) (a : A) : (if decide c = true then A else B) := by rw [decide_eq_true h]; exact a
theorem iten' {c : Prop} [Decidable c] {A B : Prop} (h : ¬ c) (b : B) : (if decide c = true then A else B) := by rw [decide_eq_false h]; exact b
/-- a jump that lies at an address -/
def JumpAt (T : List Int) (p : Nat) (r : Int) (H : Hp) (j : Addr × Nat) : Prop := H j.1 = some (.tup [.int (j.2 : Int), .int (vl T p r j.2)])
def Jumps (T : List Int) (p : Nat) (r : Int) (H : Hp) (J : Addr) (n : Nat) (js : List (Addr × Nat)) : Prop :=
  H J = some (.lst (js.map fun j => V.ref j.1)) ∧ js.length ≤ n ∧ (∀ j ∈ js, JumpAt T p r H j ∧ j.2 < n) ∧ ∀ a, a < n → ∃ j ∈ js, j.2 ≤ a ∧ vl T p r j.2 = vl T p r a
def sp_split_with (_ : PySem.W.Frag) : Sp := fun vs H Q _ => ∃ (d1 d2 : Addr) (T1 T2 : List Int) (p1 p2 n : Nat) (r1 r2 : Int), vs = [.ref d1, .int (n : Int), .ref d2] ∧ RuleAt H d1 T1 p1 r1 ∧ RuleAt H d2 T2 p2 r2 ∧ RuleOk T1 p1 r1 ∧ RuleOk T2 p2 r2 ∧ RS 10000000000000 T1 p1 r1 ∧ RS 10000000000000 T2 p2 r2 ∧ 1 ≤ n ∧ n ≤ 2000 ∧
  ∀ H' d T p r, Same H H' → RuleAt H' d T p r → Short T p r → (∀ x, vl T p r x = cm (vl T1 p1 r1) (vl T2 p2 r2) x (n - 1)) → T.length ≤ n - 1 + T2.length → p ≤ p2 → Q (.ref d) H'
section
variable {P : Program} {w : World} {K : PySem.W.Frag} {mg : Str → Option Value} {base : Heap}
abbrev s_split_with : Stmt := topS 35
abbrev N_split_with : List Str := ["near", "bound", "far", "count", "short", "jumps", "values", "sums", "x", "size", "worth"]
theorem sc_split_with : FnScope N_split_with ["near", "bound", "far"] (defScope s_split_with) := ⟨rfl, rfl, rfl, by decide +kernel, rfl, by decide +kernel, by decide +kernel⟩
theorem ok_split_with (T : Txt mg) (D : Df K mg "split_with" s_split_with ["near", "bound", "far"]) (C_shortest : Cal P w K mg base "shortest" ["table", "period", "rise"] 2 (sp_shortest K)) (C_values_to : Cal P w K mg base "values_to" ["rule", "count"] 1 (sp_values_to K)) : Cal P w K mg base "split_with" ["near", "bound", "far"] 3 (sp_split_with K) := by
  obtain ⟨f_shortest, fd_shortest, G_shortest, m_shortest, k_shortest, b_shortest⟩ := C_shortest
  obtain ⟨f_values_to, fd_values_to, G_values_to, m_values_to, k_values_to, b_values_to⟩ := C_values_to
  refine D.cal sc_split_with (fun vs H Q E h => ?_) (fun f cdv A outer s H vs Q E hr h => ?_)
  · obtain ⟨d1, d2, T1, T2, p1, p2, n, r1, r2, rfl, _⟩ := h
    rfl
  obtain ⟨d1, d2, T1, T2, p1, p2, n, r1, r2, rfl, R1, R2, o1, o2, s1, s2, n0, n1, k⟩ := h
  refine ⟨_, (pss_cons (ps_set (i := 3) sc_split_with.nd rfl (Or.inl rfl) (pe_op op_add (pe_op op_sub (pv 1) pe_int) (pe_callB call_len_seq (by rfl) T.n_len (by decide +kernel) (pa_cons (pe_ix ix_tup (pv 2) pe_int (fun _ _ => rfl)) pa_nil))))
    (pss_cons (ps_set (i := 4) sc_split_with.nd rfl (Or.inr rfl) (pe_call G_values_to (hr.mono (by decide)) (by rfl) m_values_to k_values_to b_values_to .nil pass0 (pa_cons (pv 0) (pa_cons (pv 1) pa_nil))))
    (pss_cut (ps_set (i := 5) sc_split_with.nd rfl (Or.inr rfl) (pe_lc (own := [("x", 8)]) (g := gName 8) (tt := _) rfl sc_split_with.nd (pi_range1 (by rfl) T.n_range (pa_cons (pv 1) pa_nil)) (blkOk_by (own := [("x", 8)]) (N := N_split_with) (sc := defScope s_split_with) (by decide +kernel)) (fun _ _ _ _ _ => pg_name (i := 8) sc_split_with.nd rfl (Or.inl rfl)) (fun _ _ _ _ _ => pts_one (PW.pt (pw_or (pt_cmpR op_eq (pv 8) pe_int (nomark _)) (pw_or1 (pt_cmpR op_gt (pe_ix (show IxR _ (rIxL K) from ix_list) (pv 4) (pv 8) (fun _ _ => rfl)) (pe_ix (show IxR _ (rIxL K) from ix_list) (pv 4) (pe_op op_sub (pv 8) pe_int) (fun _ _ => rfl)) (nomark _)))))) (fun _ _ _ _ _ => (pe_tup (pa_cons (pv 8) (pa_cons (pe_ix (show IxR _ (rIxL K) from ix_list) (pv 4) (pv 8) (fun _ _ => rfl)) pa_nil))))))
    (pss_cons (ps_set (i := 6) sc_split_with.nd rfl (Or.inr rfl) (pe_call G_values_to (hr.mono (by decide)) (by rfl) m_values_to k_values_to b_values_to .nil pass0 (pa_cons (pv 2) (pa_cons (pv 3) pa_nil))))
    (pss_cut (ps_setLc (i := 7) (own := [("x", 8)]) (g := gName 8) (tt := tYes) rfl sc_split_with.nd rfl rfl (sw_true rfl rfl rfl (by decide +kernel)) (pi_range1 (by rfl) T.n_range (pa_cons (pv 3) pa_nil)) (blkOk_by (own := [("x", 8)]) (N := N_split_with) (sc := defScope s_split_with) (by decide +kernel)) (fun _ _ _ _ _ => pg_name (i := 8) sc_split_with.nd rfl (by first | exact Or.inl rfl | exact Or.inr rfl)) (fun _ _ _ _ _ => pts_nil) (fun _ _ _ _ _ => (pe_callB (show CallR _ _ (rMax K) from (cr_max rfl)) (by rfl) T.n_max (by decide +kernel) (pa_cons (pe_lc (own := [("size", 9), ("worth", 10)]) (g := gTup K 2 (gCons (gName 9) (gCons (gName 10) gNil))) (tt := _) rfl sc_split_with.nd (show PI _ _ _ (iList K _) from pi_list (pv 5)) (blkOk_by (own := [("size", 9), ("worth", 10)]) (N := N_split_with) (sc := (Scope.mk .function [(".0", .local), ("x", .cell), ("max", .globalImplicit), ("jumps", .cell), ("values", .cell)] false false [])) (by decide +kernel)) (fun _ _ _ _ _ => pg_tup (by rfl) (pgs_cons (pg_name (i := 9) sc_split_with.nd rfl (Or.inl rfl)) (pgs_cons (pg_name (i := 10) sc_split_with.nd rfl (Or.inl rfl)) pgs_nil))) (fun _ _ _ _ _ => pts_one (pt_cmpR op_le (pv 9) (pv 8) (nomark _))) (fun _ _ _ _ _ => (pe_op op_add (pe_ix (show IxR _ (rIxL K) from ix_list) (pv 6) (pe_op op_sub (pv 8) (pv 9)) (fun _ _ => rfl)) (pv 10)))) pa_nil))))
    (pss_one (ps_ret (pe_call G_shortest (hr.mono (by decide)) (by rfl) m_shortest k_shortest b_shortest .nil pass0 (pa_cons (pv 7) (pa_cons (pe_ix ix_tup (pv 2) pe_int (fun _ _ => rfl)) (pa_cons (pe_ix ix_tup (pv 2) pe_int (fun _ _ => rfl)) pa_nil))))))))))), ?_⟩
  obtain ⟨t2, hd2, ht2⟩ := id R2
  have l2 := s2.len
  have ll2 := len_int T2
  refine ⟨_, rfl, _, _, rfl, rfl, _, rfl, _, _, _, _, rfl, rfl, SqT.of hd2, atI_nat (j := 0) rfl, _, _, rfl, .inr (SqT.of ht2), _, _, rfl, rfl, ?_⟩
  have ec : (n : Int) - 1 + ((T2.map V.int).length : Int) = ((n - 1 + T2.length : Nat) : Int) := by omega
  have rb1 := s1.rb (by decide)
  have rb2 := s2.rb (by decide)
  refine ⟨_, rfl, _, rfl, d1, T1, p1, r1, n, rfl, R1, o1, rb1, by omega, fun H1 U s1' nU' hU => ?_⟩
  -- the jumps
  refine ⟨fun σ H' => ∃ J js, σ = [some (.ref d1), some (.int (n : Int)), some (.ref d2), some (.int ((n - 1 + T2.length : Nat) : Int)), some (.ref U), some (.ref J), none, none, none, none, none] ∧ Same H H' ∧ Jumps T1 p1 r1 H' J n js, ?_, ?_⟩
  · refine ⟨_, rfl, _, rfl, by omega, by omega, fun D nD => ?_⟩
    rw [Int.toNat_natCast]
    refine lc_range (lo := 0) (n := n) (fun j H' => Same H1 H' ∧ ∃ js : List (Addr × Nat), H' D = some (.lst (js.map fun a => V.ref a.1)) ∧ js.length ≤ j ∧ (∀ a ∈ js, JumpAt T1 p1 r1 H' a ∧ a.2 < j) ∧ ∀ a, a < j → ∃ b ∈ js, b.2 ≤ a ∧ vl T1 p1 r1 b.2 = vl T1 p1 r1 a)
      ⟨same_upd nD, [], upd_same, by simp, (fun a h => nomatch h), fun a h => by omega⟩ ?_ ?_
    · rintro j H' hj ⟨s', js, hD, lj, hjs, cov⟩
      rw [Int.zero_add]
      have hU' := s' _ _ hU
      have fin : ∀ q, H' q = none → ∃ acc, upd H' q (.tup [.int (j : Int), .int (vl T1 p1 r1 j)]) D = some (.lst acc) ∧ acc.length < sizeLine ∧ (Same H1 (upd (upd H' q (.tup [.int (j : Int), .int (vl T1 p1 r1 j)])) D (.lst (acc ++ [.ref q]))) ∧ ∃ js : List (Addr × Nat), upd (upd H' q (.tup [.int (j : Int), .int (vl T1 p1 r1 j)])) D (.lst (acc ++ [.ref q])) D = some (.lst (js.map fun a => V.ref a.1)) ∧ js.length ≤ j + 1 ∧ (∀ a ∈ js, JumpAt T1 p1 r1 (upd (upd H' q (.tup [.int (j : Int), .int (vl T1 p1 r1 j)])) D (.lst (acc ++ [.ref q]))) a ∧ a.2 < j + 1) ∧ ∀ a, a < j + 1 → ∃ b ∈ js, b.2 ≤ a ∧ vl T1 p1 r1 b.2 = vl T1 p1 r1 a) := fun q nq => by
        have sq := same_upd (o := .tup [.int (j : Int), .int (vl T1 p1 r1 j)]) nq
        have qD : q ≠ D := fun e => by
          rw [e, hD] at nq
          cases nq
        refine ⟨_, sq _ _ hD, ?_, fun b o e' => ?_, js ++ [(q, j)], ?_, ?_, fun a ha => ?_, fun a ha => ?_⟩
        · rw [List.length_map]
          exact Nat.lt_of_le_of_lt (show js.length ≤ 20000 by omega) (by decide)
        · rw [upd_ne (ne_of_none e' nD)]
          exact sq _ _ (s' _ _ e')
        · rw [upd_same, List.map_append]
          rfl
        · rw [List.length_append]
          show js.length + 1 ≤ j + 1
          omega
        · rcases List.mem_append.mp ha with h | h
          · obtain ⟨z1, z2⟩ := hjs a h
            refine ⟨?_, by omega⟩
            unfold JumpAt at z1 ⊢
            rw [upd_ne (fun e => by rw [e, hD] at z1; cases z1)]
            exact sq _ _ z1
          · rw [List.mem_singleton.mp h]
            refine ⟨?_, by show j < j + 1; omega⟩
            unfold JumpAt
            rw [upd_ne qD]
            exact upd_same
        · by_cases e : a = j
          · exact ⟨(q, j), List.mem_append_right _ (List.mem_singleton.mpr rfl), by show j ≤ a; omega, by rw [e]⟩
          · obtain ⟨b, b1, b2, b3⟩ := cov a (by omega)
            exact ⟨b, List.mem_append_left _ b1, b2, b3⟩
      have e0 : (j : Int) = ((j : Nat) : Int) := rfl
      refine ⟨rfl, ?_⟩
      refine ⟨_, rfl, rfl, _, rfl, ite3 (fun e => ?_) (fun e => ?_)⟩
      · exact iteT ⟨_, rfl, _, rfl, _, rfl, _, _, _, _, rfl, rfl, SqL.of hU', atI_nat (vals_get hj), (by show 2 ≤ sizeLine; decide), fin⟩
      · have j0 : 0 < j := by
          rcases Nat.eq_zero_or_pos j with q | q
          · exact absurd (by rw [q]; rfl) e
          · exact q
        have e1 : (j : Int) - 1 = ((j - 1 : Nat) : Int) := by omega
        refine ⟨_, rfl, _, rfl, _, _, _, _, rfl, rfl, SqL.of hU', atI_nat (vals_get hj), _, rfl, _, rfl, _, _, rfl, rfl, _, _, _, _, rfl, rfl, SqL.of hU', at_of e1 (vals_get (by omega)), _, _, rfl, rfl, _, rfl, ite3 (fun g => ?_) (fun g => ?_)⟩
        · exact ⟨_, rfl, _, rfl, _, rfl, _, _, _, _, rfl, rfl, SqL.of hU', atI_nat (vals_get hj), (by show 2 ≤ sizeLine; decide), fin⟩
        · refine ⟨s', js, hD, by omega, fun a ha => ⟨(hjs a ha).1, by have := (hjs a ha).2; omega⟩, fun a ha => ?_⟩
          by_cases q : a = j
          · obtain ⟨b, b1, b2, b3⟩ := cov (j - 1) (by omega)
            have u := o1.up (j - 1)
            rw [show j - 1 + 1 = j by omega] at u
            exact ⟨b, b1, by omega, by rw [b3, q]; omega⟩
          · exact cov a (by omega)
    rintro H2 ⟨s2', js, hD, lj, hjs, cov⟩
    exact ⟨D, js, by rw [← ec]; rfl, s1'.trans s2', hD, lj, hjs, cov⟩
  rintro σ H2 ⟨J, js, rfl, sH2, hJ, lj, hjs, cov⟩
  refine ⟨_, rfl, _, rfl, d2, T2, p2, r2, n - 1 + T2.length, rfl, R2.same sH2, o2, rb2, by omega, fun H3 W s3 nW hW => ?_⟩
  have hJ := s3 _ _ hJ
  have sH3 := sH2.trans s3
  have hjs : ∀ a ∈ js, JumpAt T1 p1 r1 H3 a ∧ a.2 < n := fun a ha => ⟨s3 _ _ (hjs a ha).1, (hjs a ha).2⟩
  clear s3 sH2 nW
  -- the sums
  refine ⟨fun σ H' => ∃ S, σ = [some (.ref d1), some (.int (n : Int)), some (.ref d2), some (.int ((n - 1 + T2.length : Nat) : Int)), some (.ref U), some (.ref J), some (.ref W), some (.ref S), none, none, none] ∧ Same H H' ∧ H' S = some (.lst (((List.range (n - 1 + T2.length)).map fun x => cm (vl T1 p1 r1) (vl T2 p2 r2) x (n - 1)).map V.int)), ?_, ?_⟩
  · refine ⟨_, rfl, _, rfl, by omega, by omega, fun S nS => ?_⟩
    rw [Int.toNat_natCast]
    refine lc_range (lo := 0) (n := n - 1 + T2.length) (fun j H' => Same H3 H' ∧ H' S = some (.lst (((List.range j).map fun x => cm (vl T1 p1 r1) (vl T2 p2 r2) x (n - 1)).map V.int))) ⟨same_upd nS, upd_same⟩ ?_ ?_
    · rintro j H' hj ⟨s', hS⟩
      rw [Int.zero_add]
      refine ⟨rfl, ?_⟩
      unfold tYes
      refine iteT ?_
      refine ⟨_, rfl, J, rfl, ⟨_, SqL.of (s' _ _ hJ)⟩, fun E nE => ?_⟩
      refine lc_list (K := K) (a := J) (xs := js.map fun a => V.ref a.1) (fun k H'' => Same H' H'' ∧ H'' E = some (.lst ((((js.take k).filter fun a => decide (a.2 ≤ j)).map fun a => vl T2 p2 r2 (j - a.2) + vl T1 p1 r1 a.2).map V.int))) ⟨same_upd nE, upd_same⟩ (fun k H'' _ h => SqL.of (h.1 _ _ (s' _ _ hJ))) ?_ ?_
      · rintro k x H'' hx ⟨s'', hE⟩
        rw [List.getElem?_map] at hx
        cases e : js[k]? with
        | none => rw [e] at hx; cases hx
        | some a =>
          rw [e] at hx
          have ex := (Option.some.inj hx).symm
          subst ex
          have ja : JumpAt T1 p1 r1 H'' a := s'' _ _ (s' _ _ (hjs a (List.mem_of_getElem? e)).1)
          have tk : js.take (k + 1) = js.take k ++ [a] := by rw [List.take_add_one, e]; rfl
          refine ⟨_, _, rfl, SqT.of ja, rfl, _, _, rfl, _, _, rfl, rfl, rfl, ?_⟩
          refine ⟨_, rfl, _, rfl, _, _, rfl, rfl, _, rfl, ite3 (fun le => ?_) (fun gt => ?_)⟩
          · have ee : (j : Int) - (a.2 : Int) = ((j - a.2 : Nat) : Int) := by omega
            refine ⟨_, rfl, _, rfl, _, rfl, _, _, rfl, rfl, _, _, _, _, rfl, rfl, SqL.of (s'' _ _ (s' _ _ hW)), at_of ee (vals_get (by omega)), _, rfl, _, _, rfl, rfl, _, hE, ?_, fun b o e' => ?_, ?_⟩
            · rw [List.length_map, List.length_map]
              refine Nat.lt_of_le_of_lt (Nat.le_trans (List.length_filter_le ..) ?_) (show 20000 < sizeLine by decide)
              rw [List.length_take]
              omega
            · rw [upd_ne (ne_of_none e' nE)]
              exact s'' _ _ e'
            · rw [upd_same, tk, List.filter_append, List.filter_cons_of_pos (by rw [decide_eq_true (show a.2 ≤ j by omega)]), List.map_append, List.map_append]
              rfl
          · refine ⟨s'', ?_⟩
            rw [hE, tk, List.filter_append, List.filter_cons_of_neg (by rw [decide_eq_false (show ¬ a.2 ≤ j by omega)]; exact Bool.false_ne_true), List.filter_nil, List.append_nil]
      rintro H'' ⟨s'', hE⟩
      rw [List.length_map, List.take_length] at hE
      have hit : ∀ a, a < n → a ≤ j → ∃ y ∈ ((js.filter fun a => decide (a.2 ≤ j)).map fun a => vl T2 p2 r2 (j - a.2) + vl T1 p1 r1 a.2), vl T1 p1 r1 a + vl T2 p2 r2 (j - a) ≤ y := fun a a1 a2 => by
        obtain ⟨b, b1, b2, b3⟩ := cov a a1
        refine ⟨_, List.mem_map.mpr ⟨b, List.mem_filter.mpr ⟨b1, decide_eq_true (by omega)⟩, rfl⟩, ?_⟩
        have := o2.le (show j - a ≤ j - b.2 by omega)
        omega
      refine ⟨E, _, rfl, SqL.of hE, ?_, fun m mem top => ?_⟩
      · obtain ⟨y, hy, _⟩ := hit 0 (by omega) (by omega)
        exact List.length_pos_of_mem hy
      have em : m = cm (vl T1 p1 r1) (vl T2 p2 r2) j (n - 1) := by
        refine IsC.one (f := vl T1 p1 r1) (g := vl T2 p2 r2) (n := n - 1 + 1) (x := j) ⟨?_, fun a a1 a2 => ?_⟩ (cm_is _ _ _ _)
        · obtain ⟨a, ha, rfl⟩ := List.mem_map.mp mem
          obtain ⟨h1, h2⟩ := List.mem_filter.mp ha
          exact ⟨a.2, by have := (hjs a h1).2; omega, of_decide_eq_true h2, Int.add_comm _ _⟩
        · obtain ⟨y, hy, hle⟩ := hit a (by omega) a2
          have := top y hy
          omega
      refine ⟨_, s'' _ _ hS, ?_, fun b o e' => ?_, ?_⟩
      · rw [List.length_map, List.length_map, List.length_range]
        exact Nat.lt_of_le_of_lt (show j ≤ 20000 by omega) (by decide)
      · rw [upd_ne (ne_of_none e' nS)]
        exact s'' _ _ (s' _ _ e')
      · rw [upd_same, List.range_succ, List.map_append, List.map_append, em]
        rfl
    rintro H4 ⟨s4, hS⟩
    exact ⟨S, rfl, sH3.trans s4, hS⟩
  rintro σ H4 ⟨S, rfl, sH4, hS⟩
  have h4 := sH4 _ _ hd2
  have pd := cm_pd o1.pd o2.pd (n - 1)
  have l21 := o2.p1
  have eB : n - 1 + T2.length = n - 1 + (T2.length - p2) + p2 := by omega
  rw [eB] at hS
  refine ⟨_, rfl, _, rfl, _, _, _, _, rfl, rfl, SqT.of h4, atI_nat (j := 1) rfl, _, rfl, _, _, _, _, rfl, rfl, SqT.of h4, atI_nat (j := 2) rfl, S, _, p2, r2, rfl, .inl hS, tab_ok (f := fun x => cm (vl T1 p1 r1) (vl T2 p2 r2) x (n - 1)) pd.p0 pd.r0 pd.turn pd.nn pd.up, ⟨by rw [tab_len]; omega, rb2.r1, fun i hi => ?_⟩, fun H' d T p r s' R cut sh hv => ?_⟩
  · rw [tab_len] at hi
    rw [tab_getD (f := fun x => cm (vl T1 p1 r1) (vl T2 p2 r2) x (n - 1)) hi]
    obtain ⟨⟨a, a1, a2, a3⟩, _⟩ := cm_is (vl T1 p1 r1) (vl T2 p2 r2) i (n - 1)
    have v1 := RS.vl o1 s1 (by decide) a
    have v2 := RS.vl o2 s2 (by decide) (i - a)
    omega
  · have cl := cut.len
    rw [tab_len] at cl
    exact k H' d T p r (sH4.trans s') R sh (fun x => by rw [hv, tab_vl (f := fun x => cm (vl T1 p1 r1) (vl T2 p2 r2) x (n - 1)) pd.p0 pd.turn]) (by omega) cut.turn
end
end Sm

set_option Elab.async false
set_option linter.all false
set_option maxRecDepth 100000
set_option maxHeartbeats 16000000
namespace Sm
open PySem PySem.Spec PyProof.Rows L2
open C8 (pss_cut tCut)
/-- a pair of rules that are parted: both turn from the start on, or both are little -/
structure FitX (T1 : List Int) (p1 : Nat) (r1 : Int) (T2 : List Int) (p2 : Nat) (r2 : Int) : Prop where
  o1 : RuleOk T1 p1 r1
  o2 : RuleOk T2 p2 r2
  s1 : RS 10000000000000 T1 p1 r1
  s2 : RS 10000000000000 T2 p2 r2
  few : Nat.lcm p1 p2 + T1.length + T2.length ≤ 2000
  way : (T1.length - p1 = 0 ∧ T2.length - p2 = 0) ∨ (Nat.lcm p1 p2 + T1.length + T2.length ≤ 300 ∧ ∀ x, x ≤ 300 → vl T1 p1 r1 x ≤ 4000000000000 ∧ vl T2 p2 r2 x ≤ 4000000000000)
theorem FitX.swap {T1 : List Int} {p1 : Nat} {r1 : Int} {T2 : List Int} {p2 : Nat} {r2 : Int} (f : FitX T1 p1 r1 T2 p2 r2) : FitX T2 p2 r2 T1 p1 r1 :=
  ⟨f.o2, f.o1, f.s2, f.s1, by have := f.few; rw [Nat.lcm_comm]; omega, by
    rcases f.way with ⟨a, b⟩ | ⟨a, b⟩
    · exact .inl ⟨b, a⟩
    · exact .inr ⟨by rw [Nat.lcm_comm]; omega, fun x hx => ⟨(b x hx).2, (b x hx).1⟩⟩⟩
/-- how great a rule is whose values are told -/
theorem rs_of {T : List Int} {p : Nat} {r B : Int} (o : RuleOk T p r) (l : T.length ≤ 300) (hp : p ≤ 40) (h : ∀ x, x ≤ 300 → vl T p r x ≤ B) : RS B T p r := by
  refine ⟨l, hp, ?_, fun i hi => ?_⟩
  · have a := vl_add o.p0 o.p1 (r := r) (x := T.length - p) (Nat.le_refl _)
    have c := o.p1
    rw [show T.length - p + p = T.length by omega] at a
    have b := o.pos (T.length - p)
    have d := h T.length l
    omega
  · have := h i (by omega)
    rwa [vl_lt hi] at this
theorem cm_topX {f g : Nat → Int} (h : ∀ x, x ≤ 300 → f x ≤ 4000000000000 ∧ g x ≤ 4000000000000) (k x : Nat) (hx : x ≤ 300) : cm f g x k ≤ 10000000000000 := by
  obtain ⟨⟨a, a1, a2, a3⟩, _⟩ := cm_is f g x k
  have v1 := (h a (by omega)).1
  have v2 := (h (x - a) (by omega)).2
  omega
def SplitOf (c : Addr) (f g : Nat → Int) (H : Hp) (Q : VK) (E : XK) : Prop :=
  (∀ H' d T p r, Same H H' → RuleAt H' d T p r → RB T p r → Short T p r → (∀ x, IsC f g (x + 1) x (vl T p r x)) → T.length ≤ 5000 → Q (.ref d) H') ∧
  ∀ n : Nat, 5000 < n → (∀ T p r, Short T p r → (∀ x, IsC f g (x + 1) x (vl T p r x)) → T.length = n) → Lng c (n : Int) H E
def sp_split (c : Addr) : Sp := fun vs H Q E => ∃ (d1 d2 : Addr) (T1 T2 : List Int) (p1 p2 : Nat) (r1 r2 : Int), vs = [.ref d1, .ref d2] ∧ RuleAt H d1 T1 p1 r1 ∧ RuleAt H d2 T2 p2 r2 ∧ FitX T1 p1 r1 T2 p2 r2 ∧ SplitOf c (vl T1 p1 r1) (vl T2 p2 r2) H Q E
section
variable {P : Program} {w : World} {K : PySem.W.Frag} {mg : Str → Option Value} {base : Heap} {cTooLong : Addr}
abbrev s_split_rule : Stmt := topS 34
abbrev N_split_rule : List Str := ["one", "other", "steep", "flat", "bound", "most"]
theorem sc_split_rule : FnScope N_split_rule ["one", "other"] (defScope s_split_rule) := ⟨rfl, rfl, rfl, by decide +kernel, rfl, by decide +kernel, by decide +kernel⟩
theorem ok_split_rule (T : Txt mg) (D : Df K mg "split_rule" s_split_rule ["one", "other"]) (C_best_rule : CalX P w K mg base "best_rule" ["one", "other"] 7 (sp_best cTooLong)) (C_split_with : Cal P w K mg base "split_with" ["near", "bound", "far"] 3 (sp_split_with K)) (C_begin_of : Cal P w K mg base "begin_of" ["rule"] 1 (sp_begin_of K)) (C_told : CalX P w K mg base "told" ["table", "period", "rise"] 4 (sp_toldX cTooLong)) (C_common_turn : Cal P w K mg base "common_turn" ["one", "other"] 2 (sp_common_turn K)) : CalX P w K mg base "split_rule" ["one", "other"] 8 (sp_split cTooLong) := by
  obtain ⟨f_best_rule, fd_best_rule, G_best_rule, m_best_rule, k_best_rule, b_best_rule⟩ := C_best_rule
  obtain ⟨f_split_with, fd_split_with, G_split_with, m_split_with, k_split_with, b_split_with⟩ := C_split_with
  obtain ⟨f_begin_of, fd_begin_of, G_begin_of, m_begin_of, k_begin_of, b_begin_of⟩ := C_begin_of
  obtain ⟨f_told, fd_told, G_told, m_told, k_told, b_told⟩ := C_told
  obtain ⟨f_common_turn, fd_common_turn, G_common_turn, m_common_turn, k_common_turn, b_common_turn⟩ := C_common_turn
  obtain ⟨f, fd, F, m, b⟩ := D
  refine ⟨f, fd, F.okX sc_split_rule (fun vs H Q E h => ?_) (fun cdv A outer s H vs Q E hr h => ?_), m, F.kp, b⟩
  · obtain ⟨d1, d2, _, _, _, _, _, _, rfl, _⟩ := h
    rfl
  obtain ⟨d1, d2, T1, T2, p1, p2, r1, r2, rfl, R1, R2, ft, kq, ke⟩ := h
  refine ⟨_, (pss_cons (ps_par (i := 2) (j := 3) (by rfl) sc_split_rule.nd rfl rfl (by decide) rfl rfl (pa_cons (pv 0) (pa_cons (pv 1) pa_nil)) (by rfl))
    (pss_cut (ps_if (pt_cmpR op_lt (pe_op op_mul (pe_ix ix_tup (pv 0) pe_int (fun _ _ => rfl)) (pe_ix ix_tup (pv 1) pe_int (fun _ _ => rfl))) (pe_op op_mul (pe_ix ix_tup (pv 1) pe_int (fun _ _ => rfl)) (pe_ix ix_tup (pv 0) pe_int (fun _ _ => rfl))) (nomark _)) (pss_one (ps_par (i := 2) (j := 3) (by rfl) sc_split_rule.nd rfl rfl (by decide) rfl rfl (pa_cons (pv 1) (pa_cons (pv 0) pa_nil)) (by rfl))) pss_nil)
    (pss_cons (ps_set (i := 4) sc_split_rule.nd rfl (Or.inl rfl) (pe_op op_add (pe_call G_begin_of (hr.mono (by decide)) (by rfl) m_begin_of k_begin_of b_begin_of .nil pass0 (pa_cons (pv 3) pa_nil)) (pe_ix ix_tup (pe_call G_common_turn (hr.mono (by decide)) (by rfl) m_common_turn k_common_turn b_common_turn .nil pass0 (pa_cons (pv 0) (pa_cons (pv 1) pa_nil))) pe_int (fun _ _ => rfl))))
    (pss_cons (ps_set (i := 5) sc_split_rule.nd rfl (Or.inl rfl) (pe_call G_split_with (hr.mono (by decide)) (by rfl) m_split_with k_split_with b_split_with .nil pass0 (pa_cons (pv 3) (pa_cons (pv 4) (pa_cons (pv 2) pa_nil)))))
    (pss_cons (ps_if (pt_cmpR op_eq (pe_call G_begin_of (hr.mono (by decide)) (by rfl) m_begin_of k_begin_of b_begin_of .nil pass0 (pa_cons (pv 2) pa_nil)) pe_int (nomark _)) (pss_one (ps_ret (pe_callS G_told (hr.mono (by decide)) rfl m_told k_told b_told (fun σ => passAt (takes_of rfl rfl rfl rfl) σ) (pa_cons (pe_ix ix_tup (pv 5) pe_int (fun _ _ => rfl)) (pa_cons (pe_ix ix_tup (pv 5) pe_int (fun _ _ => rfl)) (pa_cons (pe_ix ix_tup (pv 5) pe_int (fun _ _ => rfl)) pa_nil)))))) pss_nil)
    (pss_one (ps_ret (pe_callS G_best_rule (hr.mono (by decide)) rfl m_best_rule k_best_rule b_best_rule (fun σ => passAt (takes_of rfl rfl rfl rfl) σ) (pa_cons (pe_call G_split_with (hr.mono (by decide)) (by rfl) m_split_with k_split_with b_split_with .nil pass0 (pa_cons (pv 2) (pa_cons (pe_call G_begin_of (hr.mono (by decide)) (by rfl) m_begin_of k_begin_of b_begin_of .nil pass0 (pa_cons (pv 2) pa_nil)) (pa_cons (pv 3) pa_nil)))) (pa_cons (pv 5) pa_nil)))))))))), ?_⟩
  obtain ⟨t1, hd1, ht1⟩ := id R1
  obtain ⟨t2, hd2, ht2⟩ := id R2
  refine ⟨_, rfl, _, rfl, _, _, rfl, ?_⟩
  refine ⟨fun σ H' => ∃ (ds df : Addr) (Ts Tf : List Int) (ps pf : Nat) (rs rf : Int), σ = [some (.ref d1), some (.ref d2), some (.ref ds), some (.ref df), none, none] ∧ H' = H ∧ RuleAt H ds Ts ps rs ∧ RuleAt H df Tf pf rf ∧ rf * (ps : Int) ≤ rs * (pf : Int) ∧ FitX Tf pf rf Ts ps rs ∧ Nat.lcm p1 p2 = Nat.lcm pf ps ∧ ∀ x v, IsC (vl Tf pf rf) (vl Ts ps rs) (x + 1) x v → IsC (vl T1 p1 r1) (vl T2 p2 r2) (x + 1) x v, ?_, ?_⟩
  · refine ⟨_, rfl, _, _, _, _, rfl, rfl, SqT.of hd1, atI_nat (j := 2) rfl, _, rfl, _, _, _, _, rfl, rfl, SqT.of hd2, atI_nat (j := 1) rfl, _, _, rfl, rfl, ?_⟩
    have a0 := ft.o1.r0
    have a1 := ft.s1.r1
    have b0 := ft.o2.r0
    have b1 := ft.s2.r1
    have q1 := ft.s1.turn
    have q2 := ft.s2.turn
    refine ⟨.inl ⟨by omega, by omega⟩, _, rfl, _, _, _, _, rfl, rfl, SqT.of hd2, atI_nat (j := 2) rfl, _, rfl, _, _, _, _, rfl, rfl, SqT.of hd1, atI_nat (j := 1) rfl, _, _, rfl, rfl, .inl ⟨by omega, by omega⟩, _, _, rfl, rfl, _, rfl, ite3 (fun e => ?_) (fun e => ?_)⟩
    · exact ⟨_, rfl, _, rfl, _, _, rfl, d2, d1, T2, T1, p2, p1, r2, r1, rfl, rfl, R2, R1, by omega, ft, rfl, fun x v h => h⟩
    · exact ⟨d1, d2, T1, T2, p1, p2, r1, r2, rfl, rfl, R1, R2, by omega, ft.swap, Nat.lcm_comm _ _, fun x v h => h.swap⟩
  rintro σ H' ⟨ds, df, Ts, Tf, ps, pf, rs, rf, rfl, rfl, Rs, Rf, sl, ft', lc, conv⟩
  have of := ft'.o1
  have os := ft'.o2
  have sf := ft'.s1
  have ss := ft'.s2
  have f0 := of.p0
  have f1 := of.p1
  have z0 := os.p0
  have z1 := os.p1
  have qf := sf.turn
  have qs := ss.turn
  have L0 : 0 < Nat.lcm pf ps := Nat.lcm_pos f0 z0
  have df1 : pf ∣ Nat.lcm pf ps := Nat.dvd_lcm_left _ _
  have ds1 : ps ∣ Nat.lcm pf ps := Nat.dvd_lcm_right _ _
  have few := ft'.few
  have way := ft'.way
  obtain ⟨F, S, FS, tf, ts⟩ := turns of.pd os.pd df1 ds1 sl
  have ia := split_all L0 FS tf ts
  have ib := split_both L0 FS tf ts
  refine ⟨_, rfl, df, Tf, pf, rf, rfl, Rf, f1, _, rfl, _, rfl, d1, d2, T1, T2, p1, p2, r1, r2, rfl, R1, R2, ft.o1.p1, ft.o2.p1, ft.s1.turn, ft.s2.turn, fun H1 q s1 hq => ?_⟩
  rw [lc] at hq
  refine ⟨_, _, _, _, rfl, rfl, SqT.of hq, atI_nat (j := 1) rfl, _, _, rfl, rfl, ?_⟩
  generalize Nat.lcm pf ps = L at L0 df1 ds1 few way tf ts ia ib hq ⊢
  have eL : ((Tf.length - pf : Nat) : Int) + (L : Int) = ((Tf.length - pf + L : Nat) : Int) := by omega
  refine ⟨_, rfl, _, rfl, _, rfl, df, ds, Tf, Ts, pf, ps, Tf.length - pf + L, rf, rs, by rw [← eL]; rfl, Rf.same s1, Rs.same s1, of, os, sf, ss, by omega, by omega, fun H2 dm Tm pm rm s2 Rm sm hm lm qm => ?_⟩
  have Rs2 := (Rs.same s1).same s2
  have Rf2 := (Rf.same s1).same s2
  have rbm : RB Tm pm rm := by
    have o := sm.ok
    have top : ∀ x, x ≤ 3000 → vl Tm pm rm x ≤ 100000000000000000 := fun x hx => by
      rw [hm]
      obtain ⟨⟨a, a1, a2, a3⟩, _⟩ := cm_is (vl Tf pf rf) (vl Ts ps rs) x (Tf.length - pf + L - 1)
      have v1 := RS.vl of sf (by decide) a
      have v2 := RS.vl os ss (by decide) (x - a)
      omega
    refine ⟨by omega, ?_, fun i hi => ?_⟩
    · have a := vl_add o.p0 o.p1 (r := rm) (x := Tm.length - pm) (Nat.le_refl _)
      have c := o.p1
      rw [show Tm.length - pm + pm = Tm.length by omega] at a
      have b := o.pos (Tm.length - pm)
      have d := top Tm.length (by omega)
      omega
    · have := top i (by omega)
      rw [vl_lt hi] at this
      omega
  obtain ⟨tm, hdm, htm⟩ := id Rm
  refine ⟨_, rfl, ds, Ts, ps, rs, rfl, Rs2, z1, rfl, _, rfl, ite3 (fun e => ?_) (fun e => ?_)⟩
  · have z : Ts.length - ps = 0 := by have := V.int.inj e; omega
    refine ⟨_, rfl, _, _, _, _, rfl, rfl, SqT.of hdm, atI_nat (j := 0) rfl, _, rfl, _, _, _, _, rfl, rfl, SqT.of hdm, atI_nat (j := 1) rfl, _, rfl, _, _, _, _, rfl, rfl, SqT.of hdm, atI_nat (j := 2) rfl, tm, Tm, pm, rm, rfl, .inr htm, sm.ok, rbm, fun H3 d T p r s3 R c sh hv => ⟨fun _ => ?_, fun l => by have := c.len; omega⟩⟩
    refine kq H3 d T p r (s1.trans (s2.trans s3)) R (c.rb rbm) sh (fun x => conv x _ ?_) (by have := c.len; omega)
    rw [hv, hm]
    exact ia z x
  · have z : 0 < Ts.length - ps := by
      rcases Nat.eq_zero_or_pos (Ts.length - ps) with q | q
      · exact absurd (by rw [q]; rfl) e
      · exact q
    rcases way with ⟨_, z2⟩ | ⟨few2, top2⟩
    · omega
    have top3 : ∀ x, x ≤ 300 → vl Ts ps rs x ≤ 4000000000000 ∧ vl Tf pf rf x ≤ 4000000000000 := fun x hx => ⟨(top2 x hx).2, (top2 x hx).1⟩
    have b1 : RS 10000000000000 Tm pm rm := rs_of sm.ok (by omega) (by omega) (fun x hx => by rw [hm]; exact cm_topX top2 _ x hx)
    refine ⟨_, rfl, _, rfl, ds, Ts, ps, rs, rfl, Rs2, z1, _, rfl, ds, df, Ts, Tf, ps, pf, Ts.length - ps, rs, rf, rfl, Rs2, Rf2, os, of, ss, sf, by omega, by omega, fun H3 dn Tn pn rn s3 Rn sn hn ln qn => ?_⟩
    have b2 : RS 10000000000000 Tn pn rn := rs_of sn.ok (by omega) (by omega) (fun x hx => by rw [hn]; exact cm_topX top3 _ x hx)
    refine ⟨_, rfl, dn, dm, Tn, Tm, pn, pm, rn, rm, rfl, Rn, Rm.same s3, sn, sm, b2, b1, fun H4 d T p r s4 R rb sh hv l5 => ?_, fun n hn5 h H4 s4 H5 d s5 hd => ?_⟩
    · refine kq H4 d T p r (s1.trans (s2.trans (s3.trans s4))) R rb sh (fun x => conv x _ ?_) l5
      rw [hv, hn, hm]
      exact ib z x
    · exact ke n hn5 (fun T p r sh isC => h T p r sh fun x => by
        rw [hn, hm]
        exact (isC x).one (conv x _ (ib z x))) H5 d (s1.trans (s2.trans (s3.trans (s4.trans s5)))) hd
end
end Sm

set_option Elab.async false
set_option linter.all false
set_option maxRecDepth 100000
set_option maxHeartbeats 16000000
namespace Sm
open PySem PySem.Spec PyProof.Rows L2
open C8 (pss_cut tCut)
def sp_val (_ : PySem.W.Frag) : Sp := fun vs H Q _ => ∃ (d : Addr) (T : List Int) (p : Nat) (r : Int) (x : Nat), vs = [.ref d, .int (x : Int)] ∧ RuleAt H d T p r ∧ RuleOk T p r ∧ RB T p r ∧ Q (.int (vl T p r x)) H
abbrev sp_value_of := sp_val
def sp_first_place (_ : PySem.W.Frag) : Sp := fun vs H Q _ => ∃ (t : Addr) (T : List Int) (lo : Nat) (y : Int), vs = [.ref t, .int (lo : Int), .int y] ∧ H t = some (.tup (T.map V.int)) ∧ lo < T.length ∧ T.length ≤ 30000 ∧
  (∀ i j, i ≤ j → j < T.length → T.getD i 0 ≤ T.getD j 0) ∧ y ≤ T.getD (T.length - 1) 0 ∧ ∀ i : Nat, lo ≤ i → i < T.length → y ≤ T.getD i 0 → (∀ j, lo ≤ j → j < i → T.getD j 0 < y) → Q (.int (i : Int)) H
def optV : Option Nat → V
  | none => .non
  | some x => .int (x : Int)
def sp_least_for (_ : PySem.W.Frag) : Sp := fun vs H Q _ => ∃ (d : Addr) (T : List Int) (p : Nat) (r y : Int), vs = [.ref d, .int y] ∧ RuleAt H d T p r ∧ RuleOk T p r ∧ RS 10000000000000 T p r ∧ ∀ o, IsLf T p r y o → Q (optV o) H
theorem thn_le {T1 T2 : List Int} {p1 p2 : Nat} {r1 r2 : Int} (o1 : RuleOk T1 p1 r1) (o2 : RuleOk T2 p2 r2) (s1 : RS 100000 T1 p1 r1) (s2 : RS 100000 T2 p2 r2) {x : Nat} (hx : x ≤ 30000) : vl T1 p1 r1 x ≤ 1000000000000000000 ∧ thn T1 p1 r1 T2 p2 r2 x ≤ 100000000000000000 := by
  have a := RS.vl o1 s1 (by decide) x
  have b := RS.vl o2 s2 (by decide) (vl T1 p1 r1 x).toNat
  have n := o1.pos x
  have c : (100000 : Int) * ((x : Int) + 1) ≤ 100000 * 30001 := Int.mul_le_mul_of_nonneg_left (by omega) (by decide)
  refine ⟨by omega, ?_⟩
  unfold thn
  generalize vl T2 p2 r2 (vl T1 p1 r1 x).toNat = v at *
  omega
/-- a table of such values -/
theorem thn_tab {T1 T2 : List Int} {p1 p2 B t : Nat} {r1 r2 R : Int} (o1 : RuleOk T1 p1 r1) (o2 : RuleOk T2 p2 r2) (s1 : RS 100000 T1 p1 r1) (s2 : RS 100000 T2 p2 r2) (t0 : 0 < t) (R0 : 0 ≤ R) (R1 : R ≤ 100000000000000000) (hb : B + t ≤ 30000)
    (turn : ∀ x, B ≤ x → thn T1 p1 r1 T2 p2 r2 (x + t) = thn T1 p1 r1 T2 p2 r2 x + R) :
    RuleOk ((List.range (B + t)).map (thn T1 p1 r1 T2 p2 r2)) t R ∧ RB ((List.range (B + t)).map (thn T1 p1 r1 T2 p2 r2)) t R ∧ ∀ x, vl ((List.range (B + t)).map (thn T1 p1 r1 T2 p2 r2)) t R x = thn T1 p1 r1 T2 p2 r2 x := by
  refine ⟨tab_ok t0 R0 turn (thn_pos o2) (thn_up o1 o2), ⟨by rw [tab_len]; exact hb, by omega, fun i hi => ?_⟩, tab_vl t0 turn⟩
  rw [tab_len] at hi
  rw [tab_getD hi]
  have := (thn_le o1 o2 s1 s2 (show i ≤ 30000 by omega)).2
  omega
theorem reach {T1 : List Int} {p1 : Nat} {r1 y : Int} (o1 : RuleOk T1 p1 r1) (r0 : 0 < r1) (hy : y ≤ 300) {i : Nat} (hi : T1.length + 300 * p1 ≤ i) : y ≤ vl T1 p1 r1 i := by
  have a := vl_addk o1.p0 o1.p1 (r := r1) (x := T1.length) (by omega) 300
  have b := o1.le hi
  have c := o1.pos T1.length
  have d : (300 : Int) * 1 ≤ 300 * r1 := Int.mul_le_mul_of_nonneg_left (by omega) (by decide)
  rw [a] at b
  have e : ((300 : Nat) : Int) * r1 = 300 * r1 := rfl
  omega
def ThenOf (c : Addr) (T1 : List Int) (p1 : Nat) (r1 : Int) (T2 : List Int) (p2 : Nat) (r2 : Int) (H : Hp) (Q : VK) (E : XK) : Prop :=
  ∀ H' T p r, Same H H' → RB T p r → Short T p r → (∀ x, vl T p r x = thn T1 p1 r1 T2 p2 r2 x) → (∀ d, T.length ≤ 5000 → RuleAt H' d T p r → Q (.ref d) H') ∧ (5000 < T.length → Lng c (T.length : Int) H' E)
def sp_then (c : Addr) : Sp := fun vs H Q E => ∃ (d1 d2 : Addr) (T1 T2 : List Int) (p1 p2 : Nat) (r1 r2 : Int), vs = [.ref d1, .ref d2] ∧ RuleAt H d1 T1 p1 r1 ∧ RuleAt H d2 T2 p2 r2 ∧ RuleOk T1 p1 r1 ∧ RuleOk T2 p2 r2 ∧ RS 100000 T1 p1 r1 ∧ RS 100000 T2 p2 r2 ∧ ThenOf c T1 p1 r1 T2 p2 r2 H Q E
section
variable {P : Program} {w : World} {K : PySem.W.Frag} {mg : Str → Option Value} {base : Heap} {cTooLong : Addr}
abbrev s_value_of : Stmt := topS 19
abbrev N_value_of : List Str := ["rule", "x", "table", "period", "rise", "turns"]
theorem sc_value_of : FnScope N_value_of ["rule", "x"] (defScope s_value_of) := ⟨rfl, rfl, rfl, by decide +kernel, rfl, by decide +kernel, by decide +kernel⟩
theorem ok_value_of (T : Txt mg) (D : Df K mg "value_of" s_value_of ["rule", "x"]) : Cal P w K mg base "value_of" ["rule", "x"] 1 (sp_value_of K) := by
  refine D.cal sc_value_of (fun vs H Q E h => ?_) (fun f cdv A outer s H vs Q E hr h => ?_)
  · obtain ⟨d, T0, p, r, x, rfl, _⟩ := h
    rfl
  obtain ⟨d, T0, p, r, x, rfl, ⟨t, hd, ht⟩, o, b, k⟩ := h
  have p0 := o.p0
  have p1 := o.p1
  refine ⟨_, (pss_cons (ps_asg (pv 0) (pg_tup (by rfl) (pgs_cons (pg_name (i := 2) sc_value_of.nd rfl (Or.inl rfl)) (pgs_cons (pg_name (i := 3) sc_value_of.nd rfl (Or.inl rfl)) (pgs_cons (pg_name (i := 4) sc_value_of.nd rfl (Or.inl rfl)) pgs_nil)))))
    (pss_cons (ps_if (pt_cmpR op_lt (pv 1) (pe_callB call_len_seq (by rfl) T.n_len (by decide +kernel) (pa_cons (pv 2) pa_nil)) (nomark _)) (pss_one (ps_ret (pe_ix ix_tup (pv 2) (pv 1) (fun _ _ => rfl)))) pss_nil)
    (pss_cons (ps_set (i := 5) sc_value_of.nd rfl (Or.inl rfl) (pe_op op_add (pe_op op_fdivW (pe_op op_sub (pv 1) (pe_callB call_len_seq (by rfl) T.n_len (by decide +kernel) (pa_cons (pv 2) pa_nil))) (pv 3)) pe_int))
    (pss_one (ps_ret (pe_op op_add (pe_ix ix_tup (pv 2) (pe_op op_sub (pv 1) (pe_op op_mul (pv 5) (pv 3))) (fun _ _ => rfl)) (pe_op op_mul (pv 5) (pv 4)))))))), ?_⟩
  refine ⟨_, rfl, _, _, rfl, SqT.of hd, rfl, _, _, rfl, _, _, rfl, _, _, rfl, rfl, ?_⟩
  refine ⟨_, rfl, _, rfl, _, _, rfl, .inr (SqT.of ht), _, _, rfl, rfl, _, rfl, ite3 (fun e => ?_) (fun e => ?_)⟩
  · rw [len_int] at e
    have e : x < T0.length := by omega
    rw [vl_lt e] at k
    exact ⟨_, rfl, _, rfl, _, _, _, _, rfl, rfl, SqT.of ht, atI_nat (get_int e), k⟩
  · rw [len_int] at e
    have e : T0.length ≤ x := by omega
    have z : ∀ B : Int → Prop, B (((x - T0.length) / p + 1 : Nat) : Int) → B (((x : Int) - (((T0.map V.int).length : Nat) : Int)) / (p : Int) + 1) := fun B h => by rw [turns_eq e]; exact h
    refine ⟨_, rfl, _, rfl, _, _, rfl, .inr (SqT.of ht), _, _, rfl, rfl, _, rfl, _, _, rfl, rfl, b.div o, _, _, rfl, rfl, ?_⟩
    refine z (fun y => gName 5 (.int y) _ _ _) ?_
    clear z
    obtain ⟨a1, a2, a3⟩ := place p0 p1 e
    have kv : vl T0 p r x = T0.getD (x - ((x - T0.length) / p + 1) * p) 0 + (((x - T0.length) / p + 1 : Nat) : Int) * r := if_neg (by omega)
    rw [kv] at k
    generalize (x - T0.length) / p + 1 = q at a1 a2 a3 k ⊢
    exact ⟨_, rfl, _, rfl, _, rfl, _, rfl, _, _, rfl, rfl, b.mulP o, _, _, rfl, rfl, _, _, _, _, rfl, rfl, SqT.of ht, at_of (index_eq a1) (get_int a3), _, rfl, _, rfl, _, _, rfl, rfl, b.mulR o, _, _, rfl, rfl, k⟩
def FpW (t : Addr) (T : List Int) (lo : Nat) (y : Int) (H0 : Hp) : Nat → List (Option V) → Hp → Prop := fun m σ H => ∃ (a b : Nat) (v : Option V), m = b - a ∧ σ = [some (.ref t), some (.int (a : Int)), some (.int y), some (.int (b : Int)), v] ∧ H = H0 ∧
  lo ≤ a ∧ a ≤ b ∧ b < T.length ∧ y ≤ T.getD b 0 ∧ ∀ j, lo ≤ j → j < a → T.getD j 0 < y
abbrev s_first_place : Stmt := topS 22
abbrev N_first_place : List Str := ["table", "low", "y", "high", "middle"]
theorem sc_first_place : FnScope N_first_place ["table", "low", "y"] (defScope s_first_place) := ⟨rfl, rfl, rfl, by decide +kernel, rfl, by decide +kernel, by decide +kernel⟩
theorem ok_first_place (T : Txt mg) (D : Df K mg "first_place" s_first_place ["table", "low", "y"]) : Cal P w K mg base "first_place" ["table", "low", "y"] 1 (sp_first_place K) := by
  refine D.cal sc_first_place (fun vs H Q E h => ?_) (fun f cdv A outer s H vs Q E hr h => ?_)
  · obtain ⟨t, T0, lo, y, rfl, _⟩ := h
    rfl
  obtain ⟨t, T0, lo, y, rfl, ht, hlo, hlen, mono, hy, k⟩ := h
  refine ⟨_, (pss_cons (ps_set (i := 3) sc_first_place.nd rfl (Or.inl rfl) (pe_op op_sub (pe_callB call_len_seq (by rfl) T.n_len (by decide +kernel) (pa_cons (pv 0) pa_nil)) pe_int))
    (pss_cons (ps_while PassesOwn.never (pt_cmpR op_lt (pv 1) (pv 3) (nomark _))
      (pss_cons (ps_set (i := 4) sc_first_place.nd rfl (Or.inl rfl) (pe_op op_fdivW (pe_op op_add (pv 1) (pv 3)) pe_int))
    (pss_one (ps_if (pt_cmpR op_ge (pe_ix ix_tup (pv 0) (pv 4) (fun _ _ => rfl)) (pv 2) (nomark _)) (pss_one (ps_set (i := 3) sc_first_place.nd rfl (Or.inl rfl) (pv 4))) (pss_one (ps_set (i := 1) sc_first_place.nd rfl (Or.inl rfl) (pe_op op_add (pv 4) pe_int)))))))
    (pss_one (ps_ret (pv 1))))), ?_⟩
  refine ⟨_, rfl, _, _, rfl, .inr (SqT.of ht), _, _, rfl, rfl, ?_⟩
  have ll := len_int T0
  refine ⟨FpW t T0 lo y H, ⟨_, lo, T0.length - 1, none, rfl, ?_, rfl, Nat.le_refl _, by omega, by omega, hy, fun j h1 h2 => by omega⟩, ?_⟩
  · rw [show ((T0.length - 1 : Nat) : Int) = (((T0.map V.int).length : Nat) : Int) - 1 by rw [ll]; omega]
    rfl
  rintro m σ H' ⟨a, b, v, rfl, rfl, rfl, l1, l2, l3, hb, hj⟩
  refine ⟨_, rfl, _, rfl, _, _, rfl, rfl, _, rfl, ?_⟩
  by_cases e : (a : Int) < (b : Int)
  · have em : ((a : Int) + (b : Int)) / 2 = (((a + b) / 2 : Nat) : Int) := by
      rw [Int.natCast_ediv, Int.natCast_add]
      rfl
    have z : ∀ B : Int → Prop, B (((a + b) / 2 : Nat) : Int) → B (((a : Int) + (b : Int)) / 2) := fun B h => by rw [em]; exact h
    have q1 : (a + b) / 2 < T0.length := by omega
    refine iteP e ⟨FpW t T0 lo y H' |> fun W σ' H3 => ∃ m', m' < b - a ∧ W m' σ' H3, fun σ' H3 hw => hw, ?_⟩
    refine ⟨_, rfl, _, rfl, _, _, rfl, rfl, _, _, rfl, rfl, ⟨by decide, by decide⟩, ?_⟩
    refine z (fun y => gName 4 (.int y) _ _ _) ?_
    refine ⟨_, rfl, _, rfl, _, _, _, _, rfl, rfl, SqT.of ht, atI_nat (get_int q1), _, rfl, _, _, rfl, rfl, _, rfl, ite3 (fun e2 => ?_) (fun e2 => ?_)⟩
    · exact ⟨_, rfl, (a + b) / 2 - a, by omega, a, (a + b) / 2, _, rfl, rfl, rfl, l1, by omega, q1, e2, hj⟩
    · refine ⟨_, rfl, _, _, rfl, rfl, b - ((a + b) / 2 + 1), by omega, (a + b) / 2 + 1, b, _, rfl, rfl, rfl, by omega, by omega, l3, hb, fun j h1 h2 => ?_⟩
      have := mono j ((a + b) / 2) (by omega) q1
      omega
  · have ab : a = b := by omega
    subst ab
    exact iteN e ⟨_, rfl, k a l1 l3 hb hj⟩
abbrev s_least_for : Stmt := topS 21
abbrev N_least_for : List Str := ["rule", "y", "table", "period", "rise", "turns"]
theorem sc_least_for : FnScope N_least_for ["rule", "y"] (defScope s_least_for) := ⟨rfl, rfl, rfl, by decide +kernel, rfl, by decide +kernel, by decide +kernel⟩
theorem ok_least_for (T : Txt mg) (D : Df K mg "least_for" s_least_for ["rule", "y"]) (C_first_place : Cal P w K mg base "first_place" ["table", "low", "y"] 1 (sp_first_place K)) : Cal P w K mg base "least_for" ["rule", "y"] 2 (sp_least_for K) := by
  obtain ⟨f_first_place, fd_first_place, G_first_place, m_first_place, k_first_place, b_first_place⟩ := C_first_place
  refine D.cal sc_least_for (fun vs H Q E h => ?_) (fun f cdv A outer s H vs Q E hr h => ?_)
  · obtain ⟨d, T0, p, r, y, rfl, _⟩ := h
    rfl
  obtain ⟨d, T0, p, r, y, rfl, ⟨t, hd, ht⟩, o, bs, k⟩ := h
  have b := bs.rb (by decide)
  have p0 := o.p0
  have p1 := o.p1
  have r0 := o.r0
  have bl := b.len
  have ll := len_int T0
  have mono : ∀ i j, i ≤ j → j < T0.length → T0.getD i 0 ≤ T0.getD j 0 := fun i j h1 h2 => o.row h1 h2
  refine ⟨_, (pss_cons (ps_asg (pv 0) (pg_tup (by rfl) (pgs_cons (pg_name (i := 2) sc_least_for.nd rfl (Or.inl rfl)) (pgs_cons (pg_name (i := 3) sc_least_for.nd rfl (Or.inl rfl)) (pgs_cons (pg_name (i := 4) sc_least_for.nd rfl (Or.inl rfl)) pgs_nil)))))
    (pss_cons (ps_if (pt_cmpR op_ge (pe_ix ix_tup (pv 2) (pe_un un_neg pe_int) (fun _ _ => rfl)) (pv 1) (nomark _)) (pss_one (ps_ret (pe_call G_first_place (hr.mono (by decide)) (by rfl) m_first_place k_first_place b_first_place .nil pass0 (pa_cons (pv 2) (pa_cons pe_int (pa_cons (pv 1) pa_nil)))))) pss_nil)
    (pss_cons (ps_if (pt_cmpR op_eq (pv 4) pe_int (nomark _)) (pss_one (ps_ret pe_non)) pss_nil)
    (pss_cons (ps_set (i := 5) sc_least_for.nd rfl (Or.inl rfl) (pe_op op_fdivW (pe_op op_sub (pe_op op_add (pe_op op_sub (pv 1) (pe_ix ix_tup (pv 2) (pe_un un_neg pe_int) (fun _ _ => rfl))) (pv 4)) pe_int) (pv 4)))
    (pss_one (ps_ret (pe_op op_add (pe_call G_first_place (hr.mono (by decide)) (by rfl) m_first_place k_first_place b_first_place .nil pass0 (pa_cons (pv 2) (pa_cons (pe_op op_sub (pe_callB call_len_seq (by rfl) T.n_len (by decide +kernel) (pa_cons (pv 2) pa_nil)) (pv 3)) (pa_cons (pe_op op_sub (pv 1) (pe_op op_mul (pv 5) (pv 4))) pa_nil)))) (pe_op op_mul (pv 5) (pv 3))))))))), ?_⟩
  refine ⟨_, rfl, _, _, rfl, SqT.of hd, rfl, _, _, rfl, _, _, rfl, _, _, rfl, rfl, ?_⟩
  refine ⟨_, rfl, _, rfl, _, _, _, _, rfl, rfl, SqT.of ht, last_int (by omega), _, rfl, _, _, rfl, rfl, _, rfl, ite3 (fun e => ?_) (fun e => ?_)⟩
  · refine ⟨_, rfl, _, rfl, t, T0, 0, y, rfl, ht, by omega, bl, mono, e, fun i h0 h1 h2 h3 => ?_⟩
    exact k (some i) (lf_near h1 h2 fun j hj => h3 j (Nat.zero_le _) hj)
  refine ⟨_, rfl, rfl, _, rfl, ite3 (fun e1 => ?_) (fun e1 => ?_)⟩
  · exact k none ⟨V.int.inj e1, by omega⟩
  have r1 : 0 < r := by
    have : r ≠ 0 := fun q => e1 (congrArg V.int q)
    omega
  have rb := bs.r1
  refine ⟨_, rfl, _, rfl, _, rfl, _, _, _, _, rfl, rfl, SqT.of ht, last_int (by omega), _, _, rfl, rfl, _, rfl, _, _, rfl, rfl, _, _, rfl, rfl, _, rfl, _, _, rfl, rfl, wide_div (b := 60) r1 (by omega) (by decide) (by decide), ?_⟩
  obtain ⟨c1, c2⟩ := ceil_lo (a := y - T0.getD (T0.length - 1) 0) r1
  have kpos : 0 < (y - T0.getD (T0.length - 1) 0 + r - 1) / r := by
    have : 0 < (y - T0.getD (T0.length - 1) 0 + r - 1) / r * r := by omega
    exact Int.pos_of_mul_pos_left this (by omega)
  obtain ⟨kk, hk⟩ : ∃ kk : Nat, (y - T0.getD (T0.length - 1) 0 + r - 1) / r = (kk : Int) := ⟨_, (Int.toNat_of_nonneg (by omega)).symm⟩
  have z : ∀ B : Int → Prop, B (kk : Int) → B ((y - T0.getD (T0.length - 1) 0 + r - 1) / r) := fun B h => by rw [hk]; exact h
  refine z (fun y => gName 5 (.int y) _ _ _) ?_
  rw [hk] at c1 c2 kpos
  have el : (((T0.map V.int).length : Nat) : Int) - (p : Int) = ((T0.length - p : Nat) : Int) := by rw [ll]; omega
  refine ⟨_, rfl, _, rfl, _, _, rfl, .inr (SqT.of ht), _, rfl, _, _, rfl, rfl, _, rfl, _, rfl, _, rfl, _, _, rfl, rfl, .inr ⟨by omega, by omega⟩, _, _, rfl, rfl, t, T0, T0.length - p, _, congrArg (fun z => [V.ref t, V.int z, V.int (y - (kk : Int) * r)]) el, ht, by omega, bl, mono, by omega, fun i h0 h1 h2 h3 => ?_⟩
  refine ⟨_, rfl, _, rfl, _, _, rfl, rfl, b.mulP o, _, _, rfl, rfl, ?_⟩
  have q := k (some (i + kk * p)) (lf_far o (by omega) (by omega) h0 h1 h2 h3)
  have e : ((i + kk * p : Nat) : Int) = (i : Int) + (kk : Int) * (p : Int) := by rw [Int.natCast_add, Int.natCast_mul]
  show Q (.int ((i : Int) + (kk : Int) * (p : Int))) _
  rw [← e]
  exact q
abbrev s_then_rule : Stmt := topS 32
abbrev N_then_rule : List Str := ["first", "second", "begin", "times", "turn", "values", "worth"]
theorem sc_then_rule : FnScope N_then_rule ["first", "second"] (defScope s_then_rule) := ⟨rfl, rfl, rfl, by decide +kernel, rfl, by decide +kernel, by decide +kernel⟩
theorem ok_then_rule (T : Txt mg) (D : Df K mg "then_rule" s_then_rule ["first", "second"]) (C_begin_of : Cal P w K mg base "begin_of" ["rule"] 1 (sp_begin_of K)) (C_least_for : Cal P w K mg base "least_for" ["rule", "y"] 2 (sp_least_for K)) (C_value_of : Cal P w K mg base "value_of" ["rule", "x"] 1 (sp_value_of K)) (C_values_to : Cal P w K mg base "values_to" ["rule", "count"] 1 (sp_values_to K)) (C_told : CalX P w K mg base "told" ["table", "period", "rise"] 4 (sp_toldX cTooLong)) : CalX P w K mg base "then_rule" ["first", "second"] 5 (sp_then cTooLong) := by
  obtain ⟨f_begin_of, fd_begin_of, G_begin_of, m_begin_of, k_begin_of, b_begin_of⟩ := C_begin_of
  obtain ⟨f_least_for, fd_least_for, G_least_for, m_least_for, k_least_for, b_least_for⟩ := C_least_for
  obtain ⟨f_value_of, fd_value_of, G_value_of, m_value_of, k_value_of, b_value_of⟩ := C_value_of
  obtain ⟨f_values_to, fd_values_to, G_values_to, m_values_to, k_values_to, b_values_to⟩ := C_values_to
  obtain ⟨f_told, fd_told, G_told, m_told, k_told, b_told⟩ := C_told
  obtain ⟨f, fd, F, m, b⟩ := D
  refine ⟨f, fd, F.okX sc_then_rule (fun vs H Q E h => ?_) (fun cdv A outer s H vs Q E hr h => ?_), m, F.kp, b⟩
  · obtain ⟨d1, d2, T1, T2, p1, p2, r1, r2, rfl, _⟩ := h
    rfl
  obtain ⟨d1, d2, T1, T2, p1, p2, r1, r2, rfl, R1, R2, o1, o2, s1, s2, k⟩ := h
  refine ⟨_, (pss_cons (ps_set (i := 2) sc_then_rule.nd rfl (Or.inl rfl) (pe_call G_begin_of (hr.mono (by decide)) (by rfl) m_begin_of k_begin_of b_begin_of .nil pass0 (pa_cons (pv 0) pa_nil)))
    (pss_cons (ps_set (i := 3) sc_then_rule.nd rfl (Or.inl rfl) (pe_op op_fdivW (pe_ix ix_tup (pv 1) pe_int (fun _ _ => rfl)) (pe_callBfun cr_gcd (by rfl) T.g_gcd (pa_cons (pe_ix ix_tup (pv 1) pe_int (fun _ _ => rfl)) (pa_cons (pe_ix ix_tup (pv 0) pe_int (fun _ _ => rfl)) pa_nil)))))
    (pss_cut (ps_if (pt_cmpR op_gt (pe_ix ix_tup (pv 0) pe_int (fun _ _ => rfl)) pe_int (nomark _)) (pss_one (ps_set (i := 2) sc_then_rule.nd rfl (Or.inl rfl) (pe_callB (call_max2 rfl) (by rfl) T.n_max (by decide +kernel) (pa_cons (pv 2) (pa_cons (pe_call G_least_for (hr.mono (by decide)) (by rfl) m_least_for k_least_for b_least_for .nil pass0 (pa_cons (pv 0) (pa_cons (pe_call G_begin_of (hr.mono (by decide)) (by rfl) m_begin_of k_begin_of b_begin_of .nil pass0 (pa_cons (pv 1) pa_nil)) pa_nil))) pa_nil))))) pss_nil)
    (pss_cons (ps_set (i := 4) sc_then_rule.nd rfl (Or.inl rfl) (pe_op op_mul (pe_ix ix_tup (pv 0) pe_int (fun _ _ => rfl)) (pv 3)))
    (pss_cons (ps_setLc (i := 5) (own := [("worth", 6)]) (g := gName 6) (tt := tYes) rfl sc_then_rule.nd rfl rfl (sw_true rfl rfl rfl (by decide +kernel)) (pi_list (pe_call G_values_to (hr.mono (by decide)) (by rfl) m_values_to k_values_to b_values_to .nil pass0 (pa_cons (pv 0) (pa_cons (pe_op op_add (pv 2) (pv 4)) pa_nil)))) (blkOk_by (own := [("worth", 6)]) (N := N_then_rule) (sc := defScope s_then_rule) (by decide +kernel)) (fun _ _ _ _ _ => pg_name (i := 6) sc_then_rule.nd rfl (Or.inl rfl)) (fun _ _ _ _ _ => pts_nil) (fun _ _ _ _ _ => (pe_call G_value_of (hr.mono (by decide)) (by rfl) m_value_of k_value_of b_value_of .nil pass0 (pa_cons (pv 1) (pa_cons (pv 6) pa_nil)))))
    (pss_one (ps_ret (pe_callS G_told (hr.mono (by decide)) rfl m_told k_told b_told (fun σ => passAt (takes_of rfl rfl rfl rfl) σ) (pa_cons (pv 5) (pa_cons (pv 4) (pa_cons (pe_op op_mul (pe_ix ix_tup (pv 1) pe_int (fun _ _ => rfl)) (pe_op op_fdivW (pe_op op_mul (pe_ix ix_tup (pv 0) pe_int (fun _ _ => rfl)) (pv 3)) (pe_ix ix_tup (pv 1) pe_int (fun _ _ => rfl)))) pa_nil))))))))))), ?_⟩
  obtain ⟨t1, hd1, ht1⟩ := id R1
  obtain ⟨t2, hd2, ht2⟩ := id R2
  have l1 := s1.len
  have l2 := s2.len
  have q1 := s1.turn
  have q2 := s2.turn
  have u1 := s1.r1
  have u2 := s2.r1
  have rb1 := s1.rb (by decide)
  have rb2 := s2.rb (by decide)
  have r10 := o1.r0
  have r20 := o2.r0
  have p10 := o1.p0
  have p20 := o2.p0
  have g0 := Nat.gcd_pos_of_pos_left r1.natAbs p20
  have gl : Nat.gcd p2 r1.natAbs ≤ p2 := Nat.le_of_dvd p20 (Nat.gcd_dvd_left ..)
  obtain ⟨m0, m1, m2⟩ := thn_times (r1 := r1) p20 r10
  refine ⟨_, rfl, d1, T1, p1, r1, rfl, R1, o1.p1, ?_⟩
  have z : ∀ B : Int → Prop, B ((p2 / Nat.gcd p2 r1.natAbs : Nat) : Int) → B ((p2 : Int) / ((Nat.gcd (p2 : Int).natAbs r1.natAbs : Nat) : Int)) := fun B h => by
    rw [Int.natAbs_natCast, ← Int.natCast_ediv]
    exact h
  refine ⟨_, rfl, _, _, _, _, rfl, rfl, SqT.of hd2, atI_nat (j := 1) rfl, _, rfl, _, _, _, _, rfl, rfl, SqT.of hd2, atI_nat (j := 1) rfl, _, rfl, _, _, _, _, rfl, rfl, SqT.of hd1, atI_nat (j := 2) rfl, _, _, rfl, _, _, rfl, rfl, wide_div (b := 15) (by rw [Int.natAbs_natCast]; omega) (by rw [Int.natAbs_natCast, Int.natAbs_natCast]; omega) (by decide) (by decide), ?_⟩
  refine z (fun y => gName 3 (.int y) _ _ _) ?_
  clear z
  generalize p2 / Nat.gcd p2 r1.natAbs = tm at m0 m1 m2 ⊢
  refine ⟨fun σ H1 => H1 = H ∧ ∃ B : Nat, σ = [some (.ref d1), some (.ref d2), some (.int (B : Int)), some (.int (tm : Int)), none, none, none] ∧ T1.length - p1 ≤ B ∧ B ≤ 13000 ∧ (r1 = 0 ∨ ((T2.length - p2 : Nat) : Int) ≤ vl T1 p1 r1 B), ?_, ?_⟩
  · refine ⟨_, rfl, _, _, _, _, rfl, rfl, SqT.of hd1, atI_nat (j := 2) rfl, _, _, rfl, rfl, _, rfl, ite3 (fun e => ?_) (fun e => ?_)⟩
    · refine ⟨_, rfl, _, rfl, _, rfl, d2, T2, p2, r2, rfl, R2, o2.p1, d1, T1, p1, r1, _, rfl, R1, o1, s1.up (by decide), fun o lf => ?_⟩
      cases o with
      | none =>
        have := lf.1
        omega
      | some i =>
        obtain ⟨lf1, lf2⟩ := lf
        have ib : i ≤ T1.length + 300 * p1 := by
          rcases Nat.lt_or_ge (T1.length + 300 * p1) i with w | w
          · have := lf2 _ w
            have := reach o1 e (y := ((T2.length - p2 : Nat) : Int)) (by omega) (Nat.le_refl _)
            omega
          · exact w
        have em : (if (i : Int) > ((T1.length - p1 : Nat) : Int) then (i : Int) else ((T1.length - p1 : Nat) : Int)) = ((max (T1.length - p1) i : Nat) : Int) := by
          split <;> omega
        refine ⟨_, _, rfl, rfl, max (T1.length - p1) i, ?_, by omega, by omega, .inr ?_⟩
        · rw [← em]
          rfl
        · have := o1.le (show i ≤ max (T1.length - p1) i by omega)
          omega
    · exact ⟨rfl, T1.length - p1, rfl, by omega, by omega, .inl (by omega)⟩
  rintro σ H1 ⟨rfl, B, rfl, hB, hB2, hv⟩
  have tb : tm * p1 ≤ 1600 := Nat.mul_le_mul (show tm ≤ 40 by omega) q1
  have z : ∀ B : Int → Prop, B ((tm * p1 : Nat) : Int) → B ((p1 : Int) * (tm : Int)) := fun B h => by
    rw [← Int.natCast_mul, Nat.mul_comm p1]
    exact h
  refine ⟨_, rfl, _, _, _, _, rfl, rfl, SqT.of hd1, atI_nat (j := 1) rfl, _, rfl, _, _, rfl, rfl, .inl ⟨by omega, by omega⟩, ?_⟩
  refine z (fun y => gName 4 (.int y) _ _ _) ?_
  clear z
  have t0 : 0 < tm * p1 := Nat.mul_pos m0 p10
  have bq : ((r1.natAbs * tm / p2 : Nat) : Int) = r1 * (tm : Int) / (p2 : Int) := by
    rw [Int.natCast_ediv, Int.natCast_mul, Int.natAbs_of_nonneg r10]
  have bu : r1 * (tm : Int) / (p2 : Int) ≤ 4000000 := by
    have h1 : r1 * (tm : Int) ≤ 100000 * (tm : Int) := Int.mul_le_mul_of_nonneg_right u1 (by omega)
    have h2 := Int.ediv_le_self (b := (p2 : Int)) (show 0 ≤ r1 * (tm : Int) from Int.mul_nonneg r10 (by omega))
    omega
  have b0 : 0 ≤ r1 * (tm : Int) / (p2 : Int) := Int.ediv_nonneg (Int.mul_nonneg r10 (by omega)) (by omega)
  have turn := thn_turn (B := B) (a := tm) (b := r1.natAbs * tm / p2) o1 o2 hB m2 (hv.imp_left fun e => by rw [e]; simp)
  have R0 : 0 ≤ ((r1.natAbs * tm / p2 : Nat) : Int) * r2 := Int.mul_nonneg (by omega) r20
  have R9 : ((r1.natAbs * tm / p2 : Nat) : Int) * r2 ≤ 4000000 * 100000 := Int.mul_le_mul (by omega) u2 r20 (by decide)
  obtain ⟨ok, rb, hvl⟩ := thn_tab o1 o2 s1 s2 t0 R0 (by omega) (by omega) turn
  refine ⟨_, rfl, _, rfl, _, rfl, _, _, rfl, rfl, d1, T1, p1, r1, B + tm * p1, rfl, R1, o1, rb1, (by omega), fun H2 q sq ne hq => ?_⟩
  refine ⟨q, rfl, ⟨_, SqL.of hq⟩, fun D nD => ?_⟩
  have sD := same_upd (o := .lst []) nD
  refine lc_list (K := K) (a := q) (xs := (vals T1 p1 r1 (B + tm * p1)).map V.int) (fun j H' => Same H2 H' ∧ H' D = some (.lst (((List.range j).map (thn T1 p1 r1 T2 p2 r2)).map V.int))) ⟨sD, upd_same⟩ (fun i H' _ h => SqL.of (h.1 _ _ hq)) ?_ ?_
  · rintro j x H' hx ⟨s', hD⟩
    have hj : j < B + tm * p1 := by
      have := (List.getElem?_eq_some_iff.mp hx).1
      rwa [List.length_map, vals_len] at this
    rw [vals_get hj] at hx
    have ex := (Option.some.inj hx).symm
    subst ex
    refine ⟨rfl, ?_⟩
    unfold tYes
    refine iteT ?_
    have nn := o1.pos j
    refine ⟨_, rfl, _, rfl, d2, T2, p2, r2, (vl T1 p1 r1 j).toNat, by rw [Int.toNat_of_nonneg nn]; rfl, R2.same (sq.trans s'), o2, rb2, _, hD, ?_, fun b o e => ?_, ?_⟩
    · rw [List.length_map, List.length_map, List.length_range]
      exact Nat.lt_of_le_of_lt (show j ≤ 20000 by omega) (by decide)
    · rw [upd_ne (ne_of_none e nD)]
      exact s' _ _ e
    · rw [upd_same, List.range_succ, List.map_append, List.map_append]
      rfl
  rintro H3 ⟨s3, hD⟩
  rw [List.length_map, vals_len] at hD
  have s23 := sq.trans s3
  refine ⟨_, rfl, _, rfl, _, rfl, _, _, _, _, rfl, rfl, SqT.of (s23 _ _ hd2), atI_nat (j := 2) rfl, _, rfl, _, _, _, _, rfl, rfl, SqT.of (s23 _ _ hd1), atI_nat (j := 2) rfl, _, rfl, _, _, rfl, rfl, .inr ⟨by omega, by omega⟩, _, rfl, _, _, _, _, rfl, rfl, SqT.of (s23 _ _ hd2), atI_nat (j := 1) rfl, _, _, rfl, rfl, rb2.div o2, _, _, rfl, rfl, .inl ⟨by omega, by omega⟩, ?_⟩
  refine ⟨D, _, tm * p1, ((r1.natAbs * tm / p2 : Nat) : Int) * r2, by rw [bq]; exact congrArg (fun z => [V.ref D, V.int ((tm * p1 : Nat) : Int), V.int z]) (Int.mul_comm _ _), .inl hD, ok, rb, fun H' d' T' p' r' s' R c sh hv' => ?_⟩
  obtain ⟨k1, k2⟩ := k H' T' p' r' (s23.trans s') (c.rb rb) sh fun x => by rw [hv', hvl]
  exact ⟨fun l => k1 d' l R, k2⟩
end
end Sm

set_option Elab.async false
set_option linter.all false
set_option maxRecDepth 100000
set_option maxHeartbeats 16000000
namespace Sm
open PySem PySem.Spec PyProof.Rows L2
open C8 (pss_cut tCut)
def sp_best_rule (_ : PySem.W.Frag) : Sp := fun vs H Q _ => ∃ (d1 d2 : Addr) (T1 T2 T : List Int) (p1 p2 p : Nat) (r1 r2 r : Int), vs = [.ref d1, .ref d2] ∧ RuleAt H d1 T1 p1 r1 ∧ RuleAt H d2 T2 p2 r2 ∧ Short T1 p1 r1 ∧ Short T2 p2 r2 ∧ RS 10000000000000 T1 p1 r1 ∧ RS 10000000000000 T2 p2 r2 ∧
  Short T p r ∧ (∀ x, vl T p r x = max (vl T1 p1 r1 x) (vl T2 p2 r2 x)) ∧ T.length ≤ 5000 ∧ ∀ H' d, Same H H' → RuleAt H' d T p r → Q (.ref d) H'
theorem ok_best0 {P : Program} {w : World} {K : PySem.W.Frag} {mg : Str → Option Value} {base : Heap} {cTooLong : Addr} {k : Nat} (C : CalX P w K mg base "best_rule" ["one", "other"] k (sp_best cTooLong)) : Cal P w K mg base "best_rule" ["one", "other"] k (sp_best_rule K) := by
  obtain ⟨f, fd, F, m, kp, b⟩ := C
  refine ⟨f, fd, ⟨fun vs H Q E h => ?_, fun A outer s H args us vs Q E hr e0 hb hv h => ?_⟩, m, kp, b⟩
  · obtain ⟨a, c, _, _, _, _, _, _, _, _, _, rfl, _⟩ := h
    rfl
  obtain ⟨d1, d2, T1, T2, T0, p1, p2, p0, r1, r2, r0, rfl, R1, R2, s1, s2, b1, b2, s0, hv0, lim, k⟩ := h
  refine codeAny_mono (F.run A outer s H args us _ Q E0 hr e0 hb hv ⟨d1, d2, T1, T2, p1, p2, r1, r2, rfl, R1, R2, s1, s2, b1, b2, fun H' d' T' p' r' s R _ sh hv l => ?_, fun n hn h H' s => ?_⟩) ?_
  · obtain ⟨rfl, rfl, rfl⟩ := short_one sh s0 fun x => by rw [hv, hv0]
    exact k H' d' s R
  · have h1 := h T0 p0 r0 s0 hv0
    omega
  rintro (e | fl) s' got
  · obtain ⟨_, _, _, _, _, _, _, _, _, _, _, _, hE⟩ := got
    exact hE.elim
  · match fl, got with
    | .next, got => exact got.elim
    | .brk, got => exact got.elim
    | .cont, got => exact got.elim
    | .ret u, got => exact got
def sp_told (_ : PySem.W.Frag) : Sp := fun vs H Q _ => ∃ (a : Addr) (T : List Int) (p : Nat) (r : Int), vs = [.ref a, .int (p : Int), .int r] ∧ SA H a (T.map V.int) ∧ RuleOk T p r ∧ RB T p r ∧ T.length ≤ 5000 ∧
  ∀ H' d' T' p' r', Same H H' → RuleAt H' d' T' p' r' → Cut T p r T' p' r' → Short T' p' r' → (∀ x, vl T' p' r' x = vl T p r x) → Q (.ref d') H'
theorem ok_told0 {P : Program} {w : World} {K : PySem.W.Frag} {mg : Str → Option Value} {base : Heap} {cTooLong : Addr} {k : Nat} (C : CalX P w K mg base "told" ["table", "period", "rise"] k (sp_toldX cTooLong)) : Cal P w K mg base "told" ["table", "period", "rise"] k (sp_told K) := by
  obtain ⟨f, fd, F, m, kp, b⟩ := C
  refine ⟨f, fd, ⟨fun vs H Q E h => ?_, fun A outer s H args us vs Q E hr e0 hb hv h => ?_⟩, m, kp, b⟩
  · obtain ⟨a, _, _, _, rfl, _⟩ := h
    rfl
  obtain ⟨a, T, p, r, rfl, hS, o, rb, lim, k⟩ := h
  refine codeAny_mono (F.run A outer s H args us _ Q E0 hr e0 hb hv ⟨a, T, p, r, rfl, hS, o, rb, fun H' d' T' p' r' s' R c sh hv => ⟨fun _ => k H' d' T' p' r' s' R c sh hv, fun l => ?_⟩⟩) ?_
  · have := c.len
    omega
  rintro (e | fl) s' got
  · obtain ⟨_, _, _, _, _, _, _, _, _, _, _, _, hE⟩ := got
    exact hE.elim
  · match fl, got with
    | .next, got => exact got.elim
    | .brk, got => exact got.elim
    | .cont, got => exact got.elim
    | .ret u, got => exact got
/-- a list made of a list of ints -/
abbrev MM : Int := 10000000000000000
def sp_sum_rule (_ : PySem.W.Frag) : Sp := fun vs H Q _ => ∃ (d1 d2 : Addr) (T1 T2 : List Int) (p1 p2 : Nat) (r1 r2 : Int), vs = [.ref d1, .ref d2] ∧ RuleAt H d1 T1 p1 r1 ∧ RuleAt H d2 T2 p2 r2 ∧ RuleOk T1 p1 r1 ∧ RuleOk T2 p2 r2 ∧ RS MM T1 p1 r1 ∧ RS MM T2 p2 r2 ∧
  ∀ H' d' T' p' r', Same H H' → RuleAt H' d' T' p' r' → RB T' p' r' → Short T' p' r' → (∀ x, vl T' p' r' x = vl T1 p1 r1 x + vl T2 p2 r2 x) → T'.length ≤ 5000 → Q (.ref d') H'
theorem sum_tab {T1 T2 : List Int} {p1 p2 B t ka kb : Nat} {r1 r2 : Int} (o1 : RuleOk T1 p1 r1) (o2 : RuleOk T2 p2 r2) (b1 : RS MM T1 p1 r1) (b2 : RS MM T2 p2 r2) (hB1 : T1.length - p1 ≤ B) (hB2 : T2.length - p2 ≤ B) (hB : B ≤ 300) (t0 : 0 < t) (ht : t ≤ 1600)
    (ea : ka * p1 = t) (eb : kb * p2 = t) (ha : ka ≤ 40) (hb : kb ≤ 40) :
    RuleOk ((List.range (B + t)).map fun x => vl T1 p1 r1 x + vl T2 p2 r2 x) t (r1 * (ka : Int) + r2 * (kb : Int)) ∧ RB ((List.range (B + t)).map fun x => vl T1 p1 r1 x + vl T2 p2 r2 x) t (r1 * (ka : Int) + r2 * (kb : Int)) ∧
    ∀ x, vl ((List.range (B + t)).map fun x => vl T1 p1 r1 x + vl T2 p2 r2 x) t (r1 * (ka : Int) + r2 * (kb : Int)) x = vl T1 p1 r1 x + vl T2 p2 r2 x := by
  have z1 := o1.r0
  have z2 := o2.r0
  have turn : ∀ x, B ≤ x → vl T1 p1 r1 (x + t) + vl T2 p2 r2 (x + t) = vl T1 p1 r1 x + vl T2 p2 r2 x + (r1 * (ka : Int) + r2 * (kb : Int)) := by
    intro x hx
    have e1 := vl_addk o1.p0 o1.p1 (r := r1) (x := x) (by omega) ka
    have e2 := vl_addk o2.p0 o2.p1 (r := r2) (x := x) (by omega) kb
    rw [ea] at e1
    rw [eb] at e2
    rw [e1, e2, Int.mul_comm r1, Int.mul_comm r2]
    omega
  have m1 : 0 ≤ r1 * (ka : Int) := Int.mul_nonneg z1 (by omega)
  have m2 : 0 ≤ r2 * (kb : Int) := Int.mul_nonneg z2 (by omega)
  have u1 : r1 * (ka : Int) ≤ MM * 40 := Int.mul_le_mul b1.r1 (by omega) (by omega) (by decide)
  have u2 : r2 * (kb : Int) ≤ MM * 40 := Int.mul_le_mul b2.r1 (by omega) (by omega) (by decide)
  refine ⟨tab_ok t0 (by omega) turn (fun x => ?_) (fun x => ?_), ⟨by rw [tab_len]; omega, ?_, fun i hi => ?_⟩, tab_vl t0 turn⟩
  · have := o1.pos x
    have := o2.pos x
    omega
  · have := o1.up x
    have := o2.up x
    omega
  · have : MM * 40 + MM * 40 ≤ 1000000000000000000 := by decide
    omega
  · rw [tab_len] at hi
    rw [tab_getD hi]
    have h1 := b1.vl o1 (by decide) i
    have h2 := b2.vl o2 (by decide) i
    have h3 : MM * ((i : Int) + 1) ≤ MM * 2000 := Int.mul_le_mul_of_nonneg_left (by omega) (by decide)
    have : MM * 2000 + MM * 2000 ≤ 100000000000000000000 := by decide
    omega
section
variable {P : Program} {w : World} {K : PySem.W.Frag} {mg : Str → Option Value} {base : Heap}
abbrev s_sum_rule : Stmt := topS 27
abbrev N_sum_rule : List Str := ["one", "other", "begin", "turn", "left", "right", "sums", "x"]
theorem sc_sum_rule : FnScope N_sum_rule ["one", "other"] (defScope s_sum_rule) := ⟨rfl, rfl, rfl, by decide +kernel, rfl, by decide +kernel, by decide +kernel⟩
theorem ok_sum_rule (T : Txt mg) (D : Df K mg "sum_rule" s_sum_rule ["one", "other"]) (C_told : Cal P w K mg base "told" ["table", "period", "rise"] 4 (sp_told K)) (C_rise_in : Cal P w K mg base "rise_in" ["rule", "turn"] 1 (sp_rise_in K)) (C_values_to : Cal P w K mg base "values_to" ["rule", "count"] 1 (sp_values_to K)) (C_common_turn : Cal P w K mg base "common_turn" ["one", "other"] 2 (sp_common_turn K)) : Cal P w K mg base "sum_rule" ["one", "other"] 5 (sp_sum_rule K) := by
  obtain ⟨f_told, fd_told, G_told, m_told, k_told, b_told⟩ := C_told
  obtain ⟨f_rise_in, fd_rise_in, G_rise_in, m_rise_in, k_rise_in, b_rise_in⟩ := C_rise_in
  obtain ⟨f_values_to, fd_values_to, G_values_to, m_values_to, k_values_to, b_values_to⟩ := C_values_to
  obtain ⟨f_common_turn, fd_common_turn, G_common_turn, m_common_turn, k_common_turn, b_common_turn⟩ := C_common_turn
  refine D.cal sc_sum_rule (fun vs H Q E h => ?_) (fun f cdv A outer s H vs Q E hr h => ?_)
  · obtain ⟨d1, d2, T1, T2, p1, p2, r1, r2, rfl, _⟩ := h
    rfl
  obtain ⟨d1, d2, T1, T2, p1, p2, r1, r2, rfl, R1, R2, o1, o2, b1, b2, k⟩ := h
  have l1 := o1.p1
  have l2 := o2.p1
  have z1 := o1.p0
  have z2 := o2.p0
  have bl1 := b1.len
  have bl2 := b2.len
  have c1 := b1.turn
  have c2 := b2.turn
  have rb1 := b1.rb (by decide)
  have rb2 := b2.rb (by decide)
  -- the common turn
  obtain ⟨ka, hka⟩ := Nat.dvd_lcm_left p1 p2
  obtain ⟨kb, hkb⟩ := Nat.dvd_lcm_right p1 p2
  have lcm0 : 0 < Nat.lcm p1 p2 := Nat.lcm_pos z1 z2
  have lcm2 : Nat.lcm p1 p2 ≤ p1 * p2 := PySem.W.mc_lcm_le p1 p2
  have lcm1 : Nat.lcm p1 p2 ≤ 1600 := by
    have h2 : p1 * p2 ≤ 40 * 40 := Nat.mul_le_mul c1 c2
    omega
  have da : Nat.lcm p1 p2 / p1 = ka := by rw [hka]; exact Nat.mul_div_cancel_left ka z1
  have db : Nat.lcm p1 p2 / p2 = kb := by rw [hkb]; exact Nat.mul_div_cancel_left kb z2
  have ea : ka * p1 = Nat.lcm p1 p2 := by rw [Nat.mul_comm]; exact hka.symm
  have eb : kb * p2 = Nat.lcm p1 p2 := by rw [Nat.mul_comm]; exact hkb.symm
  have ka1 : ka ≤ 40 := by
    rw [hka] at lcm2
    have := Nat.le_of_mul_le_mul_left lcm2 z1
    omega
  have kb1 : kb ≤ 40 := by
    rw [hkb, Nat.mul_comm p1 p2] at lcm2
    have := Nat.le_of_mul_le_mul_left lcm2 z2
    omega
  refine ⟨_, (pss_cons (ps_asg (pe_call G_common_turn (hr.mono (by decide)) (by rfl) m_common_turn k_common_turn b_common_turn .nil pass0 (pa_cons (pv 0) (pa_cons (pv 1) pa_nil))) (pg_tup (by rfl) (pgs_cons (pg_name (i := 2) sc_sum_rule.nd rfl (Or.inl rfl)) (pgs_cons (pg_name (i := 3) sc_sum_rule.nd rfl (Or.inl rfl)) pgs_nil))))
    (pss_cons (ps_set (i := 4) sc_sum_rule.nd rfl (Or.inr rfl) (pe_call G_values_to (hr.mono (by decide)) (by rfl) m_values_to k_values_to b_values_to .nil pass0 (pa_cons (pv 0) (pa_cons (pe_op op_add (pv 2) (pv 3)) pa_nil))))
    (pss_cons (ps_set (i := 5) sc_sum_rule.nd rfl (Or.inr rfl) (pe_call G_values_to (hr.mono (by decide)) (by rfl) m_values_to k_values_to b_values_to .nil pass0 (pa_cons (pv 1) (pa_cons (pe_op op_add (pv 2) (pv 3)) pa_nil))))
    (pss_cons (ps_setLc (i := 6) (own := [("x", 7)]) (g := gName 7) (tt := tYes) rfl sc_sum_rule.nd rfl rfl (sw_true rfl rfl rfl (by decide +kernel)) (pi_range1 (by rfl) T.n_range (pa_cons (pe_op op_add (pv 2) (pv 3)) pa_nil)) (blkOk_by (own := [("x", 7)]) (N := N_sum_rule) (sc := defScope s_sum_rule) (by decide +kernel)) (fun _ _ _ _ _ => pg_name (i := 7) sc_sum_rule.nd rfl (Or.inl rfl)) (fun _ _ _ _ _ => pts_nil) (fun _ _ _ _ _ => (pe_op op_add (pe_ix (show IxR _ (rIxL K) from ix_list) (pv 4) (pv 7) (fun _ _ => rfl)) (pe_ix (show IxR _ (rIxL K) from ix_list) (pv 5) (pv 7) (fun _ _ => rfl)))))
    (pss_one (ps_ret (pe_call G_told (hr.mono (by decide)) (by rfl) m_told k_told b_told .nil pass0 (pa_cons (pv 6) (pa_cons (pv 3) (pa_cons (pe_op op_add (pe_call G_rise_in (hr.mono (by decide)) (by rfl) m_rise_in k_rise_in b_rise_in .nil pass0 (pa_cons (pv 0) (pa_cons (pv 3) pa_nil))) (pe_call G_rise_in (hr.mono (by decide)) (by rfl) m_rise_in k_rise_in b_rise_in .nil pass0 (pa_cons (pv 1) (pa_cons (pv 3) pa_nil)))) pa_nil)))))))))), ?_⟩
  refine ⟨_, rfl, _, rfl, d1, d2, T1, T2, p1, p2, r1, r2, rfl, R1, R2, l1, l2, c1, c2, fun H1 q1 s1 hq1 => ?_⟩
  refine ⟨_, _, rfl, SqT.of hq1, rfl, _, _, rfl, _, _, rfl, rfl, ?_⟩
  generalize hB : max (T1.length - p1) (T2.length - p2) = B
  generalize hL : Nat.lcm p1 p2 = t at lcm0 lcm1 da db ea eb
  have Bb : B ≤ 300 := by omega
  refine ⟨_, rfl, _, rfl, _, rfl, _, _, rfl, rfl, d1, T1, p1, r1, B + t, rfl, R1.same s1, o1, rb1, by omega, fun H2 L s2 nL hL2 => ?_⟩
  refine ⟨_, rfl, _, rfl, _, rfl, _, _, rfl, rfl, d2, T2, p2, r2, B + t, rfl, (R2.same s1).same s2, o2, rb2, by omega, fun H3 M s3 nM hM => ?_⟩
  have hL3 := s3 _ _ hL2
  have s := s1.trans (s2.trans s3)
  have cnt : ((B : Int) + (t : Int)).toNat = B + t := by omega
  refine ⟨_, rfl, _, rfl, _, _, rfl, rfl, _, rfl, (by omega), (by omega), fun U nU => ?_⟩
  rw [cnt]
  have sU := same_upd (o := .lst []) nU
  obtain ⟨ok, rb, hv⟩ := sum_tab o1 o2 b1 b2 (B := B) (t := t) (by omega) (by omega) Bb lcm0 lcm1 ea eb ka1 kb1
  refine lc_range (lo := 0) (n := B + t) (fun j H' => Same H3 H' ∧ H' U = some (.lst (((List.range j).map fun x => vl T1 p1 r1 x + vl T2 p2 r2 x).map V.int))) ⟨sU, upd_same⟩ ?_ ?_
  · rintro j H' hj ⟨s', hU⟩
    refine ⟨rfl, ?_⟩
    unfold tYes
    refine iteT ?_
    refine ⟨_, rfl, _, rfl, _, _, _, _, rfl, rfl, SqL.of (s' _ _ hL3), at_of (Int.zero_add _) (vals_get hj), _, rfl, _, rfl, _, _, _, _, rfl, rfl, SqL.of (s' _ _ hM), at_of (Int.zero_add _) (vals_get hj), _, _, rfl, rfl, _, hU, ?_, fun b o e => ?_, ?_⟩
    · rw [List.length_map, List.length_map, List.length_range]
      exact Nat.lt_of_le_of_lt (show j ≤ 2000 by omega) (by decide)
    · rw [upd_ne (ne_of_none e nU)]
      exact s' _ _ e
    · rw [upd_same, List.range_succ, List.map_append, List.map_append]
      rfl
  · rintro H4 ⟨s4, hU⟩
    have R1' := (R1.same s).same s4
    have R2' := (R2.same s).same s4
    refine ⟨_, rfl, _, rfl, _, rfl, _, rfl, d1, T1, p1, r1, t, rfl, R1', o1, rb1, _, rfl, _, rfl, d2, T2, p2, r2, t, rfl, R2', o2, rb2, _, _, rfl, rfl, ?_⟩
    rw [da, db]
    exact ⟨U, _, t, _, rfl, .inl hU, ok, rb, (by rw [List.length_map, List.length_range]; omega), fun H5 d' T' p' r' s5 R cut sh hv' => k H5 d' T' p' r' (s.trans (s4.trans s5)) R (cut.rb rb) sh (fun x => (hv' x).trans (hv x)) (by have := cut.len; rw [List.length_map, List.length_range] at this; omega)⟩
end
end Sm

set_option Elab.async false
set_option linter.all false
set_option maxRecDepth 100000
set_option maxHeartbeats 16000000
namespace Sm
open PySem PySem.Spec PyProof.Rows L2
open C8 (pss_cut tCut)
def FormOk (T : List Int) (p r : Int) : Prop := 1 ≤ p ∧ p ≤ (T.length : Int) ∧ 0 ≤ r ∧ ∀ i, i < T.length → 0 ≤ T.getD i 0
def sp_is_whole (_ : PySem.W.Frag) : Sp := fun vs H Q _ => ∃ i : Int, vs = [.int i] ∧ Q (.bl true) H
def sp_is_amount (_ : PySem.W.Frag) : Sp := fun vs H Q _ => ∃ i : Int, vs = [.int i] ∧ Q (.bl (decide (i ≥ 0))) H
def sp_told_error (_ : PySem.W.Frag) : Sp := fun vs H Q _ => ∃ (a : Addr) (T : List Int) (p r : Int), vs = [.ref a, .int p, .int r] ∧ SA H a (T.map V.int) ∧ T.length ≤ 6000 ∧
  (∀ H', Same H H' → ¬ FormOk T p r → Q (.str "form") H') ∧ (∀ H', Same H H' → FormOk T p r → ¬ RuleOk T p.toNat r → Q (.str "falls") H') ∧ (∀ H', Same H H' → FormOk T p r → RuleOk T p.toNat r → Q .non H')
theorem ite3n {p A B : Prop} [Decidable p] (h1 : p → B) (h2 : ¬ p → A) : if (!decide p) = true then A else B := by
  by_cases h : p
  · exact iteNP h (h1 h)
  · exact iteNN h (h2 h)
theorem all_nn {T : List Int} : (T.map fun v => decide (v ≥ 0)).all id = true ↔ ∀ i, i < T.length → 0 ≤ T.getD i 0 := by
  rw [List.all_map, List.all_eq_true]
  constructor
  · intro h i hi
    have := h (T.getD i 0) (by rw [List.getD_eq_getElem?_getD, List.getElem?_eq_getElem hi]; exact List.getElem_mem hi)
    exact of_decide_eq_true this
  · intro h x hx
    obtain ⟨i, hi, rfl⟩ := List.getElem_of_mem hx
    have := h i hi
    rw [List.getD_eq_getElem?_getD, List.getElem?_eq_getElem hi] at this
    exact decide_eq_true this
theorem any_mono {T : List Int} : ((List.range (T.length - 1)).map fun i => decide (T.getD i 0 > T.getD (i + 1) 0)).any id = false ↔ ∀ i, i + 1 < T.length → T.getD i 0 ≤ T.getD (i + 1) 0 := by
  rw [List.any_map, List.any_eq_false]
  constructor
  · intro h i hi
    have := h i (List.mem_range.mpr (by omega))
    have := of_decide_eq_false (Bool.eq_false_iff.mpr this)
    omega
  · intro h i hi
    have := h i (by have := List.mem_range.mp hi; omega)
    exact Bool.eq_false_iff.mp (decide_eq_false (by omega))
section
variable {P : Program} {w : World} {K : PySem.W.Frag} {mg : Str → Option Value} {base : Heap}
abbrev s_is_whole : Stmt := topS 4
abbrev N_is_whole : List Str := ["value"]
theorem sc_is_whole : FnScope N_is_whole ["value"] (defScope s_is_whole) := ⟨rfl, rfl, rfl, by decide +kernel, rfl, by decide +kernel, by decide +kernel⟩
theorem ok_is_whole (T : Txt mg) (D : Df K mg "is_whole" s_is_whole ["value"]) : Cal P w K mg base "is_whole" ["value"] 1 (sp_is_whole K) := by
  refine D.cal sc_is_whole (fun vs H Q E h => ?_) (fun f cdv A outer s H vs Q E hr h => ?_)
  · obtain ⟨i, rfl, _⟩ := h
    rfl
  obtain ⟨i, rfl, k⟩ := h
  refine ⟨_, (pss_one (ps_ret (pe_and (pe_callB call_isi (by rfl) T.n_isinstance (by decide +kernel) (pa_cons (pv 0) (pa_cons (pe_bltn (v := .ty "int") (by rfl) T.n_int (by decide +kernel) rfl) pa_nil))) (pe_one (pe_not (pe_callB call_isi (by rfl) T.n_isinstance (by decide +kernel) (pa_cons (pv 0) (pa_cons (pe_bltn (v := .ty "bool") (by rfl) T.n_bool (by decide +kernel) rfl) pa_nil)))))))), ?_⟩
  refine ⟨_, rfl, _, _, _, _, _, rfl, .ty "int", .base (.int _), kit_ty (b := "int") (r := true) (by decide +kernel), _, rfl, iteT ?_⟩
  refine ⟨_, rfl, _, _, _, _, _, rfl, .ty "bool", .base (.int _), kit_ty (b := "bool") (r := false) (by decide +kernel), _, rfl, k⟩
abbrev s_is_amount : Stmt := topS 5
abbrev N_is_amount : List Str := ["value"]
theorem sc_is_amount : FnScope N_is_amount ["value"] (defScope s_is_amount) := ⟨rfl, rfl, rfl, by decide +kernel, rfl, by decide +kernel, by decide +kernel⟩
theorem ok_is_amount (T : Txt mg) (D : Df K mg "is_amount" s_is_amount ["value"]) (C_is_whole : Cal P w K mg base "is_whole" ["value"] 1 (sp_is_whole K)) : Cal P w K mg base "is_amount" ["value"] 2 (sp_is_amount K) := by
  obtain ⟨f_is_whole, fd_is_whole, G_is_whole, m_is_whole, k_is_whole, b_is_whole⟩ := C_is_whole
  refine D.cal sc_is_amount (fun vs H Q E h => ?_) (fun f cdv A outer s H vs Q E hr h => ?_)
  · obtain ⟨i, rfl, _⟩ := h
    rfl
  obtain ⟨i, rfl, k⟩ := h
  refine ⟨_, (pss_one (ps_ret (pe_and (pe_call G_is_whole (hr.mono (by decide)) (by rfl) m_is_whole k_is_whole b_is_whole .nil pass0 (pa_cons (pv 0) pa_nil)) (pe_one (pe_cmpR op_ge (pv 0) pe_int (nomark _)))))), ?_⟩
  exact ⟨_, rfl, _, rfl, _, rfl, iteT ⟨_, rfl, _, _, rfl, rfl, k⟩⟩
abbrev s_told_error : Stmt := topS 13
abbrev N_told_error : List Str := ["table", "period", "rise", "at", "worth"]
theorem sc_told_error : FnScope N_told_error ["table", "period", "rise"] (defScope s_told_error) := ⟨rfl, rfl, rfl, by decide +kernel, rfl, by decide +kernel, by decide +kernel⟩
theorem ok_told_error (T : Txt mg) (D : Df K mg "told_error" s_told_error ["table", "period", "rise"]) (C_is_amount : Cal P w K mg base "is_amount" ["value"] 2 (sp_is_amount K)) (C_is_whole : Cal P w K mg base "is_whole" ["value"] 1 (sp_is_whole K)) : Cal P w K mg base "told_error" ["table", "period", "rise"] 3 (sp_told_error K) := by
  obtain ⟨f_is_amount, fd_is_amount, G_is_amount, m_is_amount, k_is_amount, b_is_amount⟩ := C_is_amount
  obtain ⟨f_is_whole, fd_is_whole, G_is_whole, m_is_whole, k_is_whole, b_is_whole⟩ := C_is_whole
  refine D.cal sc_told_error (fun vs H Q E h => ?_) (fun f cdv A outer s H vs Q E hr h => ?_)
  · obtain ⟨a, T0, p, r, rfl, _⟩ := h
    rfl
  obtain ⟨a, T0, p, r, rfl, hA, tl, kf, ke, kr⟩ := h
  have ll := len_int T0
  have lm : (T0.map V.int).length = T0.length := List.length_map ..
  rcases id hA with hS | hS
  ·
    refine ⟨_, (pss_cons (ps_if (PW.pt (pw_or (pt_not (pt_val (pe_call G_is_whole (hr.mono (by decide)) (by rfl) m_is_whole k_is_whole b_is_whole .nil pass0 (pa_cons (pv 1) pa_nil)))) (pw_or (pt_not (pt_chain op_le op_le pe_int (pv 1) (pe_callB call_len_seq (by rfl) T.n_len (by decide +kernel) (pa_cons (pv 0) pa_nil)))) (pw_or1 (pt_not (pt_val (pe_call G_is_amount (hr.mono (by decide)) (by rfl) m_is_amount k_is_amount b_is_amount .nil pass0 (pa_cons (pv 2) pa_nil)))))))) (pss_one (ps_ret pe_str)) pss_nil)
    (pss_cons (ps_if (pt_not (pt_val (pe_callB (cr_all rfl) (by rfl) T.n_all (by decide +kernel) (pa_cons (pe_lc (own := [("worth", 4)]) (g := gName 4) (tt := tYes) rfl sc_told_error.nd (pi_list (pv 0)) (blkOk_by (own := [("worth", 4)]) (N := N_told_error) (sc := defScope s_told_error) (by decide +kernel)) (fun _ _ _ _ _ => pg_name (i := 4) sc_told_error.nd rfl (Or.inl rfl)) (fun _ _ _ _ _ => pts_nil) (fun _ _ _ _ _ => (pe_call G_is_amount (hr.mono (by decide)) (by rfl) m_is_amount k_is_amount b_is_amount .nil pass0 (pa_cons (pv 4) pa_nil)))) pa_nil)))) (pss_one (ps_ret pe_str)) pss_nil)
    (pss_cons (ps_if (pt_val (pe_callB (cr_any rfl) (by rfl) T.n_any (by decide +kernel) (pa_cons (pe_lc (own := [("at", 3)]) (g := gName 3) (tt := tYes) rfl sc_told_error.nd (pi_range1 (by rfl) T.n_range (pa_cons (pe_op op_sub (pe_callB call_len_seq (by rfl) T.n_len (by decide +kernel) (pa_cons (pv 0) pa_nil)) pe_int) pa_nil)) (blkOk_by (own := [("at", 3)]) (N := N_told_error) (sc := defScope s_told_error) (by decide +kernel)) (fun _ _ _ _ _ => pg_name (i := 3) sc_told_error.nd rfl (Or.inl rfl)) (fun _ _ _ _ _ => pts_nil) (fun _ _ _ _ _ => (pe_cmpR op_gt (pe_ix (show IxR _ (rIx K) from ix_seq) (pv 0) (pv 3) (fun _ _ => rfl)) (pe_ix (show IxR _ (rIx K) from ix_seq) (pv 0) (pe_op op_add (pv 3) pe_int) (fun _ _ => rfl)) (nomark _)))) pa_nil))) (pss_one (ps_ret pe_str)) pss_nil)
    (pss_cons (ps_if (pt_cmpR op_gt (pe_ix ix_seq (pv 0) (pe_un un_neg pe_int) (fun _ _ => rfl)) (pe_op op_add (pe_ix ix_seq (pv 0) (pe_op op_sub (pe_callB call_len_seq (by rfl) T.n_len (by decide +kernel) (pa_cons (pv 0) pa_nil)) (pv 1)) (fun _ _ => rfl)) (pv 2)) (nomark _)) (pss_one (ps_ret pe_str)) pss_nil)
    (pss_one (ps_ret pe_non)))))), ?_⟩
    refine ⟨_, rfl, p, rfl, _, rfl, iteF ?_⟩
    refine ⟨_, rfl, _, _, rfl, rfl, _, rfl, ite3 (fun c1 => ?_) (fun c1 => ⟨_, rfl, iteT (kf H (Same.refl _) fun F => c1 F.1)⟩)⟩
    refine ⟨_, rfl, _, _, rfl, hA.sq, _, _, rfl, rfl, _, rfl, ite3n (fun c2 => ?_) (fun c2 => kf H (Same.refl _) fun F => c2 (by rw [ll]; exact F.2.1))⟩
    rw [ll] at c2
    refine ⟨_, rfl, r, rfl, _, rfl, ite3n (fun c3 => ?_) (fun c3 => kf H (Same.refl _) fun F => c3 F.2.2.1)⟩
    -- all
    refine ⟨_, rfl, a, rfl, ⟨_, SqL.of hS⟩, fun D nD => ?_⟩
    have sD := same_upd (o := .lst []) nD
    refine lc_list (K := K) (a := a) (xs := T0.map V.int) (fun j H' => Same H H' ∧ H' D = some (.lst (((T0.take j).map fun v => decide (v ≥ 0)).map V.bl))) ⟨sD, upd_same⟩ (fun j H' _ h => SqL.of (h.1 _ _ hS)) ?_ ?_
    · rintro j x H' hx ⟨s', hD⟩
      have hj : j < T0.length := by
        have := (List.getElem?_eq_some_iff.mp hx).1
        rw [lm] at this
        exact this
      have tk : T0.take (j + 1) = T0.take j ++ [T0.getD j 0] := by
        rw [List.take_add_one, List.getD_eq_getElem?_getD, List.getElem?_eq_getElem hj]
        rfl
      rw [get_int hj] at hx
      have hx := (Option.some.inj hx).symm
      subst hx
      refine ⟨rfl, ?_⟩
      unfold tYes
      refine iteT ?_
      refine ⟨_, rfl, _, rfl, _, hD, ?_, fun b o e => ?_, ?_⟩
      · rw [List.length_map, List.length_map, List.length_take]
        exact Nat.lt_of_le_of_lt (show min j T0.length ≤ 6000 by omega) (by decide)
      · rw [upd_ne (ne_of_none e nD)]
        exact s' _ _ e
      · rw [upd_same, tk, List.map_append, List.map_append]
        rfl
    rintro H1 ⟨s1, hD⟩
    rw [lm, List.take_length] at hD
    refine ⟨D, _, rfl, SqL.of hD, _, rfl, ?_⟩
    have hA1 := hA.same s1
    by_cases c4 : ∀ i, i < T0.length → 0 ≤ T0.getD i 0
    · rw [all_nn.mpr c4]
      refine iteF ?_
      have F : FormOk T0 p r := ⟨c1, c2, c3, c4⟩
      obtain ⟨q, rfl⟩ : ∃ q : Nat, p = (q : Int) := ⟨p.toNat, by omega⟩
      rw [Int.toNat_natCast] at kr ke
      -- any
      refine ⟨_, rfl, _, _, rfl, hA1.sq, _, _, rfl, rfl, _, rfl, (by rw [ll]; omega), (by rw [ll]; omega), fun U nU => ?_⟩
      have cnt : ((((T0.map V.int).length : Nat) : Int) - 1).toNat = T0.length - 1 := by rw [ll]; omega
      rw [cnt]
      have sU := same_upd (o := .lst []) nU
      refine lc_range (lo := 0) (n := T0.length - 1) (fun j H' => Same H1 H' ∧ H' U = some (.lst (((List.range j).map fun i => decide (T0.getD i 0 > T0.getD (i + 1) 0)).map V.bl))) ⟨sU, upd_same⟩ ?_ ?_
      · rintro j H' hj ⟨s', hU⟩
        refine ⟨rfl, ?_⟩
        unfold tYes
        refine iteT ?_
        refine ⟨_, rfl, _, rfl, ix_any (hA1.same s') (at_of (j := j) (Int.zero_add _) (get_int (by omega))) ⟨_, rfl, _, rfl, _, _, rfl, rfl, ix_any (hA1.same s') (at_of (j := j + 1) (by omega) (get_int (by omega))) ⟨_, _, rfl, rfl, _, hU, ?_, fun b o e => ?_, ?_⟩⟩⟩
        · rw [List.length_map, List.length_map, List.length_range]
          exact Nat.lt_of_le_of_lt (show j ≤ 6000 by omega) (by decide)
        · rw [upd_ne (ne_of_none e nU)]
          exact s' _ _ e
        · rw [upd_same, List.range_succ, List.map_append, List.map_append]
          rfl
      rintro H2 ⟨s2, hU⟩
      refine ⟨U, _, rfl, SqL.of hU, _, rfl, ?_⟩
      have hA2 := hA1.same s2
      have s12 := s1.trans s2
      by_cases c5 : ∀ i, i + 1 < T0.length → T0.getD i 0 ≤ T0.getD (i + 1) 0
      · rw [any_mono.mpr c5]
        refine iteF ?_
        have e1 : (((T0.map V.int).length : Nat) : Int) - (q : Int) = ((T0.length - q : Nat) : Int) := by rw [ll]; omega
        refine ⟨_, rfl, _, rfl, ix_any hA2 (last_int (by omega)) ⟨_, rfl, _, rfl, _, _, rfl, hA2.sq, _, rfl, _, _, rfl, rfl, ix_any hA2 (at_of e1 (get_int (by omega))) ⟨_, rfl, _, _, rfl, rfl, _, _, rfl, rfl, _, rfl, ite3 (fun c6 => ke H2 s12 F fun o => ?_) (fun c6 => kr H2 s12 F ⟨by omega, by omega, c3, c4, c5, by omega⟩)⟩⟩⟩
        have := o.wrap
        omega
      · rw [show (((List.range (T0.length - 1)).map fun i => decide (T0.getD i 0 > T0.getD (i + 1) 0)).any id) = true from by
          cases z : ((List.range (T0.length - 1)).map fun i => decide (T0.getD i 0 > T0.getD (i + 1) 0)).any id with
          | true => rfl
          | false => exact absurd (any_mono.mp z) c5]
        exact iteT (ke H2 s12 F fun o => c5 o.mono)
    · rw [show (((T0.map fun v => decide (v ≥ 0)).all id)) = false from by
        cases z : (T0.map fun v => decide (v ≥ 0)).all id with
        | false => rfl
        | true => exact absurd (all_nn.mp z) c4]
      exact iteT (kf H1 s1 fun F => c4 F.2.2.2)
  ·
    refine ⟨_, (pss_cons (ps_if (PW.pt (pw_or (pt_not (pt_val (pe_call G_is_whole (hr.mono (by decide)) (by rfl) m_is_whole k_is_whole b_is_whole .nil pass0 (pa_cons (pv 1) pa_nil)))) (pw_or (pt_not (pt_chain op_le op_le pe_int (pv 1) (pe_callB call_len_seq (by rfl) T.n_len (by decide +kernel) (pa_cons (pv 0) pa_nil)))) (pw_or1 (pt_not (pt_val (pe_call G_is_amount (hr.mono (by decide)) (by rfl) m_is_amount k_is_amount b_is_amount .nil pass0 (pa_cons (pv 2) pa_nil)))))))) (pss_one (ps_ret pe_str)) pss_nil)
    (pss_cons (ps_if (pt_not (pt_val (pe_callB (cr_all rfl) (by rfl) T.n_all (by decide +kernel) (pa_cons (pe_lc (own := [("worth", 4)]) (g := gName 4) (tt := tYes) rfl sc_told_error.nd (pi_tup (pv 0)) (blkOk_by (own := [("worth", 4)]) (N := N_told_error) (sc := defScope s_told_error) (by decide +kernel)) (fun _ _ _ _ _ => pg_name (i := 4) sc_told_error.nd rfl (Or.inl rfl)) (fun _ _ _ _ _ => pts_nil) (fun _ _ _ _ _ => (pe_call G_is_amount (hr.mono (by decide)) (by rfl) m_is_amount k_is_amount b_is_amount .nil pass0 (pa_cons (pv 4) pa_nil)))) pa_nil)))) (pss_one (ps_ret pe_str)) pss_nil)
    (pss_cons (ps_if (pt_val (pe_callB (cr_any rfl) (by rfl) T.n_any (by decide +kernel) (pa_cons (pe_lc (own := [("at", 3)]) (g := gName 3) (tt := tYes) rfl sc_told_error.nd (pi_range1 (by rfl) T.n_range (pa_cons (pe_op op_sub (pe_callB call_len_seq (by rfl) T.n_len (by decide +kernel) (pa_cons (pv 0) pa_nil)) pe_int) pa_nil)) (blkOk_by (own := [("at", 3)]) (N := N_told_error) (sc := defScope s_told_error) (by decide +kernel)) (fun _ _ _ _ _ => pg_name (i := 3) sc_told_error.nd rfl (Or.inl rfl)) (fun _ _ _ _ _ => pts_nil) (fun _ _ _ _ _ => (pe_cmpR op_gt (pe_ix (show IxR _ (rIx K) from ix_seq) (pv 0) (pv 3) (fun _ _ => rfl)) (pe_ix (show IxR _ (rIx K) from ix_seq) (pv 0) (pe_op op_add (pv 3) pe_int) (fun _ _ => rfl)) (nomark _)))) pa_nil))) (pss_one (ps_ret pe_str)) pss_nil)
    (pss_cons (ps_if (pt_cmpR op_gt (pe_ix ix_seq (pv 0) (pe_un un_neg pe_int) (fun _ _ => rfl)) (pe_op op_add (pe_ix ix_seq (pv 0) (pe_op op_sub (pe_callB call_len_seq (by rfl) T.n_len (by decide +kernel) (pa_cons (pv 0) pa_nil)) (pv 1)) (fun _ _ => rfl)) (pv 2)) (nomark _)) (pss_one (ps_ret pe_str)) pss_nil)
    (pss_one (ps_ret pe_non)))))), ?_⟩
    refine ⟨_, rfl, p, rfl, _, rfl, iteF ?_⟩
    refine ⟨_, rfl, _, _, rfl, rfl, _, rfl, ite3 (fun c1 => ?_) (fun c1 => ⟨_, rfl, iteT (kf H (Same.refl _) fun F => c1 F.1)⟩)⟩
    refine ⟨_, rfl, _, _, rfl, hA.sq, _, _, rfl, rfl, _, rfl, ite3n (fun c2 => ?_) (fun c2 => kf H (Same.refl _) fun F => c2 (by rw [ll]; exact F.2.1))⟩
    rw [ll] at c2
    refine ⟨_, rfl, r, rfl, _, rfl, ite3n (fun c3 => ?_) (fun c3 => kf H (Same.refl _) fun F => c3 F.2.2.1)⟩
    -- all
    refine ⟨_, rfl, a, rfl, ⟨_, SqT.of hS⟩, fun D nD => ?_⟩
    have sD := same_upd (o := .lst []) nD
    refine lc_tup (K := K) (a := a) (xs := T0.map V.int) (fun j H' => Same H H' ∧ H' D = some (.lst (((T0.take j).map fun v => decide (v ≥ 0)).map V.bl))) ⟨sD, upd_same⟩ (fun j H' _ h => SqT.of (h.1 _ _ hS)) ?_ ?_
    · rintro j x H' hx ⟨s', hD⟩
      have hj : j < T0.length := by
        have := (List.getElem?_eq_some_iff.mp hx).1
        rw [lm] at this
        exact this
      have tk : T0.take (j + 1) = T0.take j ++ [T0.getD j 0] := by
        rw [List.take_add_one, List.getD_eq_getElem?_getD, List.getElem?_eq_getElem hj]
        rfl
      rw [get_int hj] at hx
      have hx := (Option.some.inj hx).symm
      subst hx
      refine ⟨rfl, ?_⟩
      unfold tYes
      refine iteT ?_
      refine ⟨_, rfl, _, rfl, _, hD, ?_, fun b o e => ?_, ?_⟩
      · rw [List.length_map, List.length_map, List.length_take]
        exact Nat.lt_of_le_of_lt (show min j T0.length ≤ 6000 by omega) (by decide)
      · rw [upd_ne (ne_of_none e nD)]
        exact s' _ _ e
      · rw [upd_same, tk, List.map_append, List.map_append]
        rfl
    rintro H1 ⟨s1, hD⟩
    rw [lm, List.take_length] at hD
    refine ⟨D, _, rfl, SqL.of hD, _, rfl, ?_⟩
    have hA1 := hA.same s1
    by_cases c4 : ∀ i, i < T0.length → 0 ≤ T0.getD i 0
    · rw [all_nn.mpr c4]
      refine iteF ?_
      have F : FormOk T0 p r := ⟨c1, c2, c3, c4⟩
      obtain ⟨q, rfl⟩ : ∃ q : Nat, p = (q : Int) := ⟨p.toNat, by omega⟩
      rw [Int.toNat_natCast] at kr ke
      -- any
      refine ⟨_, rfl, _, _, rfl, hA1.sq, _, _, rfl, rfl, _, rfl, (by rw [ll]; omega), (by rw [ll]; omega), fun U nU => ?_⟩
      have cnt : ((((T0.map V.int).length : Nat) : Int) - 1).toNat = T0.length - 1 := by rw [ll]; omega
      rw [cnt]
      have sU := same_upd (o := .lst []) nU
      refine lc_range (lo := 0) (n := T0.length - 1) (fun j H' => Same H1 H' ∧ H' U = some (.lst (((List.range j).map fun i => decide (T0.getD i 0 > T0.getD (i + 1) 0)).map V.bl))) ⟨sU, upd_same⟩ ?_ ?_
      · rintro j H' hj ⟨s', hU⟩
        refine ⟨rfl, ?_⟩
        unfold tYes
        refine iteT ?_
        refine ⟨_, rfl, _, rfl, ix_any (hA1.same s') (at_of (j := j) (Int.zero_add _) (get_int (by omega))) ⟨_, rfl, _, rfl, _, _, rfl, rfl, ix_any (hA1.same s') (at_of (j := j + 1) (by omega) (get_int (by omega))) ⟨_, _, rfl, rfl, _, hU, ?_, fun b o e => ?_, ?_⟩⟩⟩
        · rw [List.length_map, List.length_map, List.length_range]
          exact Nat.lt_of_le_of_lt (show j ≤ 6000 by omega) (by decide)
        · rw [upd_ne (ne_of_none e nU)]
          exact s' _ _ e
        · rw [upd_same, List.range_succ, List.map_append, List.map_append]
          rfl
      rintro H2 ⟨s2, hU⟩
      refine ⟨U, _, rfl, SqL.of hU, _, rfl, ?_⟩
      have hA2 := hA1.same s2
      have s12 := s1.trans s2
      by_cases c5 : ∀ i, i + 1 < T0.length → T0.getD i 0 ≤ T0.getD (i + 1) 0
      · rw [any_mono.mpr c5]
        refine iteF ?_
        have e1 : (((T0.map V.int).length : Nat) : Int) - (q : Int) = ((T0.length - q : Nat) : Int) := by rw [ll]; omega
        refine ⟨_, rfl, _, rfl, ix_any hA2 (last_int (by omega)) ⟨_, rfl, _, rfl, _, _, rfl, hA2.sq, _, rfl, _, _, rfl, rfl, ix_any hA2 (at_of e1 (get_int (by omega))) ⟨_, rfl, _, _, rfl, rfl, _, _, rfl, rfl, _, rfl, ite3 (fun c6 => ke H2 s12 F fun o => ?_) (fun c6 => kr H2 s12 F ⟨by omega, by omega, c3, c4, c5, by omega⟩)⟩⟩⟩
        have := o.wrap
        omega
      · rw [show (((List.range (T0.length - 1)).map fun i => decide (T0.getD i 0 > T0.getD (i + 1) 0)).any id) = true from by
          cases z : ((List.range (T0.length - 1)).map fun i => decide (T0.getD i 0 > T0.getD (i + 1) 0)).any id with
          | true => rfl
          | false => exact absurd (any_mono.mp z) c5]
        exact iteT (ke H2 s12 F fun o => c5 o.mono)
    · rw [show (((T0.map fun v => decide (v ≥ 0)).all id)) = false from by
        cases z : (T0.map fun v => decide (v ≥ 0)).all id with
        | false => rfl
        | true => exact absurd (all_nn.mp z) c4]
      exact iteT (kf H1 s1 fun F => c4 F.2.2.2)
end
end Sm

set_option Elab.async false
set_option linter.all false
set_option maxRecDepth 100000
set_option maxHeartbeats 16000000
namespace Sm
open PySem PySem.Spec PyProof.Rows L2
open C8 (pss_cut tCut)
theorem of_tup (d : PyData) : isOf "tuple" d = (match d with | .tuple _ => true | _ => false) := by
  cases d <;> simp [isOf, isT, tyN]
theorem dq_row {K : PySem.W.Frag} {H : Hp} : ∀ ns : List Int, DqAll K H (ns.map V.int) (ns.map PyData.int)
  | [] => .nil
  | n :: ns => .cons (.int n) (dq_row ns)
def ruD (T : List Int) (p : Nat) (r : Int) : PyData := .tuple [.tuple (T.map PyData.int), .int (p : Int), .int r]
theorem dq_rule {K : PySem.W.Frag} {H : Hp} {d : Addr} {T : List Int} {p : Nat} {r : Int} (R : RuleAt H d T p r) : Dq K H (.ref d) (ruD T p r) := by
  obtain ⟨t, hd, ht⟩ := R
  exact .tup hd (.cons (.tup ht (dq_row T)) (.cons (.int _) (.cons (.int _) .nil)))
/-! ### rules as objects -/
def RuleO (cRule : Addr) (H : Hp) (a : Addr) (T : List Int) (p : Nat) (r : Int) : Prop := ∃ dx d t : Addr, H a = some (.ins cRule dx [(("value" : Str), .ref d), (("table" : Str), .ref t), (("period" : Str), .int (p : Int)), (("rise" : Str), .int r)]) ∧ H d = some (.tup [.ref t, .int (p : Int), .int r]) ∧ H t = some (.tup (T.map V.int))
theorem RuleO.same {cRule : Addr} {H H' : Hp} {a : Addr} {T : List Int} {p : Nat} {r : Int} (h : RuleO cRule H a T p r) (s : Same H H') : RuleO cRule H' a T p r := by
  obtain ⟨dx, d, t, h1, h2, h3⟩ := h
  exact ⟨dx, d, t, s _ _ h1, s _ _ h2, s _ _ h3⟩
structure TxR (K : PySem.W.Frag) (mg : Str → Option Value) (cRule fRi fEq fCa fAd fOr fSh fXo : Addr) : Prop where
  g : mg "Rule" = some (.ref cRule)
  ins : InsC K cRule
  mak : Mk K cRule fRi
  naV : NoAttr K cRule "value"
  naT : NoAttr K cRule "table"
  naP : NoAttr K cRule "period"
  naR : NoAttr K cRule "rise"
  is : PySem.W.kitOne K (.ref cRule) (.ref cRule) = some true
  mEq : Spm K cRule "__eq__" fEq
  first : PySem.W.selfFirst K cRule = true
  mCa : Spm K cRule "__call__" fCa
  mAd : Spm K cRule "__add__" fAd
  mOr : Spm K cRule "__or__" fOr
  mSh : Spm K cRule "__rshift__" fSh
  mXo : Spm K cRule "__xor__" fXo
def sp_rule_error (_ : PySem.W.Frag) : Sp := fun vs H Q _ => ∃ (d : Addr) (T : List Int) (p : Nat) (r : Int), vs = [.ref d] ∧ RuleAt H d T p r ∧ Short T p r ∧ RB T p r ∧ T.length ≤ 5000 ∧ ∀ H', Same H H' → Q .non H'
def sp_Rinit (K : PySem.W.Frag) (cRule : Addr) : Sp := fun vs H Q _ => ∃ (a dx d : Addr) (T : List Int) (p : Nat) (r : Int), vs = [.ref a, .ref d] ∧ H a = some (.ins cRule dx []) ∧ RuleAt H d T p r ∧ Short T p r ∧ RB T p r ∧ T.length ≤ 5000 ∧
  ∀ H', (∀ b o, b ≠ a → H b = some o → H' b = some o) → RuleO cRule H' a T p r → Q .non H'
def sp_Req (cRule : Addr) : Sp := fun vs H Q _ => ∃ (a b : Addr) (T : List Int) (p : Nat) (r : Int), vs = [.ref a, .ref b] ∧ RuleO cRule H a T p r ∧ RuleO cRule H b T p r ∧ Q (.bl true) H
section
variable {P : Program} {w : World} {K : PySem.W.Frag} {mg : Str → Option Value} {base : Heap} {cRule fRi fEq fCa fAd fOr fSh fXo : Addr}
abbrev s_rule_error : Stmt := topS 12
abbrev N_rule_error : List Str := ["value", "table", "period", "rise", "wrong"]
theorem sc_rule_error : FnScope N_rule_error ["value"] (defScope s_rule_error) := ⟨rfl, rfl, rfl, by decide +kernel, rfl, by decide +kernel, by decide +kernel⟩
theorem ok_rule_error (T : Txt mg) (D : Df K mg "rule_error" s_rule_error ["value"]) (C_shortest : Cal P w K mg base "shortest" ["table", "period", "rise"] 2 (sp_shortest K)) (C_told_error : Cal P w K mg base "told_error" ["table", "period", "rise"] 3 (sp_told_error K)) : Cal P w K mg base "rule_error" ["value"] 4 (sp_rule_error K) := by
  obtain ⟨f_shortest, fd_shortest, G_shortest, m_shortest, k_shortest, b_shortest⟩ := C_shortest
  obtain ⟨f_told_error, fd_told_error, G_told_error, m_told_error, k_told_error, b_told_error⟩ := C_told_error
  refine D.cal sc_rule_error (fun vs H Q E h => ?_) (fun f cdv A outer s H vs Q E hr h => ?_)
  · obtain ⟨d, T0, p, r, rfl, _⟩ := h
    rfl
  obtain ⟨d, T0, p, r, rfl, R, s, b, l5, kk⟩ := h
  obtain ⟨t, hd, ht⟩ := id R
  have so := s.ok
  have bl : T0.length ≤ 6000 := by omega
  refine ⟨_, (pss_cons (ps_if (PW.pt (pw_or (pt_not (pt_val (pe_callB call_isQ (by rfl) T.n_isinstance (by decide +kernel) (pa_cons (pv 0) (pa_cons (pe_bltn (v := .ty "tuple") (by rfl) T.n_tuple (by decide +kernel) rfl) pa_nil))))) (pw_or (pt_cmpR op_ne (pe_callB call_len_seq (by rfl) T.n_len (by decide +kernel) (pa_cons (pv 0) pa_nil)) pe_int (nomark _)) (pw_or1 (pt_not (pt_val (pe_callB call_isQ (by rfl) T.n_isinstance (by decide +kernel) (pa_cons (pe_ix ix_tup (pv 0) pe_int (fun _ _ => rfl)) (pa_cons (pe_bltn (v := .ty "tuple") (by rfl) T.n_tuple (by decide +kernel) rfl) pa_nil))))))))) (pss_one (ps_ret pe_str)) pss_nil)
    (pss_cons (ps_asg (pv 0) (pg_tup (by rfl) (pgs_cons (pg_name (i := 1) sc_rule_error.nd rfl (Or.inl rfl)) (pgs_cons (pg_name (i := 2) sc_rule_error.nd rfl (Or.inl rfl)) (pgs_cons (pg_name (i := 3) sc_rule_error.nd rfl (Or.inl rfl)) pgs_nil)))))
    (pss_cons (ps_set (i := 4) sc_rule_error.nd rfl (Or.inl rfl) (pe_call G_told_error (hr.mono (by decide)) (by rfl) m_told_error k_told_error b_told_error .nil pass0 (pa_cons (pv 1) (pa_cons (pv 2) (pa_cons (pv 3) pa_nil)))))
    (pss_cons (ps_if (pt_cmpR op_notN (pv 4) pe_non (nomark _)) (pss_one (ps_ret (pv 4))) pss_nil)
    (pss_cons (ps_if (pt_cmpR op_lt (pe_callB call_len_seq (by rfl) T.n_len (by decide +kernel) (pa_cons (pe_ix ix_tup (pe_call G_shortest (hr.mono (by decide)) (by rfl) m_shortest k_shortest b_shortest .nil pass0 (pa_cons (pv 1) (pa_cons (pv 2) (pa_cons (pv 3) pa_nil)))) pe_int (fun _ _ => rfl)) pa_nil)) (pe_callB call_len_seq (by rfl) T.n_len (by decide +kernel) (pa_cons (pv 1) pa_nil)) (nomark _)) (pss_one (ps_ret pe_str)) pss_nil)
    (pss_one (ps_ret pe_non))))))), ?_⟩
  refine ⟨_, rfl, _, _, "tuple", rfl, dq_rule R, .inr (.inr (.inr (.inl rfl))), ?_⟩
  rw [of_tup]
  refine ⟨_, rfl, iteF ⟨_, rfl, d, _, rfl, .inr (SqT.of hd), rfl, _, rfl, iteF ?_⟩⟩
  refine ⟨_, rfl, _, _, _, _, rfl, rfl, SqT.of hd, atI_nat (j := 0) rfl, _, _, "tuple", rfl, .tup ht (dq_row T0), .inr (.inr (.inr (.inl rfl))), ?_⟩
  rw [of_tup]
  refine ⟨_, rfl, iteF ?_⟩
  refine ⟨_, rfl, d, _, rfl, SqT.of hd, rfl, _, _, rfl, _, _, rfl, _, _, rfl, rfl, ?_⟩
  have form : FormOk T0 (p : Int) r := ⟨by have := so.p0; omega, by have := so.p1; omega, so.r0, so.nn⟩
  refine ⟨_, rfl, _, rfl, _, rfl, t, T0, (p : Int), r, rfl, .inr ht, bl, fun H' _ nf => absurd form nf, fun H' _ _ no => absurd (by rw [Int.toNat_natCast]; exact so) no, fun H1 s1 _ _ => ?_⟩
  refine ⟨_, rfl, rfl, _, rfl, iteNP rfl ?_⟩
  refine ⟨_, rfl, _, rfl, _, rfl, t, T0, p, r, rfl, .inr (s1 _ _ ht), so, b, fun H2 d' T' p' r' s2 R' c' sh hv => ?_⟩
  obtain ⟨t', hd', ht'⟩ := R'
  obtain ⟨rfl, rfl, rfl⟩ := short_one sh s hv
  have s12 := s1.trans s2
  refine ⟨_, _, _, _, rfl, rfl, SqT.of hd', atI_nat (j := 0) rfl, _, _, rfl, .inr (SqT.of ht'), _, rfl, t, _, rfl, .inr (SqT.of (s12 _ _ ht)), _, _, rfl, rfl, _, rfl, ?_⟩
  exact iteN (Int.lt_irrefl _) (kk H2 s12)
abbrev s_Rule_init : Stmt := inClass (topS 39) 0
abbrev N_Rule_init : List Str := ["self", "value", "wrong"]
theorem sc_Rule_init : FnScope N_Rule_init ["self", "value"] (defScope s_Rule_init) := ⟨rfl, rfl, rfl, by decide +kernel, rfl, by decide +kernel, by decide +kernel⟩
theorem ok_Rinit {fd : FuncData} (T : Txt mg) (R : TxR K mg cRule fRi fEq fCa fAd fOr fSh fXo) (C_rule_error : Cal P w K mg base "rule_error" ["value"] 4 (sp_rule_error K)) (F : Fun K "__init__" "Rule.__init__" s_Rule_init fRi fd) : FnOk P w K mg base CX0 5 fRi fd ["self", "value"] (sp_Rinit K cRule) := by
  obtain ⟨f_rule_error, fd_rule_error, G_rule_error, m_rule_error, k_rule_error, b_rule_error⟩ := C_rule_error
  refine F.ok sc_Rule_init (fun vs H Q E h => ?_) (fun cdv A outer s H vs Q E hr h => ?_)
  · obtain ⟨a, dx, d, T0, p, r, rfl, _⟩ := h
    rfl
  obtain ⟨a, dx, d, T0, p, r, rfl, ha, RA, sh, b, l5, kk⟩ := h
  obtain ⟨t, hd, ht⟩ := id RA
  refine ⟨_, (pss_cons (ps_set (i := 2) sc_Rule_init.nd rfl (Or.inl rfl) (pe_call G_rule_error (hr.mono (by decide)) (by rfl) m_rule_error k_rule_error b_rule_error .nil pass0 (pa_cons (pv 1) pa_nil)))
    (pss_cons (ps_if (pt_cmpR op_notN (pv 2) pe_non (nomark _)) (pss_one ps_no) pss_nil)
    (pss_cons (ps_fld (pv 0) (pv 1) rfl)
    (pss_one (ps_asg (pv 1) (pg_tup (by rfl) (pgs_cons (pg_fld (pv 0)) (pgs_cons (pg_fld (pv 0)) (pgs_cons (pg_fld (pv 0)) pgs_nil))))))))), ?_⟩
  refine ⟨_, rfl, d, T0, p, r, rfl, RA, sh, b, l5, fun H1 s1 => ?_⟩
  refine ⟨_, rfl, rfl, _, rfl, iteNP rfl ?_⟩
  refine ⟨_, rfl, _, rfl, a, cRule, dx, _, rfl, s1 _ _ ha, R.ins.cl, R.naV, by decide, ?_⟩
  have da : d ≠ a := fun e => by rw [e, ha] at hd; cases hd
  have ta : t ≠ a := fun e => by rw [e, ha] at ht; cases ht
  have hd1 := s1 _ _ hd
  have ht1 := s1 _ _ ht
  refine ⟨_, rfl, d, _, rfl, SqT.of (by rw [upd_ne da]; exact hd1), rfl, _, _, rfl, _, rfl, a, cRule, dx, _, rfl, upd_same, R.ins.cl, R.naT, by show 1 < 1000; decide, ?_⟩
  refine ⟨_, _, rfl, _, rfl, a, cRule, dx, _, rfl, upd_same, R.ins.cl, R.naP, by show 2 < 1000; decide, _, _, rfl, _, rfl, a, cRule, dx, _, rfl, upd_same, R.ins.cl, R.naR, by show 3 < 1000; decide, rfl, ?_⟩
  have nb : ∀ b o, b ≠ a → H b = some o → upd (upd (upd (upd H1 a (HO.ins cRule dx (putF "value" (V.ref d) []))) a (HO.ins cRule dx (putF "table" (V.ref t) (putF "value" (V.ref d) [])))) a (HO.ins cRule dx (putF "period" (V.int (p : Int)) (putF "table" (V.ref t) (putF "value" (V.ref d) []))))) a (HO.ins cRule dx (putF "rise" (V.int r) (putF "period" (V.int (p : Int)) (putF "table" (V.ref t) (putF "value" (V.ref d) []))))) b = some o := fun b o n hb => by
    rw [upd_ne n, upd_ne n, upd_ne n, upd_ne n]
    exact s1 _ _ hb
  exact kk _ nb ⟨dx, d, t, upd_same, nb d _ da hd, nb t _ ta ht⟩
abbrev s_Rule_eq : Stmt := inClass (topS 39) 2
abbrev N_Rule_eq : List Str := ["self", "other"]
theorem sc_Rule_eq : FnScope N_Rule_eq ["self", "other"] (defScope s_Rule_eq) := ⟨rfl, rfl, rfl, by decide +kernel, rfl, by decide +kernel, by decide +kernel⟩
theorem ok_Req {fd : FuncData} (T : Txt mg) (R : TxR K mg cRule fRi fEq fCa fAd fOr fSh fXo) (F : Fun K "__eq__" "Rule.__eq__" s_Rule_eq fEq fd) : FnOk P w K mg base CX0 1 fEq fd ["self", "other"] (sp_Req cRule) := by
  have g_Rule := R.g
  refine F.ok sc_Rule_eq (fun vs H Q E h => ?_) (fun cdv A outer s H vs Q E hr h => ?_)
  · obtain ⟨a, b, T0, p, r, rfl, _⟩ := h
    rfl
  obtain ⟨a, b, T0, p, r, rfl, ⟨dx, d, t, ha, hd, ht⟩, ⟨dy, e, u, hb, he, hu⟩, kk⟩ := h
  refine ⟨_, (pss_one (ps_ret (pe_and (pe_callB call_isi (by rfl) T.n_isinstance (by decide +kernel) (pa_cons (pv 1) (pa_cons (pe_glob (v := .ref cRule) rfl g_Rule rfl) pa_nil))) (pe_one (pe_cmpR (op_eqD hr.units) (pe_fld (pv 0) rfl) (pe_fld (pv 1) rfl) (nomark _)))))), ?_⟩
  refine ⟨_, rfl, _, _, _, _, true, rfl, .own _, R.ins.ty hb, R.is, _, rfl, iteT ?_⟩
  refine ⟨_, rfl, a, cRule, dx, _, _, rfl, ha, R.ins.cl, R.naV, rfl, _, rfl, b, cRule, dy, _, _, rfl, hb, R.ins.cl, R.naV, rfl, ?_⟩
  have D1 : Dp K H (.ref d) (ruD T0 p r) := .tup (SqT.of hd) (.cons (.tup (SqT.of ht) (Sm.dp_ints T0)) (.cons (.int _) (.cons (.int _) .nil)))
  have D2 : Dp K H (.ref e) (ruD T0 p r) := .tup (SqT.of he) (.cons (.tup (SqT.of hu) (Sm.dp_ints T0)) (.cons (.int _) (.cons (.int _) .nil)))
  have sh : SeqAt.shaped (ruD T0 p r) = true := by
    have b := depth_int T0
    have c : (ruD T0 p r).depth ≤ 64 := by
      simp only [ruD, PyData.depth, PyData.depthAll]
      omega
    simp [SeqAt.shaped, ruD, PyData.canLay0, PyData.canLayAll0, ints_lay] at c ⊢
    exact decide_eq_true c
  exact ⟨_, _, D1, D2, sh, sh, by rw [SeqAt.eqv_refl _ (SeqAt.canLay_of_shaped sh)]; exact kk⟩
end
end Sm

set_option Elab.async false
set_option linter.all false
set_option maxRecDepth 100000
set_option maxHeartbeats 16000000
namespace Sm
open PySem PySem.Spec PyProof.Rows L2
open C8 (pss_cut tCut)
/-- a promise that is never broken by a raise -/
theorem no_raise {P : Program} {w : World} {K : PySem.W.Frag} {mg : Str → Option Value} {base : Heap} {k : Nat} {f : Addr} {fd : FuncData} {ps : List Str} {sp sp' : Sp} (F : FnOk P w K mg base (L2.CX P w) k f fd ps sp) (h : ∀ vs H Q E, sp' vs H Q E → sp vs H Q E0) : FnOk P w K mg base CX0 k f fd ps sp' := by
  refine ⟨fun vs H Q E h' => F.len _ _ _ _ (h _ _ _ _ h'), fun A outer s H args us vs Q E hr e0 hb hv h' => ?_⟩
  refine codeAny_mono (F.run A outer s H args us _ Q E0 hr e0 hb hv (h _ _ _ _ h')) ?_
  rintro (e | fl) s' got
  · obtain ⟨_, _, _, _, _, _, _, _, _, _, _, _, hE⟩ := got
    exact hE.elim
  · match fl, got with
    | .next, got => exact got.elim
    | .brk, got => exact got.elim
    | .cont, got => exact got.elim
    | .ret u, got => exact got
theorem no_raiseC {P : Program} {w : World} {K : PySem.W.Frag} {mg : Str → Option Value} {base : Heap} {k : Nat} {x : Str} {ps : List Str} {sp sp' : Sp} (C : CalX P w K mg base x ps k sp) (h : ∀ vs H Q E, sp' vs H Q E → sp vs H Q E0) : Cal P w K mg base x ps k sp' := by
  obtain ⟨f, fd, F, m, kp, b⟩ := C
  exact ⟨f, fd, no_raise F h, m, kp, b⟩
theorem RuleO.at {cRule : Addr} {H : Hp} {a : Addr} {T : List Int} {p : Nat} {r : Int} (h : RuleO cRule H a T p r) : ∃ dx d t : Addr, H a = some (.ins cRule dx [(("value" : Str), .ref d), (("table" : Str), .ref t), (("period" : Str), .int (p : Int)), (("rise" : Str), .int r)]) ∧ RuleAt H d T p r := by
  obtain ⟨dx, d, t, h1, h2, h3⟩ := h
  exact ⟨dx, d, t, h1, t, h2, h3⟩
/-- Rule(..) of a rule that stands at d -/
theorem new_rule {K : PySem.W.Frag} {cRule d : Addr} {H : Hp} {T : List Int} {p : Nat} {r : Int} {Q : Addr → Hp → Prop} (R : RuleAt H d T p r) (sh : Short T p r) (b : RB T p r) (l5 : T.length ≤ 5000) (kk : ∀ a H', Same H H' → RuleO cRule H' a T p r → Q a H') :
    ∀ x dx : Addr, H x = none → H dx = none → dx ≠ x → sp_Rinit K cRule [.ref x, .ref d] (upd (upd H dx (.own x)) x (.ins cRule dx [])) (fun v H' => v = .non ∧ Q x H') E0 := by
  intro x dx nx ndx ne
  have sx : Same H (upd (upd H dx (.own x)) x (.ins cRule dx [])) := fun b o hb => by
    rw [upd_ne (ne_of_none hb nx), upd_ne (ne_of_none hb ndx)]
    exact hb
  refine ⟨x, dx, d, T, p, r, rfl, upd_same, R.same sx, sh, b, l5, fun H' keep O => ⟨rfl, kk x H' (fun b o hb => keep b o (ne_of_none hb nx) (sx b o hb)) O⟩⟩
def sp_Rcall (cRule : Addr) : Sp := fun vs H Q _ => ∃ (a : Addr) (T : List Int) (p : Nat) (r : Int) (x : Nat), vs = [.ref a, .int (x : Int)] ∧ RuleO cRule H a T p r ∧ RuleOk T p r ∧ RB T p r ∧ Q (.int (vl T p r x)) H
/-- the object of a rule with these values -/
def ResO (cRule : Addr) (g : Nat → Int) (H : Hp) (Q : VK) : Prop := ∀ H' q T p r, Same H H' → RuleO cRule H' q T p r → Short T p r → RB T p r → (∀ x, vl T p r x = g x) → T.length ≤ 5000 → Q (.ref q) H'
def sp_Radd (cRule : Addr) : Sp := fun vs H Q _ => ∃ (a b : Addr) (T1 T2 : List Int) (p1 p2 : Nat) (r1 r2 : Int), vs = [.ref a, .ref b] ∧ RuleO cRule H a T1 p1 r1 ∧ RuleO cRule H b T2 p2 r2 ∧ RuleOk T1 p1 r1 ∧ RuleOk T2 p2 r2 ∧ RS MM T1 p1 r1 ∧ RS MM T2 p2 r2 ∧ ResO cRule (fun x => vl T1 p1 r1 x + vl T2 p2 r2 x) H Q
def sp_RorX (c cRule : Addr) : Sp := fun vs H Q E => ∃ (a b : Addr) (T1 T2 : List Int) (p1 p2 : Nat) (r1 r2 : Int), vs = [.ref a, .ref b] ∧ RuleO cRule H a T1 p1 r1 ∧ RuleO cRule H b T2 p2 r2 ∧ Short T1 p1 r1 ∧ Short T2 p2 r2 ∧ RS 10000000000000 T1 p1 r1 ∧ RS 10000000000000 T2 p2 r2 ∧ ResO cRule (fun x => max (vl T1 p1 r1 x) (vl T2 p2 r2 x)) H Q ∧
  ∀ n : Nat, 5000 < n → (∀ T' p' r', Short T' p' r' → (∀ x, vl T' p' r' x = max (vl T1 p1 r1 x) (vl T2 p2 r2 x)) → T'.length = n) → ∀ H', Same H H' → Lng c (n : Int) H' E
def sp_RshX (c cRule : Addr) : Sp := fun vs H Q E => ∃ (a b : Addr) (T1 T2 : List Int) (p1 p2 : Nat) (r1 r2 : Int), vs = [.ref a, .ref b] ∧ RuleO cRule H a T1 p1 r1 ∧ RuleO cRule H b T2 p2 r2 ∧ RuleOk T1 p1 r1 ∧ RuleOk T2 p2 r2 ∧ RS 100000 T1 p1 r1 ∧ RS 100000 T2 p2 r2 ∧ ResO cRule (thn T1 p1 r1 T2 p2 r2) H Q ∧
  ∀ H' T p r, Same H H' → RB T p r → Short T p r → (∀ x, vl T p r x = thn T1 p1 r1 T2 p2 r2 x) → 5000 < T.length → Lng c (T.length : Int) H' E
def sp_Rxor (cRule : Addr) : Sp := fun vs H Q _ => ∃ (a b : Addr) (T1 T2 T : List Int) (p1 p2 p : Nat) (r1 r2 r : Int), vs = [.ref a, .ref b] ∧ RuleO cRule H a T1 p1 r1 ∧ RuleO cRule H b T2 p2 r2 ∧ FitX T1 p1 r1 T2 p2 r2 ∧ Short T p r ∧ (∀ x, IsC (vl T1 p1 r1) (vl T2 p2 r2) (x + 1) x (vl T p r x)) ∧ T.length ≤ 5000 ∧
  ∀ H' q, Same H H' → RuleO cRule H' q T p r → RB T p r → Q (.ref q) H'
def sp_split_rule (_ : PySem.W.Frag) : Sp := fun vs H Q _ => ∃ (d1 d2 : Addr) (T1 T2 T : List Int) (p1 p2 p : Nat) (r1 r2 r : Int), vs = [.ref d1, .ref d2] ∧ RuleAt H d1 T1 p1 r1 ∧ RuleAt H d2 T2 p2 r2 ∧ FitX T1 p1 r1 T2 p2 r2 ∧ Short T p r ∧ (∀ x, IsC (vl T1 p1 r1) (vl T2 p2 r2) (x + 1) x (vl T p r x)) ∧ T.length ≤ 5000 ∧
  ∀ H' d, Same H H' → RuleAt H' d T p r → RB T p r → Q (.ref d) H'
theorem ok_split0 {P : Program} {w : World} {K : PySem.W.Frag} {mg : Str → Option Value} {base : Heap} {cTooLong : Addr} {k : Nat} (C : CalX P w K mg base "split_rule" ["one", "other"] k (sp_split cTooLong)) : Cal P w K mg base "split_rule" ["one", "other"] k (sp_split_rule K) := by
  refine no_raiseC C fun vs H Q E h => ?_
  obtain ⟨d1, d2, T1, T2, T0, p1, p2, p0, r1, r2, r0, rfl, R1, R2, ft, s0, c0, lim, k⟩ := h
  refine ⟨d1, d2, T1, T2, p1, p2, r1, r2, rfl, R1, R2, ft, fun H' d' T' p' r' s R rb sh c l => ?_, fun n hn h => ?_⟩
  · obtain ⟨rfl, rfl, rfl⟩ := short_one sh s0 fun x => (c x).one (c0 x)
    exact k H' d' s R rb
  · have h1 := h T0 p0 r0 s0 c0
    omega
section
variable {P : Program} {w : World} {K : PySem.W.Frag} {mg : Str → Option Value} {base : Heap} {cTooLong cRule fRi fEq fCa fAd fOr fSh fXo : Addr}
abbrev s_Rule_add : Stmt := inClass (topS 39) 7
abbrev N_Rule_add : List Str := ["self", "other"]
theorem sc_Rule_add : FnScope N_Rule_add ["self", "other"] (defScope s_Rule_add) := ⟨rfl, rfl, rfl, by decide +kernel, rfl, by decide +kernel, by decide +kernel⟩
theorem ok_Radd {fd fdI : FuncData} (T : Txt mg) (R : TxR K mg cRule fRi fEq fCa fAd fOr fSh fXo) (G_Rule_init : FnOk P w K mg base CX0 5 fRi fdI ["self", "value"] (sp_Rinit K cRule)) (b_Rule_init : Binds K fdI ["self", "value"] []) (C_sum_rule : Cal P w K mg base "sum_rule" ["one", "other"] 5 (sp_sum_rule K)) (F : Fun K "__add__" "Rule.__add__" s_Rule_add fAd fd) : FnOk P w K mg base CX0 7 fAd fd ["self", "other"] (sp_Radd cRule) := by
  obtain ⟨f_sum_rule, fd_sum_rule, G_sum_rule, m_sum_rule, k_sum_rule, b_sum_rule⟩ := C_sum_rule
  have g_Rule := R.g
  have Mk_Rule := R.mak
  refine F.ok sc_Rule_add (fun vs H Q E h => ?_) (fun cdv A outer s H vs Q E hr h => ?_)
  · obtain ⟨a, b, _, _, _, _, _, _, rfl, _⟩ := h
    rfl
  obtain ⟨a, b, T1, T2, p1, p2, r1, r2, rfl, A1, A2, o1, o2, b1, b2, kk⟩ := h
  obtain ⟨dx, d, t, ha, R1⟩ := A1.at
  refine ⟨_, (pss_one (ps_ret (pe_make Mk_Rule G_Rule_init (hr.mono (by decide)) (by rfl) g_Rule b_Rule_init .nil pass0 (pa_cons (pe_call G_sum_rule (hr.mono (by decide)) (by rfl) m_sum_rule k_sum_rule b_sum_rule .nil pass0 (pa_cons (pe_fld (pv 0) rfl) (pa_cons (pe_fld (pv 1) rfl) pa_nil))) pa_nil)))), ?_⟩
  obtain ⟨dy, e, u, hb, R2⟩ := A2.at
  refine ⟨_, rfl, a, cRule, dx, _, _, rfl, ha, R.ins.cl, R.naV, rfl, _, rfl, b, cRule, dy, _, _, rfl, hb, R.ins.cl, R.naV, rfl, ?_⟩
  refine ⟨d, e, T1, T2, p1, p2, r1, r2, rfl, R1, R2, o1, o2, b1, b2, fun H1 q T' p' r' s1 RA rb sh hv l5 => ?_⟩
  exact new_rule RA sh rb l5 fun z H2 s2 O => kk H2 z T' p' r' (s1.trans s2) O sh rb hv l5
abbrev s_Rule_or : Stmt := inClass (topS 39) 8
abbrev N_Rule_or : List Str := ["self", "other"]
theorem sc_Rule_or : FnScope N_Rule_or ["self", "other"] (defScope s_Rule_or) := ⟨rfl, rfl, rfl, by decide +kernel, rfl, by decide +kernel, by decide +kernel⟩
theorem ok_Ror {fd fdI : FuncData} (T : Txt mg) (R : TxR K mg cRule fRi fEq fCa fAd fOr fSh fXo) (G_Rule_init : FnOk P w K mg base CX0 5 fRi fdI ["self", "value"] (sp_Rinit K cRule)) (b_Rule_init : Binds K fdI ["self", "value"] []) (C_best_rule : CalX P w K mg base "best_rule" ["one", "other"] 7 (sp_best cTooLong)) (F : Fun K "__or__" "Rule.__or__" s_Rule_or fOr fd) : FnOk P w K mg base (L2.CX P w) 8 fOr fd ["self", "other"] (sp_RorX cTooLong cRule) := by
  obtain ⟨f_best_rule, fd_best_rule, G_best_rule, m_best_rule, k_best_rule, b_best_rule⟩ := C_best_rule
  have g_Rule := R.g
  have Mk_Rule := R.mak
  refine F.okX sc_Rule_or (fun vs H Q E h => ?_) (fun cdv A outer s H vs Q E hr h => ?_)
  · obtain ⟨a, b, _, _, _, _, _, _, rfl, _⟩ := h
    rfl
  obtain ⟨a, b, T1, T2, p1, p2, r1, r2, rfl, A1, A2, h1, h2, b1, b2, kk, kl⟩ := h
  obtain ⟨dx, d, t, ha, R1⟩ := A1.at
  obtain ⟨dy, e, u, hb, R2⟩ := A2.at
  refine ⟨_, (pss_one (ps_ret (pe_make Mk_Rule G_Rule_init (hr.mono (by decide)) (by rfl) g_Rule b_Rule_init .nil pass0 (pa_cons (pe_callS G_best_rule (hr.mono (by decide)) rfl m_best_rule k_best_rule b_best_rule (fun σ => passAt (takes_of rfl rfl rfl rfl) σ) (pa_cons (pe_fld (pv 0) rfl) (pa_cons (pe_fld (pv 1) rfl) pa_nil))) pa_nil)))), ?_⟩
  refine ⟨_, rfl, a, cRule, dx, _, _, rfl, ha, R.ins.cl, R.naV, rfl, _, rfl, b, cRule, dy, _, _, rfl, hb, R.ins.cl, R.naV, rfl, ?_⟩
  refine ⟨d, e, T1, T2, p1, p2, r1, r2, rfl, R1, R2, h1, h2, b1, b2, fun H1 q T' p' r' s1 RA rb sh hv l5 => ?_, fun n hn un H1 s1 => kl n hn un H1 s1⟩
  exact new_rule RA sh rb l5 fun z H2 s2 O => kk H2 z T' p' r' (s1.trans s2) O sh rb hv l5
abbrev s_Rule_rshift : Stmt := inClass (topS 39) 9
abbrev N_Rule_rshift : List Str := ["self", "other"]
theorem sc_Rule_rshift : FnScope N_Rule_rshift ["self", "other"] (defScope s_Rule_rshift) := ⟨rfl, rfl, rfl, by decide +kernel, rfl, by decide +kernel, by decide +kernel⟩
theorem ok_Rsh {fd fdI : FuncData} (T : Txt mg) (R : TxR K mg cRule fRi fEq fCa fAd fOr fSh fXo) (G_Rule_init : FnOk P w K mg base CX0 5 fRi fdI ["self", "value"] (sp_Rinit K cRule)) (b_Rule_init : Binds K fdI ["self", "value"] []) (C_then_rule : CalX P w K mg base "then_rule" ["first", "second"] 5 (sp_then cTooLong)) (F : Fun K "__rshift__" "Rule.__rshift__" s_Rule_rshift fSh fd) : FnOk P w K mg base (L2.CX P w) 7 fSh fd ["self", "other"] (sp_RshX cTooLong cRule) := by
  obtain ⟨f_then_rule, fd_then_rule, G_then_rule, m_then_rule, k_then_rule, b_then_rule⟩ := C_then_rule
  have g_Rule := R.g
  have Mk_Rule := R.mak
  refine F.okX sc_Rule_rshift (fun vs H Q E h => ?_) (fun cdv A outer s H vs Q E hr h => ?_)
  · obtain ⟨a, b, _, _, _, _, _, _, rfl, _⟩ := h
    rfl
  obtain ⟨a, b, T1, T2, p1, p2, r1, r2, rfl, A1, A2, o1, o2, b1, b2, kk, kl⟩ := h
  obtain ⟨dx, d, t, ha, R1⟩ := A1.at
  obtain ⟨dy, e, u, hb, R2⟩ := A2.at
  refine ⟨_, (pss_one (ps_ret (pe_make Mk_Rule G_Rule_init (hr.mono (by decide)) (by rfl) g_Rule b_Rule_init .nil pass0 (pa_cons (pe_callS G_then_rule (hr.mono (by decide)) rfl m_then_rule k_then_rule b_then_rule (fun σ => passAt (takes_of rfl rfl rfl rfl) σ) (pa_cons (pe_fld (pv 0) rfl) (pa_cons (pe_fld (pv 1) rfl) pa_nil))) pa_nil)))), ?_⟩
  refine ⟨_, rfl, a, cRule, dx, _, _, rfl, ha, R.ins.cl, R.naV, rfl, _, rfl, b, cRule, dy, _, _, rfl, hb, R.ins.cl, R.naV, rfl, ?_⟩
  refine ⟨d, e, T1, T2, p1, p2, r1, r2, rfl, R1, R2, o1, o2, b1, b2, fun H1 T' p' r' s1 rb sh hv => ⟨fun q l5 RA => ?_, fun l => kl H1 T' p' r' s1 rb sh hv l⟩⟩
  exact new_rule RA sh rb l5 fun z H2 s2 O => kk H2 z T' p' r' (s1.trans s2) O sh rb hv l5
abbrev s_Rule_xor : Stmt := inClass (topS 39) 10
abbrev N_Rule_xor : List Str := ["self", "other"]
theorem sc_Rule_xor : FnScope N_Rule_xor ["self", "other"] (defScope s_Rule_xor) := ⟨rfl, rfl, rfl, by decide +kernel, rfl, by decide +kernel, by decide +kernel⟩
theorem ok_Rxo {fd fdI : FuncData} (T : Txt mg) (R : TxR K mg cRule fRi fEq fCa fAd fOr fSh fXo) (G_Rule_init : FnOk P w K mg base CX0 5 fRi fdI ["self", "value"] (sp_Rinit K cRule)) (b_Rule_init : Binds K fdI ["self", "value"] []) (C_split_rule : Cal P w K mg base "split_rule" ["one", "other"] 8 (sp_split_rule K)) (F : Fun K "__xor__" "Rule.__xor__" s_Rule_xor fXo fd) : FnOk P w K mg base CX0 9 fXo fd ["self", "other"] (sp_Rxor cRule) := by
  obtain ⟨f_split_rule, fd_split_rule, G_split_rule, m_split_rule, k_split_rule, b_split_rule⟩ := C_split_rule
  have g_Rule := R.g
  have Mk_Rule := R.mak
  refine F.ok sc_Rule_xor (fun vs H Q E h => ?_) (fun cdv A outer s H vs Q E hr h => ?_)
  · obtain ⟨a, b, _, _, _, _, _, _, _, _, _, rfl, _⟩ := h
    rfl
  obtain ⟨a, b, T1, T2, T0, p1, p2, p0, r1, r2, r0, rfl, A1, A2, ft, sh, cs, l5, kk⟩ := h
  obtain ⟨dx, d, t, ha, R1⟩ := A1.at
  obtain ⟨dy, e, u, hb, R2⟩ := A2.at
  refine ⟨_, (pss_one (ps_ret (pe_make Mk_Rule G_Rule_init (hr.mono (by decide)) (by rfl) g_Rule b_Rule_init .nil pass0 (pa_cons (pe_call G_split_rule (hr.mono (by decide)) (by rfl) m_split_rule k_split_rule b_split_rule .nil pass0 (pa_cons (pe_fld (pv 0) rfl) (pa_cons (pe_fld (pv 1) rfl) pa_nil))) pa_nil)))), ?_⟩
  refine ⟨_, rfl, a, cRule, dx, _, _, rfl, ha, R.ins.cl, R.naV, rfl, _, rfl, b, cRule, dy, _, _, rfl, hb, R.ins.cl, R.naV, rfl, ?_⟩
  refine ⟨d, e, T1, T2, T0, p1, p2, p0, r1, r2, r0, rfl, R1, R2, ft, sh, cs, l5, fun H1 q s1 RA rb => ?_⟩
  exact new_rule RA sh rb l5 fun z H2 s2 O => kk H2 z (s1.trans s2) O rb
abbrev s_Rule_call : Stmt := inClass (topS 39) 6
abbrev N_Rule_call : List Str := ["self", "x"]
theorem sc_Rule_call : FnScope N_Rule_call ["self", "x"] (defScope s_Rule_call) := ⟨rfl, rfl, rfl, by decide +kernel, rfl, by decide +kernel, by decide +kernel⟩
theorem ok_Rcall {fd : FuncData} (T : Txt mg) (R : TxR K mg cRule fRi fEq fCa fAd fOr fSh fXo) (C_is_amount : Cal P w K mg base "is_amount" ["value"] 2 (sp_is_amount K)) (C_value_of : Cal P w K mg base "value_of" ["rule", "x"] 1 (sp_value_of K)) (F : Fun K "__call__" "Rule.__call__" s_Rule_call fCa fd) : FnOk P w K mg base CX0 3 fCa fd ["self", "x"] (sp_Rcall cRule) := by
  obtain ⟨f_is_amount, fd_is_amount, G_is_amount, m_is_amount, k_is_amount, b_is_amount⟩ := C_is_amount
  obtain ⟨f_value_of, fd_value_of, G_value_of, m_value_of, k_value_of, b_value_of⟩ := C_value_of
  refine F.ok sc_Rule_call (fun vs H Q E h => ?_) (fun cdv A outer s H vs Q E hr h => ?_)
  · obtain ⟨a, _, _, _, _, rfl, _⟩ := h
    rfl
  obtain ⟨a, T1, p1, r1, x, rfl, A1, o1, b1, kk⟩ := h
  obtain ⟨dx, d, t, ha, R1⟩ := A1.at
  refine ⟨_, (pss_cons (ps_if (pt_not (pt_val (pe_call G_is_amount (hr.mono (by decide)) (by rfl) m_is_amount k_is_amount b_is_amount .nil pass0 (pa_cons (pv 1) pa_nil)))) (pss_one ps_no) pss_nil)
    (pss_one (ps_ret (pe_call G_value_of (hr.mono (by decide)) (by rfl) m_value_of k_value_of b_value_of .nil pass0 (pa_cons (pe_fld (pv 0) rfl) (pa_cons (pv 1) pa_nil)))))), ?_⟩
  refine ⟨_, rfl, _, rfl, ?_⟩
  rw [decide_eq_true (show (x : Int) ≥ 0 by omega)]
  refine ⟨_, rfl, iteF ?_⟩
  exact ⟨_, rfl, a, cRule, dx, _, _, rfl, ha, R.ins.cl, R.naV, rfl, _, rfl, d, T1, p1, r1, x, rfl, R1, o1, b1, kk⟩
end
end Sm

set_option Elab.async false
set_option linter.all false
set_option maxRecDepth 100000
set_option maxHeartbeats 16000000
namespace Sm
open PySem PySem.Spec PyProof.Rows L2
open C8 (pss_cut tCut)
def sp_l_parted (_ : PySem.W.Frag) : Sp := fun vs H Q _ => ∃ (d1 d2 : Addr) (T1 T2 : List Int) (p1 p2 : Nat) (r1 r2 : Int) (x : Nat), vs = [.ref d1, .ref d2, .int (x : Int)] ∧ RuleAt H d1 T1 p1 r1 ∧ RuleAt H d2 T2 p2 r2 ∧ RuleW T1 p1 r1 ∧ RuleW T2 p2 r2 ∧ RB T1 p1 r1 ∧ RB T2 p2 r2 ∧ x ≤ 100 ∧
  ∀ H' m, Same H H' → IsC (vl T1 p1 r1) (vl T2 p2 r2) (x + 1) x m → Q (.int m) H'
def sp_l_told (cRule : Addr) : Sp := fun vs H Q _ => ∃ (a d : Addr) (T : List Int) (p : Nat) (r : Int), vs = [.ref a, .ref d] ∧ RuleO cRule H a T p r ∧ RuleAt H d T p r ∧ Short T p r ∧ RB T p r ∧ T.length ≤ 5000 ∧ ∀ H', Same H H' → Q (.bl true) H'
section
variable {P : Program} {w : World} {K : PySem.W.Frag} {mg : Str → Option Value} {base : Heap} {cTooLong cRule fRi fEq fCa fAd fOr fSh fXo : Addr}
abbrev s_l_parted : Stmt := topS 47
abbrev N_l_parted : List Str := ["_law_one", "_law_other", "_law_x", "_law_k"]
theorem sc_l_parted : FnScope N_l_parted ["_law_one", "_law_other", "_law_x"] (defScope s_l_parted) := ⟨rfl, rfl, rfl, by decide +kernel, rfl, by decide +kernel, by decide +kernel⟩
theorem ok_l_parted (T : Txt mg) (D : Df K mg "_law_parted" s_l_parted ["_law_one", "_law_other", "_law_x"]) (C_l_value : Cal P w K mg base "_law_value" ["_law_rule", "_law_x"] 1 (sp_l_value K)) : Cal P w K mg base "_law_parted" ["_law_one", "_law_other", "_law_x"] 2 (sp_l_parted K) := by
  obtain ⟨f_l_value, fd_l_value, G_l_value, m_l_value, k_l_value, b_l_value⟩ := C_l_value
  refine D.cal sc_l_parted (fun vs H Q E h => ?_) (fun f cdv A outer s H vs Q E hr h => ?_)
  · obtain ⟨d1, d2, T1, T2, p1, p2, r1, r2, x, rfl, _⟩ := h
    rfl
  obtain ⟨d1, d2, T1, T2, p1, p2, r1, r2, x, rfl, R1, R2, o1, o2, b1, b2, x1, kk⟩ := h
  refine ⟨_, (pss_one (ps_ret (pe_callB (cr_max rfl) (by rfl) T.n_max (by decide +kernel) (pa_cons (pe_lc (own := [("_law_k", 3)]) (g := gName 3) (tt := tYes) rfl sc_l_parted.nd (pi_range1 (by rfl) T.n_range (pa_cons (pe_op op_add (pv 2) pe_int) pa_nil)) (blkOk_by (own := [("_law_k", 3)]) (N := N_l_parted) (sc := defScope s_l_parted) (by decide +kernel)) (fun _ _ _ _ _ => pg_name (i := 3) sc_l_parted.nd rfl (Or.inl rfl)) (fun _ _ _ _ _ => pts_nil) (fun _ _ _ _ _ => (pe_op op_add (pe_call G_l_value (hr.mono (by decide)) (by rfl) m_l_value k_l_value b_l_value .nil pass0 (pa_cons (pv 0) (pa_cons (pv 3) pa_nil))) (pe_call G_l_value (hr.mono (by decide)) (by rfl) m_l_value k_l_value b_l_value .nil pass0 (pa_cons (pv 1) (pa_cons (pe_op op_sub (pv 2) (pv 3)) pa_nil)))))) pa_nil)))), ?_⟩
  refine ⟨_, rfl, _, _, rfl, rfl, _, rfl, by omega, by omega, fun U nU => ?_⟩
  rw [show ((x : Int) + 1).toNat = x + 1 by omega]
  refine lc_mR (n := x + 1) (fun i => .int (vl T1 p1 r1 i + vl T2 p2 r2 (x - i))) nU (by omega) ?_ gName_mono ?_
  · intro i H' hi s' R' hR
    rw [Int.zero_add]
    refine ⟨rfl, _, rfl, _, rfl, d1, T1, p1, r1, i, rfl, R1.same s', o1, b1, ?_⟩
    refine ⟨_, rfl, _, rfl, _, rfl, _, _, rfl, rfl, d2, T2, p2, r2, x - i, congrArg (fun z : Int => [V.ref d2, V.int z]) (show (x : Int) - (i : Int) = ((x - i : Nat) : Int) by omega), R2.same s', o2, b2, ?_⟩
    exact ⟨_, _, rfl, rfl, hR H' (Same.refl _)⟩
  intro H1 s1 hU
  have hU : H1 U = some (.lst (((List.range (x + 1)).map fun i => vl T1 p1 r1 i + vl T2 p2 r2 (x - i)).map V.int)) := by rw [hU, List.map_map]; rfl
  refine ⟨U, _, rfl, SqL.of hU, by rw [List.length_map, List.length_range]; omega, fun m hm top => kk H1 m s1 ⟨?_, fun a a1 a2 => top _ (List.mem_map.mpr ⟨a, List.mem_range.mpr a1, rfl⟩)⟩⟩
  obtain ⟨a, ha, e⟩ := List.mem_map.mp hm
  have ha := List.mem_range.mp ha
  exact ⟨a, ha, by omega, e.symm⟩
abbrev s_l_told : Stmt := topS 48
abbrev N_l_told : List Str := ["_law_found", "_law_rule"]
theorem sc_l_told : FnScope N_l_told ["_law_found", "_law_rule"] (defScope s_l_told) := ⟨rfl, rfl, rfl, by decide +kernel, rfl, by decide +kernel, by decide +kernel⟩
theorem ok_l_told (T : Txt mg) (R : TxR K mg cRule fRi fEq fCa fAd fOr fSh fXo) (C_rule_error : Cal P w K mg base "rule_error" ["value"] 4 (sp_rule_error K)) (D : Df K mg "_law_told" s_l_told ["_law_found", "_law_rule"]) : Cal P w K mg base "_law_told" ["_law_found", "_law_rule"] 5 (sp_l_told cRule) := by
  obtain ⟨f_rule_error, fd_rule_error, G_rule_error, m_rule_error, k_rule_error, b_rule_error⟩ := C_rule_error
  have g_Rule := R.g
  refine D.cal sc_l_told (fun vs H Q E h => ?_) (fun f cdv A outer s H vs Q E hr h => ?_)
  · obtain ⟨a, d, T0, p, r, rfl, _⟩ := h
    rfl
  obtain ⟨a, d, T0, p, r, rfl, OA, RA, sh, b, l5, kk⟩ := h
  obtain ⟨dx, d1, t1, ha, hd1, ht1⟩ := OA
  obtain ⟨t2, hd, ht⟩ := id RA
  refine ⟨_, (pss_one (ps_ret (pe_and (pe_callB call_isi (by rfl) T.n_isinstance (by decide +kernel) (pa_cons (pv 0) (pa_cons (pe_glob (v := .ref cRule) rfl g_Rule rfl) pa_nil))) (pe_and (pe_cmpR (op_eqD hr.units) (pe_fld (pv 0) rfl) (pv 1) (nomark _)) (pe_one (pe_cmpR op_isN (pe_call G_rule_error (hr.mono (by decide)) (by rfl) m_rule_error k_rule_error b_rule_error .nil pass0 (pa_cons (pv 1) pa_nil)) pe_non (nomark _))))))), ?_⟩
  refine ⟨_, rfl, _, _, _, _, true, rfl, .own _, R.ins.ty ha, R.is, _, rfl, iteT ?_⟩
  refine ⟨_, rfl, a, cRule, dx, _, _, rfl, ha, R.ins.cl, R.naV, rfl, _, rfl, ?_⟩
  have D1 : Dp K H (.ref d1) (ruD T0 p r) := .tup (SqT.of hd1) (.cons (.tup (SqT.of ht1) (Sm.dp_ints T0)) (.cons (.int _) (.cons (.int _) .nil)))
  have D2 : Dp K H (.ref d) (ruD T0 p r) := .tup (SqT.of hd) (.cons (.tup (SqT.of ht) (Sm.dp_ints T0)) (.cons (.int _) (.cons (.int _) .nil)))
  have shp : SeqAt.shaped (ruD T0 p r) = true := by
    have b := depth_int T0
    have c : (ruD T0 p r).depth ≤ 64 := by
      simp only [ruD, PyData.depth, PyData.depthAll]
      omega
    simp [SeqAt.shaped, ruD, PyData.canLay0, PyData.canLayAll0, ints_lay] at c ⊢
    exact decide_eq_true c
  refine ⟨_, _, D1, D2, shp, shp, ?_⟩
  rw [SeqAt.eqv_refl _ (SeqAt.canLay_of_shaped shp)]
  refine ⟨_, rfl, iteT ?_⟩
  exact ⟨_, rfl, d, T0, p, r, rfl, RA, sh, b, l5, fun H1 s1 => ⟨rfl, kk H1 s1⟩⟩
end
end Sm

set_option Elab.async false
set_option linter.all false
set_option maxRecDepth 100000
set_option maxHeartbeats 16000000
namespace Sm
open PySem PySem.Spec PyProof.Rows L2
/-- a drawn rule, cut short -/
structure Sm5 (T : List Int) (p : Nat) (r : Int) : Prop where
  sh : Short T p r
  len : T.length ≤ 5
  slope : r ≤ 9 * (p : Int)
  top : ∀ i, i < T.length → T.getD i 0 ≤ 100
theorem Sm5.p5 {T : List Int} {p : Nat} {r : Int} (s : Sm5 T p r) : p ≤ 5 := by
  have := s.sh.ok.p1
  have := s.len
  omega
theorem Sm5.rs {M : Int} {T : List Int} {p : Nat} {r : Int} (s : Sm5 T p r) (h : 100 ≤ M) : RS M T p r := by
  have a := s.p5
  have b := s.len
  have c := s.slope
  exact ⟨by omega, by omega, by omega, fun i hi => by have := s.top i hi; omega⟩
theorem Sm5.of {T T' : List Int} {p p' : Nat} {r r' : Int} (o : RuleOk T p r) (b : RM 100 T p r) (sl : r ≤ 9 * (p : Int)) (l : T.length ≤ 5) (sh : Short T' p' r') (hv : ∀ x, vl T' p' r' x = vl T p r x) (l' : T'.length ≤ T.length) : Sm5 T' p' r' := by
  refine ⟨sh, by omega, slope_le o.p0 (slope_eq o sh.ok hv) sl, fun i hi => ?_⟩
  have a := hv i
  rw [vl_lt hi, vl_lt (by omega)] at a
  rw [a]
  exact b.top i (by omega)
/-- a rule's values, times the period, lie along a line -/
theorem line {T : List Int} {p : Nat} {r : Int} (o : RuleOk T p r) {x : Nat} (hx : T.length ≤ x) (t : ∀ i, i < T.length → T.getD i 0 ≤ 100) : r * (x : Int) - r * (T.length : Int) ≤ (p : Int) * vl T p r x ∧ (p : Int) * vl T p r x ≤ (p : Int) * 100 + r * (x : Int) := by
  have p0 := o.p0
  have r0 := o.r0
  obtain ⟨z1, z2, z3⟩ := place p0 o.p1 hx
  have e : vl T p r x = T.getD (x - ((x - T.length) / p + 1) * p) 0 + (((x - T.length) / p + 1 : Nat) : Int) * r := if_neg (by omega)
  rw [e]
  generalize (x - T.length) / p + 1 = q at z1 z2 z3
  obtain ⟨i, hi⟩ : ∃ i, i = x - q * p := ⟨_, rfl⟩
  rw [← hi] at z3 ⊢
  have n0 := o.nn i z3
  have n1 := t i z3
  have ex : (x : Int) = (i : Int) + (q : Int) * (p : Int) := by
    rw [← Int.natCast_mul]
    omega
  have a : (p : Int) * (T.getD i 0 + (q : Int) * r) = (p : Int) * T.getD i 0 + r * ((q : Int) * (p : Int)) := by
    rw [Int.mul_add]
    congr 1
    rw [Int.mul_left_comm, Int.mul_comm r, Int.mul_assoc, Int.mul_comm (p : Int) r]
  have b : r * (x : Int) = r * (i : Int) + r * ((q : Int) * (p : Int)) := by rw [ex, Int.mul_add]
  have c : (p : Int) * T.getD i 0 ≤ (p : Int) * 100 := Int.mul_le_mul_of_nonneg_left n1 (by omega)
  have d : 0 ≤ (p : Int) * T.getD i 0 := Int.mul_nonneg (by omega) n0
  have f : r * (i : Int) ≤ r * (T.length : Int) := Int.mul_le_mul_of_nonneg_left (by omega) r0
  have g : 0 ≤ r * (i : Int) := Int.mul_nonneg r0 (by omega)
  rw [a, b]
  omega
theorem over_far {T1 T2 : List Int} {p1 p2 : Nat} {r1 r2 : Int} (a : Sm5 T1 p1 r1) (b : Sm5 T2 p2 r2) (st : r2 * (p1 : Int) < r1 * (p2 : Int)) {x : Nat} (hx : 4000 ≤ x) : vl T2 p2 r2 x ≤ vl T1 p1 r1 x := by
  have l1 := a.len
  have l2 := b.len
  have q1 := a.p5
  have q2 := b.p5
  have z1 := a.sh.ok.p0
  have z2 := b.sh.ok.p0
  have s1 := a.slope
  have r10 := a.sh.ok.r0
  obtain ⟨lo, _⟩ := line a.sh.ok (show T1.length ≤ x by omega) a.top
  obtain ⟨_, hi⟩ := line b.sh.ok (show T2.length ≤ x by omega) b.top
  generalize vl T1 p1 r1 x = V1 at lo ⊢
  generalize vl T2 p2 r2 x = V2 at hi ⊢
  refine Int.not_lt.mp fun h => ?_
  have c1 : (p2 : Int) * (r1 * (x : Int) - r1 * (T1.length : Int)) ≤ (p2 : Int) * ((p1 : Int) * V1) := Int.mul_le_mul_of_nonneg_left lo (by omega)
  have c2 : (p1 : Int) * ((p2 : Int) * V2) ≤ (p1 : Int) * ((p2 : Int) * 100 + r2 * (x : Int)) := Int.mul_le_mul_of_nonneg_left hi (by omega)
  have c3 : (p1 : Int) * ((p2 : Int) * V1) ≤ (p1 : Int) * ((p2 : Int) * V2) := Int.mul_le_mul_of_nonneg_left (Int.mul_le_mul_of_nonneg_left (by omega) (by omega)) (by omega)
  have c4 : (p2 : Int) * ((p1 : Int) * V1) = (p1 : Int) * ((p2 : Int) * V1) := Int.mul_left_comm ..
  have c5 : (p2 : Int) * (r1 * (x : Int) - r1 * (T1.length : Int)) = r1 * (p2 : Int) * (x : Int) - r1 * (p2 : Int) * (T1.length : Int) := by
    rw [Int.mul_sub, ← Int.mul_assoc, ← Int.mul_assoc, Int.mul_comm (p2 : Int) r1]
  have c6 : (p1 : Int) * ((p2 : Int) * 100 + r2 * (x : Int)) = (p1 : Int) * (p2 : Int) * 100 + r2 * (p1 : Int) * (x : Int) := by
    rw [Int.mul_add, ← Int.mul_assoc, ← Int.mul_assoc, Int.mul_comm (p1 : Int) r2]
  have c7 : (r2 * (p1 : Int) + 1) * (x : Int) ≤ r1 * (p2 : Int) * (x : Int) := Int.mul_le_mul_of_nonneg_right (by omega) (by omega)
  rw [Int.add_mul, Int.one_mul] at c7
  have c8 : r1 * (p2 : Int) ≤ 45 * 5 := Int.mul_le_mul (by omega) (by omega) (by omega) (by decide)
  have c9 : r1 * (p2 : Int) * (T1.length : Int) ≤ 225 * 5 := Int.mul_le_mul c8 (by omega) (by omega) (by decide)
  have c10 : (p1 : Int) * (p2 : Int) ≤ 5 * 5 := Int.mul_le_mul (by omega) (by omega) (by omega) (by decide)
  omega
theorem best5 {T1 T2 : List Int} {p1 p2 : Nat} {r1 r2 : Int} (a : Sm5 T1 p1 r1) (b : Sm5 T2 p2 r2) : ∃ T p r, Short T p r ∧ (∀ x, vl T p r x = max (vl T1 p1 r1 x) (vl T2 p2 r2 x)) ∧ T.length ≤ 5000 := by
  have key : ∀ {T1 T2 : List Int} {p1 p2 : Nat} {r1 r2 : Int}, Sm5 T1 p1 r1 → Sm5 T2 p2 r2 → r2 * (p1 : Int) < r1 * (p2 : Int) → ∃ T p r, Short T p r ∧ (∀ x, vl T p r x = max (vl T1 p1 r1 x) (vl T2 p2 r2 x)) ∧ T.length ≤ 5000 := by
    intro T1 T2 p1 p2 r1 r2 a b st
    have l1 := a.len
    have q1 := a.p5
    obtain ⟨ok, _, hv⟩ := over_tab a.sh.ok b.sh.ok (a.rs (by decide)) (b.rs (by decide)) (B := 4000) (by omega) (by omega) fun x hx => over_far a b st hx
    obtain ⟨T, p, r, sh, e⟩ := short_is ok
    have l := short_len sh ok e
    have gl : (gtab T1 p1 r1 T2 p2 r2 (4000 + p1)).length = 4000 + p1 := by unfold gtab; rw [List.length_map, List.length_range]
    exact ⟨T, p, r, sh, fun x => (e x).trans (hv x), by omega⟩
  rcases Int.lt_trichotomy (r2 * (p1 : Int)) (r1 * (p2 : Int)) with h | h | h
  · exact key a b h
  · have l1 := a.len
    have l2 := b.len
    have q1 := a.p5
    have q2 := b.p5
    have z1 := a.sh.ok.p0
    have z2 := b.sh.ok.p0
    have t0 : 0 < p1 * p2 := Nat.mul_pos z1 z2
    have t1 : p1 * p2 ≤ 5 * 5 := Nat.mul_le_mul q1 q2
    obtain ⟨ok, _, hv⟩ := alike_tab a.sh.ok b.sh.ok (a.rs (by decide)) (b.rs (by decide)) (B := 5) (t := p1 * p2) (ka := p2) (kb := p1) (by omega) (by omega) (by decide) t0 (by omega) (Nat.mul_comm ..) rfl (by omega) h.symm
    obtain ⟨T, p, r, sh, e⟩ := short_is ok
    have l := short_len sh ok e
    have gl : (gtab T1 p1 r1 T2 p2 r2 (5 + p1 * p2)).length = 5 + p1 * p2 := by unfold gtab; rw [List.length_map, List.length_range]
    exact ⟨T, p, r, sh, fun x => (e x).trans (hv x), by omega⟩
  · obtain ⟨T, p, r, sh, e, l⟩ := key b a h
    exact ⟨T, p, r, sh, fun x => (e x).trans (Int.max_comm _ _), l⟩
theorem then5 {T1 T2 T : List Int} {p1 p2 p : Nat} {r1 r2 r : Int} (a : Sm5 T1 p1 r1) (b : Sm5 T2 p2 r2) (sh : Short T p r) (hv : ∀ x, vl T p r x = thn T1 p1 r1 T2 p2 r2 x) : T.length ≤ 5000 := by
  have l1 := a.len
  have l2 := b.len
  have q1 := a.p5
  have q2 := b.p5
  have o1 := a.sh.ok
  have z1 := o1.p1
  rcases Int.lt_or_le 0 r1 with h | h
  · have l := thn_len sh o1 b.sh.ok h hv
    have m1 : T2.length * p1 ≤ 5 * 5 := Nat.mul_le_mul l2 q1
    have m2 : p2 * p1 ≤ 5 * 5 := Nat.mul_le_mul q2 q1
    omega
  · have r0 : r1 = 0 := by have := o1.r0; omega
    subst r0
    obtain ⟨ok, _, e⟩ := thn_tab (B := T1.length - p1) (t := p1) (R := 0) o1 b.sh.ok (a.rs (by decide)) (b.rs (by decide)) o1.p0 (by decide) (by decide) (by omega) fun x hx => by
      unfold thn
      rw [vl_add o1.p0 o1.p1 hx, Int.add_zero, Int.add_zero]
    have l := short_len sh ok fun x => (hv x).trans (e x).symm
    rw [List.length_map, List.length_range] at l
    omega
theorem fit5 {T1 T2 : List Int} {p1 p2 : Nat} {r1 r2 : Int} (a : Sm5 T1 p1 r1) (b : Sm5 T2 p2 r2) : FitX T1 p1 r1 T2 p2 r2 := by
  have l1 := a.len
  have l2 := b.len
  have q1 := a.p5
  have q2 := b.p5
  have lc : Nat.lcm p1 p2 ≤ p1 * p2 := PySem.W.mc_lcm_le p1 p2
  have m : p1 * p2 ≤ 5 * 5 := Nat.mul_le_mul q1 q2
  have up : ∀ {T : List Int} {p : Nat} {r : Int}, Sm5 T p r → ∀ x : Nat, x ≤ 300 → vl T p r x ≤ 4000000000000 := fun s x hx => by
    have := RS.vl s.sh.ok (s.rs (Int.le_refl 100)) (by decide) x
    omega
  exact ⟨a.sh.ok, b.sh.ok, a.rs (by decide), b.rs (by decide), by omega, .inr ⟨by omega, fun x hx => ⟨up a x hx, up b x hx⟩⟩⟩
theorem split5 {T1 T2 : List Int} {p1 p2 : Nat} {r1 r2 : Int} (a : Sm5 T1 p1 r1) (b : Sm5 T2 p2 r2) : ∃ T p r, Short T p r ∧ (∀ x, IsC (vl T1 p1 r1) (vl T2 p2 r2) (x + 1) x (vl T p r x)) ∧ T.length ≤ 5000 := by
  have key : ∀ {Tf Ts : List Int} {pf ps : Nat} {rf rs : Int}, Sm5 Tf pf rf → Sm5 Ts ps rs → rf * (ps : Int) ≤ rs * (pf : Int) → ∃ T p r, Short T p r ∧ (∀ x, IsC (vl Tf pf rf) (vl Ts ps rs) (x + 1) x (vl T p r x)) ∧ T.length ≤ 5000 := by
    intro Tf Ts pf ps rf rs a b sl
    have of := a.sh.ok
    have os := b.sh.ok
    have f0 := of.p0
    have z0 := os.p0
    have lf := a.len
    have ls := b.len
    have qf := a.p5
    have qs := b.p5
    have ps1 := os.p1
    have L0 : 0 < pf * ps := Nat.mul_pos f0 z0
    have L1 : pf * ps ≤ 5 * 5 := Nat.mul_le_mul qf qs
    have df := Nat.dvd_mul_right pf ps
    have ds := Nat.dvd_mul_left ps pf
    obtain ⟨F, S, FS, tf, ts⟩ := turns of.pd os.pd df ds sl
    rcases Nat.eq_zero_or_pos (Ts.length - ps) with z | z
    · have pd := cm_pd of.pd os.pd (Tf.length - pf + pf * ps - 1)
      have ok := tab_ok (f := fun x => cm (vl Tf pf rf) (vl Ts ps rs) x (Tf.length - pf + pf * ps - 1)) pd.p0 pd.r0 pd.turn pd.nn pd.up
      obtain ⟨T, p, r, sh, e⟩ := short_is ok
      have l := short_len sh ok e
      rw [tab_len] at l
      refine ⟨T, p, r, sh, fun x => ?_, by omega⟩
      rw [e, tab_vl (f := fun x => cm (vl Tf pf rf) (vl Ts ps rs) x (Tf.length - pf + pf * ps - 1)) pd.p0 pd.turn]
      exact split_all L0 FS tf ts z x
    · obtain ⟨T, p, r, sh, e, l⟩ := split_is of.pd os.pd L0 df ds sl z
      refine ⟨T, p, r, sh, fun x => by rw [e]; exact split_both L0 FS tf ts z x, ?_⟩
      have r1 := b.slope
      have g : (rs * (pf : Int)).toNat ≤ 180 := by
        have a : rs * (pf : Int) ≤ 36 * 5 := Int.mul_le_mul (by omega) (by omega) (by omega) (by decide)
        omega
      have h : ps * pf ≤ ps * 5 := Nat.mul_le_mul_left _ qf
      have m : (Ts.length - ps + ps * pf) * (rs * (pf : Int)).toNat ≤ 21 * 180 := Nat.mul_le_mul (by omega) g
      have n : pf * ps = ps * pf := Nat.mul_comm ..
      omega
  rcases Int.le_total (r1 * (p2 : Int)) (r2 * (p1 : Int)) with q | q
  · exact key a b q
  · obtain ⟨T, p, r, s, c, l⟩ := key b a q
    exact ⟨T, p, r, s, fun x => (c x).swap, l⟩
end Sm

set_option Elab.async false
set_option linter.all false
set_option maxRecDepth 100000
set_option maxHeartbeats 16000000
namespace Sm
open PySem PySem.Spec PyProof.Rows L2
open C8 (pss_cut tCut)
def sp_Ror0 (cRule : Addr) : Sp := fun vs H Q _ => ∃ (a b : Addr) (T1 T2 : List Int) (p1 p2 : Nat) (r1 r2 : Int), vs = [.ref a, .ref b] ∧ RuleO cRule H a T1 p1 r1 ∧ RuleO cRule H b T2 p2 r2 ∧ Sm5 T1 p1 r1 ∧ Sm5 T2 p2 r2 ∧ ResO cRule (fun x => max (vl T1 p1 r1 x) (vl T2 p2 r2 x)) H Q
def sp_Rsh0 (cRule : Addr) : Sp := fun vs H Q _ => ∃ (a b : Addr) (T1 T2 : List Int) (p1 p2 : Nat) (r1 r2 : Int), vs = [.ref a, .ref b] ∧ RuleO cRule H a T1 p1 r1 ∧ RuleO cRule H b T2 p2 r2 ∧ Sm5 T1 p1 r1 ∧ Sm5 T2 p2 r2 ∧ ResO cRule (thn T1 p1 r1 T2 p2 r2) H Q
theorem or0 {P : Program} {w : World} {K : PySem.W.Frag} {mg : Str → Option Value} {base : Heap} {k : Nat} {f c cRule : Addr} {fd : FuncData} {ps : List Str} (F : FnOk P w K mg base (L2.CX P w) k f fd ps (sp_RorX c cRule)) : FnOk P w K mg base CX0 k f fd ps (sp_Ror0 cRule) := by
  refine no_raise F fun vs H Q E h => ?_
  obtain ⟨a, b, T1, T2, p1, p2, r1, r2, rfl, A1, A2, s1, s2, kk⟩ := h
  obtain ⟨T, p, r, sh, e, l⟩ := best5 s1 s2
  refine ⟨a, b, T1, T2, p1, p2, r1, r2, rfl, A1, A2, s1.sh, s2.sh, s1.rs (by decide), s2.rs (by decide), kk, fun n hn un => ?_⟩
  have := un T p r sh e
  omega
theorem sh0 {P : Program} {w : World} {K : PySem.W.Frag} {mg : Str → Option Value} {base : Heap} {k : Nat} {f c cRule : Addr} {fd : FuncData} {ps : List Str} (F : FnOk P w K mg base (L2.CX P w) k f fd ps (sp_RshX c cRule)) : FnOk P w K mg base CX0 k f fd ps (sp_Rsh0 cRule) := by
  refine no_raise F fun vs H Q E h => ?_
  obtain ⟨a, b, T1, T2, p1, p2, r1, r2, rfl, A1, A2, s1, s2, kk⟩ := h
  refine ⟨a, b, T1, T2, p1, p2, r1, r2, rfl, A1, A2, s1.sh.ok, s2.sh.ok, s1.rs (by decide), s2.rs (by decide), kk, fun H' T p r _ _ sh hv l => ?_⟩
  have := then5 s1 s2 sh hv
  omega
/-- the tuple of a rule with these values -/
def ResT (g : Nat → Int) (H : Hp) (Q : VK) : Prop := ∀ H' q T p r, Same H H' → RuleAt H' q T p r → Short T p r → RB T p r → (∀ x, vl T p r x = g x) → T.length ≤ 5000 → Q (.ref q) H'
def sp_best0 (_ : PySem.W.Frag) : Sp := fun vs H Q _ => ∃ (a b : Addr) (T1 T2 : List Int) (p1 p2 : Nat) (r1 r2 : Int), vs = [.ref a, .ref b] ∧ RuleAt H a T1 p1 r1 ∧ RuleAt H b T2 p2 r2 ∧ Sm5 T1 p1 r1 ∧ Sm5 T2 p2 r2 ∧ ResT (fun x => max (vl T1 p1 r1 x) (vl T2 p2 r2 x)) H Q
def sp_then0 (_ : PySem.W.Frag) : Sp := fun vs H Q _ => ∃ (a b : Addr) (T1 T2 : List Int) (p1 p2 : Nat) (r1 r2 : Int), vs = [.ref a, .ref b] ∧ RuleAt H a T1 p1 r1 ∧ RuleAt H b T2 p2 r2 ∧ Sm5 T1 p1 r1 ∧ Sm5 T2 p2 r2 ∧ ResT (thn T1 p1 r1 T2 p2 r2) H Q
theorem best0 {P : Program} {w : World} {K : PySem.W.Frag} {mg : Str → Option Value} {base : Heap} {k : Nat} {c : Addr} {x : Str} {ps : List Str} (C : CalX P w K mg base x ps k (sp_best c)) : Cal P w K mg base x ps k (sp_best0 K) := by
  refine no_raiseC C fun vs H Q E h => ?_
  obtain ⟨a, b, T1, T2, p1, p2, r1, r2, rfl, A1, A2, s1, s2, kk⟩ := h
  obtain ⟨T, p, r, sh, e, l⟩ := best5 s1 s2
  refine ⟨a, b, T1, T2, p1, p2, r1, r2, rfl, A1, A2, s1.sh, s2.sh, s1.rs (by decide), s2.rs (by decide), fun H' q T p r s R rb sh hv l5 => kk H' q T p r s R sh rb hv l5, fun n hn un => ?_⟩
  have := un T p r sh e
  omega
theorem then0 {P : Program} {w : World} {K : PySem.W.Frag} {mg : Str → Option Value} {base : Heap} {k : Nat} {c : Addr} {x : Str} {ps : List Str} (C : CalX P w K mg base x ps k (sp_then c)) : Cal P w K mg base x ps k (sp_then0 K) := by
  refine no_raiseC C fun vs H Q E h => ?_
  obtain ⟨a, b, T1, T2, p1, p2, r1, r2, rfl, A1, A2, s1, s2, kk⟩ := h
  refine ⟨a, b, T1, T2, p1, p2, r1, r2, rfl, A1, A2, s1.sh.ok, s2.sh.ok, s1.rs (by decide), s2.rs (by decide), fun H' T p r s rb sh hv => ⟨fun q l5 R => kk H' q T p r s R sh rb hv l5, fun l => ?_⟩⟩
  have := then5 s1 s2 sh hv
  omega
def sp_l_joined (_ : PySem.W.Frag) : Sp := fun vs H Q _ => ∃ (d1 d2 : Addr) (T1 T2 : List Int) (p1 p2 : Nat) (r1 r2 : Int) (x : Nat), vs = [.ref d1, .ref d2, .int (x : Int)] ∧ RuleAt H d1 T1 p1 r1 ∧ RuleAt H d2 T2 p2 r2 ∧ Sm5 T1 p1 r1 ∧ Sm5 T2 p2 r2 ∧ ∀ H', Same H H' → Q (.bl true) H'
section
variable {P : Program} {w : World} {K : PySem.W.Frag} {mg : Str → Option Value} {base : Heap} {cTooLong cRule fRi fEq fCa fAd fOr fSh fXo : Addr}
abbrev s_l_joined : Stmt := topS 49
abbrev N_l_joined : List Str := ["_law_mine", "_law_others", "_law_x", "_law_one", "_law_other", "_law_a", "_law_b"]
theorem sc_l_joined : FnScope N_l_joined ["_law_mine", "_law_others", "_law_x"] (defScope s_l_joined) := ⟨rfl, rfl, rfl, by decide +kernel, rfl, by decide +kernel, by decide +kernel⟩
theorem ok_l_joined {fdI fdC fdA fdO fdS : FuncData} (T : Txt mg) (R : TxR K mg cRule fRi fEq fCa fAd fOr fSh fXo) (Fi_Rule_call : PySem.W.fnIn K fCa = true) (G_Rule_init : FnOk P w K mg base CX0 5 fRi fdI ["self", "value"] (sp_Rinit K cRule)) (b_Rule_init : Binds K fdI ["self", "value"] [])
    (G_Rule_call : FnOk P w K mg base CX0 3 fCa fdC ["self", "x"] (sp_Rcall cRule)) (b_Rule_call : Binds K fdC ["self", "x"] []) (G_Rule_add : FnOk P w K mg base CX0 7 fAd fdA ["self", "other"] (sp_Radd cRule)) (b_Rule_add : Binds K fdA ["self", "other"] [])
    (G_Rule_or : FnOk P w K mg base CX0 8 fOr fdO ["self", "other"] (sp_Ror0 cRule)) (b_Rule_or : Binds K fdO ["self", "other"] []) (G_Rule_rshift : FnOk P w K mg base CX0 7 fSh fdS ["self", "other"] (sp_Rsh0 cRule)) (b_Rule_rshift : Binds K fdS ["self", "other"] [])
    (C_l_value : Cal P w K mg base "_law_value" ["_law_rule", "_law_x"] 1 (sp_l_value K)) (D : Df K mg "_law_joined" s_l_joined ["_law_mine", "_law_others", "_law_x"]) : Cal P w K mg base "_law_joined" ["_law_mine", "_law_others", "_law_x"] 9 (sp_l_joined K) := by
  obtain ⟨f_l_value, fd_l_value, G_l_value, m_l_value, k_l_value, b_l_value⟩ := C_l_value
  have g_Rule := R.g
  have Mk_Rule := R.mak
  have S_first := R.first
  have M_Rule_call := R.mCa
  have M_Rule_add := R.mAd
  have M_Rule_or := R.mOr
  have M_Rule_rshift := R.mSh
  refine D.cal sc_l_joined (fun vs H Q E h => ?_) (fun f cdv A outer s H vs Q E hr h => ?_)
  · obtain ⟨d1, d2, T1, T2, p1, p2, r1, r2, x, rfl, _⟩ := h
    rfl
  obtain ⟨d1, d2, T1, T2, p1, p2, r1, r2, x, rfl, R1, R2, h1, h2, kk⟩ := h
  have o1 := h1.sh.ok
  have o2 := h2.sh.ok
  have bb1 := (h1.rs (Int.le_refl 100)).rb (by decide)
  have bb2 := (h2.rs (Int.le_refl 100)).rb (by decide)
  refine ⟨_, (pss_cons (ps_par (i := 3) (j := 4) (by rfl) sc_l_joined.nd rfl rfl (by decide) rfl rfl (pa_cons (pe_make Mk_Rule G_Rule_init (hr.mono (by decide)) (by rfl) g_Rule b_Rule_init .nil pass0 (pa_cons (pv 0) pa_nil)) (pa_cons (pe_make Mk_Rule G_Rule_init (hr.mono (by decide)) (by rfl) g_Rule b_Rule_init .nil pass0 (pa_cons (pv 1) pa_nil)) pa_nil)) (by rfl))
    (pss_cons (ps_par (i := 5) (j := 6) (by rfl) sc_l_joined.nd rfl rfl (by decide) rfl rfl (pa_cons (pe_call G_l_value (hr.mono (by decide)) (by rfl) m_l_value k_l_value b_l_value .nil pass0 (pa_cons (pv 0) (pa_cons (pv 2) pa_nil))) (pa_cons (pe_call G_l_value (hr.mono (by decide)) (by rfl) m_l_value k_l_value b_l_value .nil pass0 (pa_cons (pv 1) (pa_cons (pv 2) pa_nil))) pa_nil)) (by rfl))
    (pss_cons (ps_if (PW.pt (pw_or (pt_cmpR op_ne (pe_ownCall (pe_op (op_binO M_Rule_add S_first G_Rule_add b_Rule_add (hr.mono (by decide)) pass0) (pv 3) (pv 4)) M_Rule_call Fi_Rule_call G_Rule_call b_Rule_call (hr.mono (by decide)) pass0 (pa_cons (pv 2) pa_nil)) (pe_op op_add (pv 5) (pv 6)) (nomark _)) (pw_or1 (pt_cmpR op_ne (pe_ownCall (pe_op (op_binO M_Rule_or S_first G_Rule_or b_Rule_or (hr.mono (by decide)) pass0) (pv 3) (pv 4)) M_Rule_call Fi_Rule_call G_Rule_call b_Rule_call (hr.mono (by decide)) pass0 (pa_cons (pv 2) pa_nil)) (pe_callB (call_max2 rfl) (by rfl) T.n_max (by decide +kernel) (pa_cons (pv 5) (pa_cons (pv 6) pa_nil))) (nomark _))))) (pss_one (ps_ret pe_bl)) pss_nil)
    (pss_one (ps_ret (pe_cmpR op_eq (pe_ownCall (pe_op (op_binO M_Rule_rshift S_first G_Rule_rshift b_Rule_rshift (hr.mono (by decide)) pass0) (pv 3) (pv 4)) M_Rule_call Fi_Rule_call G_Rule_call b_Rule_call (hr.mono (by decide)) pass0 (pa_cons (pv 2) pa_nil)) (pe_call G_l_value (hr.mono (by decide)) (by rfl) m_l_value k_l_value b_l_value .nil pass0 (pa_cons (pv 1) (pa_cons (pv 5) pa_nil))) (nomark _))))))), ?_⟩
  refine ⟨_, rfl, new_rule R1 h1.sh bb1 (by have := h1.len; omega) fun a H1 s1 A1 => ?_⟩
  refine ⟨_, rfl, new_rule (R2.same s1) h2.sh bb2 (by have := h2.len; omega) fun b H2 s2 B2 => ?_⟩
  have A2 := A1.same s2
  have t2 := s1.trans s2
  refine ⟨_, _, rfl, ?_⟩
  refine ⟨_, rfl, _, rfl, d1, T1, p1, r1, x, rfl, R1.same t2, o1.w, bb1, ?_⟩
  refine ⟨_, rfl, _, rfl, d2, T2, p2, r2, x, rfl, R2.same t2, o2.w, bb2, ?_⟩
  refine ⟨_, _, rfl, ?_⟩
  obtain ⟨dxa, da, ta, ha, RA⟩ := A2.at
  obtain ⟨dxb, db, tb, hb, RB'⟩ := B2.at
  -- the sum
  refine ⟨_, rfl, _, rfl, a, dxa, _, b, dxb, _, rfl, rfl, ha, hb, a, b, T1, T2, p1, p2, r1, r2, rfl, A2, B2, o1, o2, h1.rs (by decide), h2.rs (by decide), fun H3 q T3 p3 r3 s3 O3 sh3 rb3 hv3 _ => ?_⟩
  obtain ⟨dx3, _, _, ha3, _⟩ := O3.at
  refine ⟨_, rfl, _, rfl, .inr ⟨_, _, ha3⟩, q, T3, p3, r3, x, rfl, O3, sh3.ok, rb3, ?_⟩
  refine ⟨_, rfl, _, rfl, _, _, rfl, rfl, rfl, _, rfl, iteNP (congrArg V.int (hv3 x)) ?_⟩
  -- the greater one
  have A3 := A2.same s3
  have B3 := B2.same s3
  have t3 := t2.trans s3
  refine ⟨_, rfl, _, rfl, a, dxa, _, b, dxb, _, rfl, rfl, s3 _ _ ha, s3 _ _ hb, a, b, T1, T2, p1, p2, r1, r2, rfl, A3, B3, h1, h2, fun H4 q4 T4 p4 r4 s4 O4 sh4 rb4 hv4 _ => ?_⟩
  obtain ⟨dx4, _, _, ha4, _⟩ := O4.at
  refine ⟨_, rfl, _, rfl, .inr ⟨_, _, ha4⟩, q4, T4, p4, r4, x, rfl, O4, sh4.ok, rb4, ?_⟩
  refine ⟨_, rfl, _, rfl, _, _, rfl, rfl, _, rfl, iteNP (congrArg V.int ((hv4 x).trans max_if.symm)) ?_⟩
  -- one behind the other
  have A4 := A3.same s4
  have B4 := B3.same s4
  have t4 := t3.trans s4
  refine ⟨_, rfl, _, rfl, a, dxa, _, b, dxb, _, rfl, rfl, s4 _ _ (s3 _ _ ha), s4 _ _ (s3 _ _ hb), a, b, T1, T2, p1, p2, r1, r2, rfl, A4, B4, h1, h2, fun H5 q5 T5 p5 r5 s5 O5 sh5 rb5 hv5 _ => ?_⟩
  obtain ⟨dx5, _, _, ha5, _⟩ := O5.at
  refine ⟨_, rfl, _, rfl, .inr ⟨_, _, ha5⟩, q5, T5, p5, r5, x, rfl, O5, sh5.ok, rb5, ?_⟩
  have nn := o1.pos x
  refine ⟨_, rfl, _, rfl, d2, T2, p2, r2, (vl T1 p1 r1 x).toNat, by rw [Int.toNat_of_nonneg nn]; rfl, R2.same (t4.trans s5), o2.w, bb2, ?_⟩
  have e : vl T5 p5 r5 x = vl T2 p2 r2 (vl T1 p1 r1 x).toNat := hv5 x
  rw [e]
  refine ⟨rfl, ?_⟩
  rw [decide_eq_true rfl]
  exact kk H5 (t4.trans s5)
end
end Sm

set_option Elab.async false
set_option linter.all false
set_option maxRecDepth 100000
set_option maxHeartbeats 16000000
namespace Sm
open PySem PySem.Spec PyProof.Rows L2
open C8 (pss_cut tCut)
def sp_l_right (_ : PySem.W.Frag) : Sp := fun vs H Q _ => ∃ (p l d1 d2 : Addr) (n : Int) (T1 T2 : List Int) (p1 p2 : Nat) (r1 r2 : Int), vs = [.ref p, .ref d1, .ref d2] ∧ Deck H p l n ∧ 0 ≤ n ∧ n ≤ 900000 ∧ RuleAt H d1 T1 p1 r1 ∧ RuleAt H d2 T2 p2 r2 ∧ Sm5 T1 p1 r1 ∧ Sm5 T2 p2 r2 ∧
  ∀ H' n', Fr p l H H' → Deck H' p l n' → n ≤ n' → n' ≤ n + 3 → Q (.bl true) H'
theorem RuleO.fr {cRule : Addr} {H H' : Hp} {q l a : Addr} {n : Int} {T : List Int} {p : Nat} {r : Int} (h : RuleO cRule H a T p r) (f : Fr q l H H') (D : Deck H q l n) : RuleO cRule H' a T p r := by
  obtain ⟨dx, d, t, h1, h2, h3⟩ := h
  obtain ⟨cells, c1, _⟩ := D.hl
  have c0 := D.hp
  refine ⟨dx, d, t, f a _ (fun e => ?_) (fun e => ?_) h1, f.tup D h2, f.tup D h3⟩
  · rw [e, c0] at h1
    cases h1
  · rw [e, c1] at h1
    cases h1
section
variable {P : Program} {w : World} {K : PySem.W.Frag} {mg : Str → Option Value} {base : Heap} {cTooLong cRule fRi fEq fCa fAd fOr fSh fXo : Addr}
abbrev s_l_right : Stmt := topS 50
abbrev N_l_right : List Str := ["_law_deck_here", "_law_mine", "_law_others", "_law_one", "_law_other", "_law_x", "_law_parted_here"]
theorem sc_l_right : FnScope N_l_right ["_law_deck_here", "_law_mine", "_law_others"] (defScope s_l_right) := ⟨rfl, rfl, rfl, by decide +kernel, rfl, by decide +kernel, by decide +kernel⟩
theorem ok_l_right {fdI fdE fdC fdA fdO fdS fdX : FuncData} (T : Txt mg) (R : TxR K mg cRule fRi fEq fCa fAd fOr fSh fXo) (Fi_Rule_call : PySem.W.fnIn K fCa = true) (G_Rule_init : FnOk P w K mg base CX0 5 fRi fdI ["self", "value"] (sp_Rinit K cRule)) (b_Rule_init : Binds K fdI ["self", "value"] [])
    (G_Rule_eq : FnOk P w K mg base CX0 1 fEq fdE ["self", "other"] (sp_Req cRule)) (b_Rule_eq : Binds K fdE ["self", "other"] [])
    (G_Rule_call : FnOk P w K mg base CX0 3 fCa fdC ["self", "x"] (sp_Rcall cRule)) (b_Rule_call : Binds K fdC ["self", "x"] []) (G_Rule_add : FnOk P w K mg base CX0 7 fAd fdA ["self", "other"] (sp_Radd cRule)) (b_Rule_add : Binds K fdA ["self", "other"] [])
    (G_Rule_or : FnOk P w K mg base CX0 8 fOr fdO ["self", "other"] (sp_Ror0 cRule)) (b_Rule_or : Binds K fdO ["self", "other"] []) (G_Rule_rshift : FnOk P w K mg base CX0 7 fSh fdS ["self", "other"] (sp_Rsh0 cRule)) (b_Rule_rshift : Binds K fdS ["self", "other"] [])
    (G_Rule_xor : FnOk P w K mg base CX0 9 fXo fdX ["self", "other"] (sp_Rxor cRule)) (b_Rule_xor : Binds K fdX ["self", "other"] [])
    (C_l_told : Cal P w K mg base "_law_told" ["_law_found", "_law_rule"] 5 (sp_l_told cRule)) (C_l_joined : Cal P w K mg base "_law_joined" ["_law_mine", "_law_others", "_law_x"] 9 (sp_l_joined K)) (C_l_parted : Cal P w K mg base "_law_parted" ["_law_one", "_law_other", "_law_x"] 2 (sp_l_parted K)) (C_l_draw : Cal P w K mg base "_law_draw" ["_law_deck_here", "_law_many"] 1 (sp_l_draw K))
    (C_sum_rule : Cal P w K mg base "sum_rule" ["one", "other"] 5 (sp_sum_rule K)) (C_best_rule : Cal P w K mg base "best_rule" ["one", "other"] 7 (sp_best0 K)) (C_then_rule : Cal P w K mg base "then_rule" ["first", "second"] 5 (sp_then0 K)) (C_split_rule : Cal P w K mg base "split_rule" ["one", "other"] 8 (sp_split_rule K))
    (D : Df K mg "_law_right" s_l_right ["_law_deck_here", "_law_mine", "_law_others"]) : Cal P w K mg base "_law_right" ["_law_deck_here", "_law_mine", "_law_others"] 10 (sp_l_right K) := by
  obtain ⟨f_l_told, fd_l_told, G_l_told, m_l_told, k_l_told, b_l_told⟩ := C_l_told
  obtain ⟨f_l_joined, fd_l_joined, G_l_joined, m_l_joined, k_l_joined, b_l_joined⟩ := C_l_joined
  obtain ⟨f_l_parted, fd_l_parted, G_l_parted, m_l_parted, k_l_parted, b_l_parted⟩ := C_l_parted
  obtain ⟨f_l_draw, fd_l_draw, G_l_draw, m_l_draw, k_l_draw, b_l_draw⟩ := C_l_draw
  obtain ⟨f_sum_rule, fd_sum_rule, G_sum_rule, m_sum_rule, k_sum_rule, b_sum_rule⟩ := C_sum_rule
  obtain ⟨f_best_rule, fd_best_rule, G_best_rule, m_best_rule, k_best_rule, b_best_rule⟩ := C_best_rule
  obtain ⟨f_then_rule, fd_then_rule, G_then_rule, m_then_rule, k_then_rule, b_then_rule⟩ := C_then_rule
  obtain ⟨f_split_rule, fd_split_rule, G_split_rule, m_split_rule, k_split_rule, b_split_rule⟩ := C_split_rule
  have g_Rule := R.g
  have Mk_Rule := R.mak
  have S_first := R.first
  have M_Rule_call := R.mCa
  have M_Rule_add := R.mAd
  have M_Rule_or := R.mOr
  have M_Rule_rshift := R.mSh
  have M_Rule_xor := R.mXo
  have M_Rule_eq := R.mEq
  refine D.cal sc_l_right (fun vs H Q E h => ?_) (fun f cdv A outer s H vs Q E hr h => ?_)
  · obtain ⟨p, l, d1, d2, n, T1, T2, p1, p2, r1, r2, rfl, _⟩ := h
    rfl
  obtain ⟨p, l, d1, d2, n, T1, T2, p1, p2, r1, r2, rfl, D0, n0, n1, R1, R2, h1, h2, kk⟩ := h
  have o1 := h1.sh.ok
  have o2 := h2.sh.ok
  have bb1 := (h1.rs (Int.le_refl 100)).rb (by decide)
  have bb2 := (h2.rs (Int.le_refl 100)).rb (by decide)
  have l51 : T1.length ≤ 5000 := by have := h1.len; omega
  have l52 : T2.length ≤ 5000 := by have := h2.len; omega
  refine ⟨_, (pss_cons (ps_par (i := 3) (j := 4) (by rfl) sc_l_right.nd rfl rfl (by decide) rfl rfl (pa_cons (pe_make Mk_Rule G_Rule_init (hr.mono (by decide)) (by rfl) g_Rule b_Rule_init .nil pass0 (pa_cons (pv 1) pa_nil)) (pa_cons (pe_make Mk_Rule G_Rule_init (hr.mono (by decide)) (by rfl) g_Rule b_Rule_init .nil pass0 (pa_cons (pv 2) pa_nil)) pa_nil)) (by rfl))
    (pss_cons (ps_if (PW.pt (pw_or (pt_not (pt_val (pe_call G_l_told (hr.mono (by decide)) (by rfl) m_l_told k_l_told b_l_told .nil pass0 (pa_cons (pe_op (op_binO M_Rule_add S_first G_Rule_add b_Rule_add (hr.mono (by decide)) pass0) (pv 3) (pv 4)) (pa_cons (pe_call G_sum_rule (hr.mono (by decide)) (by rfl) m_sum_rule k_sum_rule b_sum_rule .nil pass0 (pa_cons (pv 1) (pa_cons (pv 2) pa_nil))) pa_nil))))) (pw_or1 (pt_not (pt_val (pe_call G_l_told (hr.mono (by decide)) (by rfl) m_l_told k_l_told b_l_told .nil pass0 (pa_cons (pe_op (op_binO M_Rule_or S_first G_Rule_or b_Rule_or (hr.mono (by decide)) pass0) (pv 3) (pv 4)) (pa_cons (pe_call G_best_rule (hr.mono (by decide)) (by rfl) m_best_rule k_best_rule b_best_rule .nil pass0 (pa_cons (pv 1) (pa_cons (pv 2) pa_nil))) pa_nil)))))))) (pss_one (ps_ret pe_bl)) pss_nil)
    (pss_cons (ps_if (PW.pt (pw_or (pt_not (pt_val (pe_call G_l_told (hr.mono (by decide)) (by rfl) m_l_told k_l_told b_l_told .nil pass0 (pa_cons (pe_op (op_binO M_Rule_rshift S_first G_Rule_rshift b_Rule_rshift (hr.mono (by decide)) pass0) (pv 3) (pv 4)) (pa_cons (pe_call G_then_rule (hr.mono (by decide)) (by rfl) m_then_rule k_then_rule b_then_rule .nil pass0 (pa_cons (pv 1) (pa_cons (pv 2) pa_nil))) pa_nil))))) (pw_or1 (pt_not (pt_val (pe_call G_l_told (hr.mono (by decide)) (by rfl) m_l_told k_l_told b_l_told .nil pass0 (pa_cons (pe_op (op_binO M_Rule_xor S_first G_Rule_xor b_Rule_xor (hr.mono (by decide)) pass0) (pv 3) (pv 4)) (pa_cons (pe_call G_split_rule (hr.mono (by decide)) (by rfl) m_split_rule k_split_rule b_split_rule .nil pass0 (pa_cons (pv 1) (pa_cons (pv 2) pa_nil))) pa_nil)))))))) (pss_one (ps_ret pe_bl)) pss_nil)
    (pss_cons (ps_for PassesOwn.never rfl (pi_list (pe_lst (pa_cons pe_int (pa_cons pe_int (pa_cons pe_int (pa_cons pe_int (pa_cons pe_int (pa_cons pe_int (pa_cons pe_int (pa_cons (pe_call G_l_draw (hr.mono (by decide)) (by rfl) m_l_draw k_l_draw b_l_draw .nil pass0 (pa_cons (pv 0) (pa_cons pe_int pa_nil))) (pa_cons (pe_op op_add (pe_op op_pow pe_int pe_int) (pe_call G_l_draw (hr.mono (by decide)) (by rfl) m_l_draw k_l_draw b_l_draw .nil pass0 (pa_cons (pv 0) (pa_cons pe_int pa_nil)))) pa_nil))))))))))) (pg_name (i := 5) sc_l_right.nd rfl (Or.inl rfl))
      (pss_one (ps_if (pt_not (pt_val (pe_call G_l_joined (hr.mono (by decide)) (by rfl) m_l_joined k_l_joined b_l_joined .nil pass0 (pa_cons (pv 1) (pa_cons (pv 2) (pa_cons (pv 5) pa_nil)))))) (pss_one (ps_ret pe_bl)) pss_nil)))
    (pss_cons (ps_set (i := 6) sc_l_right.nd rfl (Or.inl rfl) (pe_op (op_binO M_Rule_xor S_first G_Rule_xor b_Rule_xor (hr.mono (by decide)) pass0) (pv 3) (pv 4)))
    (pss_cons (ps_for PassesOwn.never rfl (pi_list (pe_lst (pa_cons pe_int (pa_cons pe_int (pa_cons pe_int (pa_cons pe_int (pa_cons pe_int (pa_cons pe_int (pa_cons pe_int (pa_cons (pe_call G_l_draw (hr.mono (by decide)) (by rfl) m_l_draw k_l_draw b_l_draw .nil pass0 (pa_cons (pv 0) (pa_cons pe_int pa_nil))) pa_nil)))))))))) (pg_name (i := 5) sc_l_right.nd rfl (Or.inl rfl))
      (pss_one (ps_if (pt_cmpR op_ne (pe_ownCall (pv 6) M_Rule_call Fi_Rule_call G_Rule_call b_Rule_call (hr.mono (by decide)) pass0 (pa_cons (pv 5) pa_nil)) (pe_call G_l_parted (hr.mono (by decide)) (by rfl) m_l_parted k_l_parted b_l_parted .nil pass0 (pa_cons (pv 1) (pa_cons (pv 2) (pa_cons (pv 5) pa_nil)))) (nomark _)) (pss_one (ps_ret pe_bl)) pss_nil)))
    (pss_one (ps_ret (pe_and (pe_cmpR (op_eqO M_Rule_eq G_Rule_eq b_Rule_eq (hr.mono (by decide)) pass0) (pv 3) (pe_make Mk_Rule G_Rule_init (hr.mono (by decide)) (by rfl) g_Rule b_Rule_init .nil pass0 (pa_cons (pv 1) pa_nil)) (nomark _)) (pe_one (pe_cmpR (op_eqO M_Rule_eq G_Rule_eq b_Rule_eq (hr.mono (by decide)) pass0) (pv 4) (pe_make Mk_Rule G_Rule_init (hr.mono (by decide)) (by rfl) g_Rule b_Rule_init .nil pass0 (pa_cons (pv 2) pa_nil)) (nomark _)))))))))))), ?_⟩
  refine ⟨_, rfl, new_rule R1 h1.sh bb1 l51 fun a H1 s1 A1 => ?_⟩
  refine ⟨_, rfl, new_rule (R2.same s1) h2.sh bb2 l52 fun b H2 s2 B2 => ?_⟩
  have A2 := A1.same s2
  have t2 := s1.trans s2
  refine ⟨_, _, rfl, ?_⟩
  obtain ⟨dxa, da, ta, ha, RA⟩ := A2.at
  obtain ⟨dxb, db, tb, hb, RB'⟩ := B2.at
  -- the sum
  refine ⟨_, rfl, _, rfl, a, dxa, _, b, dxb, _, rfl, rfl, ha, hb, a, b, T1, T2, p1, p2, r1, r2, rfl, A2, B2, o1, o2, h1.rs (by decide), h2.rs (by decide), fun H3 q T3 p3 r3 s3 O3 sh3 rb3 hv3 l3 => ?_⟩
  have t3 := t2.trans s3
  refine ⟨_, rfl, _, rfl, d1, d2, T1, T2, p1, p2, r1, r2, rfl, R1.same t3, R2.same t3, o1, o2, h1.rs (by decide), h2.rs (by decide), fun H4 d' T' p' r' s4 R' _ sh' hv' _ => ?_⟩
  obtain ⟨rfl, rfl, rfl⟩ := short_one sh' sh3 fun x => (hv' x).trans (hv3 x).symm
  refine ⟨q, d', _, _, _, rfl, O3.same s4, R', sh3, rb3, l3, fun H5 s5 => ?_⟩
  refine ⟨_, rfl, iteF ?_⟩
  -- the greater one
  have t5 := t3.trans (s4.trans s5)
  have s25 := s3.trans (s4.trans s5)
  have A5 := A2.same s25
  have B5 := B2.same s25
  have ha5 := s25 _ _ ha
  have hb5 := s25 _ _ hb
  clear O3 R' hv' hv3 rb3 sh3 sh' l3 s3 s4 s5 t3 t2 s25
  refine ⟨_, rfl, _, rfl, a, dxa, _, b, dxb, _, rfl, rfl, ha5, hb5, a, b, T1, T2, p1, p2, r1, r2, rfl, A5, B5, h1, h2, fun H6 q T3 p3 r3 s3 O3 sh3 rb3 hv3 l3 => ?_⟩
  have t6 := t5.trans s3
  refine ⟨_, rfl, _, rfl, d1, d2, T1, T2, p1, p2, r1, r2, rfl, R1.same t6, R2.same t6, h1, h2, fun H7 d' T' p' r' s4 R' sh' _ hv' _ => ?_⟩
  obtain ⟨rfl, rfl, rfl⟩ := short_one sh' sh3 fun x => (hv' x).trans (hv3 x).symm
  refine ⟨q, d', _, _, _, rfl, O3.same s4, R', sh3, rb3, l3, fun H8 s5 => ?_⟩
  refine ⟨_, rfl, iteF ?_⟩
  -- one behind the other
  have t8 := t6.trans (s4.trans s5)
  have s58 := s3.trans (s4.trans s5)
  have A8 := A5.same s58
  have B8 := B5.same s58
  have ha8 := s58 _ _ ha5
  have hb8 := s58 _ _ hb5
  clear O3 R' hv' hv3 rb3 sh3 sh' l3 s3 s4 s5 t6 t5 s58 A5 B5 ha5 hb5
  refine ⟨_, rfl, _, rfl, a, dxa, _, b, dxb, _, rfl, rfl, ha8, hb8, a, b, T1, T2, p1, p2, r1, r2, rfl, A8, B8, h1, h2, fun H9 q T3 p3 r3 s3 O3 sh3 rb3 hv3 l3 => ?_⟩
  have t9 := t8.trans s3
  refine ⟨_, rfl, _, rfl, d1, d2, T1, T2, p1, p2, r1, r2, rfl, R1.same t9, R2.same t9, h1, h2, fun H10 d' T' p' r' s4 R' sh' _ hv' _ => ?_⟩
  obtain ⟨rfl, rfl, rfl⟩ := short_one sh' sh3 fun x => (hv' x).trans (hv3 x).symm
  refine ⟨q, d', _, _, _, rfl, O3.same s4, R', sh3, rb3, l3, fun H11 s5 => ?_⟩
  refine ⟨_, rfl, iteF ?_⟩
  -- the parted one
  have t11 := t9.trans (s4.trans s5)
  have s811 := s3.trans (s4.trans s5)
  have A11 := A8.same s811
  have B11 := B8.same s811
  have ha11 := s811 _ _ ha8
  have hb11 := s811 _ _ hb8
  clear O3 R' hv' hv3 rb3 sh3 sh' l3 s3 s4 s5 t9 t8 s811 A8 B8 ha8 hb8
  obtain ⟨T3, p3, r3, sh3, cs, l3⟩ := split5 h1 h2
  refine ⟨_, rfl, _, rfl, a, dxa, _, b, dxb, _, rfl, rfl, ha11, hb11, a, b, T1, T2, T3, p1, p2, p3, r1, r2, r3, rfl, A11, B11, fit5 h1 h2, sh3, cs, l3, fun H12 q s3 O3 rb3 => ?_⟩
  have t12 := t11.trans s3
  refine ⟨_, rfl, _, rfl, d1, d2, T1, T2, T3, p1, p2, p3, r1, r2, r3, rfl, R1.same t12, R2.same t12, fit5 h1 h2, sh3, cs, l3, fun H13 d' s4 R' _ => ?_⟩
  refine ⟨q, d', _, _, _, rfl, O3.same s4, R', sh3, rb3, l3, fun H14 s5 => ?_⟩
  refine ⟨_, rfl, iteF ?_⟩
  have t14 := t12.trans (s4.trans s5)
  have s1114 := s3.trans (s4.trans s5)
  have A14 := A11.same s1114
  have B14 := B11.same s1114
  have ha14 := s1114 _ _ ha11
  have hb14 := s1114 _ _ hb11
  clear O3 R' s3 s4 s5 t12 t11 s1114 A11 B11 ha11 hb11
  -- the values
  have D14 := D0.same t14
  refine ⟨_, rfl, p, l, n, 41, rfl, D14, n0, by omega, by decide, by decide, fun r4 H15 r40 r41 f15 D15 => ?_⟩
  refine ⟨_, _, rfl, rfl, ⟨by decide, by decide, by decide⟩, ?_⟩
  refine ⟨_, rfl, p, l, n + 1, 99, rfl, D15, by omega, by omega, by decide, by decide, fun r5 H16 r50 r51 f16 D16 => ?_⟩
  refine ⟨_, _, rfl, rfl, (by show 9 ≤ sizeLine; decide), fun U nU => ?_⟩
  have far : ∃ z : Nat, (fun i j : Int => V.int (i + j)) (10 ^ Int.toNat 12) r5 = V.int (z : Int) := ⟨(1000000000000 + r5).toNat, congrArg V.int (by show (10 : Int) ^ 12 + r5 = _; omega)⟩
  obtain ⟨z5, e5⟩ := far
  obtain ⟨z4, e4⟩ : ∃ z : Nat, r4 = (z : Int) := ⟨r4.toNat, by omega⟩
  rw [e5, e4]
  clear e5 e4
  have fr16 := (Same.fr t14 : Fr p l H H14).trans (f15.trans f16)
  have A16 := (A14.fr f15 D14).fr f16 D15
  have B16 := (B14.fr f15 D14).fr f16 D15
  have R16 := R1.fr fr16 D0
  have S16 := R2.fr fr16 D0
  generalize hxs : [V.int 0, V.int 1, V.int 2, V.int 3, V.int 5, V.int 8, V.int 13, V.int (z4 : Int), V.int (z5 : Int)] = xs
  have mem : ∀ x, x ∈ xs → ∃ m : Nat, x = .int (m : Int) := by
    rw [← hxs]
    intro x hx
    simp only [List.mem_cons, List.not_mem_nil, or_false] at hx
    rcases hx with e | e | e | e | e | e | e | e | e
    · exact ⟨0, e⟩
    · exact ⟨1, e⟩
    · exact ⟨2, e⟩
    · exact ⟨3, e⟩
    · exact ⟨5, e⟩
    · exact ⟨8, e⟩
    · exact ⟨13, e⟩
    · exact ⟨z4, e⟩
    · exact ⟨z5, e⟩
  have sU := same_upd (o := .lst xs) nU
  have hU : upd H16 U (.lst xs) U = some (.lst xs) := upd_same
  have D17 := D16.same sU
  have A17 := A16.same sU
  have B17 := B16.same sU
  have R17 := R16.same sU
  have S17 := S16.same sU
  have fr17 := fr16.trans (Same.fr sU)
  clear hxs
  generalize upd H16 U (.lst xs) = H17 at hU D17 A17 B17 R17 S17 fr17 ⊢
  clear A16 B16 R16 S16 fr16 sU nU A14 B14 ha14 hb14
  refine ⟨U, rfl, ⟨_, SqL.of hU⟩, ?_⟩
  refine for_list (K := K) (a := U) (xs := xs) (fun j σ H' => ∃ v5 : Option V, σ = [some (.ref p), some (.ref d1), some (.ref d2), some (.ref a), some (.ref b), v5, none] ∧ Same H17 H') ⟨_, rfl, Same.refl _⟩ (fun i σ H' _ h => by obtain ⟨_, _, s⟩ := h; exact SqL.of (s _ _ hU)) ?_ ?_
  · rintro j x σ H18 hx ⟨v5, rfl, s18⟩
    obtain ⟨m, rfl⟩ := mem x (List.mem_of_getElem? hx)
    refine ⟨_, rfl, _, rfl, _, rfl, d1, d2, T1, T2, p1, p2, r1, r2, m, rfl, R17.same s18, S17.same s18, h1, h2, fun H19 s19 => ?_⟩
    exact ⟨_, rfl, iteF ⟨_, rfl, s18.trans s19⟩⟩
  rintro σ H18 ⟨v5, rfl, s18⟩
  have A18 := A17.same s18
  have B18 := B17.same s18
  have R18 := R17.same s18
  have S18 := S17.same s18
  have D18 := D17.same s18
  have fr18 := fr17.trans (Same.fr s18)
  clear A17 B17 R17 S17 D17 fr17 hU mem
  -- the best partings
  obtain ⟨dxa, _, _, ha, _⟩ := A18.at
  obtain ⟨dxb, _, _, hb, _⟩ := B18.at
  refine ⟨_, rfl, _, rfl, a, dxa, _, b, dxb, _, rfl, rfl, ha, hb, a, b, T1, T2, T3, p1, p2, p3, r1, r2, r3, rfl, A18, B18, fit5 h1 h2, sh3, cs, l3, fun H19 q s19 O3 rb3 => ?_⟩
  have D19 := D18.same s19
  refine ⟨_, rfl, p, l, n + 1 + 1, 30, rfl, D19, by omega, by omega, by decide, by decide, fun r6 H20 r60 r61 f20 D20 => ?_⟩
  refine ⟨(by show 8 ≤ sizeLine; decide), fun U nU => ?_⟩
  obtain ⟨z6, e6⟩ : ∃ z : Nat, r6 = (z : Int) := ⟨r6.toNat, by omega⟩
  have z6l : z6 ≤ 100 := by omega
  rw [e6]
  clear e6
  have A20 := (A18.same s19).fr f20 D19
  have B20 := (B18.same s19).fr f20 D19
  have R20 := (R18.same s19).fr f20 D19
  have S20 := (S18.same s19).fr f20 D19
  have O20 := O3.fr f20 D19
  have fr20 := (fr18.trans (Same.fr s19)).trans f20
  generalize hxs : [V.int 0, V.int 1, V.int 2, V.int 3, V.int 4, V.int 6, V.int 9, V.int (z6 : Int)] = xs
  have mem : ∀ x, x ∈ xs → ∃ m : Nat, m ≤ 100 ∧ x = .int (m : Int) := by
    rw [← hxs]
    intro x hx
    simp only [List.mem_cons, List.not_mem_nil, or_false] at hx
    rcases hx with e | e | e | e | e | e | e | e
    · exact ⟨0, by decide, e⟩
    · exact ⟨1, by decide, e⟩
    · exact ⟨2, by decide, e⟩
    · exact ⟨3, by decide, e⟩
    · exact ⟨4, by decide, e⟩
    · exact ⟨6, by decide, e⟩
    · exact ⟨9, by decide, e⟩
    · exact ⟨z6, z6l, e⟩
  have sU := same_upd (o := .lst xs) nU
  have hU : upd H20 U (.lst xs) U = some (.lst xs) := upd_same
  have D21 := D20.same sU
  have A21 := A20.same sU
  have B21 := B20.same sU
  have R21 := R20.same sU
  have S21 := S20.same sU
  have O21 := O20.same sU
  have fr21 := fr20.trans (Same.fr sU)
  clear hxs
  generalize upd H20 U (.lst xs) = H21 at hU D21 A21 B21 R21 S21 O21 fr21 ⊢
  clear A20 B20 R20 S20 O20 fr20 sU nU A18 B18 R18 S18 ha hb O3
  refine ⟨U, rfl, ⟨_, SqL.of hU⟩, ?_⟩
  refine for_list (K := K) (a := U) (xs := xs) (fun j σ H' => ∃ v5 : Option V, σ = [some (.ref p), some (.ref d1), some (.ref d2), some (.ref a), some (.ref b), v5, some (.ref q)] ∧ Same H21 H') ⟨_, rfl, Same.refl _⟩ (fun i σ H' _ h => by obtain ⟨_, _, s⟩ := h; exact SqL.of (s _ _ hU)) ?_ ?_
  · rintro j x σ H22 hx ⟨v5, rfl, s22⟩
    obtain ⟨m, m1, rfl⟩ := mem x (List.mem_of_getElem? hx)
    have O22 := O21.same s22
    obtain ⟨dxq, _, _, hq, _⟩ := O22.at
    refine ⟨_, rfl, q, rfl, _, rfl, .inr ⟨_, _, hq⟩, q, T3, p3, r3, m, rfl, O22, sh3.ok, rb3, ?_⟩
    refine ⟨_, rfl, _, rfl, _, rfl, d1, d2, T1, T2, p1, p2, r1, r2, m, rfl, R21.same s22, S21.same s22, o1.w, o2.w, bb1, bb2, m1, fun H23 y s23 c => ?_⟩
    have e : vl T3 p3 r3 m = y := (cs m).one c
    rw [e]
    exact ⟨rfl, _, rfl, iteNP rfl ⟨_, rfl, s22.trans s23⟩⟩
  rintro σ H22 ⟨v5, rfl, s22⟩
  have A22 := A21.same s22
  have B22 := B21.same s22
  have R22 := R21.same s22
  have S22 := S21.same s22
  have D22 := D21.same s22
  have fr22 := fr21.trans (Same.fr s22)
  -- the rules stay as they were
  refine ⟨_, rfl, _, rfl, new_rule R22 h1.sh bb1 l51 fun c H23 s23 C => ?_⟩
  obtain ⟨dxa, _, _, ha, _⟩ := (A22.same s23).at
  obtain ⟨dxc, _, _, hc, _⟩ := C.at
  refine ⟨a, dxa, _, c, dxc, _, rfl, rfl, ha, hc, a, c, T1, p1, r1, rfl, A22.same s23, C, _, rfl, iteT ?_⟩
  refine ⟨_, rfl, _, rfl, new_rule (S22.same s23) h2.sh bb2 l52 fun c2 H24 s24 C2 => ?_⟩
  obtain ⟨dxb, _, _, hb, _⟩ := ((B22.same s23).same s24).at
  obtain ⟨dxd, _, _, hd, _⟩ := C2.at
  exact ⟨b, dxb, _, c2, dxd, _, rfl, rfl, hb, hd, b, c2, T2, p2, r2, rfl, (B22.same s23).same s24, C2, kk H24 _ (fr22.trans (Same.fr (s23.trans s24))) (D22.same (s23.trans s24)) (by omega) (by omega)⟩
end
end Sm

set_option linter.all false
set_option maxHeartbeats 4000000
namespace Sm
/-! ### one rule below another one -/
theorem below_of {T1 T2 : List Int} {p1 p2 n : Nat} {r1 r2 : Int} (o1 : RuleOk T1 p1 r1) (o2 : RuleOk T2 p2 r2) (hn : max T1.length T2.length + p1 * p2 ≤ n) : (∀ x, vl T1 p1 r1 x < vl T2 p2 r2 x) ↔ (∀ x, x < n → vl T1 p1 r1 x < vl T2 p2 r2 x) ∧ r1 * (p2 : Int) ≤ r2 * (p1 : Int) := by
  have z1 := o1.p0
  have z2 := o2.p0
  have l1 := o1.p1
  have l2 := o2.p1
  obtain ⟨B, hB⟩ : ∃ B, B = max T1.length T2.length := ⟨_, rfl⟩
  have tt : 0 < p1 * p2 := Nat.mul_pos z1 z2
  have turn : ∀ x, B ≤ x → gp T1 p1 r1 T2 p2 r2 (x + p1 * p2) = gp T1 p1 r1 T2 p2 r2 x + ((p2 : Int) * r1 - (p1 : Int) * r2) := fun x hx => by
    have := gp_turn (a := p2) (b := p1) (B := B) o1.w o2.w (by omega) (by omega) (Nat.mul_comm p2 p1) hx
    rwa [Nat.mul_comm p2 p1] at this
  have c1 : r1 * (p2 : Int) = (p2 : Int) * r1 := Int.mul_comm ..
  have c2 : r2 * (p1 : Int) = (p1 : Int) * r2 := Int.mul_comm ..
  constructor
  · intro h
    refine ⟨fun x _ => h x, ?_⟩
    rcases Int.lt_or_le (r2 * (p1 : Int)) (r1 * (p2 : Int)) with q | q
    · exfalso
      have g1 : 1 ≤ (p2 : Int) * r1 - (p1 : Int) * r2 := by omega
      obtain ⟨k, hk⟩ : ∃ k : Nat, (k : Int) = -gp T1 p1 r1 T2 p2 r2 B := ⟨(-gp T1 p1 r1 T2 p2 r2 B).toNat, Int.toNat_of_nonneg (by have := h B; unfold gp; omega)⟩
      have e := gp_turns turn (Nat.le_refl B) k
      have e2 : (k : Int) * 1 ≤ (k : Int) * ((p2 : Int) * r1 - (p1 : Int) * r2) := Int.mul_le_mul_of_nonneg_left g1 (by omega)
      have := h (B + k * (p1 * p2))
      unfold gp at e hk
      omega
    · exact q
  · rintro ⟨near, sl⟩ x
    rcases Nat.lt_or_ge x n with q | q
    · exact near x q
    · obtain ⟨y, k, y1, y2, rfl⟩ := split_turn (B := B) tt (show B ≤ x by omega)
      have e := gp_turns turn y1 k
      have e2 : (k : Int) * ((p2 : Int) * r1 - (p1 : Int) * r2) ≤ 0 := Int.mul_nonpos_of_nonneg_of_nonpos (by omega) (by omega)
      have := near y (by omega)
      unfold gp at e
      omega
/-! ### some written rules -/
theorem one_short {c r : Int} (c0 : 0 ≤ c) (r0 : 0 ≤ r) : Short [c] 1 r := by
  refine ⟨⟨by decide, Nat.le_refl 1, r0, fun i hi => ?_, fun i hi => ?_, ?_⟩, fun s c h1 h2 => by omega, .inl rfl⟩
  · have hi : i < 1 := hi
    rw [show i = 0 by omega]
    exact c0
  · have hi : i + 1 < 1 := hi
    omega
  · show c ≤ c + r
    omega
theorem rep_short {n : Nat} {r : Int} (n0 : 0 < n) (r0 : 0 < r) : Short (List.replicate n 0) n r := by
  have ln : (List.replicate n (0 : Int)).length = n := List.length_replicate
  have ok : RuleOk (List.replicate n 0) n r := by
    refine ⟨n0, by rw [ln]; exact Nat.le_refl _, by omega, fun i hi => ?_, fun i hi => ?_, ?_⟩
    · rw [ln] at hi
      rw [rep_at hi]
      exact Int.le_refl _
    · rw [ln] at hi
      rw [rep_at hi, rep_at (by omega)]
      exact Int.le_refl _
    · rw [ln, rep_at (by omega), rep_at (by omega)]
      omega
  refine ⟨ok, fun s c s0 s1 _ h => ?_, .inl ln.symm⟩
  have a := h 0 (by rw [ln]; omega) (by rw [ln]; exact n0)
  rw [rep_at n0, Nat.zero_add, vl_lt (by rw [ln]; exact s1), rep_at s1] at a
  have b := h (n - 1) (by rw [ln]; omega) (by rw [ln]; omega)
  rw [rep_at (by omega), vl_step n0 (by rw [ln]; exact Nat.le_refl _) (by rw [ln]; omega), vl_lt (by rw [ln]; omega), rep_at (by omega)] at b
  omega
/-- a table of two levels -/
theorem two_at {a b i : Nat} {c d : Int} (h : i < a + b) : (List.replicate a c ++ List.replicate b d).getD i 0 = if i < a then c else d := by
  rw [List.getD_eq_getElem?_getD, List.getElem?_append, List.length_replicate]
  by_cases q : i < a
  · rw [if_pos q, if_pos q, List.getElem?_replicate, if_pos q]
    rfl
  · rw [if_neg q, if_neg q, List.getElem?_replicate, if_pos (by omega)]
    rfl
theorem two_short {c : Int} (c0 : 0 ≤ c) : Short (List.replicate 11 c ++ List.replicate 29 (c + 40)) 40 40 := by
  have ln : (List.replicate 11 c ++ List.replicate 29 (c + 40)).length = 40 := by rw [List.length_append, List.length_replicate, List.length_replicate]
  have at_ : ∀ i, i < 40 → (List.replicate 11 c ++ List.replicate 29 (c + 40)).getD i 0 = if i < 11 then c else c + 40 := fun i hi => two_at (a := 11) (b := 29) hi
  have ok : RuleOk (List.replicate 11 c ++ List.replicate 29 (c + 40)) 40 40 := by
    refine ⟨by decide, by rw [ln]; exact Nat.le_refl _, by decide, fun i hi => ?_, fun i hi => ?_, ?_⟩
    · rw [ln] at hi
      rw [at_ i hi]
      split <;> omega
    · rw [ln] at hi
      rw [at_ i (by omega), at_ (i + 1) hi]
      split <;> split <;> omega
    · rw [ln, at_ _ (by omega), at_ _ (by omega)]
      show (if (39 : Nat) < 11 then c else c + 40) ≤ (if (0 : Nat) < 11 then c else c + 40) + 40
      rw [if_neg (by decide), if_pos (by decide)]
      omega
  have near : ∀ i, i < 40 → vl (List.replicate 11 c ++ List.replicate 29 (c + 40)) 40 40 i = if i < 11 then c else c + 40 := fun i hi => by rw [vl_lt (by rw [ln]; exact hi), at_ i hi]
  refine ⟨ok, fun s e s0 s1 dv h => ?_, .inl ln.symm⟩
  have r0 := h 0 (by rw [ln]; omega) (by rw [ln]; omega)
  have r10 := h 10 (by rw [ln]; omega) (by rw [ln]; omega)
  have r19 := h 19 (by rw [ln]; omega) (by rw [ln]; omega)
  rw [Nat.zero_add, near s s1, at_ 0 (by omega), show (if (0 : Nat) < 11 then c else c + 40) = c from if_pos (by decide)] at r0
  rw [at_ 10 (by omega), if_pos (by decide)] at r10
  rw [at_ 19 (by omega), if_neg (by decide)] at r19
  have cases_ : s ≤ 10 ∨ s = 20 := by
    obtain ⟨k, hk⟩ := dv
    have : k = 0 ∨ k = 1 ∨ k = 2 ∨ k = 3 ∨ 4 ≤ k := by omega
    rcases this with rfl | rfl | rfl | rfl | q
    · omega
    · omega
    · omega
    · omega
    · have : s * 4 ≤ s * k := Nat.mul_le_mul_left _ q
      omega
  rcases cases_ with q | rfl
  · rw [near (10 + s) (by omega), if_neg (by omega)] at r10
    rw [if_pos (by omega)] at r0
    omega
  · rw [near (19 + 20) (by decide), if_neg (by decide)] at r19
    rw [if_neg (by decide)] at r0
    omega
theorem three_short : Short [1, 2, 3] 3 21 := by
  have ok : RuleOk [1, 2, 3] 3 21 := ⟨by decide, by decide, by decide, fun i hi => by have hi : i < 3 := hi; rcases (show i = 0 ∨ i = 1 ∨ i = 2 by omega) with rfl | rfl | rfl <;> decide, fun i hi => by have hi : i + 1 < 3 := hi; rcases (show i = 0 ∨ i = 1 by omega) with rfl | rfl <;> decide, by decide⟩
  refine ⟨ok, fun s c s0 s1 dv h => ?_, .inl rfl⟩
  have es : s = 1 := by
    rcases (show s = 1 ∨ s = 2 by omega) with e | e
    · exact e
    · subst e
      exact absurd dv (by decide)
  subst es
  have r0 := h 0 (by decide) (by decide)
  have r2 := h 2 (by decide) (by decide)
  have e1 : vl [1, 2, 3] 3 21 (0 + 1) = 2 := by decide
  have e2 : vl [1, 2, 3] 3 21 (2 + 1) = 22 := by decide
  rw [e1] at r0
  rw [e2] at r2
  have g0 : ([1, 2, 3] : List Int).getD 0 0 = 1 := rfl
  have g2 : ([1, 2, 3] : List Int).getD 2 0 = 3 := rfl
  rw [g0] at r0
  rw [g2] at r2
  omega
/-! ### a rule with a bit more -/
theorem near_ok {T : List Int} {p : Nat} {r R more : Int} {at' : Nat} (o : RuleOk T p r) (m0 : 0 ≤ more) (hR : r ≤ R) (hw : ∀ g : Nat → Int, (g = fun i => T.getD i 0 + more + (if at' ≤ i then 1 else 0)) → g (T.length - 1) - g (T.length - p) ≤ R) :
    RuleOk ((List.range T.length).map fun i => T.getD i 0 + more + (if at' ≤ i then 1 else 0)) p R := by
  have p0 := o.p0
  have p1 := o.p1
  have r0 := o.r0
  have ln : ((List.range T.length).map fun i => T.getD i 0 + more + (if at' ≤ i then 1 else 0)).length = T.length := by rw [List.length_map, List.length_range]
  have g : ∀ i, i < T.length → ((List.range T.length).map fun i => T.getD i 0 + more + (if at' ≤ i then 1 else 0)).getD i 0 = T.getD i 0 + more + (if at' ≤ i then 1 else 0) := fun i hi => by
    rw [List.getD_eq_getElem?_getD, List.getElem?_map, List.getElem?_range hi]
    rfl
  refine ⟨p0, by rw [ln]; exact p1, by omega, fun i hi => ?_, fun i hi => ?_, ?_⟩
  · rw [ln] at hi
    rw [g i hi]
    have := o.nn i hi
    split <;> omega
  · rw [ln] at hi
    rw [g i (by omega), g (i + 1) hi]
    have := o.mono i hi
    split <;> split <;> omega
  · have q : (T.getD (T.length - 1) 0 + more + (if at' ≤ T.length - 1 then 1 else 0)) - (T.getD (T.length - p) 0 + more + (if at' ≤ T.length - p then 1 else 0)) ≤ R := hw _ rfl
    rw [ln, g _ (by omega), g _ (by omega)]
    omega
end Sm

set_option linter.all false
set_option maxHeartbeats 4000000
namespace Sm
/-! ### the rules that are too long when they are joined -/
/-- noughts, and five behind them -/
def fiveT (N : Nat) : List Int := List.replicate N 0 ++ [5]
theorem five_len (N : Nat) : (fiveT N).length = N + 1 := by
  unfold fiveT
  rw [List.length_append, List.length_replicate]
  rfl
theorem five_at {N i : Nat} : (fiveT N).getD i 0 = if i = N then 5 else 0 := by
  unfold fiveT
  rw [List.getD_eq_getElem?_getD, List.getElem?_append, List.length_replicate]
  split
  · rw [if_neg (by omega), List.getElem?_replicate]
    split <;> rfl
  · split
    · rename_i h
      rw [h, Nat.sub_self]
      rfl
    · rw [List.getElem?_eq_none (by rw [List.length_singleton]; omega)]
      rfl
theorem five_ok {N : Nat} {r : Int} (h : 0 ≤ r) : RuleOk (fiveT N) 1 r := by
  have l := five_len N
  refine ⟨by decide, by omega, h, fun i hi => ?_, fun i hi => ?_, ?_⟩
  · rw [five_at]
    split <;> omega
  · rw [five_at, five_at]
    split <;> split <;> omega
  · rw [l, Nat.add_sub_cancel]
    omega
theorem five_vl {N : Nat} (x : Nat) : vl (fiveT N) 1 0 x = if x < N then 0 else 5 := by
  have l := five_len N
  unfold vl
  rw [l]
  split
  · rw [five_at]
    split <;> split <;> omega
  · rw [if_neg (by omega), Nat.div_one, Nat.mul_one, show x - (x - (N + 1) + 1) = N by omega, five_at, if_pos rfl, Int.mul_zero, Int.add_zero]
theorem five_short {N : Nat} (h : 0 < N) : Short (fiveT N) 1 0 := by
  have l := five_len N
  refine ⟨five_ok (by decide), fun s c h1 h2 => by omega, .inr ?_⟩
  rw [five_vl, five_at, l, if_neg (by omega), if_neg (by omega)]
  decide
theorem one_vl {c r : Int} (x : Nat) : vl [c] 1 r x = c + (x : Int) * r := by
  have a := vl_addk (T := [c]) (p := 1) (r := r) (x := 0) (by decide) (Nat.le_refl 1) (Nat.le_refl 0) x
  rw [Nat.zero_add, Nat.mul_one] at a
  rw [a]
  congr 1
/-- far off it goes twice as fast: the table reaches so far -/
theorem late_long {c : Int} (c0 : 1000000 ≤ c) {T : List Int} {p : Nat} {r : Int} (s : Short T p r) (hv : ∀ x, vl T p r x = max (vl [c] 1 1 x) (vl [0] 1 2 x)) : 5000 < T.length := by
  refine Nat.lt_of_not_le fun l => ?_
  have o := s.ok
  have p0 := o.p0
  have p1 := o.p1
  have v : ∀ x : Nat, vl T p r x = max (c + (x : Int)) (2 * (x : Int)) := fun x => by
    rw [hv, one_vl, one_vl]
    omega
  have a := vl_addk (r := r) p0 p1 (show T.length - p ≤ 5000 by omega) 1
  rw [v, v, Nat.one_mul] at a
  have k := vl_addk (r := r) p0 p1 (show T.length - p ≤ 5000 by omega) c.toNat
  rw [v, v] at k
  have e : ((5000 : Nat) : Int) = 5000 := rfl
  have er : r = (p : Int) := by omega
  have ec : (c.toNat : Int) = c := by omega
  have ex : ((5000 + c.toNat * p : Nat) : Int) = 5000 + c * (p : Int) := by
    rw [Int.natCast_add, Int.natCast_mul, ec]
    rfl
  rw [ex, ec, er] at k
  have m : c * 1 ≤ c * (p : Int) := Int.mul_le_mul_of_nonneg_left (by omega) (by omega)
  omega
theorem late_is {c : Int} (c0 : 0 ≤ c) : ∃ T p r, Short T p r ∧ ∀ x, vl T p r x = max (vl [c] 1 1 x) (vl [0] 1 2 x) := by
  have o1 := (one_short (r := 1) c0 (by decide)).ok
  have o2 := (one_short (c := 0) (r := 2) (by decide) (by decide)).ok
  have turn : ∀ x, c.toNat ≤ x → max (vl [c] 1 1 (x + 1)) (vl [0] 1 2 (x + 1)) = max (vl [c] 1 1 x) (vl [0] 1 2 x) + 2 := fun x hx => by
    rw [one_vl, one_vl, one_vl, one_vl]
    omega
  have ok := tab_ok (f := fun x => max (vl [c] 1 1 x) (vl [0] 1 2 x)) (t := 1) (by decide) (by decide) turn (fun x => by have := o1.pos x; omega) (fun x => by have := o1.up x; have := o2.up x; omega)
  obtain ⟨T, p, r, sh, e⟩ := short_is ok
  exact ⟨T, p, r, sh, fun x => (e x).trans (tab_vl (f := fun x => max (vl [c] 1 1 x) (vl [0] 1 2 x)) (by decide) turn x)⟩
/-- a step behind stairs: the table reaches so far -/
theorem stair_long {T : List Int} {p : Nat} {r : Int} (s : Short T p r) (hv : ∀ x, vl T p r x = thn (List.replicate 40 0) 40 1 (fiveT 130) 1 0 x) : 5000 < T.length := by
  refine Nat.lt_of_not_le fun l => ?_
  have o := s.ok
  have p0 := o.p0
  have p1 := o.p1
  have v : ∀ x : Nat, vl T p r x = if x / 40 < 130 then 0 else 5 := fun x => by
    rw [hv]
    unfold thn
    rw [vl_stairs, Int.mul_one, Int.toNat_natCast, five_vl]
  have k := vl_addk (r := r) p0 p1 (show T.length - p ≤ 5000 by omega) 200
  rw [v, v, if_pos (show 5000 / 40 < 130 by decide), if_neg (by omega)] at k
  omega
end Sm

set_option Elab.async false
set_option linter.all false
set_option maxRecDepth 100000
set_option maxHeartbeats 16000000
namespace Sm
open PySem PySem.Spec PyProof.Rows L2 LamX
open C8 (pss_cut tCut)
abbrev lamP : Arguments := { posonlyargs := [], args := [], vararg := none, kwonlyargs := [], kw_defaults := [], kwarg := none, defaults := [] }
abbrev s_l_long : Stmt := topS 51
abbrev N_l_long : List Str := ["_law_call", "error"]
theorem sc_l_long : FnScope N_l_long ["_law_call"] (defScope s_l_long) := ⟨rfl, rfl, rfl, by decide +kernel, rfl, by decide +kernel, by decide +kernel⟩
theorem long_gives {X : Cx} {q : Str} {cTooLong cChangeError fB : Addr} (T : Txt X.mg) (XC : XVal X.K X.mg "TooLong" "number" cTooLong fB) (gCE : X.mg "ChangeError" = some (.ref cChangeError)) (kCE : PySem.W.kitOne X.K (.ref cTooLong) (.ref cChangeError) = some true) :
    ∃ (ts : Addr → Value → Option Addr → TS) (tr : TS), (∀ (g : Addr) (cdg : Value), GivesTo X N_l_long "_law_long" (defScope s_l_long) g cdg (defBody s_l_long) "_law_call" q (TAx X.K cTooLong N_l_long 1 ts tr)) ∧
      ∀ (c d : Addr) (n : Int) (D : Ends) (σ : L2.St) (H : Hp), σ.length = 2 → H d = some (.xd [(("number" : Str), .int n)]) → D.rt (.int n) H → ts c (.ref cTooLong) (some d) D (σ.set 1 (some (.ref c))) H := by
  refine ⟨_, _, fun g cdg => act_gives (by rfl) XC.g (by decide) (fun f => rfl) sc_l_long.nd rfl (fun s H => by rfl) (fun s H a oe cls d pn hz hf => pss_one (ps_ret (pe_ifExp (pt_val (pe_callB (show CallR _ (.builtin "isinstance") (rIsX X.K cls d a) from call_isX hz hf) (by rfl) T.n_isinstance (by decide +kernel) (pa_cons (pv 1) (pa_cons (pe_glob (v := .ref cChangeError) rfl gCE rfl) pa_nil)))) (pe_xf XC.xf XC.no hz hf (pv 1)) (pe_un un_neg pe_int)))) (fun s H => pss_one (ps_ret (pe_un un_neg pe_int))), ?_⟩
  intro c d n D σ H len hd kk
  obtain ⟨x0, x1, rfl⟩ : ∃ x0 x1, σ = [x0, x1] := by
    match σ, len with
    | [x0, x1], _ => exact ⟨x0, x1, rfl⟩
  refine ⟨_, rfl, cTooLong, d, _, rfl, rfl, hd, XC.ec, .inl ⟨_, _, true, rfl, .own _, kCE, _, rfl, iteT ?_⟩⟩
  exact ⟨_, rfl, rfl, rfl, d, _, _, rfl, hd, rfl, kk⟩
theorem extTup {H H' : Hp} (e : ExtN H H') {b : Addr} {xs : List V} (h : H b = some (.tup xs)) : H' b = some (.tup xs) := e _ _ h fun ps z => by cases z
theorem extLst {H H' : Hp} (e : ExtN H H') {b : Addr} {xs : List V} (h : H b = some (.lst xs)) : H' b = some (.lst xs) := e _ _ h fun ps z => by cases z
theorem RuleAt.ext {H H' : Hp} {d : Addr} {T : List Int} {p : Nat} {r : Int} (R : RuleAt H d T p r) (e : ExtN H H') : RuleAt H' d T p r := by
  obtain ⟨t, h1, h2⟩ := R
  exact ⟨t, extTup e h1, extTup e h2⟩
theorem Tabs.fr {H H' : Hp} {p l : Addr} {n : Int} {TT : List (Addr × Str)} (t : Tabs TT H) (f : Fr p l H H') (D : Deck H p l n) : Tabs TT H' := by
  obtain ⟨cells, hl, _⟩ := D.hl
  have hp := D.hp
  intro x hx
  obtain ⟨ps, h1, h2, h3⟩ := t x hx
  have n1 : x.1 ≠ p := fun e => by
    rw [e, hp] at h1
    cases h1
  have n2 : x.1 ≠ l := fun e => by
    rw [e, hl] at h1
    cases h1
  refine ⟨ps, f _ _ n1 n2 h1, h2, fun pos cv hc => ?_⟩
  obtain ⟨c, rfl, hcd⟩ := h3 pos cv hc
  refine ⟨c, rfl, f _ _ (fun e => ?_) (fun e => ?_) hcd⟩
  · rw [e, hp] at hcd
    cases hcd
  · rw [e, hl] at hcd
    cases hcd
/-! ### rules and words of their length as data -/

section
variable {P : Program} {w : World} {K : PySem.W.Frag} {mg : Str → Option Value} {base : Heap}
abbrev s_l_long_right : Stmt := topS 52
abbrev N_l_long_right : List Str := ["_law_deck_here", "_law_late", "_law_slow", "_law_fast", "_law_wide", "_law_numbers"]
theorem sc_l_long_right : FnScope N_l_long_right ["_law_deck_here"] (defScope s_l_long_right) := ⟨rfl, rfl, rfl, by decide +kernel, rfl, by decide +kernel, by decide +kernel⟩
abbrev X_l_long_right (P : Program) (w : World) (K : PySem.W.Frag) (mg : Str → Option Value) (base : Heap) (f c : Addr) (A : Around) (outer : List Env) (s : Shared) (H : Hp) (E : XK) : Cx := (cxOf CX0 P w K mg base N_l_long_right "_law_long_right" (defScope s_l_long_right) f (.ref c) A outer s H E).nox
abbrev q_l_long_right : Str := ("_law_long_right" : Str) ++ (".<locals>." : Str) ++ ("<lambda>" : Str)
theorem pe_lam1 {f c Pt : Addr} {A : Around} {outer : List Env} {s : Shared} {H : Hp} {E : XK} {body : Expr} {cT : Addr} {ts : Addr → Value → Option Addr → TS} {tr : TS} {te : XK → TE} {p1 p6 p7 : Pos} (D : Df K mg "_law_long" s_l_long ["_law_call"])
    (hG : ∀ (g : Addr) (cdg : Value), GivesTo (X_l_long_right P w K mg base f c A outer s H E) N_l_long "_law_long" (defScope s_l_long) g cdg (defBody s_l_long) "_law_call" q_l_long_right (TAx K cT N_l_long 1 ts tr))
    (TB : TabB base mg c Pt) {TT : List (Addr × Str)} (hmT : (Pt, q_l_long_right) ∈ TT) (hu : ∀ p ∈ TT, p.1 = Pt → p.2 = q_l_long_right) (hr : Room 11 (X_l_long_right P w K mg base f c A outer s H E).A)
    {sc : Scope} (hL : lamSB (defScope s_l_long_right) sc = true) (hbody : ∀ (A' : Around) (outer' : List Env) (s' : Shared) (H' : Hp) (E' : XK) (f' c' : Addr), Room 9 (A'.deeper (lamEnv (X_l_long_right P w K mg base f c A outer s H E) sc s'.heap.objs.size f' c')) → PE (lamCx (X_l_long_right P w K mg base f c A outer s H E) A' outer' s' H' E' sc f' c') body (te E')) :
    PE (X_l_long_right P w K mg base f c A outer s H E) (.Call (.Name "_law_long" p1) [.Lambda lamP body sc p6] [] p7) (tLam TT (TAx K cT N_l_long 1 ts tr) te) := by
  obtain ⟨g, fd, F, m, bd⟩ := D
  obtain ⟨oc, od, kV, doc, pm, an, cdv, ct, osl, rfl, look, coded⟩ := F.ex
  exact pe_lamcall (T := TT) (k := 9) (Ng := N_l_long) rfl m F.kp look coded bd sc_l_long rfl (by first | exact Or.inl rfl | exact Or.inr (Or.inl rfl) | exact Or.inr (Or.inr rfl)) (hG g cdv) TB rfl hmT hu hr (lamS_by hL) rfl (fun _ _ _ _ _ => rfl) (fun A' outer' s' H' E' f' c' hr' => hbody A' outer' s' H' E' f' c' hr')
theorem Tabs.app {H : Hp} {U : Addr} {xs ys : List V} {TT : List (Addr × Str)} (t : Tabs TT H) (hU : H U = some (.lst xs)) : Tabs TT (upd H U (.lst ys)) := by
  intro x hx
  obtain ⟨ps, h1, h2, h3⟩ := t x hx
  have n1 : x.1 ≠ U := fun e => by
    rw [e, hU] at h1
    cases h1
  refine ⟨ps, by rw [upd_ne n1]; exact h1, h2, fun pos cv hc => ?_⟩
  obtain ⟨c, rfl, hcd⟩ := h3 pos cv hc
  have n2 : c ≠ U := fun e => by
    rw [e, hU] at hcd
    cases hcd
  exact ⟨c, rfl, by rw [upd_ne n2]; exact hcd⟩
theorem RuleAt.app {H : Hp} {U d : Addr} {xs ys : List V} {T : List Int} {p : Nat} {r : Int} (R : RuleAt H d T p r) (hU : H U = some (.lst xs)) : RuleAt (upd H U (.lst ys)) d T p r := by
  obtain ⟨t, h1, h2⟩ := R
  have n1 : d ≠ U := fun e => by
    rw [e, hU] at h1
    cases h1
  have n2 : t ≠ U := fun e => by
    rw [e, hU] at h2
    cases h2
  exact ⟨t, by rw [upd_ne n1]; exact h1, by rw [upd_ne n2]; exact h2⟩
/-- what _law_long makes of a lambda that raises TooLong -/
theorem long_takes {K : PySem.W.Frag} {cTooLong : Addr} {ts : Addr → Value → Option Addr → TS} {tr : TS} {Q : VK} {H : Hp} {N : Int} (te : PySem.W.exmOne K (.ref cTooLong) (.ref cTooLong) = some true)
    (hts : ∀ (c d : Addr) (n : Int) (D : Ends) (σ : L2.St) (H : Hp), σ.length = 2 → H d = some (.xd [(("number" : Str), .int n)]) → D.rt (.int n) H → ts c (.ref cTooLong) (some d) D (σ.set 1 (some (.ref c))) H)
    (k : ∀ H', Same H H' → Q (.int N) H') {H1 : Hp} (s1 : Same H H1) : Lng cTooLong N H1 (fun cls d H' => ∃ b, PySem.W.exmOne K cls (.ref cTooLong) = some b ∧ (b = true → ∀ (σ : L2.St) (c : Addr), σ.length = N_l_long.length → H' c = none → ts c cls d { nx := fun σ' H2 => tr { nx := fun _ H3 => Q .non H3, rt := Q } (σ'.set 1 none) H2, rt := Q } (σ.set 1 (some (.ref c))) H') ∧ (b = false → False)) := by
  intro H2 d s2 hd
  exact ⟨true, te, fun _ σ c len _ => hts c d N _ σ H2 len hd (k H2 (s1.trans s2)), fun e => nomatch e⟩
section
variable {K : PySem.W.Frag} {cTooLong cRule d1 d3 : Addr} {ts : Addr → Value → Option Addr → TS} {tr : TS} {Q : VK} {TT : List (Addr × Str)} {H : Hp} {σ : L2.St} {T1 T3 : List Int} {p1 p3 : Nat} {r1 r3 : Int}
theorem rb_small {T : List Int} {p : Nat} {r : Int} (b : RS 10000000000000 T p r) : RB T p r ∧ T.length ≤ 5000 := ⟨b.rb (by decide), by have := b.len; omega⟩
theorem lam_or {N : Nat} (te : PySem.W.exmOne K (.ref cTooLong) (.ref cTooLong) = some true) (hts : ∀ (c d : Addr) (n : Int) (D : Ends) (σ : L2.St) (H : Hp), σ.length = 2 → H d = some (.xd [(("number" : Str), .int n)]) → D.rt (.int n) H → ts c (.ref cTooLong) (some d) D (σ.set 1 (some (.ref c))) H)
    (h1 : σ[1]? = some (some (.ref d1))) (h3 : σ[3]? = some (some (.ref d3))) (tb : Tabs TT H) (R1 : RuleAt H d1 T1 p1 r1) (R3 : RuleAt H d3 T3 p3 r3) (s1 : Short T1 p1 r1) (s3 : Short T3 p3 r3) (b1 : RS 10000000000000 T1 p1 r1) (b3 : RS 10000000000000 T3 p3 r3)
    (lg : ∀ T p r, Short T p r → (∀ x, vl T p r x = max (vl T1 p1 r1 x) (vl T3 p3 r3 x)) → 5000 < T.length) (is : ∃ T p r, Short T p r ∧ (∀ x, vl T p r x = max (vl T1 p1 r1 x) (vl T3 p3 r3 x)) ∧ T.length = N) (k : ∀ H', ExtN H H' → Tabs TT H' → Q (.int (N : Int)) H') :
    tLam TT (TAx K cTooLong N_l_long 1 ts tr) (fun x => tOp (rBinO cRule (sp_RorX cTooLong cRule) x) (tMake cRule (sp_Rinit K cRule) [] E0 (tCons (tVar 1) tNil)) (tMake cRule (sp_Rinit K cRule) [] E0 (tCons (tVar 3) tNil))) σ H Q := by
  refine ⟨tb, fun H1 x1 tb1 f => ?_⟩
  obtain ⟨rb1, l1⟩ := rb_small b1
  obtain ⟨rb3, l3⟩ := rb_small b3
  have R1 := RuleAt.ext R1 x1
  have R3 := RuleAt.ext R3 x1
  refine ⟨_, h1, new_rule R1 s1 rb1 l1 fun a H2 w2 A => ?_⟩
  refine ⟨_, h3, new_rule (R3.same w2) s3 rb3 l3 fun b H3 w3 B => ?_⟩
  have A3 := A.same w3
  obtain ⟨dxa, _, _, ha, _⟩ := A3.at
  obtain ⟨dxb, _, _, hb, _⟩ := B.at
  obtain ⟨T0, p0, r0, sh0, e0, l0⟩ := is
  refine ⟨a, dxa, _, b, dxb, _, rfl, rfl, ha, hb, a, b, T1, T3, p1, p3, r1, r3, rfl, A3, B, s1, s3, b1, b3, fun H4 q T p r _ _ sh _ hv l5 => ?_, fun n hn un H4 w4 => ?_⟩
  · have := lg T p r sh hv
    omega
  · have en : n = N := by rw [← un T0 p0 r0 sh0 e0, l0]
    subst en
    exact long_takes te hts (fun H5 w5 => k H5 (fun b o e n => w5 _ _ (x1 b o e n)) (tb1.ext w5)) (w2.trans (w3.trans w4))
theorem lam_best {N : Nat} (te : PySem.W.exmOne K (.ref cTooLong) (.ref cTooLong) = some true) (hts : ∀ (c d : Addr) (n : Int) (D : Ends) (σ : L2.St) (H : Hp), σ.length = 2 → H d = some (.xd [(("number" : Str), .int n)]) → D.rt (.int n) H → ts c (.ref cTooLong) (some d) D (σ.set 1 (some (.ref c))) H)
    (h1 : σ[1]? = some (some (.ref d1))) (h3 : σ[3]? = some (some (.ref d3))) (tb : Tabs TT H) (R1 : RuleAt H d1 T1 p1 r1) (R3 : RuleAt H d3 T3 p3 r3) (s1 : Short T1 p1 r1) (s3 : Short T3 p3 r3) (b1 : RS 10000000000000 T1 p1 r1) (b3 : RS 10000000000000 T3 p3 r3)
    (lg : ∀ T p r, Short T p r → (∀ x, vl T p r x = max (vl T1 p1 r1 x) (vl T3 p3 r3 x)) → 5000 < T.length) (is : ∃ T p r, Short T p r ∧ (∀ x, vl T p r x = max (vl T1 p1 r1 x) (vl T3 p3 r3 x)) ∧ T.length = N) (k : ∀ H', ExtN H H' → Tabs TT H' → Q (.int (N : Int)) H') :
    tLam TT (TAx K cTooLong N_l_long 1 ts tr) (fun x => tCallS (sp_best cTooLong) (fun σ => WE (fun cls d _ H => x cls d H) σ) (tCons (tVar 1) (tCons (tVar 3) tNil))) σ H Q := by
  refine ⟨tb, fun H1 x1 tb1 f => ?_⟩
  obtain ⟨T0, p0, r0, sh0, e0, l0⟩ := is
  refine ⟨_, h1, _, h3, d1, d3, T1, T3, p1, p3, r1, r3, rfl, RuleAt.ext R1 x1, RuleAt.ext R3 x1, s1, s3, b1, b3, fun H4 q T p r _ _ _ sh hv l5 => ?_, fun n hn un H4 w4 => ?_⟩
  · have := lg T p r sh hv
    omega
  · have en : n = N := by rw [← un T0 p0 r0 sh0 e0, l0]
    subst en
    exact long_takes te hts (fun H5 w5 => k H5 (fun b o e n => w5 _ _ (x1 b o e n)) (tb1.ext w5)) w4
theorem lam_shift (te : PySem.W.exmOne K (.ref cTooLong) (.ref cTooLong) = some true) (hts : ∀ (c d : Addr) (n : Int) (D : Ends) (σ : L2.St) (H : Hp), σ.length = 2 → H d = some (.xd [(("number" : Str), .int n)]) → D.rt (.int n) H → ts c (.ref cTooLong) (some d) D (σ.set 1 (some (.ref c))) H)
    (h1 : σ[2]? = some (some (.ref d1))) (h3 : σ[4]? = some (some (.ref d3))) (tb : Tabs TT H) (R1 : RuleAt H d1 T1 p1 r1) (R3 : RuleAt H d3 T3 p3 r3) (s1 : Short T1 p1 r1) (s3 : Short T3 p3 r3) (b1 : RS 100000 T1 p1 r1) (b3 : RS 100000 T3 p3 r3)
    (lg : ∀ T p r, Short T p r → (∀ x, vl T p r x = thn T1 p1 r1 T3 p3 r3 x) → 5000 < T.length) (k : ∀ (T : List Int) (p : Nat) (r : Int) H', Short T p r → (∀ x, vl T p r x = thn T1 p1 r1 T3 p3 r3 x) → ExtN H H' → Tabs TT H' → Q (.int (T.length : Int)) H') :
    tLam TT (TAx K cTooLong N_l_long 1 ts tr) (fun x => tOp (rBinO cRule (sp_RshX cTooLong cRule) x) (tMake cRule (sp_Rinit K cRule) [] E0 (tCons (tVar 2) tNil)) (tMake cRule (sp_Rinit K cRule) [] E0 (tCons (tVar 4) tNil))) σ H Q := by
  refine ⟨tb, fun H1 x1 tb1 f => ?_⟩
  obtain ⟨rb1, l1⟩ := rb_small (b1.up (by decide))
  obtain ⟨rb3, l3⟩ := rb_small (b3.up (by decide))
  have R1 := RuleAt.ext R1 x1
  have R3 := RuleAt.ext R3 x1
  refine ⟨_, h1, new_rule R1 s1 rb1 l1 fun a H2 w2 A => ?_⟩
  refine ⟨_, h3, new_rule (R3.same w2) s3 rb3 l3 fun b H3 w3 B => ?_⟩
  have A3 := A.same w3
  obtain ⟨dxa, _, _, ha, _⟩ := A3.at
  obtain ⟨dxb, _, _, hb, _⟩ := B.at
  refine ⟨a, dxa, _, b, dxb, _, rfl, rfl, ha, hb, a, b, T1, T3, p1, p3, r1, r3, rfl, A3, B, s1.ok, s3.ok, b1, b3, fun H4 q T p r _ _ sh _ hv l5 => ?_, fun H4 T p r w4 _ sh hv _ => ?_⟩
  · have := lg T p r sh hv
    omega
  · exact long_takes te hts (fun H5 w5 => k T p r H5 sh hv (fun b o e n => w5 _ _ (x1 b o e n)) (tb1.ext w5)) (w2.trans (w3.trans w4))
theorem lam_then (te : PySem.W.exmOne K (.ref cTooLong) (.ref cTooLong) = some true) (hts : ∀ (c d : Addr) (n : Int) (D : Ends) (σ : L2.St) (H : Hp), σ.length = 2 → H d = some (.xd [(("number" : Str), .int n)]) → D.rt (.int n) H → ts c (.ref cTooLong) (some d) D (σ.set 1 (some (.ref c))) H)
    (h1 : σ[2]? = some (some (.ref d1))) (h3 : σ[4]? = some (some (.ref d3))) (tb : Tabs TT H) (R1 : RuleAt H d1 T1 p1 r1) (R3 : RuleAt H d3 T3 p3 r3) (s1 : Short T1 p1 r1) (s3 : Short T3 p3 r3) (b1 : RS 100000 T1 p1 r1) (b3 : RS 100000 T3 p3 r3)
    (lg : ∀ T p r, Short T p r → (∀ x, vl T p r x = thn T1 p1 r1 T3 p3 r3 x) → 5000 < T.length) (k : ∀ (T : List Int) (p : Nat) (r : Int) H', Short T p r → (∀ x, vl T p r x = thn T1 p1 r1 T3 p3 r3 x) → ExtN H H' → Tabs TT H' → Q (.int (T.length : Int)) H') :
    tLam TT (TAx K cTooLong N_l_long 1 ts tr) (fun x => tCallS (sp_then cTooLong) (fun σ => WE (fun cls d _ H => x cls d H) σ) (tCons (tVar 2) (tCons (tVar 4) tNil))) σ H Q := by
  refine ⟨tb, fun H1 x1 tb1 f => ?_⟩
  refine ⟨_, h1, _, h3, d1, d3, T1, T3, p1, p3, r1, r3, rfl, RuleAt.ext R1 x1, RuleAt.ext R3 x1, s1.ok, s3.ok, b1, b3, fun H4 T p r w4 _ sh hv => ⟨fun q l5 _ => ?_, fun _ => ?_⟩⟩
  · have := lg T p r sh hv
    omega
  · exact long_takes te hts (fun H5 w5 => k T p r H5 sh hv (fun b o e n => w5 _ _ (x1 b o e n)) (tb1.ext w5)) w4
end
theorem rep_one (n : Nat) (x : Int) : (List.replicate n [V.int x]).flatten = (List.replicate n x).map V.int := by
  rw [List.flatten_replicate_singleton, List.map_replicate]
def sp_l_long_right (_ : PySem.W.Frag) (TT : List (Addr × Str)) : Sp := fun vs H Q _ => ∃ (p l : Addr) (n : Int), vs = [.ref p] ∧ Deck H p l n ∧ 0 ≤ n ∧ n ≤ 800000 ∧ Tabs TT H ∧ ∀ H', Q (.bl true) H'
theorem ok_l_long_right {f c Pt cTooLong cChangeError fB cRule fRi fEq fCa fAd fOr fSh fXo : Addr} {TT : List (Addr × Str)} {fd fdI fdO fdS : FuncData} (T : Txt mg) (R : TxR K mg cRule fRi fEq fCa fAd fOr fSh fXo) (XTooLong : XVal K mg "TooLong" "number" cTooLong fB) (gCE : mg "ChangeError" = some (.ref cChangeError)) (kCE : PySem.W.kitOne K (.ref cTooLong) (.ref cChangeError) = some true)
    (F : Fun K "_law_long_right" "_law_long_right" s_l_long_right f fd) (code : fd.code = .ref c) (TB : TabB base mg c Pt) (hmT : (Pt, q_l_long_right) ∈ TT) (hu : ∀ p ∈ TT, p.1 = Pt → p.2 = q_l_long_right)
    (G_Rule_init : FnOk P w K mg base CX0 5 fRi fdI ["self", "value"] (sp_Rinit K cRule)) (b_Rule_init : Binds K fdI ["self", "value"] []) (GX_Rule_or : FnOk P w K mg base (L2.CX P w) 8 fOr fdO ["self", "other"] (sp_RorX cTooLong cRule)) (b_Rule_or : Binds K fdO ["self", "other"] []) (GX_Rule_rshift : FnOk P w K mg base (L2.CX P w) 7 fSh fdS ["self", "other"] (sp_RshX cTooLong cRule)) (b_Rule_rshift : Binds K fdS ["self", "other"] [])
    (C_l_draw : Cal P w K mg base "_law_draw" ["_law_deck_here", "_law_many"] 1 (sp_l_draw K)) (C_best_rule : CalX P w K mg base "best_rule" ["one", "other"] 7 (sp_best cTooLong)) (C_then_rule : CalX P w K mg base "then_rule" ["first", "second"] 5 (sp_then cTooLong)) (D_l_long : Df K mg "_law_long" s_l_long ["_law_call"]) : FnG P w K mg base 12 f fd ["_law_deck_here"] (sp_l_long_right K TT) := by
  obtain ⟨f_l_draw, fd_l_draw, G_l_draw, m_l_draw, k_l_draw, b_l_draw⟩ := C_l_draw
  obtain ⟨f_best_rule, fd_best_rule, G_best_rule, m_best_rule, k_best_rule, b_best_rule⟩ := C_best_rule
  obtain ⟨f_then_rule, fd_then_rule, G_then_rule, m_then_rule, k_then_rule, b_then_rule⟩ := C_then_rule
  have g_Rule := R.g
  have Mk_Rule := R.mak
  have S_first := R.first
  have M_Rule_or := R.mOr
  have M_Rule_rshift := R.mSh
  refine FnG.bodyC (k := 11) F code sc_l_long_right (fun vs H Q E h => ?_) (fun A outer s H vs Q E gu hr h => ?_)
  · obtain ⟨p, l, n, rfl, _⟩ := h
    rfl
  obtain ⟨p, l, n, rfl, D, n0, n1, tb, k⟩ := h
  obtain ⟨ts, tr, hG, hts⟩ := long_gives (X := X_l_long_right P w K mg base f c A outer s H E) (q := q_l_long_right) T XTooLong gCE kCE
  refine ⟨_, (pss_cons (ps_asg (pe_tup (pa_cons (pe_tup (pa_cons (pe_tup (pa_cons (pe_op op_add (pe_op op_pow pe_int pe_int) (pe_call G_l_draw (hr.mono (by decide)) (by rfl) m_l_draw k_l_draw b_l_draw .nil pass0 (pa_cons (pv 0) (pa_cons (pe_op op_pow pe_int pe_int) pa_nil)))) pa_nil)) (pa_cons pe_int (pa_cons pe_int pa_nil)))) (pa_cons (pe_tup (pa_cons (pe_op op_rep0 (pe_tup (pa_cons pe_int pa_nil)) pe_int) (pa_cons pe_int (pa_cons pe_int pa_nil)))) pa_nil))) (pg_tup (by rfl) (pgs_cons (pg_name (i := 1) sc_l_long_right.nd rfl (Or.inr rfl)) (pgs_cons (pg_name (i := 2) sc_l_long_right.nd rfl (Or.inr rfl)) pgs_nil))))
    (pss_cons (ps_asg (pe_tup (pa_cons (pe_tup (pa_cons (pe_tup (pa_cons pe_int pa_nil)) (pa_cons pe_int (pa_cons pe_int pa_nil)))) (pa_cons (pe_tup (pa_cons (pe_op op_catA (pe_op op_rep0 (pe_tup (pa_cons pe_int pa_nil)) pe_int) (pe_tup (pa_cons pe_int pa_nil))) (pa_cons pe_int (pa_cons pe_int pa_nil)))) pa_nil))) (pg_tup (by rfl) (pgs_cons (pg_name (i := 3) sc_l_long_right.nd rfl (Or.inr rfl)) (pgs_cons (pg_name (i := 4) sc_l_long_right.nd rfl (Or.inr rfl)) pgs_nil))))
    (pss_cons (ps_set (i := 5) sc_l_long_right.nd rfl (Or.inl rfl) (pe_lst (pa_cons (pe_lam1 D_l_long hG TB hmT hu (hr.mono (by decide)) (by decide +kernel) (fun _ _ _ _ _ _ _ hr => (pe_op (op_binO M_Rule_or S_first GX_Rule_or b_Rule_or (hr.mono (by decide)) (passE (takes_of rfl rfl rfl rfl))) (pe_make Mk_Rule G_Rule_init (hr.mono (by decide)) (by rfl) g_Rule b_Rule_init .nil pass0 (pa_cons (pv 1) pa_nil)) (pe_make Mk_Rule G_Rule_init (hr.mono (by decide)) (by rfl) g_Rule b_Rule_init .nil pass0 (pa_cons (pv 3) pa_nil))))) pa_nil)))
    (pss_cons (ps_expr (pe_bm PySem.F.plainAttrs_list PySem.F.slot_list_append PySem.F.type_list_append mt_append (pv 5) (pa_cons (pe_lam1 D_l_long hG TB hmT hu (hr.mono (by decide)) (by decide +kernel) (fun _ _ _ _ _ _ _ hr => (pe_callS G_best_rule (hr.mono (by decide)) rfl m_best_rule k_best_rule b_best_rule (fun σ => passAt (takes_of rfl rfl rfl rfl) σ) (pa_cons (pv 1) (pa_cons (pv 3) pa_nil))))) pa_nil)))
    (pss_cons (ps_expr (pe_bm PySem.F.plainAttrs_list PySem.F.slot_list_append PySem.F.type_list_append mt_append (pv 5) (pa_cons (pe_lam1 D_l_long hG TB hmT hu (hr.mono (by decide)) (by decide +kernel) (fun _ _ _ _ _ _ _ hr => (pe_op (op_binO M_Rule_rshift S_first GX_Rule_rshift b_Rule_rshift (hr.mono (by decide)) (passE (takes_of rfl rfl rfl rfl))) (pe_make Mk_Rule G_Rule_init (hr.mono (by decide)) (by rfl) g_Rule b_Rule_init .nil pass0 (pa_cons (pv 2) pa_nil)) (pe_make Mk_Rule G_Rule_init (hr.mono (by decide)) (by rfl) g_Rule b_Rule_init .nil pass0 (pa_cons (pv 4) pa_nil))))) pa_nil)))
    (pss_cons (ps_expr (pe_bm PySem.F.plainAttrs_list PySem.F.slot_list_append PySem.F.type_list_append mt_append (pv 5) (pa_cons (pe_lam1 D_l_long hG TB hmT hu (hr.mono (by decide)) (by decide +kernel) (fun _ _ _ _ _ _ _ hr => (pe_callS G_then_rule (hr.mono (by decide)) rfl m_then_rule k_then_rule b_then_rule (fun σ => passAt (takes_of rfl rfl rfl rfl) σ) (pa_cons (pv 2) (pa_cons (pv 4) pa_nil))))) pa_nil)))
    (pss_one (ps_ret (pe_and (pe_chain op_eq op_gt (pe_ix ix_list (pv 5) pe_int (fun _ _ => rfl)) (pe_ix ix_list (pv 5) pe_int (fun _ _ => rfl)) pe_int) (pe_one (pe_chain op_eq op_gt (pe_ix ix_list (pv 5) pe_int (fun _ _ => rfl)) (pe_ix ix_list (pv 5) pe_int (fun _ _ => rfl)) pe_int))))))))))), ?_⟩
  -- late, slow
  refine ⟨_, _, rfl, rfl, ⟨by decide, by decide, by decide⟩, ?_⟩
  refine ⟨_, rfl, _, _, rfl, rfl, ⟨by decide, by decide, by decide⟩, ?_⟩
  refine ⟨p, l, n, _, rfl, D, n0, by omega, by decide, by decide, fun e H1 e0 e1 f1 D1 => ?_⟩
  have tb1 := Sm.Tabs.fr tb f1 D
  refine ⟨_, _, rfl, rfl, ?_⟩
  obtain ⟨late, el, late0, late1⟩ : ∃ late : Int, (fun i j : Int => V.int (i + j)) (10 ^ Int.toNat 9) e = V.int late ∧ 1000000 ≤ late ∧ late ≤ 10000000000 := ⟨1000000000 + e, rfl, by omega, by have e1 : e < 1000000 := e1; omega⟩
  rw [el]
  clear el
  refine ⟨(by show 1 ≤ sizeLine; decide), fun t1 n1 => ?_⟩
  have w1 := same_upd (o := .tup [.int late]) n1
  have h1 : upd H1 t1 (.tup [.int late]) t1 = some (.tup [.int late]) := upd_same
  have tb2 := tb1.ext w1
  generalize upd H1 t1 (.tup [.int late]) = H2 at h1 tb2 ⊢
  refine ⟨(by show 3 ≤ sizeLine; decide), fun d1 nd1 => ?_⟩
  have w2 := same_upd (o := .tup [.ref t1, .int 1, .int 1]) nd1
  have RL : RuleAt (upd H2 d1 (.tup [.ref t1, .int 1, .int 1])) d1 [late] 1 1 := ⟨t1, upd_same, w2 _ _ h1⟩
  have tb3 := tb2.ext w2
  clear h1
  generalize upd H2 d1 (.tup [.ref t1, .int 1, .int 1]) = H3 at RL tb3 ⊢
  refine ⟨(by show 1 ≤ sizeLine; decide), fun u nu => ?_⟩
  have w3 := same_upd (o := .tup [.int 0]) nu
  have RL := RL.same w3
  have tb4 := tb3.ext w3
  have hu : upd H3 u (.tup [.int 0]) u = some (.tup [.int 0]) := upd_same
  generalize upd H3 u (.tup [.int 0]) = H4 at RL tb4 hu ⊢
  refine ⟨u, 40, _, rfl, rfl, hu, List.cons_ne_nil _ _, by decide, by decide, by show 1 ≤ 1000; decide, fun H5 t2 s5 h2 => ?_⟩
  rw [show (40 : Int).toNat = 40 from rfl, rep_one] at h2
  have RL := RL.same s5
  have tb5 := tb4.ext s5
  refine ⟨(by show 3 ≤ sizeLine; decide), fun d2 nd2 => ?_⟩
  have w4 := same_upd (o := .tup [.ref t2, .int 40, .int 1]) nd2
  have RL := RL.same w4
  have RS : RuleAt (upd H5 d2 (.tup [.ref t2, .int 40, .int 1])) d2 (List.replicate 40 0) 40 1 := ⟨t2, upd_same, w4 _ _ h2⟩
  have tb6 := tb5.ext w4
  clear h2
  generalize upd H5 d2 (.tup [.ref t2, .int 40, .int 1]) = H6 at RL RS tb6 ⊢
  refine ⟨(by show 2 ≤ sizeLine; decide), fun q nq => ?_⟩
  have w5 := same_upd (o := .tup [.ref d1, .ref d2]) nq
  have RL := RL.same w5
  have RS := RS.same w5
  have tb7 := tb6.ext w5
  have hq : upd H6 q (.tup [.ref d1, .ref d2]) q = some (.tup [.ref d1, .ref d2]) := upd_same
  generalize upd H6 q (.tup [.ref d1, .ref d2]) = H7 at RL RS tb7 hq ⊢
  refine ⟨_, _, rfl, SqT.of hq, rfl, _, _, rfl, _, _, rfl, rfl, ?_⟩
  clear hq nq w5 tb6 tb5 tb4 tb3 tb2 tb1 s5 w4 w3 w2 w1 n1 nd1 nd2 nu hu
  -- fast, wide
  refine ⟨(by show 1 ≤ sizeLine; decide), fun t1 n1 => ?_⟩
  have w1 := same_upd (o := .tup [.int 0]) n1
  have RL := RL.same w1
  have RS := RS.same w1
  have h1 : upd H7 t1 (.tup [.int 0]) t1 = some (.tup [.int 0]) := upd_same
  have tb8 := tb7.ext w1
  generalize upd H7 t1 (.tup [.int 0]) = H8 at h1 tb8 RL RS ⊢
  refine ⟨(by show 3 ≤ sizeLine; decide), fun d3 nd1 => ?_⟩
  have w2 := same_upd (o := .tup [.ref t1, .int 1, .int 2]) nd1
  have RL := RL.same w2
  have RS := RS.same w2
  have RF : RuleAt (upd H8 d3 (.tup [.ref t1, .int 1, .int 2])) d3 [0] 1 2 := ⟨t1, upd_same, w2 _ _ h1⟩
  have tb9 := tb8.ext w2
  clear h1
  generalize upd H8 d3 (.tup [.ref t1, .int 1, .int 2]) = H9 at RL RS RF tb9 ⊢
  refine ⟨(by show 1 ≤ sizeLine; decide), fun u nu => ?_⟩
  have w3 := same_upd (o := .tup [.int 0]) nu
  have RL := RL.same w3
  have RS := RS.same w3
  have RF := RF.same w3
  have tb10 := tb9.ext w3
  have hu : upd H9 u (.tup [.int 0]) u = some (.tup [.int 0]) := upd_same
  generalize upd H9 u (.tup [.int 0]) = H10 at RL RS RF tb10 hu ⊢
  refine ⟨u, 130, _, rfl, rfl, hu, List.cons_ne_nil _ _, by decide, by decide, by show 1 ≤ 1000; decide, fun H11 t2 s5 h2 => ?_⟩
  rw [show (130 : Int).toNat = 130 from rfl, rep_one] at h2
  have RL := RL.same s5
  have RS := RS.same s5
  have RF := RF.same s5
  have tb11 := tb10.ext s5
  refine ⟨(by show 1 ≤ sizeLine; decide), fun v nv => ?_⟩
  have w4 := same_upd (o := .tup [.int 5]) nv
  have RL := RL.same w4
  have RS := RS.same w4
  have RF := RF.same w4
  have tb12 := tb11.ext w4
  have h2 := w4 _ _ h2
  have hv : upd H11 v (.tup [.int 5]) v = some (.tup [.int 5]) := upd_same
  generalize upd H11 v (.tup [.int 5]) = H12 at RL RS RF tb12 h2 hv ⊢
  refine cat_uni h2 hv (by rw [List.length_map, List.length_replicate]; decide) fun t4 H13 s6 h4 => ?_
  rw [show (List.replicate 130 (0 : Int)).map V.int ++ [V.int 5] = (fiveT 130).map V.int by unfold fiveT; rw [List.map_append]; rfl] at h4
  have RL := RL.same s6
  have RS := RS.same s6
  have RF := RF.same s6
  have tb13 := tb12.ext s6
  refine ⟨(by show 3 ≤ sizeLine; decide), fun d4 nd4 => ?_⟩
  have w6 := same_upd (o := .tup [.ref t4, .int 1, .int 0]) nd4
  have RL := RL.same w6
  have RS := RS.same w6
  have RF := RF.same w6
  have RW : RuleAt (upd H13 d4 (.tup [.ref t4, .int 1, .int 0])) d4 (fiveT 130) 1 0 := ⟨t4, upd_same, w6 _ _ h4⟩
  have tb14 := tb13.ext w6
  clear h2 h4
  generalize upd H13 d4 (.tup [.ref t4, .int 1, .int 0]) = H14 at RL RS RF RW tb14 ⊢
  refine ⟨(by show 2 ≤ sizeLine; decide), fun q nq => ?_⟩
  have w5 := same_upd (o := .tup [.ref d3, .ref d4]) nq
  have RL := RL.same w5
  have RS := RS.same w5
  have RF := RF.same w5
  have RW := RW.same w5
  have tb15 := tb14.ext w5
  have hq : upd H14 q (.tup [.ref d3, .ref d4]) q = some (.tup [.ref d3, .ref d4]) := upd_same
  generalize upd H14 q (.tup [.ref d3, .ref d4]) = H15 at RL RS RF RW tb15 hq ⊢
  refine ⟨_, _, rfl, SqT.of hq, rfl, _, _, rfl, _, _, rfl, rfl, ?_⟩
  clear hq nq w5 tb14 tb13 tb12 tb11 tb10 tb9 tb8 tb7 s5 s6 w6 w4 w3 w2 w1 n1 nd1 nd4 nu nv hu hv
  -- the four numbers
  obtain ⟨T0, p0, r0, sh0, e0⟩ := late_is (c := late) (by omega)
  have sL : Short [late] 1 1 := one_short (by omega) (by decide)
  have sF : Short [0] 1 2 := one_short (by decide) (by decide)
  have sS : Short (List.replicate 40 0) 40 1 := stairs_short (by decide)
  have sW : Short (fiveT 130) 1 0 := five_short (by decide)
  have bL : Sm.RS 10000000000000 [late] 1 1 := ⟨by show 1 ≤ 300; decide, by decide, by decide, fun i hi => by have hi : i < 1 := hi; rw [show i = 0 by omega]; show late ≤ 10000000000000; omega⟩
  have bF : Sm.RS 10000000000000 [0] 1 2 := ⟨by decide, by decide, by decide, fun i hi => by have hi : i < 1 := hi; rw [show i = 0 by omega]; decide⟩
  have bS : Sm.RS 100000 (List.replicate 40 0) 40 1 := ⟨by rw [List.length_replicate]; decide, by decide, by decide, fun i hi => by rw [zeros_at]; decide⟩
  have bW : Sm.RS 100000 (fiveT 130) 1 0 := ⟨by rw [five_len]; decide, by decide, by decide, fun i hi => by rw [five_at]; split <;> decide⟩
  have lgL : ∀ T p r, Short T p r → (∀ x, vl T p r x = max (vl [late] 1 1 x) (vl [0] 1 2 x)) → 5000 < T.length := fun T p r sh hv => late_long late0 sh hv
  have lgS : ∀ T p r, Short T p r → (∀ x, vl T p r x = thn (List.replicate 40 0) 40 1 (fiveT 130) 1 0 x) → 5000 < T.length := fun T p r sh hv => stair_long sh hv
  have l0 := lgL T0 p0 r0 sh0 e0
  refine lam_or XTooLong.te hts rfl rfl tb15 RL RF sL sF bL bF lgL ⟨T0, p0, r0, sh0, e0, rfl⟩ fun H16 x16 tb16 => ?_
  refine ⟨(by show 1 ≤ sizeLine; decide), fun U nU => ?_⟩
  have w1 := same_upd (o := .lst [V.int (T0.length : Int)]) nU
  have RL := (RuleAt.ext RL x16).same w1
  have RS := (RuleAt.ext RS x16).same w1
  have RF := (RuleAt.ext RF x16).same w1
  have RW := (RuleAt.ext RW x16).same w1
  have tb17 := tb16.ext w1
  have hU : upd H16 U (.lst [V.int (T0.length : Int)]) U = some (.lst [V.int (T0.length : Int)]) := upd_same
  generalize upd H16 U (.lst [V.int (T0.length : Int)]) = H17 at RL RS RF RW tb17 hU ⊢
  clear w1 nU tb16 tb15 x16
  refine ⟨_, rfl, .inl ⟨rfl, _, SqL.of hU⟩, ?_⟩
  refine lam_best XTooLong.te hts rfl rfl tb17 RL RF sL sF bL bF lgL ⟨T0, p0, r0, sh0, e0, rfl⟩ fun H18 x18 tb18 => ?_
  have hU := extLst x18 hU
  refine ⟨U, _, _, rfl, rfl, hU, by show 1 < sizeLine; decide, ?_⟩
  have RS := RuleAt.app (ys := [V.int (T0.length : Int)] ++ [V.int (T0.length : Int)]) (RuleAt.ext RS x18) hU
  have RW := RuleAt.app (ys := [V.int (T0.length : Int)] ++ [V.int (T0.length : Int)]) (RuleAt.ext RW x18) hU
  have tb19 := Tabs.app (ys := [V.int (T0.length : Int)] ++ [V.int (T0.length : Int)]) tb18 hU
  have hU : upd H18 U (.lst ([V.int (T0.length : Int)] ++ [V.int (T0.length : Int)])) U = some (.lst ([V.int (T0.length : Int)] ++ [V.int (T0.length : Int)])) := upd_same
  generalize upd H18 U (.lst ([V.int (T0.length : Int)] ++ [V.int (T0.length : Int)])) = H19 at RS RW tb19 hU ⊢
  clear tb18 tb17 x18 RL RF
  refine ⟨_, rfl, .inl ⟨rfl, _, SqL.of hU⟩, ?_⟩
  refine lam_shift XTooLong.te hts rfl rfl tb19 RS RW sS sW bS bW lgS fun T3 p3 r3 H20 sh3 hv3 x20 tb20 => ?_
  have hU := extLst x20 hU
  refine ⟨U, _, _, rfl, rfl, hU, by show 2 < sizeLine; decide, ?_⟩
  have RS := RuleAt.app (ys := [V.int (T0.length : Int)] ++ [V.int (T0.length : Int)] ++ [V.int (T3.length : Int)]) (RuleAt.ext RS x20) hU
  have RW := RuleAt.app (ys := [V.int (T0.length : Int)] ++ [V.int (T0.length : Int)] ++ [V.int (T3.length : Int)]) (RuleAt.ext RW x20) hU
  have tb21 := Tabs.app (ys := [V.int (T0.length : Int)] ++ [V.int (T0.length : Int)] ++ [V.int (T3.length : Int)]) tb20 hU
  have hU : upd H20 U (.lst ([V.int (T0.length : Int)] ++ [V.int (T0.length : Int)] ++ [V.int (T3.length : Int)])) U = some (.lst ([V.int (T0.length : Int)] ++ [V.int (T0.length : Int)] ++ [V.int (T3.length : Int)])) := upd_same
  generalize upd H20 U (.lst ([V.int (T0.length : Int)] ++ [V.int (T0.length : Int)] ++ [V.int (T3.length : Int)])) = H21 at RS RW tb21 hU ⊢
  clear tb20 tb19 x20
  refine ⟨_, rfl, .inl ⟨rfl, _, SqL.of hU⟩, ?_⟩
  refine lam_then XTooLong.te hts rfl rfl tb21 RS RW sS sW bS bW lgS fun T4 p4 r4 H22 sh4 hv4 x22 tb22 => ?_
  obtain ⟨rfl, rfl, rfl⟩ := short_one sh4 sh3 fun x => (hv4 x).trans (hv3 x).symm
  have hU := extLst x22 hU
  refine ⟨U, _, _, rfl, rfl, hU, by show 3 < sizeLine; decide, ?_⟩
  have l3 := lgS T4 p4 r4 sh4 hv4
  have hU : upd H22 U (.lst ([V.int (T0.length : Int)] ++ [V.int (T0.length : Int)] ++ [V.int (T4.length : Int)] ++ [V.int (T4.length : Int)])) U = some (.lst [V.int (T0.length : Int), V.int (T0.length : Int), V.int (T4.length : Int), V.int (T4.length : Int)]) := upd_same
  generalize upd H22 U (.lst ([V.int (T0.length : Int)] ++ [V.int (T0.length : Int)] ++ [V.int (T4.length : Int)] ++ [V.int (T4.length : Int)])) = H23 at hU ⊢
  have q0 : (5000 : Int) < (T0.length : Int) := by omega
  have q3 : (5000 : Int) < (T4.length : Int) := by omega
  refine ⟨_, rfl, _, _, _, _, rfl, rfl, SqL.of hU, atI_nat (j := 0) rfl, _, rfl, _, _, _, _, rfl, rfl, SqL.of hU, atI_nat (j := 1) rfl, rfl, _, rfl, iteP rfl ?_⟩
  refine ⟨_, _, rfl, rfl, _, rfl, iteP q0 ?_⟩
  refine ⟨_, rfl, _, _, _, _, rfl, rfl, SqL.of hU, atI_nat (j := 2) rfl, _, rfl, _, _, _, _, rfl, rfl, SqL.of hU, atI_nat (j := 3) rfl, rfl, _, rfl, iteP rfl ?_⟩
  refine ⟨_, _, rfl, rfl, ?_⟩
  show Q (.bl (decide ((5000 : Int) < (T4.length : Int)))) H23
  rw [decide_eq_true q3]
  exact k H23
end
end Sm

set_option Elab.async false
set_option linter.all false
set_option maxRecDepth 100000
set_option maxHeartbeats 16000000
namespace Sm
open PySem PySem.Spec PyProof.Rows L2 LamX
open C8 (pss_cut tCut)
def sp_law (K : PySem.W.Frag) (TT : List (Addr × Str)) : Sp := fun vs H Q _ => ∃ (a : Addr) (ns : List Int), vs = [.ref a] ∧ SqL K H a (ns.map V.int) ∧ ns.length ≤ 63 ∧ Tabs TT H ∧ ∀ H', Q (.bl true) H'
section
variable {P : Program} {w : World} {K : PySem.W.Frag} {mg : Str → Option Value} {base : Heap} {TT : List (Addr × Str)}
abbrev s_law : Stmt := topS 53
abbrev N_law : List Str := ["_law_script", "_law_deck_here", "_law_turn", "_law_mine", "_law_others"]
theorem sc_law : FnScope N_law ["_law_script"] (defScope s_law) := ⟨rfl, rfl, rfl, by decide +kernel, rfl, by decide +kernel, by decide +kernel⟩
theorem ok_law {f f_l_long_right : Addr} {fd fd_l_long_right : FuncData} (T : Txt mg) (F : Fun K "law" "law" s_law f fd) (C_l_deck : Cal P w K mg base "_law_deck" ["_law_script"] 1 (sp_l_deck K)) (C_l_drawn : Cal P w K mg base "_law_drawn" ["_law_deck_here", "_law_upto"] 2 (sp_l_drawn K)) (C_l_short : Cal P w K mg base "_law_short" ["_law_rule"] 3 (sp_l_short K))
    (C_l_right : Cal P w K mg base "_law_right" ["_law_deck_here", "_law_mine", "_law_others"] 10 (sp_l_right K)) (G_l_long_right : FnG P w K mg base 12 f_l_long_right fd_l_long_right ["_law_deck_here"] (sp_l_long_right K TT)) (m_l_long_right : mg "_law_long_right" = some (.ref f_l_long_right)) (k_l_long_right : PySem.W.keepIn K (.ref f_l_long_right) = true) (b_l_long_right : L2.Binds K fd_l_long_right ["_law_deck_here"] []) : FnG P w K mg base 13 f fd ["_law_script"] (sp_law K TT) := by
  obtain ⟨f_l_deck, fd_l_deck, G_l_deck, m_l_deck, k_l_deck, b_l_deck⟩ := C_l_deck
  obtain ⟨f_l_drawn, fd_l_drawn, G_l_drawn, m_l_drawn, k_l_drawn, b_l_drawn⟩ := C_l_drawn
  obtain ⟨f_l_short, fd_l_short, G_l_short, m_l_short, k_l_short, b_l_short⟩ := C_l_short
  obtain ⟨f_l_right, fd_l_right, G_l_right, m_l_right, k_l_right, b_l_right⟩ := C_l_right
  refine FnG.body F sc_law (fun vs H Q E h => ?_) (fun cdv A outer s H vs Q E gu hr h => ?_)
  · obtain ⟨a, ns, rfl, _⟩ := h
    rfl
  obtain ⟨a, ns, rfl, hS, hlen, tb0, kk⟩ := h
  refine ⟨_, (pss_cons (ps_set (i := 1) sc_law.nd rfl (Or.inl rfl) (pe_call G_l_deck (hr.mono (by decide)) (by rfl) m_l_deck k_l_deck b_l_deck .nil pass0 (pa_cons (pv 0) pa_nil)))
    (pss_cons (ps_for PassesOwn.never rfl (pi_range1 (by rfl) T.n_range (pa_cons pe_int pa_nil)) (pg_name (i := 2) sc_law.nd rfl (Or.inl rfl))
      (pss_cons (ps_par (i := 3) (j := 4) (by rfl) sc_law.nd rfl rfl (by decide) rfl rfl (pa_cons (pe_call G_l_short (hr.mono (by decide)) (by rfl) m_l_short k_l_short b_l_short .nil pass0 (pa_cons (pe_call G_l_drawn (hr.mono (by decide)) (by rfl) m_l_drawn k_l_drawn b_l_drawn .nil pass0 (pa_cons (pv 1) (pa_cons pe_int pa_nil))) pa_nil)) (pa_cons (pe_call G_l_short (hr.mono (by decide)) (by rfl) m_l_short k_l_short b_l_short .nil pass0 (pa_cons (pe_call G_l_drawn (hr.mono (by decide)) (by rfl) m_l_drawn k_l_drawn b_l_drawn .nil pass0 (pa_cons (pv 1) (pa_cons pe_int pa_nil))) pa_nil)) pa_nil)) (by rfl))
    (pss_one (ps_if (PW.pt (pw_or (pt_not (pt_val (pe_call G_l_right (hr.mono (by decide)) (by rfl) m_l_right k_l_right b_l_right .nil pass0 (pa_cons (pv 1) (pa_cons (pv 3) (pa_cons (pv 4) pa_nil)))))) (pw_or1 (PW.pt (pw_and (pt_cmpR op_eq (pv 2) pe_int (nomark _)) (pw_and1 (pt_not (pt_val (pe_call G_l_right (hr.mono (by decide)) (by rfl) m_l_right k_l_right b_l_right .nil pass0 (pa_cons (pv 1) (pa_cons (pv 3) (pa_cons (pv 3) pa_nil)))))))))))) (pss_one (ps_ret pe_bl)) pss_nil))))
    (pss_one (ps_ret (pe_callG G_l_long_right gu (hr.mono (by decide)) (by rfl) m_l_long_right k_l_long_right b_l_long_right (pa_cons (pv 1) pa_nil)))))), ?_⟩
  refine ⟨_, rfl, a, ns, rfl, hS, hlen, fun H1 p l s1 D1 => ?_⟩
  have tb1 := tb0.ext s1
  refine ⟨5, rfl, (by decide), (by decide), for_range (lo := 0) (n := 5) (fun i σ H' => ∃ (n : Int) (v2 v3 v4 : Option V), σ = [some (.ref a), some (.ref p), v2, v3, v4] ∧ Deck H' p l n ∧ Tabs TT H' ∧ 0 ≤ n ∧ n ≤ 1000 * (i : Int))
    ⟨0, none, none, none, rfl, D1, tb1, by omega, by omega⟩ ?_ ?_⟩
  · rintro i σ H2 hi ⟨n, v2, v3, v4, rfl, D2, tb2, n0, n1⟩
    refine ⟨_, rfl, p, l, n, 5, rfl, D2, n0, by omega, by decide, by decide, fun H3 d T3 q3 r3 n3 f3 D3 a0 a1 R3 o3 b3 sl3 l3 => ?_⟩
    refine ⟨d, T3, q3, r3, 100, rfl, R3, o3, b3, by decide, by decide, fun H4 e T4 q4 r4 s4 R4 sh4 hv4 l4 _ => ?_⟩
    have m4 : Sm5 T4 q4 r4 := Sm5.of o3 b3 sl3 (by omega) sh4 hv4 l4
    have tb4 := (Sm.Tabs.fr tb2 f3 D2).ext s4
    have D4 := D3.same s4
    refine ⟨_, rfl, p, l, n3, 4, rfl, D4, by omega, by omega, by decide, by decide, fun H5 d5 T5 q5 r5 n5 f5 D5 c0 c1 R5 o5 b5 sl5 l5 => ?_⟩
    refine ⟨d5, T5, q5, r5, 100, rfl, R5, o5, b5, by decide, by decide, fun H6 e6 T6 q6 r6 s6 R6 sh6 hv6 l6 _ => ?_⟩
    have m6 : Sm5 T6 q6 r6 := Sm5.of o5 b5 sl5 (by omega) sh6 hv6 l6
    have tb6 := (Sm.Tabs.fr tb4 f5 D4).ext s6
    have D6 := D5.same s6
    have R4 := (R4.fr f5 D4).same s6
    refine ⟨_, _, rfl, ?_⟩
    refine ⟨_, rfl, _, rfl, _, rfl, p, l, e, e6, n5, T4, T6, q4, q6, r4, r6, rfl, D6, by omega, by omega, R4, R6, m4, m6, fun H7 n7 f7 D7 x0 x1 => ?_⟩
    refine ⟨_, rfl, iteF ?_⟩
    have tb7 := Sm.Tabs.fr tb6 f7 D6
    have R7 := R4.fr f7 D6
    refine ⟨_, rfl, rfl, _, rfl, ?_⟩
    by_cases z : V.int (0 + (i : Int)) = V.int 0
    · refine iteP z ?_
      refine ⟨_, rfl, _, rfl, _, rfl, p, l, e, e, n7, T4, T4, q4, q4, r4, r4, rfl, D7, by omega, by omega, R7, R7, m4, m4, fun H8 n8 f8 D8 y0 y1 => ?_⟩
      exact ⟨_, rfl, iteF ⟨n8, _, _, _, rfl, D8, Sm.Tabs.fr tb7 f8 D7, by omega, by omega⟩⟩
    · refine iteN z ?_
      exact iteF ⟨n7, _, _, _, rfl, D7, tb7, by omega, by omega⟩
  · rintro σ H2 ⟨n, v2, v3, v4, rfl, D2, tb2, n0, n1⟩
    exact ⟨_, rfl, p, l, n, rfl, D2, n0, by omega, tb2, fun H3 => kk H3⟩
end
end Sm

set_option Elab.async false
set_option linter.all false
set_option maxRecDepth 100000
set_option maxHeartbeats 16000000
namespace Sm
open PySem PySem.Spec PyProof.Rows L2 LamX
theorem inT1 {α : Type} {p : α → Prop} {a0 : α} (x0 : p a0) : ∀ t ∈ [a0], p t := by
  intro t ht
  simp only [List.mem_cons, List.not_mem_nil, or_false] at ht
  subst ht
  exact x0
theorem all_mk {l : PySem.W.OpenLaw} {w : World} {K : PySem.W.Frag} {h : Heap} {mg : Str → Option Value} {fa : Addr} (X : K.In h) (G : h.Ns mainGlobals mg) (hfa : mg "law" = some (.ref fa)) {q : Program} (own : ∀ (nm : Str) (f : Addr), ((recsOf q).any fun e => e.name == nm) = true → mg nm = some (.ref f) → LamX.OwnTab K f h) {cS : Addr}
    {F_is_whole : Addr} {od_is_whole an_is_whole : Option Addr} {sl_is_whole : Array (Option Value)} {oc_is_whole kV_is_whole dc_is_whole pm_is_whole cd_is_whole ct_is_whole : Value} (a_is_whole : PySem.W.nsIn K mainGlobals "is_whole" = some (some (.ref F_is_whole))) (l_is_whole : K.lookup F_is_whole = some ⟨oc_is_whole, od_is_whole, .func (PySem.W.fnOf "is_whole" "is_whole" (defArgs s_is_whole) (defBody s_is_whole) (defScope s_is_whole) .none kV_is_whole dc_is_whole pm_is_whole an_is_whole cd_is_whole ct_is_whole), sl_is_whole⟩) (c_is_whole : PySem.W.codeIn K cd_is_whole "is_whole" = true) (k_is_whole : PySem.W.keepIn K (.ref F_is_whole) = true)
    {F_is_amount : Addr} {od_is_amount an_is_amount : Option Addr} {sl_is_amount : Array (Option Value)} {oc_is_amount kV_is_amount dc_is_amount pm_is_amount cd_is_amount ct_is_amount : Value} (a_is_amount : PySem.W.nsIn K mainGlobals "is_amount" = some (some (.ref F_is_amount))) (l_is_amount : K.lookup F_is_amount = some ⟨oc_is_amount, od_is_amount, .func (PySem.W.fnOf "is_amount" "is_amount" (defArgs s_is_amount) (defBody s_is_amount) (defScope s_is_amount) .none kV_is_amount dc_is_amount pm_is_amount an_is_amount cd_is_amount ct_is_amount), sl_is_amount⟩) (c_is_amount : PySem.W.codeIn K cd_is_amount "is_amount" = true) (k_is_amount : PySem.W.keepIn K (.ref F_is_amount) = true)
    {F_rule_error : Addr} {od_rule_error an_rule_error : Option Addr} {sl_rule_error : Array (Option Value)} {oc_rule_error kV_rule_error dc_rule_error pm_rule_error cd_rule_error ct_rule_error : Value} (a_rule_error : PySem.W.nsIn K mainGlobals "rule_error" = some (some (.ref F_rule_error))) (l_rule_error : K.lookup F_rule_error = some ⟨oc_rule_error, od_rule_error, .func (PySem.W.fnOf "rule_error" "rule_error" (defArgs s_rule_error) (defBody s_rule_error) (defScope s_rule_error) .none kV_rule_error dc_rule_error pm_rule_error an_rule_error cd_rule_error ct_rule_error), sl_rule_error⟩) (c_rule_error : PySem.W.codeIn K cd_rule_error "rule_error" = true) (k_rule_error : PySem.W.keepIn K (.ref F_rule_error) = true)
    {F_told_error : Addr} {od_told_error an_told_error : Option Addr} {sl_told_error : Array (Option Value)} {oc_told_error kV_told_error dc_told_error pm_told_error cd_told_error ct_told_error : Value} (a_told_error : PySem.W.nsIn K mainGlobals "told_error" = some (some (.ref F_told_error))) (l_told_error : K.lookup F_told_error = some ⟨oc_told_error, od_told_error, .func (PySem.W.fnOf "told_error" "told_error" (defArgs s_told_error) (defBody s_told_error) (defScope s_told_error) .none kV_told_error dc_told_error pm_told_error an_told_error cd_told_error ct_told_error), sl_told_error⟩) (c_told_error : PySem.W.codeIn K cd_told_error "told_error" = true) (k_told_error : PySem.W.keepIn K (.ref F_told_error) = true)
    {F_shortest : Addr} {od_shortest an_shortest : Option Addr} {sl_shortest : Array (Option Value)} {oc_shortest kV_shortest dc_shortest pm_shortest cd_shortest ct_shortest : Value} (a_shortest : PySem.W.nsIn K mainGlobals "shortest" = some (some (.ref F_shortest))) (l_shortest : K.lookup F_shortest = some ⟨oc_shortest, od_shortest, .func (PySem.W.fnOf "shortest" "shortest" (defArgs s_shortest) (defBody s_shortest) (defScope s_shortest) .none kV_shortest dc_shortest pm_shortest an_shortest cd_shortest ct_shortest), sl_shortest⟩) (c_shortest : PySem.W.codeIn K cd_shortest "shortest" = true) (k_shortest : PySem.W.keepIn K (.ref F_shortest) = true)
    {F_cycle_of : Addr} {od_cycle_of an_cycle_of : Option Addr} {sl_cycle_of : Array (Option Value)} {oc_cycle_of kV_cycle_of dc_cycle_of pm_cycle_of cd_cycle_of ct_cycle_of : Value} (a_cycle_of : PySem.W.nsIn K mainGlobals "cycle_of" = some (some (.ref F_cycle_of))) (l_cycle_of : K.lookup F_cycle_of = some ⟨oc_cycle_of, od_cycle_of, .func (PySem.W.fnOf "cycle_of" "cycle_of" (defArgs s_cycle_of) (defBody s_cycle_of) (defScope s_cycle_of) .none kV_cycle_of dc_cycle_of pm_cycle_of an_cycle_of cd_cycle_of ct_cycle_of), sl_cycle_of⟩) (c_cycle_of : PySem.W.codeIn K cd_cycle_of "cycle_of" = true) (k_cycle_of : PySem.W.keepIn K (.ref F_cycle_of) = true)
    {F_told : Addr} {od_told an_told : Option Addr} {sl_told : Array (Option Value)} {oc_told kV_told dc_told pm_told cd_told ct_told : Value} (a_told : PySem.W.nsIn K mainGlobals "told" = some (some (.ref F_told))) (l_told : K.lookup F_told = some ⟨oc_told, od_told, .func (PySem.W.fnOf "told" "told" (defArgs s_told) (defBody s_told) (defScope s_told) .none kV_told dc_told pm_told an_told cd_told ct_told), sl_told⟩) (c_told : PySem.W.codeIn K cd_told "told" = true) (k_told : PySem.W.keepIn K (.ref F_told) = true)
    {F_check_told : Addr} {od_check_told an_check_told : Option Addr} {sl_check_told : Array (Option Value)} {oc_check_told kV_check_told dc_check_told pm_check_told cd_check_told ct_check_told : Value} (a_check_told : PySem.W.nsIn K mainGlobals "check_told" = some (some (.ref F_check_told))) (l_check_told : K.lookup F_check_told = some ⟨oc_check_told, od_check_told, .func (PySem.W.fnOf "check_told" "check_told" (defArgs s_check_told) (defBody s_check_told) (defScope s_check_told) .none kV_check_told dc_check_told pm_check_told an_check_told cd_check_told ct_check_told), sl_check_told⟩) (c_check_told : PySem.W.codeIn K cd_check_told "check_told" = true) (k_check_told : PySem.W.keepIn K (.ref F_check_told) = true)
    {F_value_of : Addr} {od_value_of an_value_of : Option Addr} {sl_value_of : Array (Option Value)} {oc_value_of kV_value_of dc_value_of pm_value_of cd_value_of ct_value_of : Value} (a_value_of : PySem.W.nsIn K mainGlobals "value_of" = some (some (.ref F_value_of))) (l_value_of : K.lookup F_value_of = some ⟨oc_value_of, od_value_of, .func (PySem.W.fnOf "value_of" "value_of" (defArgs s_value_of) (defBody s_value_of) (defScope s_value_of) .none kV_value_of dc_value_of pm_value_of an_value_of cd_value_of ct_value_of), sl_value_of⟩) (c_value_of : PySem.W.codeIn K cd_value_of "value_of" = true) (k_value_of : PySem.W.keepIn K (.ref F_value_of) = true)
    {F_values_to : Addr} {od_values_to an_values_to : Option Addr} {sl_values_to : Array (Option Value)} {oc_values_to kV_values_to dc_values_to pm_values_to cd_values_to ct_values_to : Value} (a_values_to : PySem.W.nsIn K mainGlobals "values_to" = some (some (.ref F_values_to))) (l_values_to : K.lookup F_values_to = some ⟨oc_values_to, od_values_to, .func (PySem.W.fnOf "values_to" "values_to" (defArgs s_values_to) (defBody s_values_to) (defScope s_values_to) .none kV_values_to dc_values_to pm_values_to an_values_to cd_values_to ct_values_to), sl_values_to⟩) (c_values_to : PySem.W.codeIn K cd_values_to "values_to" = true) (k_values_to : PySem.W.keepIn K (.ref F_values_to) = true)
    {F_least_for : Addr} {od_least_for an_least_for : Option Addr} {sl_least_for : Array (Option Value)} {oc_least_for kV_least_for dc_least_for pm_least_for cd_least_for ct_least_for : Value} (a_least_for : PySem.W.nsIn K mainGlobals "least_for" = some (some (.ref F_least_for))) (l_least_for : K.lookup F_least_for = some ⟨oc_least_for, od_least_for, .func (PySem.W.fnOf "least_for" "least_for" (defArgs s_least_for) (defBody s_least_for) (defScope s_least_for) .none kV_least_for dc_least_for pm_least_for an_least_for cd_least_for ct_least_for), sl_least_for⟩) (c_least_for : PySem.W.codeIn K cd_least_for "least_for" = true) (k_least_for : PySem.W.keepIn K (.ref F_least_for) = true)
    {F_first_place : Addr} {od_first_place an_first_place : Option Addr} {sl_first_place : Array (Option Value)} {oc_first_place kV_first_place dc_first_place pm_first_place cd_first_place ct_first_place : Value} (a_first_place : PySem.W.nsIn K mainGlobals "first_place" = some (some (.ref F_first_place))) (l_first_place : K.lookup F_first_place = some ⟨oc_first_place, od_first_place, .func (PySem.W.fnOf "first_place" "first_place" (defArgs s_first_place) (defBody s_first_place) (defScope s_first_place) .none kV_first_place dc_first_place pm_first_place an_first_place cd_first_place ct_first_place), sl_first_place⟩) (c_first_place : PySem.W.codeIn K cd_first_place "first_place" = true) (k_first_place : PySem.W.keepIn K (.ref F_first_place) = true)
    {F_begin_of : Addr} {od_begin_of an_begin_of : Option Addr} {sl_begin_of : Array (Option Value)} {oc_begin_of kV_begin_of dc_begin_of pm_begin_of cd_begin_of ct_begin_of : Value} (a_begin_of : PySem.W.nsIn K mainGlobals "begin_of" = some (some (.ref F_begin_of))) (l_begin_of : K.lookup F_begin_of = some ⟨oc_begin_of, od_begin_of, .func (PySem.W.fnOf "begin_of" "begin_of" (defArgs s_begin_of) (defBody s_begin_of) (defScope s_begin_of) .none kV_begin_of dc_begin_of pm_begin_of an_begin_of cd_begin_of ct_begin_of), sl_begin_of⟩) (c_begin_of : PySem.W.codeIn K cd_begin_of "begin_of" = true) (k_begin_of : PySem.W.keepIn K (.ref F_begin_of) = true)
    {F_rise_in : Addr} {od_rise_in an_rise_in : Option Addr} {sl_rise_in : Array (Option Value)} {oc_rise_in kV_rise_in dc_rise_in pm_rise_in cd_rise_in ct_rise_in : Value} (a_rise_in : PySem.W.nsIn K mainGlobals "rise_in" = some (some (.ref F_rise_in))) (l_rise_in : K.lookup F_rise_in = some ⟨oc_rise_in, od_rise_in, .func (PySem.W.fnOf "rise_in" "rise_in" (defArgs s_rise_in) (defBody s_rise_in) (defScope s_rise_in) .none kV_rise_in dc_rise_in pm_rise_in an_rise_in cd_rise_in ct_rise_in), sl_rise_in⟩) (c_rise_in : PySem.W.codeIn K cd_rise_in "rise_in" = true) (k_rise_in : PySem.W.keepIn K (.ref F_rise_in) = true)
    {F_common_turn : Addr} {od_common_turn an_common_turn : Option Addr} {sl_common_turn : Array (Option Value)} {oc_common_turn kV_common_turn dc_common_turn pm_common_turn cd_common_turn ct_common_turn : Value} (a_common_turn : PySem.W.nsIn K mainGlobals "common_turn" = some (some (.ref F_common_turn))) (l_common_turn : K.lookup F_common_turn = some ⟨oc_common_turn, od_common_turn, .func (PySem.W.fnOf "common_turn" "common_turn" (defArgs s_common_turn) (defBody s_common_turn) (defScope s_common_turn) .none kV_common_turn dc_common_turn pm_common_turn an_common_turn cd_common_turn ct_common_turn), sl_common_turn⟩) (c_common_turn : PySem.W.codeIn K cd_common_turn "common_turn" = true) (k_common_turn : PySem.W.keepIn K (.ref F_common_turn) = true)
    {F_sum_rule : Addr} {od_sum_rule an_sum_rule : Option Addr} {sl_sum_rule : Array (Option Value)} {oc_sum_rule kV_sum_rule dc_sum_rule pm_sum_rule cd_sum_rule ct_sum_rule : Value} (a_sum_rule : PySem.W.nsIn K mainGlobals "sum_rule" = some (some (.ref F_sum_rule))) (l_sum_rule : K.lookup F_sum_rule = some ⟨oc_sum_rule, od_sum_rule, .func (PySem.W.fnOf "sum_rule" "sum_rule" (defArgs s_sum_rule) (defBody s_sum_rule) (defScope s_sum_rule) .none kV_sum_rule dc_sum_rule pm_sum_rule an_sum_rule cd_sum_rule ct_sum_rule), sl_sum_rule⟩) (c_sum_rule : PySem.W.codeIn K cd_sum_rule "sum_rule" = true) (k_sum_rule : PySem.W.keepIn K (.ref F_sum_rule) = true)
    {F_best_rule : Addr} {od_best_rule an_best_rule : Option Addr} {sl_best_rule : Array (Option Value)} {oc_best_rule kV_best_rule dc_best_rule pm_best_rule cd_best_rule ct_best_rule : Value} (a_best_rule : PySem.W.nsIn K mainGlobals "best_rule" = some (some (.ref F_best_rule))) (l_best_rule : K.lookup F_best_rule = some ⟨oc_best_rule, od_best_rule, .func (PySem.W.fnOf "best_rule" "best_rule" (defArgs s_best_rule) (defBody s_best_rule) (defScope s_best_rule) .none kV_best_rule dc_best_rule pm_best_rule an_best_rule cd_best_rule ct_best_rule), sl_best_rule⟩) (c_best_rule : PySem.W.codeIn K cd_best_rule "best_rule" = true) (k_best_rule : PySem.W.keepIn K (.ref F_best_rule) = true)
    {F_overtaking_rule : Addr} {od_overtaking_rule an_overtaking_rule : Option Addr} {sl_overtaking_rule : Array (Option Value)} {oc_overtaking_rule kV_overtaking_rule dc_overtaking_rule pm_overtaking_rule cd_overtaking_rule ct_overtaking_rule : Value} (a_overtaking_rule : PySem.W.nsIn K mainGlobals "overtaking_rule" = some (some (.ref F_overtaking_rule))) (l_overtaking_rule : K.lookup F_overtaking_rule = some ⟨oc_overtaking_rule, od_overtaking_rule, .func (PySem.W.fnOf "overtaking_rule" "overtaking_rule" (defArgs s_overtaking_rule) (defBody s_overtaking_rule) (defScope s_overtaking_rule) .none kV_overtaking_rule dc_overtaking_rule pm_overtaking_rule an_overtaking_rule cd_overtaking_rule ct_overtaking_rule), sl_overtaking_rule⟩) (c_overtaking_rule : PySem.W.codeIn K cd_overtaking_rule "overtaking_rule" = true) (k_overtaking_rule : PySem.W.keepIn K (.ref F_overtaking_rule) = true)
    {F_greater_values : Addr} {od_greater_values an_greater_values : Option Addr} {sl_greater_values : Array (Option Value)} {oc_greater_values kV_greater_values dc_greater_values pm_greater_values cd_greater_values ct_greater_values : Value} (a_greater_values : PySem.W.nsIn K mainGlobals "greater_values" = some (some (.ref F_greater_values))) (l_greater_values : K.lookup F_greater_values = some ⟨oc_greater_values, od_greater_values, .func (PySem.W.fnOf "greater_values" "greater_values" (defArgs s_greater_values) (defBody s_greater_values) (defScope s_greater_values) .none kV_greater_values dc_greater_values pm_greater_values an_greater_values cd_greater_values ct_greater_values), sl_greater_values⟩) (c_greater_values : PySem.W.codeIn K cd_greater_values "greater_values" = true) (k_greater_values : PySem.W.keepIn K (.ref F_greater_values) = true)
    {F_last_above : Addr} {od_last_above an_last_above : Option Addr} {sl_last_above : Array (Option Value)} {oc_last_above kV_last_above dc_last_above pm_last_above cd_last_above ct_last_above : Value} (a_last_above : PySem.W.nsIn K mainGlobals "last_above" = some (some (.ref F_last_above))) (l_last_above : K.lookup F_last_above = some ⟨oc_last_above, od_last_above, .func (PySem.W.fnOf "last_above" "last_above" (defArgs s_last_above) (defBody s_last_above) (defScope s_last_above) .none kV_last_above dc_last_above pm_last_above an_last_above cd_last_above ct_last_above), sl_last_above⟩) (c_last_above : PySem.W.codeIn K cd_last_above "last_above" = true) (k_last_above : PySem.W.keepIn K (.ref F_last_above) = true)
    {F_then_rule : Addr} {od_then_rule an_then_rule : Option Addr} {sl_then_rule : Array (Option Value)} {oc_then_rule kV_then_rule dc_then_rule pm_then_rule cd_then_rule ct_then_rule : Value} (a_then_rule : PySem.W.nsIn K mainGlobals "then_rule" = some (some (.ref F_then_rule))) (l_then_rule : K.lookup F_then_rule = some ⟨oc_then_rule, od_then_rule, .func (PySem.W.fnOf "then_rule" "then_rule" (defArgs s_then_rule) (defBody s_then_rule) (defScope s_then_rule) .none kV_then_rule dc_then_rule pm_then_rule an_then_rule cd_then_rule ct_then_rule), sl_then_rule⟩) (c_then_rule : PySem.W.codeIn K cd_then_rule "then_rule" = true) (k_then_rule : PySem.W.keepIn K (.ref F_then_rule) = true)
    {F_split_rule : Addr} {od_split_rule an_split_rule : Option Addr} {sl_split_rule : Array (Option Value)} {oc_split_rule kV_split_rule dc_split_rule pm_split_rule cd_split_rule ct_split_rule : Value} (a_split_rule : PySem.W.nsIn K mainGlobals "split_rule" = some (some (.ref F_split_rule))) (l_split_rule : K.lookup F_split_rule = some ⟨oc_split_rule, od_split_rule, .func (PySem.W.fnOf "split_rule" "split_rule" (defArgs s_split_rule) (defBody s_split_rule) (defScope s_split_rule) .none kV_split_rule dc_split_rule pm_split_rule an_split_rule cd_split_rule ct_split_rule), sl_split_rule⟩) (c_split_rule : PySem.W.codeIn K cd_split_rule "split_rule" = true) (k_split_rule : PySem.W.keepIn K (.ref F_split_rule) = true)
    {F_split_with : Addr} {od_split_with an_split_with : Option Addr} {sl_split_with : Array (Option Value)} {oc_split_with kV_split_with dc_split_with pm_split_with cd_split_with ct_split_with : Value} (a_split_with : PySem.W.nsIn K mainGlobals "split_with" = some (some (.ref F_split_with))) (l_split_with : K.lookup F_split_with = some ⟨oc_split_with, od_split_with, .func (PySem.W.fnOf "split_with" "split_with" (defArgs s_split_with) (defBody s_split_with) (defScope s_split_with) .none kV_split_with dc_split_with pm_split_with an_split_with cd_split_with ct_split_with), sl_split_with⟩) (c_split_with : PySem.W.codeIn K cd_split_with "split_with" = true) (k_split_with : PySem.W.keepIn K (.ref F_split_with) = true)
    {F_l_deck : Addr} {od_l_deck an_l_deck : Option Addr} {sl_l_deck : Array (Option Value)} {oc_l_deck kV_l_deck dc_l_deck pm_l_deck cd_l_deck ct_l_deck : Value} (a_l_deck : PySem.W.nsIn K mainGlobals "_law_deck" = some (some (.ref F_l_deck))) (l_l_deck : K.lookup F_l_deck = some ⟨oc_l_deck, od_l_deck, .func (PySem.W.fnOf "_law_deck" "_law_deck" (defArgs s_l_deck) (defBody s_l_deck) (defScope s_l_deck) .none kV_l_deck dc_l_deck pm_l_deck an_l_deck cd_l_deck ct_l_deck), sl_l_deck⟩) (c_l_deck : PySem.W.codeIn K cd_l_deck "_law_deck" = true) (k_l_deck : PySem.W.keepIn K (.ref F_l_deck) = true)
    {F_l_draw : Addr} {od_l_draw an_l_draw : Option Addr} {sl_l_draw : Array (Option Value)} {oc_l_draw kV_l_draw dc_l_draw pm_l_draw cd_l_draw ct_l_draw : Value} (a_l_draw : PySem.W.nsIn K mainGlobals "_law_draw" = some (some (.ref F_l_draw))) (l_l_draw : K.lookup F_l_draw = some ⟨oc_l_draw, od_l_draw, .func (PySem.W.fnOf "_law_draw" "_law_draw" (defArgs s_l_draw) (defBody s_l_draw) (defScope s_l_draw) .none kV_l_draw dc_l_draw pm_l_draw an_l_draw cd_l_draw ct_l_draw), sl_l_draw⟩) (c_l_draw : PySem.W.codeIn K cd_l_draw "_law_draw" = true) (k_l_draw : PySem.W.keepIn K (.ref F_l_draw) = true)
    {F_l_drawn : Addr} {od_l_drawn an_l_drawn : Option Addr} {sl_l_drawn : Array (Option Value)} {oc_l_drawn kV_l_drawn dc_l_drawn pm_l_drawn cd_l_drawn ct_l_drawn : Value} (a_l_drawn : PySem.W.nsIn K mainGlobals "_law_drawn" = some (some (.ref F_l_drawn))) (l_l_drawn : K.lookup F_l_drawn = some ⟨oc_l_drawn, od_l_drawn, .func (PySem.W.fnOf "_law_drawn" "_law_drawn" (defArgs s_l_drawn) (defBody s_l_drawn) (defScope s_l_drawn) .none kV_l_drawn dc_l_drawn pm_l_drawn an_l_drawn cd_l_drawn ct_l_drawn), sl_l_drawn⟩) (c_l_drawn : PySem.W.codeIn K cd_l_drawn "_law_drawn" = true) (k_l_drawn : PySem.W.keepIn K (.ref F_l_drawn) = true)
    {F_l_value : Addr} {od_l_value an_l_value : Option Addr} {sl_l_value : Array (Option Value)} {oc_l_value kV_l_value dc_l_value pm_l_value cd_l_value ct_l_value : Value} (a_l_value : PySem.W.nsIn K mainGlobals "_law_value" = some (some (.ref F_l_value))) (l_l_value : K.lookup F_l_value = some ⟨oc_l_value, od_l_value, .func (PySem.W.fnOf "_law_value" "_law_value" (defArgs s_l_value) (defBody s_l_value) (defScope s_l_value) .none kV_l_value dc_l_value pm_l_value an_l_value cd_l_value ct_l_value), sl_l_value⟩) (c_l_value : PySem.W.codeIn K cd_l_value "_law_value" = true) (k_l_value : PySem.W.keepIn K (.ref F_l_value) = true)
    {F_l_fits : Addr} {od_l_fits an_l_fits : Option Addr} {sl_l_fits : Array (Option Value)} {oc_l_fits kV_l_fits dc_l_fits pm_l_fits cd_l_fits ct_l_fits : Value} (a_l_fits : PySem.W.nsIn K mainGlobals "_law_fits" = some (some (.ref F_l_fits))) (l_l_fits : K.lookup F_l_fits = some ⟨oc_l_fits, od_l_fits, .func (PySem.W.fnOf "_law_fits" "_law_fits" (defArgs s_l_fits) (defBody s_l_fits) (defScope s_l_fits) .none kV_l_fits dc_l_fits pm_l_fits an_l_fits cd_l_fits ct_l_fits), sl_l_fits⟩) (c_l_fits : PySem.W.codeIn K cd_l_fits "_law_fits" = true) (k_l_fits : PySem.W.keepIn K (.ref F_l_fits) = true)
    {F_l_short : Addr} {od_l_short an_l_short : Option Addr} {sl_l_short : Array (Option Value)} {oc_l_short kV_l_short dc_l_short pm_l_short cd_l_short ct_l_short : Value} (a_l_short : PySem.W.nsIn K mainGlobals "_law_short" = some (some (.ref F_l_short))) (l_l_short : K.lookup F_l_short = some ⟨oc_l_short, od_l_short, .func (PySem.W.fnOf "_law_short" "_law_short" (defArgs s_l_short) (defBody s_l_short) (defScope s_l_short) .none kV_l_short dc_l_short pm_l_short an_l_short cd_l_short ct_l_short), sl_l_short⟩) (c_l_short : PySem.W.codeIn K cd_l_short "_law_short" = true) (k_l_short : PySem.W.keepIn K (.ref F_l_short) = true)
    {F_l_parted : Addr} {od_l_parted an_l_parted : Option Addr} {sl_l_parted : Array (Option Value)} {oc_l_parted kV_l_parted dc_l_parted pm_l_parted cd_l_parted ct_l_parted : Value} (a_l_parted : PySem.W.nsIn K mainGlobals "_law_parted" = some (some (.ref F_l_parted))) (l_l_parted : K.lookup F_l_parted = some ⟨oc_l_parted, od_l_parted, .func (PySem.W.fnOf "_law_parted" "_law_parted" (defArgs s_l_parted) (defBody s_l_parted) (defScope s_l_parted) .none kV_l_parted dc_l_parted pm_l_parted an_l_parted cd_l_parted ct_l_parted), sl_l_parted⟩) (c_l_parted : PySem.W.codeIn K cd_l_parted "_law_parted" = true) (k_l_parted : PySem.W.keepIn K (.ref F_l_parted) = true)
    {F_l_told : Addr} {od_l_told an_l_told : Option Addr} {sl_l_told : Array (Option Value)} {oc_l_told kV_l_told dc_l_told pm_l_told cd_l_told ct_l_told : Value} (a_l_told : PySem.W.nsIn K mainGlobals "_law_told" = some (some (.ref F_l_told))) (l_l_told : K.lookup F_l_told = some ⟨oc_l_told, od_l_told, .func (PySem.W.fnOf "_law_told" "_law_told" (defArgs s_l_told) (defBody s_l_told) (defScope s_l_told) .none kV_l_told dc_l_told pm_l_told an_l_told cd_l_told ct_l_told), sl_l_told⟩) (c_l_told : PySem.W.codeIn K cd_l_told "_law_told" = true) (k_l_told : PySem.W.keepIn K (.ref F_l_told) = true)
    {F_l_joined : Addr} {od_l_joined an_l_joined : Option Addr} {sl_l_joined : Array (Option Value)} {oc_l_joined kV_l_joined dc_l_joined pm_l_joined cd_l_joined ct_l_joined : Value} (a_l_joined : PySem.W.nsIn K mainGlobals "_law_joined" = some (some (.ref F_l_joined))) (l_l_joined : K.lookup F_l_joined = some ⟨oc_l_joined, od_l_joined, .func (PySem.W.fnOf "_law_joined" "_law_joined" (defArgs s_l_joined) (defBody s_l_joined) (defScope s_l_joined) .none kV_l_joined dc_l_joined pm_l_joined an_l_joined cd_l_joined ct_l_joined), sl_l_joined⟩) (c_l_joined : PySem.W.codeIn K cd_l_joined "_law_joined" = true) (k_l_joined : PySem.W.keepIn K (.ref F_l_joined) = true)
    {F_l_right : Addr} {od_l_right an_l_right : Option Addr} {sl_l_right : Array (Option Value)} {oc_l_right kV_l_right dc_l_right pm_l_right cd_l_right ct_l_right : Value} (a_l_right : PySem.W.nsIn K mainGlobals "_law_right" = some (some (.ref F_l_right))) (l_l_right : K.lookup F_l_right = some ⟨oc_l_right, od_l_right, .func (PySem.W.fnOf "_law_right" "_law_right" (defArgs s_l_right) (defBody s_l_right) (defScope s_l_right) .none kV_l_right dc_l_right pm_l_right an_l_right cd_l_right ct_l_right), sl_l_right⟩) (c_l_right : PySem.W.codeIn K cd_l_right "_law_right" = true) (k_l_right : PySem.W.keepIn K (.ref F_l_right) = true)
    {F_l_long : Addr} {od_l_long an_l_long : Option Addr} {sl_l_long : Array (Option Value)} {oc_l_long kV_l_long dc_l_long pm_l_long cd_l_long ct_l_long : Value} (a_l_long : PySem.W.nsIn K mainGlobals "_law_long" = some (some (.ref F_l_long))) (l_l_long : K.lookup F_l_long = some ⟨oc_l_long, od_l_long, .func (PySem.W.fnOf "_law_long" "_law_long" (defArgs s_l_long) (defBody s_l_long) (defScope s_l_long) .none kV_l_long dc_l_long pm_l_long an_l_long cd_l_long ct_l_long), sl_l_long⟩) (c_l_long : PySem.W.codeIn K cd_l_long "_law_long" = true) (k_l_long : PySem.W.keepIn K (.ref F_l_long) = true)
    {F_l_long_right : Addr} {od_l_long_right an_l_long_right : Option Addr} {sl_l_long_right : Array (Option Value)} {oc_l_long_right kV_l_long_right dc_l_long_right pm_l_long_right ct_l_long_right : Value} (a_l_long_right : PySem.W.nsIn K mainGlobals "_law_long_right" = some (some (.ref F_l_long_right))) (l_l_long_right : K.lookup F_l_long_right = some ⟨oc_l_long_right, od_l_long_right, .func (PySem.W.fnOf "_law_long_right" "_law_long_right" (defArgs s_l_long_right) (defBody s_l_long_right) (defScope s_l_long_right) .none kV_l_long_right dc_l_long_right pm_l_long_right an_l_long_right (.ref cS) ct_l_long_right), sl_l_long_right⟩) (c_l_long_right : PySem.W.codeIn K (.ref cS) "_law_long_right" = true) (k_l_long_right : PySem.W.keepIn K (.ref F_l_long_right) = true)
    {F_law : Addr} {od_law an_law : Option Addr} {sl_law : Array (Option Value)} {oc_law kV_law dc_law pm_law cd_law ct_law : Value} (a_law : PySem.W.nsIn K mainGlobals "law" = some (some (.ref F_law))) (l_law : K.lookup F_law = some ⟨oc_law, od_law, .func (PySem.W.fnOf "law" "law" (defArgs s_law) (defBody s_law) (defScope s_law) .none kV_law dc_law pm_law an_law cd_law ct_law), sl_law⟩) (c_law : PySem.W.codeIn K cd_law "law" = true) (k_law : PySem.W.keepIn K (.ref F_law) = true)
    {cChangeError : Addr}
    {cTooLong fTooLong NnTooLong : Addr} {nmTooLong qnTooLong : Str} {bsTooLong : List Value} {snTooLong : List Str} {subTooLong : List Value} {abTooLong : Bool} {colTooLong : Option Bool} {ddTooLong : Option Addr} {m0TooLong m1TooLong m2TooLong m3TooLong m5TooLong : Option Value} {odITooLong anITooLong : Option Addr} {slITooLong : Array (Option Value)} {ocITooLong kVITooLong dcITooLong pmITooLong cdITooLong ctITooLong : Value}
    {cRule : Addr}
    {fRule_init : Addr} {odRule_init anRule_init : Option Addr} {slRule_init : Array (Option Value)} {ocRule_init kVRule_init dcRule_init pmRule_init cdRule_init ctRule_init : Value}
    {fRule_eq : Addr} {odRule_eq anRule_eq : Option Addr} {slRule_eq : Array (Option Value)} {ocRule_eq kVRule_eq dcRule_eq pmRule_eq cdRule_eq ctRule_eq : Value}
    {fRule_call : Addr} {odRule_call anRule_call : Option Addr} {slRule_call : Array (Option Value)} {ocRule_call kVRule_call dcRule_call pmRule_call cdRule_call ctRule_call : Value}
    {fRule_add : Addr} {odRule_add anRule_add : Option Addr} {slRule_add : Array (Option Value)} {ocRule_add kVRule_add dcRule_add pmRule_add cdRule_add ctRule_add : Value}
    {fRule_or : Addr} {odRule_or anRule_or : Option Addr} {slRule_or : Array (Option Value)} {ocRule_or kVRule_or dcRule_or pmRule_or cdRule_or ctRule_or : Value}
    {fRule_rshift : Addr} {odRule_rshift anRule_rshift : Option Addr} {slRule_rshift : Array (Option Value)} {ocRule_rshift kVRule_rshift dcRule_rshift pmRule_rshift cdRule_rshift ctRule_rshift : Value}
    {fRule_xor : Addr} {odRule_xor anRule_xor : Option Addr} {slRule_xor : Array (Option Value)} {ocRule_xor kVRule_xor dcRule_xor pmRule_xor cdRule_xor ctRule_xor : Value}
    {PS : Addr} {ddS : Option Addr} {slS : Array (Option Value)} {vsS : Array Value} {eS : Value}
    (a_ChangeError : PySem.W.nsIn K mainGlobals "ChangeError" = some (some (.ref cChangeError)))
    (e_ChangeError : PySem.W.subIn K (.ref cChangeError) (.type "BaseException") = some true)
    (h_ChangeError : PySem.W.hasDictIn K cChangeError = true)
    (t_ChangeError : PySem.W.typeIn K (.ref cChangeError) = some (.type "type"))
    (i_ChangeError : PySem.W.isClsIn K cChangeError = true)
    (g_cl : PySem.W.specialIn K (.builtin "object.__class__") "__get__" = some (some (.builtin "getset_descriptor.__get__")))
    (t_cl : PySem.W.takesIn K (.builtin "object.__class__") = some true)
    (a_TooLong : PySem.W.nsIn K mainGlobals "TooLong" = some (some (.ref cTooLong)))
    (x_TooLong : K.lookup cTooLong = some (excClassObj nmTooLong qnTooLong cTooLong NnTooLong bsTooLong [.ref cChangeError, .type "ValueError", .type "Exception", .type "BaseException", .type "object"] true snTooLong subTooLong abTooLong colTooLong ddTooLong m0TooLong m1TooLong m2TooLong m3TooLong m5TooLong "ValueError.__new__"))
    (fsa_TooLong : PySem.W.findIn K (.ref cTooLong) "__setattr__" = some (some (.builtin "object.__setattr__")))
    (fga_TooLong : PySem.W.findIn K (.ref cTooLong) "__getattribute__" = some (some (.builtin "BaseException.__getattribute__")))
    (fgg_TooLong : PySem.W.findIn K (.ref cTooLong) "__getattr__" = some none)
    (fno_TooLong : PySem.W.findIn K (.ref cTooLong) "number" = some none)
    (fiC_TooLong : PySem.W.findIn K (.ref cTooLong) "__init__" = some (some (.ref fTooLong)))
    (fcl_TooLong : PySem.W.findIn K (.ref cTooLong) "__class__" = some (some (.builtin "object.__class__")))
    (tf_TooLong : PySem.W.typeIn K (.ref fTooLong) = some (.type "function"))
    (t_TooLong : PySem.W.typeIn K (.ref cTooLong) = some (.type "type"))
    (k_TooLong : PySem.W.keepIn K (.ref cTooLong) = true)
    (e_TooLong : PySem.W.subIn K (.ref cTooLong) (.type "BaseException") = some true)
    (s_TooLong : PySem.W.subIn K (.ref cTooLong) (.ref cTooLong) = some true)
    (h_TooLong : PySem.W.hasDictIn K cTooLong = true)
    (m_TooLong : PySem.W.mroIn K cTooLong (.type "object") = some true)
    (lf_TooLong : K.lookup fTooLong = some ⟨ocITooLong, odITooLong, .func (PySem.W.fnOf "__init__" "TooLong.__init__" (defArgs s_TooLong_init) (defBody s_TooLong_init) (defScope s_TooLong_init) .none kVITooLong dcITooLong pmITooLong anITooLong cdITooLong ctITooLong), slITooLong⟩)
    (cf_TooLong : PySem.W.codeIn K cdITooLong "TooLong.__init__" = true)
    (kf_TooLong : PySem.W.keepIn K (.ref fTooLong) = true)
    (isub_TooLong_ChangeError : PySem.W.subIn K (.ref cTooLong) (.ref cChangeError) = some true)
    (a_Rule : PySem.W.nsIn K mainGlobals "Rule" = some (some (.ref cRule)))
    (pg_Rule : PySem.W.plainGet K cRule Str.empty = true)
    (hd_Rule : PySem.W.hasDictIn K cRule = true)
    (po_Rule : PySem.W.plainOver K cRule = true)
    (sa_Rule : PySem.W.findIn K (.ref cRule) "__setattr__" = some (some (.builtin "object.__setattr__")))
    (mk_Rule : PySem.W.makesIn K cRule = true)
    (kp_Rule : PySem.W.keepIn K (.ref cRule) = true)
    (ha_Rule : PySem.W.findIn K (.ref cRule) "__class__" = some (some (.builtin "object.__class__")))
    (hm_Rule : PySem.W.mroIn K cRule (.type "object") = some true)
    (na_Rule_value : PySem.W.findIn K (.ref cRule) "value" = some none)
    (na_Rule_table : PySem.W.findIn K (.ref cRule) "table" = some none)
    (na_Rule_period : PySem.W.findIn K (.ref cRule) "period" = some none)
    (na_Rule_rise : PySem.W.findIn K (.ref cRule) "rise" = some none)
    (at_Rule_init : PySem.W.findIn K (.ref cRule) "__init__" = some (some (.ref fRule_init)))
    (fn_Rule_init : PySem.W.isFn K (.ref fRule_init) = true)
    (kf_Rule_init : PySem.W.keepIn K (.ref fRule_init) = true)
    (lf_Rule_init : K.lookup fRule_init = some ⟨ocRule_init, odRule_init, .func (PySem.W.fnOf "__init__" "Rule.__init__" (defArgs s_Rule_init) (defBody s_Rule_init) (defScope s_Rule_init) .none kVRule_init dcRule_init pmRule_init anRule_init cdRule_init ctRule_init), slRule_init⟩)
    (cf_Rule_init : PySem.W.codeIn K cdRule_init "Rule.__init__" = true)
    (at_Rule_eq : PySem.W.findIn K (.ref cRule) "__eq__" = some (some (.ref fRule_eq)))
    (fn_Rule_eq : PySem.W.isFn K (.ref fRule_eq) = true)
    (kf_Rule_eq : PySem.W.keepIn K (.ref fRule_eq) = true)
    (lf_Rule_eq : K.lookup fRule_eq = some ⟨ocRule_eq, odRule_eq, .func (PySem.W.fnOf "__eq__" "Rule.__eq__" (defArgs s_Rule_eq) (defBody s_Rule_eq) (defScope s_Rule_eq) .none kVRule_eq dcRule_eq pmRule_eq anRule_eq cdRule_eq ctRule_eq), slRule_eq⟩)
    (cf_Rule_eq : PySem.W.codeIn K cdRule_eq "Rule.__eq__" = true)
    (at_Rule_call : PySem.W.findIn K (.ref cRule) "__call__" = some (some (.ref fRule_call)))
    (fn_Rule_call : PySem.W.isFn K (.ref fRule_call) = true)
    (kf_Rule_call : PySem.W.keepIn K (.ref fRule_call) = true)
    (lf_Rule_call : K.lookup fRule_call = some ⟨ocRule_call, odRule_call, .func (PySem.W.fnOf "__call__" "Rule.__call__" (defArgs s_Rule_call) (defBody s_Rule_call) (defScope s_Rule_call) .none kVRule_call dcRule_call pmRule_call anRule_call cdRule_call ctRule_call), slRule_call⟩)
    (cf_Rule_call : PySem.W.codeIn K cdRule_call "Rule.__call__" = true)
    (at_Rule_add : PySem.W.findIn K (.ref cRule) "__add__" = some (some (.ref fRule_add)))
    (fn_Rule_add : PySem.W.isFn K (.ref fRule_add) = true)
    (kf_Rule_add : PySem.W.keepIn K (.ref fRule_add) = true)
    (lf_Rule_add : K.lookup fRule_add = some ⟨ocRule_add, odRule_add, .func (PySem.W.fnOf "__add__" "Rule.__add__" (defArgs s_Rule_add) (defBody s_Rule_add) (defScope s_Rule_add) .none kVRule_add dcRule_add pmRule_add anRule_add cdRule_add ctRule_add), slRule_add⟩)
    (cf_Rule_add : PySem.W.codeIn K cdRule_add "Rule.__add__" = true)
    (at_Rule_or : PySem.W.findIn K (.ref cRule) "__or__" = some (some (.ref fRule_or)))
    (fn_Rule_or : PySem.W.isFn K (.ref fRule_or) = true)
    (kf_Rule_or : PySem.W.keepIn K (.ref fRule_or) = true)
    (lf_Rule_or : K.lookup fRule_or = some ⟨ocRule_or, odRule_or, .func (PySem.W.fnOf "__or__" "Rule.__or__" (defArgs s_Rule_or) (defBody s_Rule_or) (defScope s_Rule_or) .none kVRule_or dcRule_or pmRule_or anRule_or cdRule_or ctRule_or), slRule_or⟩)
    (cf_Rule_or : PySem.W.codeIn K cdRule_or "Rule.__or__" = true)
    (at_Rule_rshift : PySem.W.findIn K (.ref cRule) "__rshift__" = some (some (.ref fRule_rshift)))
    (fn_Rule_rshift : PySem.W.isFn K (.ref fRule_rshift) = true)
    (kf_Rule_rshift : PySem.W.keepIn K (.ref fRule_rshift) = true)
    (lf_Rule_rshift : K.lookup fRule_rshift = some ⟨ocRule_rshift, odRule_rshift, .func (PySem.W.fnOf "__rshift__" "Rule.__rshift__" (defArgs s_Rule_rshift) (defBody s_Rule_rshift) (defScope s_Rule_rshift) .none kVRule_rshift dcRule_rshift pmRule_rshift anRule_rshift cdRule_rshift ctRule_rshift), slRule_rshift⟩)
    (cf_Rule_rshift : PySem.W.codeIn K cdRule_rshift "Rule.__rshift__" = true)
    (at_Rule_xor : PySem.W.findIn K (.ref cRule) "__xor__" = some (some (.ref fRule_xor)))
    (fn_Rule_xor : PySem.W.isFn K (.ref fRule_xor) = true)
    (kf_Rule_xor : PySem.W.keepIn K (.ref fRule_xor) = true)
    (lf_Rule_xor : K.lookup fRule_xor = some ⟨ocRule_xor, odRule_xor, .func (PySem.W.fnOf "__xor__" "Rule.__xor__" (defArgs s_Rule_xor) (defBody s_Rule_xor) (defScope s_Rule_xor) .none kVRule_xor dcRule_xor pmRule_xor anRule_xor cdRule_xor ctRule_xor), slRule_xor⟩)
    (cf_Rule_xor : PySem.W.codeIn K cdRule_xor "Rule.__xor__" = true)
    (first_Rule : PySem.W.selfFirst K cRule = true)
    (fi_Rule_call : PySem.W.fnIn K fRule_call = true)
    (l_cS : K.lookup cS = some ⟨eS, ddS, .fields vsS, slS⟩)
    (e_PS : vsS[11]? = some (.ref PS))
    (d_PS : PySem.W.codeHdIn K cS PS = true)
    (n_PS : K.lookup PS = none)
    (r_S : ((recsOf q).any fun e => e.name == "_law_long_right") = true)
    (z__law_call : PySem.W.nsIn K mainGlobals "_law_call" = some none)
    (z_abs : PySem.W.nsIn K mainGlobals "abs" = some none)
    (z_all : PySem.W.nsIn K mainGlobals "all" = some none)
    (z_any : PySem.W.nsIn K mainGlobals "any" = some none)
    (z_bool : PySem.W.nsIn K mainGlobals "bool" = some none)
    (z_cls : PySem.W.nsIn K mainGlobals "cls" = some none)
    (z_int : PySem.W.nsIn K mainGlobals "int" = some none)
    (z_isinstance : PySem.W.nsIn K mainGlobals "isinstance" = some none)
    (z_iter : PySem.W.nsIn K mainGlobals "iter" = some none)
    (z_len : PySem.W.nsIn K mainGlobals "len" = some none)
    (z_list : PySem.W.nsIn K mainGlobals "list" = some none)
    (z_max : PySem.W.nsIn K mainGlobals "max" = some none)
    (z_range : PySem.W.nsIn K mainGlobals "range" = some none)
    (z_tuple : PySem.W.nsIn K mainGlobals "tuple" = some none)
    (g_gcd : PySem.W.nsIn K mainGlobals "gcd" = some (some (.builtin "math.gcd")))
    (g_lcm : PySem.W.nsIn K mainGlobals "lcm" = some (some (.builtin "math.lcm")))
    {t_MAX_TOLD : Tok} (g_MAX_TOLD : PySem.W.nsIn K mainGlobals "MAX_TOLD" = some (some (.int 5000 t_MAX_TOLD))) :
    ∃ (fd : FuncData) (ct : List (Addr × Addr)) (TT : List (Addr × Str)), (∀ t ∈ ct, h.get? t.2 = some (PySem.W.tabObj #[])) ∧ (∀ t ∈ ct, K.lookup t.2 = none) ∧ (∀ t ∈ ct, PySem.W.codeHdIn K t.1 t.2 = true) ∧ TT.map (·.1) = ct.map (·.2) ∧ (∀ (s : Shared) (v : Value), BindsTo s fd ⟨[v], []⟩ [("_law_script", v)]) ∧ ∀ base : Heap, K.In base → base.Ns mainGlobals mg → (∀ t ∈ ct, TabB base mg t.1 t.2) → FnG l.prog w K mg base 13 fa fd ["_law_script"] (sp_law K TT) := by
  have e := hfa.symm.trans (PySem.W.mg_of X G a_law)
  cases e
  have T : Txt mg := ⟨PySem.W.mg_none_of X G z__law_call, PySem.W.mg_none_of X G z_abs, PySem.W.mg_none_of X G z_all, PySem.W.mg_none_of X G z_any, PySem.W.mg_none_of X G z_bool, PySem.W.mg_none_of X G z_cls, PySem.W.mg_none_of X G z_int, PySem.W.mg_none_of X G z_isinstance, PySem.W.mg_none_of X G z_iter, PySem.W.mg_none_of X G z_len, PySem.W.mg_none_of X G z_list, PySem.W.mg_none_of X G z_max, PySem.W.mg_none_of X G z_range, PySem.W.mg_none_of X G z_tuple, PySem.W.mg_of X G g_gcd, PySem.W.mg_of X G g_lcm, ⟨_, PySem.W.mg_of X G g_MAX_TOLD⟩⟩
  have XTooLong : XVal K mg "TooLong" "number" cTooLong fTooLong :=
    { g := PySem.W.mg_of X G a_TooLong, oex := ⟨⟨nmTooLong, qnTooLong, NnTooLong, bsTooLong, _, snTooLong, subTooLong, abTooLong, colTooLong, ddTooLong, m0TooLong, m1TooLong, m2TooLong, m3TooLong, m5TooLong, x_TooLong, by rfl⟩, fsa_TooLong, e_TooLong, t_TooLong, k_TooLong⟩, no := fno_TooLong, iC := fiC_TooLong, tI := tf_TooLong, xf := ⟨fga_TooLong, fgg_TooLong, e_TooLong, h_TooLong⟩,
      ec := ⟨fga_TooLong, fgg_TooLong, e_TooLong, h_TooLong, fcl_TooLong, g_cl, t_cl, m_TooLong⟩, te := PySem.W.exm_ref e_TooLong h_TooLong t_TooLong s_TooLong }
  have iTooLong : IniF K "TooLong.__init__" "number" s_TooLong_init fTooLong := ⟨_, fun_mk (st := s_TooLong_init) lf_TooLong cf_TooLong kf_TooLong, (fun_mk (st := s_TooLong_init) lf_TooLong cf_TooLong kf_TooLong).binds (ps := ["self", "number"]) fun _ _ _ _ _ _ us hl => match us, hl with | [_, _], _ => rfl⟩
  have k_TooLong_ChangeError : PySem.W.kitOne K (.ref cTooLong) (.ref cChangeError) = some true := kit_own i_ChangeError t_ChangeError isub_TooLong_ChangeError s_TooLong
  have IRule : InsC K cRule := ⟨⟨pg_Rule, hd_Rule, po_Rule, sa_Rule⟩, ha_Rule, g_cl, t_cl, hm_Rule⟩
  have fun_Rule_init := fun_mk (st := s_Rule_init) lf_Rule_init cf_Rule_init kf_Rule_init
  have bin_Rule_init := fun_Rule_init.binds (ps := ["self", "value"]) fun _ _ _ _ _ _ us hl => match us, hl with | [_, _], _ => rfl
  have mak_Rule : Mk K cRule fRule_init := ⟨mk_Rule, at_Rule_init, fn_Rule_init, kp_Rule⟩
  have fun_Rule_eq := fun_mk (st := s_Rule_eq) lf_Rule_eq cf_Rule_eq kf_Rule_eq
  have bin_Rule_eq := fun_Rule_eq.binds (ps := ["self", "other"]) fun _ _ _ _ _ _ us hl => match us, hl with | [_, _], _ => rfl
  have met_Rule_eq : Meth K cRule "__eq__" fRule_eq := ⟨at_Rule_eq, fn_Rule_eq, kf_Rule_eq⟩
  have fun_Rule_call := fun_mk (st := s_Rule_call) lf_Rule_call cf_Rule_call kf_Rule_call
  have bin_Rule_call := fun_Rule_call.binds (ps := ["self", "x"]) fun _ _ _ _ _ _ us hl => match us, hl with | [_, _], _ => rfl
  have met_Rule_call : Meth K cRule "__call__" fRule_call := ⟨at_Rule_call, fn_Rule_call, kf_Rule_call⟩
  have fun_Rule_add := fun_mk (st := s_Rule_add) lf_Rule_add cf_Rule_add kf_Rule_add
  have bin_Rule_add := fun_Rule_add.binds (ps := ["self", "other"]) fun _ _ _ _ _ _ us hl => match us, hl with | [_, _], _ => rfl
  have met_Rule_add : Meth K cRule "__add__" fRule_add := ⟨at_Rule_add, fn_Rule_add, kf_Rule_add⟩
  have fun_Rule_or := fun_mk (st := s_Rule_or) lf_Rule_or cf_Rule_or kf_Rule_or
  have bin_Rule_or := fun_Rule_or.binds (ps := ["self", "other"]) fun _ _ _ _ _ _ us hl => match us, hl with | [_, _], _ => rfl
  have met_Rule_or : Meth K cRule "__or__" fRule_or := ⟨at_Rule_or, fn_Rule_or, kf_Rule_or⟩
  have fun_Rule_rshift := fun_mk (st := s_Rule_rshift) lf_Rule_rshift cf_Rule_rshift kf_Rule_rshift
  have bin_Rule_rshift := fun_Rule_rshift.binds (ps := ["self", "other"]) fun _ _ _ _ _ _ us hl => match us, hl with | [_, _], _ => rfl
  have met_Rule_rshift : Meth K cRule "__rshift__" fRule_rshift := ⟨at_Rule_rshift, fn_Rule_rshift, kf_Rule_rshift⟩
  have fun_Rule_xor := fun_mk (st := s_Rule_xor) lf_Rule_xor cf_Rule_xor kf_Rule_xor
  have bin_Rule_xor := fun_Rule_xor.binds (ps := ["self", "other"]) fun _ _ _ _ _ _ us hl => match us, hl with | [_, _], _ => rfl
  have met_Rule_xor : Meth K cRule "__xor__" fRule_xor := ⟨at_Rule_xor, fn_Rule_xor, kf_Rule_xor⟩
  have OS : h.get? PS = some (PySem.W.tabObj #[]) := own _ _ r_S (PySem.W.mg_of X G a_l_long_right) _ _ _ _ _ _ _ _ l_l_long_right rfl rfl l_cS e_PS
  have R : TxR K mg cRule fRule_init fRule_eq fRule_call fRule_add fRule_or fRule_rshift fRule_xor := ⟨PySem.W.mg_of X G a_Rule, IRule, mak_Rule, na_Rule_value, na_Rule_table, na_Rule_period, na_Rule_rise, if_pos (beq_self_eq_true _), ⟨at_Rule_eq, fn_Rule_eq⟩, first_Rule, ⟨at_Rule_call, fn_Rule_call⟩, ⟨at_Rule_add, fn_Rule_add⟩, ⟨at_Rule_or, fn_Rule_or⟩, ⟨at_Rule_rshift, fn_Rule_rshift⟩, ⟨at_Rule_xor, fn_Rule_xor⟩⟩
  have D_is_whole : Df K mg "is_whole" s_is_whole ["value"] := ⟨_, _, fun_mk (st := s_is_whole) l_is_whole c_is_whole k_is_whole, PySem.W.mg_of X G a_is_whole, (fun_mk (st := s_is_whole) l_is_whole c_is_whole k_is_whole).binds (ps := ["value"]) fun _ _ _ _ _ _ us hl => match us, hl with | [_], _ => rfl⟩
  have D_is_amount : Df K mg "is_amount" s_is_amount ["value"] := ⟨_, _, fun_mk (st := s_is_amount) l_is_amount c_is_amount k_is_amount, PySem.W.mg_of X G a_is_amount, (fun_mk (st := s_is_amount) l_is_amount c_is_amount k_is_amount).binds (ps := ["value"]) fun _ _ _ _ _ _ us hl => match us, hl with | [_], _ => rfl⟩
  have D_rule_error : Df K mg "rule_error" s_rule_error ["value"] := ⟨_, _, fun_mk (st := s_rule_error) l_rule_error c_rule_error k_rule_error, PySem.W.mg_of X G a_rule_error, (fun_mk (st := s_rule_error) l_rule_error c_rule_error k_rule_error).binds (ps := ["value"]) fun _ _ _ _ _ _ us hl => match us, hl with | [_], _ => rfl⟩
  have D_told_error : Df K mg "told_error" s_told_error ["table", "period", "rise"] := ⟨_, _, fun_mk (st := s_told_error) l_told_error c_told_error k_told_error, PySem.W.mg_of X G a_told_error, (fun_mk (st := s_told_error) l_told_error c_told_error k_told_error).binds (ps := ["table", "period", "rise"]) fun _ _ _ _ _ _ us hl => match us, hl with | [_, _, _], _ => rfl⟩
  have D_shortest : Df K mg "shortest" s_shortest ["table", "period", "rise"] := ⟨_, _, fun_mk (st := s_shortest) l_shortest c_shortest k_shortest, PySem.W.mg_of X G a_shortest, (fun_mk (st := s_shortest) l_shortest c_shortest k_shortest).binds (ps := ["table", "period", "rise"]) fun _ _ _ _ _ _ us hl => match us, hl with | [_, _, _], _ => rfl⟩
  have D_cycle_of : Df K mg "cycle_of" s_cycle_of ["items"] := ⟨_, _, fun_mk (st := s_cycle_of) l_cycle_of c_cycle_of k_cycle_of, PySem.W.mg_of X G a_cycle_of, (fun_mk (st := s_cycle_of) l_cycle_of c_cycle_of k_cycle_of).binds (ps := ["items"]) fun _ _ _ _ _ _ us hl => match us, hl with | [_], _ => rfl⟩
  have D_told : Df K mg "told" s_told ["table", "period", "rise"] := ⟨_, _, fun_mk (st := s_told) l_told c_told k_told, PySem.W.mg_of X G a_told, (fun_mk (st := s_told) l_told c_told k_told).binds (ps := ["table", "period", "rise"]) fun _ _ _ _ _ _ us hl => match us, hl with | [_, _, _], _ => rfl⟩
  have D_check_told : Df K mg "check_told" s_check_told ["number"] := ⟨_, _, fun_mk (st := s_check_told) l_check_told c_check_told k_check_told, PySem.W.mg_of X G a_check_told, (fun_mk (st := s_check_told) l_check_told c_check_told k_check_told).binds (ps := ["number"]) fun _ _ _ _ _ _ us hl => match us, hl with | [_], _ => rfl⟩
  have D_value_of : Df K mg "value_of" s_value_of ["rule", "x"] := ⟨_, _, fun_mk (st := s_value_of) l_value_of c_value_of k_value_of, PySem.W.mg_of X G a_value_of, (fun_mk (st := s_value_of) l_value_of c_value_of k_value_of).binds (ps := ["rule", "x"]) fun _ _ _ _ _ _ us hl => match us, hl with | [_, _], _ => rfl⟩
  have D_values_to : Df K mg "values_to" s_values_to ["rule", "count"] := ⟨_, _, fun_mk (st := s_values_to) l_values_to c_values_to k_values_to, PySem.W.mg_of X G a_values_to, (fun_mk (st := s_values_to) l_values_to c_values_to k_values_to).binds (ps := ["rule", "count"]) fun _ _ _ _ _ _ us hl => match us, hl with | [_, _], _ => rfl⟩
  have D_least_for : Df K mg "least_for" s_least_for ["rule", "y"] := ⟨_, _, fun_mk (st := s_least_for) l_least_for c_least_for k_least_for, PySem.W.mg_of X G a_least_for, (fun_mk (st := s_least_for) l_least_for c_least_for k_least_for).binds (ps := ["rule", "y"]) fun _ _ _ _ _ _ us hl => match us, hl with | [_, _], _ => rfl⟩
  have D_first_place : Df K mg "first_place" s_first_place ["table", "low", "y"] := ⟨_, _, fun_mk (st := s_first_place) l_first_place c_first_place k_first_place, PySem.W.mg_of X G a_first_place, (fun_mk (st := s_first_place) l_first_place c_first_place k_first_place).binds (ps := ["table", "low", "y"]) fun _ _ _ _ _ _ us hl => match us, hl with | [_, _, _], _ => rfl⟩
  have D_begin_of : Df K mg "begin_of" s_begin_of ["rule"] := ⟨_, _, fun_mk (st := s_begin_of) l_begin_of c_begin_of k_begin_of, PySem.W.mg_of X G a_begin_of, (fun_mk (st := s_begin_of) l_begin_of c_begin_of k_begin_of).binds (ps := ["rule"]) fun _ _ _ _ _ _ us hl => match us, hl with | [_], _ => rfl⟩
  have D_rise_in : Df K mg "rise_in" s_rise_in ["rule", "turn"] := ⟨_, _, fun_mk (st := s_rise_in) l_rise_in c_rise_in k_rise_in, PySem.W.mg_of X G a_rise_in, (fun_mk (st := s_rise_in) l_rise_in c_rise_in k_rise_in).binds (ps := ["rule", "turn"]) fun _ _ _ _ _ _ us hl => match us, hl with | [_, _], _ => rfl⟩
  have D_common_turn : Df K mg "common_turn" s_common_turn ["one", "other"] := ⟨_, _, fun_mk (st := s_common_turn) l_common_turn c_common_turn k_common_turn, PySem.W.mg_of X G a_common_turn, (fun_mk (st := s_common_turn) l_common_turn c_common_turn k_common_turn).binds (ps := ["one", "other"]) fun _ _ _ _ _ _ us hl => match us, hl with | [_, _], _ => rfl⟩
  have D_sum_rule : Df K mg "sum_rule" s_sum_rule ["one", "other"] := ⟨_, _, fun_mk (st := s_sum_rule) l_sum_rule c_sum_rule k_sum_rule, PySem.W.mg_of X G a_sum_rule, (fun_mk (st := s_sum_rule) l_sum_rule c_sum_rule k_sum_rule).binds (ps := ["one", "other"]) fun _ _ _ _ _ _ us hl => match us, hl with | [_, _], _ => rfl⟩
  have D_best_rule : Df K mg "best_rule" s_best_rule ["one", "other"] := ⟨_, _, fun_mk (st := s_best_rule) l_best_rule c_best_rule k_best_rule, PySem.W.mg_of X G a_best_rule, (fun_mk (st := s_best_rule) l_best_rule c_best_rule k_best_rule).binds (ps := ["one", "other"]) fun _ _ _ _ _ _ us hl => match us, hl with | [_, _], _ => rfl⟩
  have D_overtaking_rule : Df K mg "overtaking_rule" s_overtaking_rule ["steep", "flat"] := ⟨_, _, fun_mk (st := s_overtaking_rule) l_overtaking_rule c_overtaking_rule k_overtaking_rule, PySem.W.mg_of X G a_overtaking_rule, (fun_mk (st := s_overtaking_rule) l_overtaking_rule c_overtaking_rule k_overtaking_rule).binds (ps := ["steep", "flat"]) fun _ _ _ _ _ _ us hl => match us, hl with | [_, _], _ => rfl⟩
  have D_greater_values : Df K mg "greater_values" s_greater_values ["one", "other", "count", "turn"] := ⟨_, _, fun_mk (st := s_greater_values) l_greater_values c_greater_values k_greater_values, PySem.W.mg_of X G a_greater_values, (fun_mk (st := s_greater_values) l_greater_values c_greater_values k_greater_values).binds (ps := ["one", "other", "count", "turn"]) fun _ _ _ _ _ _ us hl => match us, hl with | [_, _, _, _], _ => rfl⟩
  have D_last_above : Df K mg "last_above" s_last_above ["flat", "steep"] := ⟨_, _, fun_mk (st := s_last_above) l_last_above c_last_above k_last_above, PySem.W.mg_of X G a_last_above, (fun_mk (st := s_last_above) l_last_above c_last_above k_last_above).binds (ps := ["flat", "steep"]) fun _ _ _ _ _ _ us hl => match us, hl with | [_, _], _ => rfl⟩
  have D_then_rule : Df K mg "then_rule" s_then_rule ["first", "second"] := ⟨_, _, fun_mk (st := s_then_rule) l_then_rule c_then_rule k_then_rule, PySem.W.mg_of X G a_then_rule, (fun_mk (st := s_then_rule) l_then_rule c_then_rule k_then_rule).binds (ps := ["first", "second"]) fun _ _ _ _ _ _ us hl => match us, hl with | [_, _], _ => rfl⟩
  have D_split_rule : Df K mg "split_rule" s_split_rule ["one", "other"] := ⟨_, _, fun_mk (st := s_split_rule) l_split_rule c_split_rule k_split_rule, PySem.W.mg_of X G a_split_rule, (fun_mk (st := s_split_rule) l_split_rule c_split_rule k_split_rule).binds (ps := ["one", "other"]) fun _ _ _ _ _ _ us hl => match us, hl with | [_, _], _ => rfl⟩
  have D_split_with : Df K mg "split_with" s_split_with ["near", "bound", "far"] := ⟨_, _, fun_mk (st := s_split_with) l_split_with c_split_with k_split_with, PySem.W.mg_of X G a_split_with, (fun_mk (st := s_split_with) l_split_with c_split_with k_split_with).binds (ps := ["near", "bound", "far"]) fun _ _ _ _ _ _ us hl => match us, hl with | [_, _, _], _ => rfl⟩
  have D_l_deck : Df K mg "_law_deck" s_l_deck ["_law_script"] := ⟨_, _, fun_mk (st := s_l_deck) l_l_deck c_l_deck k_l_deck, PySem.W.mg_of X G a_l_deck, (fun_mk (st := s_l_deck) l_l_deck c_l_deck k_l_deck).binds (ps := ["_law_script"]) fun _ _ _ _ _ _ us hl => match us, hl with | [_], _ => rfl⟩
  have D_l_draw : Df K mg "_law_draw" s_l_draw ["_law_deck_here", "_law_many"] := ⟨_, _, fun_mk (st := s_l_draw) l_l_draw c_l_draw k_l_draw, PySem.W.mg_of X G a_l_draw, (fun_mk (st := s_l_draw) l_l_draw c_l_draw k_l_draw).binds (ps := ["_law_deck_here", "_law_many"]) fun _ _ _ _ _ _ us hl => match us, hl with | [_, _], _ => rfl⟩
  have D_l_drawn : Df K mg "_law_drawn" s_l_drawn ["_law_deck_here", "_law_upto"] := ⟨_, _, fun_mk (st := s_l_drawn) l_l_drawn c_l_drawn k_l_drawn, PySem.W.mg_of X G a_l_drawn, (fun_mk (st := s_l_drawn) l_l_drawn c_l_drawn k_l_drawn).binds (ps := ["_law_deck_here", "_law_upto"]) fun _ _ _ _ _ _ us hl => match us, hl with | [_, _], _ => rfl⟩
  have D_l_value : Df K mg "_law_value" s_l_value ["_law_rule", "_law_x"] := ⟨_, _, fun_mk (st := s_l_value) l_l_value c_l_value k_l_value, PySem.W.mg_of X G a_l_value, (fun_mk (st := s_l_value) l_l_value c_l_value k_l_value).binds (ps := ["_law_rule", "_law_x"]) fun _ _ _ _ _ _ us hl => match us, hl with | [_, _], _ => rfl⟩
  have D_l_fits : Df K mg "_law_fits" s_l_fits ["_law_rule", "_law_few", "_law_period"] := ⟨_, _, fun_mk (st := s_l_fits) l_l_fits c_l_fits k_l_fits, PySem.W.mg_of X G a_l_fits, (fun_mk (st := s_l_fits) l_l_fits c_l_fits k_l_fits).binds (ps := ["_law_rule", "_law_few", "_law_period"]) fun _ _ _ _ _ _ us hl => match us, hl with | [_, _, _], _ => rfl⟩
  have D_l_short : Df K mg "_law_short" s_l_short ["_law_rule"] := ⟨_, _, fun_mk (st := s_l_short) l_l_short c_l_short k_l_short, PySem.W.mg_of X G a_l_short, (fun_mk (st := s_l_short) l_l_short c_l_short k_l_short).binds (ps := ["_law_rule"]) fun _ _ _ _ _ _ us hl => match us, hl with | [_], _ => rfl⟩
  have D_l_parted : Df K mg "_law_parted" s_l_parted ["_law_one", "_law_other", "_law_x"] := ⟨_, _, fun_mk (st := s_l_parted) l_l_parted c_l_parted k_l_parted, PySem.W.mg_of X G a_l_parted, (fun_mk (st := s_l_parted) l_l_parted c_l_parted k_l_parted).binds (ps := ["_law_one", "_law_other", "_law_x"]) fun _ _ _ _ _ _ us hl => match us, hl with | [_, _, _], _ => rfl⟩
  have D_l_told : Df K mg "_law_told" s_l_told ["_law_found", "_law_rule"] := ⟨_, _, fun_mk (st := s_l_told) l_l_told c_l_told k_l_told, PySem.W.mg_of X G a_l_told, (fun_mk (st := s_l_told) l_l_told c_l_told k_l_told).binds (ps := ["_law_found", "_law_rule"]) fun _ _ _ _ _ _ us hl => match us, hl with | [_, _], _ => rfl⟩
  have D_l_joined : Df K mg "_law_joined" s_l_joined ["_law_mine", "_law_others", "_law_x"] := ⟨_, _, fun_mk (st := s_l_joined) l_l_joined c_l_joined k_l_joined, PySem.W.mg_of X G a_l_joined, (fun_mk (st := s_l_joined) l_l_joined c_l_joined k_l_joined).binds (ps := ["_law_mine", "_law_others", "_law_x"]) fun _ _ _ _ _ _ us hl => match us, hl with | [_, _, _], _ => rfl⟩
  have D_l_right : Df K mg "_law_right" s_l_right ["_law_deck_here", "_law_mine", "_law_others"] := ⟨_, _, fun_mk (st := s_l_right) l_l_right c_l_right k_l_right, PySem.W.mg_of X G a_l_right, (fun_mk (st := s_l_right) l_l_right c_l_right k_l_right).binds (ps := ["_law_deck_here", "_law_mine", "_law_others"]) fun _ _ _ _ _ _ us hl => match us, hl with | [_, _, _], _ => rfl⟩
  have D_l_long : Df K mg "_law_long" s_l_long ["_law_call"] := ⟨_, _, fun_mk (st := s_l_long) l_l_long c_l_long k_l_long, PySem.W.mg_of X G a_l_long, (fun_mk (st := s_l_long) l_l_long c_l_long k_l_long).binds (ps := ["_law_call"]) fun _ _ _ _ _ _ us hl => match us, hl with | [_], _ => rfl⟩
  have D_l_long_right : Df K mg "_law_long_right" s_l_long_right ["_law_deck_here"] := ⟨_, _, fun_mk (st := s_l_long_right) l_l_long_right c_l_long_right k_l_long_right, PySem.W.mg_of X G a_l_long_right, (fun_mk (st := s_l_long_right) l_l_long_right c_l_long_right k_l_long_right).binds (ps := ["_law_deck_here"]) fun _ _ _ _ _ _ us hl => match us, hl with | [_], _ => rfl⟩
  have D_law : Df K mg "law" s_law ["_law_script"] := ⟨_, _, fun_mk (st := s_law) l_law c_law k_law, PySem.W.mg_of X G a_law, (fun_mk (st := s_law) l_law c_law k_law).binds (ps := ["_law_script"]) fun _ _ _ _ _ _ us hl => match us, hl with | [_], _ => rfl⟩
  refine ⟨PySem.W.fnOf "law" "law" (defArgs s_law) (defBody s_law) (defScope s_law) .none kV_law dc_law pm_law an_law cd_law ct_law, [(cS, PS)], [(PS, q_l_long_right)], inT1 OS, inT1 n_PS, inT1 d_PS, rfl, fun s v => .of_eq rfl, fun base _ _ TB => ?_⟩
  have TBS : TabB base mg cS PS := TB _ (List.mem_cons_self ..)
  obtain ⟨TT, hTT⟩ : ∃ TT : List (Addr × Str), TT = [(PS, q_l_long_right)] := ⟨_, rfl⟩
  rw [← hTT]
  have hmS : (PS, q_l_long_right) ∈ TT := by rw [hTT]; exact List.mem_cons_self ..
  have huS : ∀ p ∈ TT, p.1 = PS → p.2 = q_l_long_right := by rw [hTT]; exact inT1 (fun _ => rfl)
  have C_is_whole : Cal l.prog w K mg base "is_whole" ["value"] 1 (sp_is_whole K) := ok_is_whole T D_is_whole
  have C_cycle_of : Cal l.prog w K mg base "cycle_of" ["items"] 1 (sp_cycle_of K) := ok_cycle_of T D_cycle_of
  have C_value_of : Cal l.prog w K mg base "value_of" ["rule", "x"] 1 (sp_value_of K) := ok_value_of T D_value_of
  have C_values_to : Cal l.prog w K mg base "values_to" ["rule", "count"] 1 (sp_values_to K) := ok_values_to T D_values_to
  have C_first_place : Cal l.prog w K mg base "first_place" ["table", "low", "y"] 1 (sp_first_place K) := ok_first_place T D_first_place
  have C_begin_of : Cal l.prog w K mg base "begin_of" ["rule"] 1 (sp_begin_of K) := ok_begin_of T D_begin_of
  have C_rise_in : Cal l.prog w K mg base "rise_in" ["rule", "turn"] 1 (sp_rise_in K) := ok_rise_in T D_rise_in
  have C_l_deck : Cal l.prog w K mg base "_law_deck" ["_law_script"] 1 (sp_l_deck K) := ok_l_deck T D_l_deck
  have C_l_draw : Cal l.prog w K mg base "_law_draw" ["_law_deck_here", "_law_many"] 1 (sp_l_draw K) := ok_l_draw T D_l_draw
  have C_l_value : Cal l.prog w K mg base "_law_value" ["_law_rule", "_law_x"] 1 (sp_l_value K) := ok_l_value T D_l_value

  have C_is_amount : Cal l.prog w K mg base "is_amount" ["value"] 2 (sp_is_amount K) := ok_is_amount T D_is_amount C_is_whole
  have C_shortest : Cal l.prog w K mg base "shortest" ["table", "period", "rise"] 2 (sp_shortest K) := ok_shortest T D_shortest C_cycle_of
  have C_least_for : Cal l.prog w K mg base "least_for" ["rule", "y"] 2 (sp_least_for K) := ok_least_for T D_least_for C_first_place
  have C_common_turn : Cal l.prog w K mg base "common_turn" ["one", "other"] 2 (sp_common_turn K) := ok_common_turn T D_common_turn C_begin_of
  have C_l_drawn : Cal l.prog w K mg base "_law_drawn" ["_law_deck_here", "_law_upto"] 2 (sp_l_drawn K) := ok_l_drawn T D_l_drawn C_l_draw
  have C_l_fits : Cal l.prog w K mg base "_law_fits" ["_law_rule", "_law_few", "_law_period"] 2 (sp_l_fits K) := ok_l_fits T D_l_fits C_l_value
  have C_l_parted : Cal l.prog w K mg base "_law_parted" ["_law_one", "_law_other", "_law_x"] 2 (sp_l_parted K) := ok_l_parted T D_l_parted C_l_value
  have C_told_error : Cal l.prog w K mg base "told_error" ["table", "period", "rise"] 3 (sp_told_error K) := ok_told_error T D_told_error C_is_amount C_is_whole
  have X_check_told : CalX l.prog w K mg base "check_told" ["number"] 3 (sp_check_told cTooLong) := ok_check_told T XTooLong iTooLong D_check_told
  have C_last_above : Cal l.prog w K mg base "last_above" ["flat", "steep"] 3 (sp_last_above K) := ok_last_above T D_last_above C_rise_in C_values_to C_common_turn
  have C_split_with : Cal l.prog w K mg base "split_with" ["near", "bound", "far"] 3 (sp_split_with K) := ok_split_with T D_split_with C_shortest C_values_to
  have C_l_short : Cal l.prog w K mg base "_law_short" ["_law_rule"] 3 (sp_l_short K) := ok_l_short T D_l_short C_l_fits
  have C_rule_error : Cal l.prog w K mg base "rule_error" ["value"] 4 (sp_rule_error K) := ok_rule_error T D_rule_error C_shortest C_told_error
  have X_told : CalX l.prog w K mg base "told" ["table", "period", "rise"] 4 (sp_toldX cTooLong) := ok_told T D_told X_check_told C_shortest
  have C_told := ok_told0 X_told
  have C_sum_rule : Cal l.prog w K mg base "sum_rule" ["one", "other"] 5 (sp_sum_rule K) := ok_sum_rule T D_sum_rule C_told C_rise_in C_values_to C_common_turn
  have X_greater_values : CalX l.prog w K mg base "greater_values" ["one", "other", "count", "turn"] 5 (sp_greater cTooLong) := ok_greater_values T D_greater_values X_told C_rise_in C_values_to
  have X_then_rule : CalX l.prog w K mg base "then_rule" ["first", "second"] 5 (sp_then cTooLong) := ok_then_rule T D_then_rule C_begin_of C_least_for C_value_of C_values_to X_told
  have C_l_told := ok_l_told (P := l.prog) (w := w) (base := base) T R C_rule_error D_l_told
  have X_overtaking_rule : CalX l.prog w K mg base "overtaking_rule" ["steep", "flat"] 6 (sp_over cTooLong) := ok_overtaking_rule T D_overtaking_rule X_greater_values X_check_told C_last_above C_begin_of
  have X_best_rule : CalX l.prog w K mg base "best_rule" ["one", "other"] 7 (sp_best cTooLong) := ok_best_rule T D_best_rule X_overtaking_rule X_greater_values C_common_turn
  have X_split_rule : CalX l.prog w K mg base "split_rule" ["one", "other"] 8 (sp_split cTooLong) := ok_split_rule T D_split_rule X_best_rule C_split_with C_begin_of X_told C_common_turn
  have G_Rinit := ok_Rinit (P := l.prog) (w := w) (base := base) T R C_rule_error fun_Rule_init
  have G_Req := ok_Req (P := l.prog) (w := w) (base := base) T R fun_Rule_eq
  have G_Rca := ok_Rcall (P := l.prog) (w := w) (base := base) T R C_is_amount C_value_of fun_Rule_call
  have G_Rad := ok_Radd (P := l.prog) (w := w) (base := base) T R G_Rinit bin_Rule_init C_sum_rule fun_Rule_add
  have G_Ror := ok_Ror (P := l.prog) (w := w) (base := base) T R G_Rinit bin_Rule_init X_best_rule fun_Rule_or
  have G_Rsh := ok_Rsh (P := l.prog) (w := w) (base := base) T R G_Rinit bin_Rule_init X_then_rule fun_Rule_rshift
  have C_split0 := ok_split0 X_split_rule
  have G_Rxo := ok_Rxo (P := l.prog) (w := w) (base := base) T R G_Rinit bin_Rule_init C_split0 fun_Rule_xor
  have G_Ror0 := or0 G_Ror
  have G_Rsh0 := sh0 G_Rsh
  have C_l_joined := ok_l_joined (P := l.prog) (w := w) (base := base) T R fi_Rule_call G_Rinit bin_Rule_init G_Rca bin_Rule_call G_Rad bin_Rule_add G_Ror0 bin_Rule_or G_Rsh0 bin_Rule_rshift C_l_value D_l_joined
  have C_l_right := ok_l_right (P := l.prog) (w := w) (base := base) T R fi_Rule_call G_Rinit bin_Rule_init G_Req bin_Rule_eq G_Rca bin_Rule_call G_Rad bin_Rule_add G_Ror0 bin_Rule_or G_Rsh0 bin_Rule_rshift G_Rxo bin_Rule_xor C_l_told C_l_joined C_l_parted C_l_draw C_sum_rule (best0 X_best_rule) (then0 X_then_rule) C_split0 D_l_right
  have G_l_long_right := ok_l_long_right (P := l.prog) (w := w) (base := base) (TT := TT) T R XTooLong (PySem.W.mg_of X G a_ChangeError) k_TooLong_ChangeError (fun_mk (st := s_l_long_right) l_l_long_right c_l_long_right k_l_long_right) rfl TBS hmS huS G_Rinit bin_Rule_init G_Ror bin_Rule_or G_Rsh bin_Rule_rshift C_l_draw X_best_rule X_then_rule D_l_long
  have b_l_long_right := (fun_mk (st := s_l_long_right) l_l_long_right c_l_long_right k_l_long_right).binds (ps := ["_law_deck_here"]) fun _ _ _ _ _ _ us hl => match us, hl with | [_], _ => rfl
  exact ok_law (TT := TT) T (fun_mk (st := s_law) l_law c_law k_law) C_l_deck C_l_drawn C_l_short C_l_right G_l_long_right (PySem.W.mg_of X G a_l_long_right) k_l_long_right b_l_long_right

end Sm
open PySem PySem.W PyProof.Rows in
set_option maxRecDepth 100000 in
set_option maxHeartbeats 0 in
theorem PySem.Challenge.cw_smallchange_k72_whole_rules_joined_as_ob_holds : PySem.Challenge.rw_smallchange_k72_whole_rules_joined_as_ob.Holds := by
  w_on; o_law; k_head; (case hw => w_witness2)
  k_fill
  refine Sm.walk_at_lawTs (l := PySem.Challenge.rw_smallchange_k72_whole_rules_joined_as_ob) (k := 13) (x := "_law_script") (sp := Sm.sp_law) rfl rfl ⟨rfl, by decide, by decide⟩ (fun w h Y => PySem.W.km_in_of Y) ?F (fun _ _ _ a ns hl tb hS => ⟨a, ns, rfl, hS, hl, tb, fun _ => rfl⟩)
  case F =>
    intro w mg fa h KX G hmg own
    refine' Sm.all_mk KX G hmg own ?a_is_whole ?l_is_whole ?c_is_whole ?k_is_whole ?a_is_amount ?l_is_amount ?c_is_amount ?k_is_amount ?a_rule_error ?l_rule_error ?c_rule_error ?k_rule_error ?a_told_error ?l_told_error ?c_told_error ?k_told_error ?a_shortest ?l_shortest ?c_shortest ?k_shortest ?a_cycle_of ?l_cycle_of ?c_cycle_of ?k_cycle_of ?a_told ?l_told ?c_told ?k_told ?a_check_told ?l_check_told ?c_check_told ?k_check_told ?a_value_of ?l_value_of ?c_value_of ?k_value_of ?a_values_to ?l_values_to ?c_values_to ?k_values_to ?a_least_for ?l_least_for ?c_least_for ?k_least_for ?a_first_place ?l_first_place ?c_first_place ?k_first_place ?a_begin_of ?l_begin_of ?c_begin_of ?k_begin_of ?a_rise_in ?l_rise_in ?c_rise_in ?k_rise_in ?a_common_turn ?l_common_turn ?c_common_turn ?k_common_turn ?a_sum_rule ?l_sum_rule ?c_sum_rule ?k_sum_rule ?a_best_rule ?l_best_rule ?c_best_rule ?k_best_rule ?a_overtaking_rule ?l_overtaking_rule ?c_overtaking_rule ?k_overtaking_rule ?a_greater_values ?l_greater_values ?c_greater_values ?k_greater_values ?a_last_above ?l_last_above ?c_last_above ?k_last_above ?a_then_rule ?l_then_rule ?c_then_rule ?k_then_rule ?a_split_rule ?l_split_rule ?c_split_rule ?k_split_rule ?a_split_with ?l_split_with ?c_split_with ?k_split_with ?a_l_deck ?l_l_deck ?c_l_deck ?k_l_deck ?a_l_draw ?l_l_draw ?c_l_draw ?k_l_draw ?a_l_drawn ?l_l_drawn ?c_l_drawn ?k_l_drawn ?a_l_value ?l_l_value ?c_l_value ?k_l_value ?a_l_fits ?l_l_fits ?c_l_fits ?k_l_fits ?a_l_short ?l_l_short ?c_l_short ?k_l_short ?a_l_parted ?l_l_parted ?c_l_parted ?k_l_parted ?a_l_told ?l_l_told ?c_l_told ?k_l_told ?a_l_joined ?l_l_joined ?c_l_joined ?k_l_joined ?a_l_right ?l_l_right ?c_l_right ?k_l_right ?a_l_long ?l_l_long ?c_l_long ?k_l_long ?a_l_long_right ?l_l_long_right ?c_l_long_right ?k_l_long_right ?a_law ?l_law ?c_law ?k_law ?a_ChangeError ?e_ChangeError ?h_ChangeError ?t_ChangeError ?i_ChangeError ?g_cl ?t_cl ?a_TooLong ?x_TooLong ?fsa_TooLong ?fga_TooLong ?fgg_TooLong ?fno_TooLong ?fiC_TooLong ?fcl_TooLong ?tf_TooLong ?t_TooLong ?k_TooLong ?e_TooLong ?s_TooLong ?h_TooLong ?m_TooLong ?lf_TooLong ?cf_TooLong ?kf_TooLong ?isub_TooLong_ChangeError ?a_Rule ?pg_Rule ?hd_Rule ?po_Rule ?sa_Rule ?mk_Rule ?kp_Rule ?ha_Rule ?hm_Rule ?na_Rule_value ?na_Rule_table ?na_Rule_period ?na_Rule_rise ?at_Rule_init ?fn_Rule_init ?kf_Rule_init ?lf_Rule_init ?cf_Rule_init ?at_Rule_eq ?fn_Rule_eq ?kf_Rule_eq ?lf_Rule_eq ?cf_Rule_eq ?at_Rule_call ?fn_Rule_call ?kf_Rule_call ?lf_Rule_call ?cf_Rule_call ?at_Rule_add ?fn_Rule_add ?kf_Rule_add ?lf_Rule_add ?cf_Rule_add ?at_Rule_or ?fn_Rule_or ?kf_Rule_or ?lf_Rule_or ?cf_Rule_or ?at_Rule_rshift ?fn_Rule_rshift ?kf_Rule_rshift ?lf_Rule_rshift ?cf_Rule_rshift ?at_Rule_xor ?fn_Rule_xor ?kf_Rule_xor ?lf_Rule_xor ?cf_Rule_xor ?first_Rule ?fi_Rule_call ?l_cS ?e_PS ?d_PS ?n_PS ?r_S ?z__law_call ?z_abs ?z_all ?z_any ?z_bool ?z_cls ?z_int ?z_isinstance ?z_iter ?z_len ?z_list ?z_max ?z_range ?z_tuple ?g_gcd ?g_lcm ?g_MAX_TOLD
    (case a_is_whole => k_is)
    (case l_is_whole => k_is)
    (case c_is_whole => k_is)
    (case k_is_whole => k_is)
    (case a_is_amount => k_is)
    (case l_is_amount => k_is)
    (case c_is_amount => k_is)
    (case k_is_amount => k_is)
    (case a_rule_error => k_is)
    (case l_rule_error => k_is)
    (case c_rule_error => k_is)
    (case k_rule_error => k_is)
    (case a_told_error => k_is)
    (case l_told_error => k_is)
    (case c_told_error => k_is)
    (case k_told_error => k_is)
    (case a_shortest => k_is)
    (case l_shortest => k_is)
    (case c_shortest => k_is)
    (case k_shortest => k_is)
    (case a_cycle_of => k_is)
    (case l_cycle_of => k_is)
    (case c_cycle_of => k_is)
    (case k_cycle_of => k_is)
    (case a_told => k_is)
    (case l_told => k_is)
    (case c_told => k_is)
    (case k_told => k_is)
    (case a_check_told => k_is)
    (case l_check_told => k_is)
    (case c_check_told => k_is)
    (case k_check_told => k_is)
    (case a_value_of => k_is)
    (case l_value_of => k_is)
    (case c_value_of => k_is)
    (case k_value_of => k_is)
    (case a_values_to => k_is)
    (case l_values_to => k_is)
    (case c_values_to => k_is)
    (case k_values_to => k_is)
    (case a_least_for => k_is)
    (case l_least_for => k_is)
    (case c_least_for => k_is)
    (case k_least_for => k_is)
    (case a_first_place => k_is)
    (case l_first_place => k_is)
    (case c_first_place => k_is)
    (case k_first_place => k_is)
    (case a_begin_of => k_is)
    (case l_begin_of => k_is)
    (case c_begin_of => k_is)
    (case k_begin_of => k_is)
    (case a_rise_in => k_is)
    (case l_rise_in => k_is)
    (case c_rise_in => k_is)
    (case k_rise_in => k_is)
    (case a_common_turn => k_is)
    (case l_common_turn => k_is)
    (case c_common_turn => k_is)
    (case k_common_turn => k_is)
    (case a_sum_rule => k_is)
    (case l_sum_rule => k_is)
    (case c_sum_rule => k_is)
    (case k_sum_rule => k_is)
    (case a_best_rule => k_is)
    (case l_best_rule => k_is)
    (case c_best_rule => k_is)
    (case k_best_rule => k_is)
    (case a_overtaking_rule => k_is)
    (case l_overtaking_rule => k_is)
    (case c_overtaking_rule => k_is)
    (case k_overtaking_rule => k_is)
    (case a_greater_values => k_is)
    (case l_greater_values => k_is)
    (case c_greater_values => k_is)
    (case k_greater_values => k_is)
    (case a_last_above => k_is)
    (case l_last_above => k_is)
    (case c_last_above => k_is)
    (case k_last_above => k_is)
    (case a_then_rule => k_is)
    (case l_then_rule => k_is)
    (case c_then_rule => k_is)
    (case k_then_rule => k_is)
    (case a_split_rule => k_is)
    (case l_split_rule => k_is)
    (case c_split_rule => k_is)
    (case k_split_rule => k_is)
    (case a_split_with => k_is)
    (case l_split_with => k_is)
    (case c_split_with => k_is)
    (case k_split_with => k_is)
    (case a_l_deck => k_is)
    (case l_l_deck => k_is)
    (case c_l_deck => k_is)
    (case k_l_deck => k_is)
    (case a_l_draw => k_is)
    (case l_l_draw => k_is)
    (case c_l_draw => k_is)
    (case k_l_draw => k_is)
    (case a_l_drawn => k_is)
    (case l_l_drawn => k_is)
    (case c_l_drawn => k_is)
    (case k_l_drawn => k_is)
    (case a_l_value => k_is)
    (case l_l_value => k_is)
    (case c_l_value => k_is)
    (case k_l_value => k_is)
    (case a_l_fits => k_is)
    (case l_l_fits => k_is)
    (case c_l_fits => k_is)
    (case k_l_fits => k_is)
    (case a_l_short => k_is)
    (case l_l_short => k_is)
    (case c_l_short => k_is)
    (case k_l_short => k_is)
    (case a_l_parted => k_is)
    (case l_l_parted => k_is)
    (case c_l_parted => k_is)
    (case k_l_parted => k_is)
    (case a_l_told => k_is)
    (case l_l_told => k_is)
    (case c_l_told => k_is)
    (case k_l_told => k_is)
    (case a_l_joined => k_is)
    (case l_l_joined => k_is)
    (case c_l_joined => k_is)
    (case k_l_joined => k_is)
    (case a_l_right => k_is)
    (case l_l_right => k_is)
    (case c_l_right => k_is)
    (case k_l_right => k_is)
    (case a_l_long => k_is)
    (case l_l_long => k_is)
    (case c_l_long => k_is)
    (case k_l_long => k_is)
    (case a_l_long_right => k_is)
    (case l_l_long_right => k_is)
    (case c_l_long_right => k_is)
    (case k_l_long_right => k_is)
    (case a_law => k_is)
    (case l_law => k_is)
    (case c_law => k_is)
    (case k_law => k_is)
    (case a_ChangeError => first | k_is | rfl | decide +kernel)
    (case e_ChangeError => first | k_is | rfl | decide +kernel)
    (case h_ChangeError => first | k_is | rfl | decide +kernel)
    (case t_ChangeError => first | k_is | rfl | decide +kernel)
    (case i_ChangeError => first | k_is | rfl | decide +kernel)
    (case g_cl => first | k_is | rfl | decide +kernel)
    (case t_cl => first | k_is | rfl | decide +kernel)
    (case a_TooLong => first | k_is | rfl | decide +kernel)
    (case x_TooLong => first | k_is | rfl | decide +kernel)
    (case fsa_TooLong => first | k_is | rfl | decide +kernel)
    (case fga_TooLong => first | k_is | rfl | decide +kernel)
    (case fgg_TooLong => first | k_is | rfl | decide +kernel)
    (case fno_TooLong => first | k_is | rfl | decide +kernel)
    (case fiC_TooLong => first | k_is | rfl | decide +kernel)
    (case fcl_TooLong => first | k_is | rfl | decide +kernel)
    (case tf_TooLong => first | k_is | rfl | decide +kernel)
    (case t_TooLong => first | k_is | rfl | decide +kernel)
    (case k_TooLong => first | k_is | rfl | decide +kernel)
    (case e_TooLong => first | k_is | rfl | decide +kernel)
    (case s_TooLong => first | k_is | rfl | decide +kernel)
    (case h_TooLong => first | k_is | rfl | decide +kernel)
    (case m_TooLong => first | k_is | rfl | decide +kernel)
    (case lf_TooLong => first | k_is | rfl | decide +kernel)
    (case cf_TooLong => first | k_is | rfl | decide +kernel)
    (case kf_TooLong => first | k_is | rfl | decide +kernel)
    (case isub_TooLong_ChangeError => first | k_is | rfl | decide +kernel)
    (case a_Rule => first | k_is | rfl | decide +kernel)
    (case pg_Rule => first | k_is | rfl | decide +kernel)
    (case hd_Rule => first | k_is | rfl | decide +kernel)
    (case po_Rule => first | k_is | rfl | decide +kernel)
    (case sa_Rule => first | k_is | rfl | decide +kernel)
    (case mk_Rule => first | k_is | rfl | decide +kernel)
    (case kp_Rule => first | k_is | rfl | decide +kernel)
    (case ha_Rule => first | k_is | rfl | decide +kernel)
    (case hm_Rule => first | k_is | rfl | decide +kernel)
    (case na_Rule_value => first | k_is | rfl | decide +kernel)
    (case na_Rule_table => first | k_is | rfl | decide +kernel)
    (case na_Rule_period => first | k_is | rfl | decide +kernel)
    (case na_Rule_rise => first | k_is | rfl | decide +kernel)
    (case at_Rule_init => first | k_is | rfl | decide +kernel)
    (case fn_Rule_init => first | k_is | rfl | decide +kernel)
    (case kf_Rule_init => first | k_is | rfl | decide +kernel)
    (case lf_Rule_init => first | k_is | rfl | decide +kernel)
    (case cf_Rule_init => first | k_is | rfl | decide +kernel)
    (case at_Rule_eq => first | k_is | rfl | decide +kernel)
    (case fn_Rule_eq => first | k_is | rfl | decide +kernel)
    (case kf_Rule_eq => first | k_is | rfl | decide +kernel)
    (case lf_Rule_eq => first | k_is | rfl | decide +kernel)
    (case cf_Rule_eq => first | k_is | rfl | decide +kernel)
    (case at_Rule_call => first | k_is | rfl | decide +kernel)
    (case fn_Rule_call => first | k_is | rfl | decide +kernel)
    (case kf_Rule_call => first | k_is | rfl | decide +kernel)
    (case lf_Rule_call => first | k_is | rfl | decide +kernel)
    (case cf_Rule_call => first | k_is | rfl | decide +kernel)
    (case at_Rule_add => first | k_is | rfl | decide +kernel)
    (case fn_Rule_add => first | k_is | rfl | decide +kernel)
    (case kf_Rule_add => first | k_is | rfl | decide +kernel)
    (case lf_Rule_add => first | k_is | rfl | decide +kernel)
    (case cf_Rule_add => first | k_is | rfl | decide +kernel)
    (case at_Rule_or => first | k_is | rfl | decide +kernel)
    (case fn_Rule_or => first | k_is | rfl | decide +kernel)
    (case kf_Rule_or => first | k_is | rfl | decide +kernel)
    (case lf_Rule_or => first | k_is | rfl | decide +kernel)
    (case cf_Rule_or => first | k_is | rfl | decide +kernel)
    (case at_Rule_rshift => first | k_is | rfl | decide +kernel)
    (case fn_Rule_rshift => first | k_is | rfl | decide +kernel)
    (case kf_Rule_rshift => first | k_is | rfl | decide +kernel)
    (case lf_Rule_rshift => first | k_is | rfl | decide +kernel)
    (case cf_Rule_rshift => first | k_is | rfl | decide +kernel)
    (case at_Rule_xor => first | k_is | rfl | decide +kernel)
    (case fn_Rule_xor => first | k_is | rfl | decide +kernel)
    (case kf_Rule_xor => first | k_is | rfl | decide +kernel)
    (case lf_Rule_xor => first | k_is | rfl | decide +kernel)
    (case cf_Rule_xor => first | k_is | rfl | decide +kernel)
    (case first_Rule => first | k_is | rfl | decide +kernel)
    (case fi_Rule_call => first | k_is | rfl | decide +kernel)
    (case l_cS => first | k_is | rfl | decide +kernel)
    (case e_PS => first | k_is | rfl | decide +kernel)
    (case d_PS => first | k_is | rfl | decide +kernel)
    (case n_PS => first | k_is | rfl | decide +kernel)
    (case r_S => decide +kernel)
    (case z__law_call => k_is)
    (case z_abs => k_is)
    (case z_all => k_is)
    (case z_any => k_is)
    (case z_bool => k_is)
    (case z_cls => k_is)
    (case z_int => k_is)
    (case z_isinstance => k_is)
    (case z_iter => k_is)
    (case z_len => k_is)
    (case z_list => k_is)
    (case z_max => k_is)
    (case z_range => k_is)
    (case z_tuple => k_is)
    (case g_gcd => k_is)
    (case g_lcm => k_is)
    (case g_MAX_TOLD => k_is)

import PyProof.Rows.All
import Wide.All
import OpenK.AllK
import Wide.FinOn
import HandS.ForMost
import HandS.Wide
import HandS.Codes
import PyProof.ReprRoads
import HandS.Conv
import HandS.IsInst
import HandS.Style
import HandS.TupAny
import HandS.ForExc
import HandS.ExcIs
import HandS.ExcInit
import HandS.ExcField
import HandS.ExcOwn
import KE.KExcIs
import HandS.TupMul
import HandS.Lambda
import HandS.EndOwn
import HandS.Gcd
import KE.KMathGC
import PySem.Challenge.RW_smallchange_k08_rules_one_behind_another
set_option Elab.async false
set_option linter.all false
set_option maxRecDepth 100000
set_option maxHeartbeats 4000000
namespace Sm
open PySem PySem.Spec PyProof.Rows L2
/-! ### promises of defs where no repr is under way: as FnOk, with A's guards empty -/
structure FnG (P : Program) (w : World) (K : PySem.W.Frag) (mg : Str → Option Value) (base : Heap) (k : Nat) (f : Addr) (fd : FuncData) (ps : List Str) (sp : Sp) : Prop where
  len : ∀ vs H Q E, sp vs H Q E → vs.length = ps.length
  run : ∀ (A : Around) (outer : List Env) (s : Shared) (H : Hp) (args : Args) (us : List Value) (vs : List V) (Q : VK) (E : XK), A.guards = some [] → Room k A →
    Env0 P w K mg base A outer s H → BindsTo s fd args (ps.zip us) → Vals vs us → sp vs H Q E → codeAny (model P w) A (.call (.ref f) args) (CR CX0 outer P w H s Q E) s
section
variable {P : Program} {w : World} {K : PySem.W.Frag} {mg : Str → Option Value} {base : Heap} {k : Nat} {f : Addr} {fd : FuncData} {ps : List Str} {sp : Sp}
theorem FnG.of (F : FnOk P w K mg base CX0 k f fd ps sp) : FnG P w K mg base k f fd ps sp :=
  ⟨F.len, fun A outer s H args us vs Q E _ hr e b v h => F.run A outer s H args us vs Q E hr e b v h⟩
theorem FnG.body {x : Str} {st : Stmt} {N : List Str} (F : Fun K x x st f fd) (S : FnScope N ps (defScope st)) (len : ∀ vs H Q E, sp vs H Q E → vs.length = ps.length)
    (hb : ∀ (cdv : Value) (A : Around) (outer : List Env) (s : Shared) (H : Hp) (vs : List V) (Q : VK) (E : XK), A.guards = some [] → Room k (A.deeper (envOfC x (defScope st) s.heap.objs.size f cdv)) → sp vs H Q E →
      ∃ t, PSs (cxOf CX0 P w K mg base N x (defScope st) f cdv A outer s H E).nox (defBody st) t ∧ t { nx := fun _ H' => Q .non H', rt := Q } (start N vs) H) : FnG P w K mg base (k + 1) f fd ps sp := by
  obtain ⟨oc, od, kV, doc, pm, an, cdv, ct, osl, efd, look, code⟩ := F.ex
  subst efd
  constructor
  · exact len
  intro A outer s H args us vs Q E guard room e0 bind rel want
  have inn : K.In s.heap := e0.mod.kin.keeps fun b o e => (e0.bs b o e).1
  have nolim : s.heap.NoLimit := e0.mod.nolimit.keeps fun b o e => (e0.bs b o e).1
  refine codeAny_call_function room.depth (inn _ _ look) rfl S.co S.gen rfl (PySem.W.codeRec_of inn code) (bind _ _ _ _ ?_)
  refine wpAny_newFunctionEnv_cells S.kind ?_ ?_
  · rintro ⟨n, v⟩ there
    have := S.par n (List.of_mem_zip there).1
    cases this with
    | inl q => exact .inl q
    | inr q => exact .inr ⟨q, PySem.W.cellsFrom_some _ _ _ (.inl q)⟩
  · intro env eenv s1 laid
    subst eenv
    refine ⟨nolim.keeps laid.toInCall.keep, codeAny_func ?_⟩
    obtain ⟨t, der, goal⟩ := hb cdv A outer s H vs Q E guard (room.deeper _) want
    have I := inv_start (CX := CX0) (E := E) S room.hd e0 (len _ _ _ _ want) rel laid
    refine wpAny_mono (der.nox.run [] s1 (start N vs) H _ I goal) (fun out s' got => ?_) fun e s' got => got
    match out, got with
    | .ret u, ⟨v, σ', H', J, rv, q⟩ => exact ⟨v, H', J.os, J.bare, J.base, J.hok, rv, q⟩
    | .next, ⟨σ', H', J, q⟩ => exact ⟨V.non, H', J.os, J.bare, J.base, J.hok, rfl, q⟩
    | .brk, ⟨_, _, _, q⟩ => exact q.elim
    | .cont, ⟨_, _, _, q⟩ => exact q.elim
end
section
variable {X : Cx} {k : Nat} {f : Addr} {fd : FuncData} {ps : List Str} {sp : Sp} {x : Str} {p pos : Pos} {e : Expr} {es : List Expr} {t : TA}
theorem pe_callG (F : FnG X.prog X.w X.K X.mg X.base k f fd ps sp) (gu : X.A.guards = some []) (hr : Room k X.A) (hg : Gl X x) (hm : X.mg x = some (.ref f)) (hk : PySem.W.keepIn X.K (.ref f) = true) (hb : Binds X.K fd ps [])
    (ha : PA X (e :: es) t) (hdb : (x == ("__debug__" : Str)) = false := by decide) (he : starEach (e :: es) X.env = (false, eval e X.env) :: starEach es X.env := by rfl) (hpl : (backTo pos (starEach es X.env)).any (·.1) = false := by rfl) :
    PE X (.Call (.Name x p) (e :: es) [] pos) (tCall sp [] E0 t) := by
  constructor
  intro pins s σ H Q I want
  refine wpAny_Call_Name_kw (ld_glob I hg hm ?_ hdb)
  refine PySem.W.callWith_K (h₀ := X.base) I.ok.mod.kin hk (thn (ha.run pos pins s σ H _ I want) ?_) he hpl
  rintro us s1 ⟨vs, H1, I1, rel, q⟩
  refine ⟨I1.kIn, ?_⟩
  have q : sp vs H1 Q E0 := by
    have q : sp (vs ++ []) H1 Q E0 := q
    rw [List.append_nil] at q
    exact q
  have b := hb s1 us I1.kIn (by rw [List.append_nil, ← rel.length]; exact F.len _ _ _ _ q)
  rw [List.append_nil] at b
  refine wpAny_call (codeAny_mono (F.run X.A X.stack s1 H1 ⟨us, []⟩ us vs Q E0 gu hr I1.env0 b rel q) ?_)
  rintro (e | out) s' got
  · exact got.elim
  · match out, got with
    | .ret u, got => exact I1.after got
    | .next, got => exact got.elim
    | .brk, got => exact got.elim
    | .cont, got => exact got.elim
/-- repr of data at any depth -/
theorem call_repr_data (gu : X.A.guards = some []) (room : ∃ k, Room k X.A) : CallR X (.builtin "repr") (fun xs H Q => ∃ a d, xs = [.ref a] ∧ Dp X.K H (.ref a) d ∧ PyData.showable d = true ∧ PyData.hasDict d = false ∧ d.depth ≤ 60 ∧ d.shown.length ≤ sizeLine ∧ Q (.str d.shown) H) := by
  intro pins s σ H xs us Q I rel want
  obtain ⟨a, d, rfl, data, sh, nd, dep, len, q⟩ := want
  obtain ⟨u, rfl, ru⟩ := vals1 rel
  obtain ⟨as, reads⟩ := Dp.reads I d _ u data ru
  cases ru
  obtain ⟨k, room⟩ := room
  have un := room.un
  exact repr_of_reads' reads sh (PyData.noDict_hsm nd) gu (by omega) (fun _ _ e => e) (fun h' v tk keep => ⟨.str d.shown, H, I.kept keep, ⟨_, rfl⟩, q⟩) len
end
/-! ### the law's own call, at the caller's place -/
theorem law_at {P : Program} {w : World} {K : PySem.W.Frag} {mg mb : Str → Option Value} {k : Nat} {fa a : Addr} {fd : FuncData} {x : Str} {sp : Sp} {s₁ : Shared} {vs : List Value} {ns : List Int}
    (KX : K.In s₁.heap) (hns : s₁.heap.Ns mainGlobals mg) (hb : s₁.heap.Ns builtinsNs mb) (hbb : ∀ x : Str, x ≠ "__name__" → mb x = bootBuiltins x) (hlim : s₁.heap.NoLimit) (hg : s₁.gens = #[])
    (ha : s₁.heap.get? a = some { cls := .type "list", data := .seq vs.toArray }) (hi : IntsAre vs ns) (hl : ns.length ≤ sizeLine) (hr : Room k callerA)
    (F : ∀ base : Heap, K.In base → base.Ns mainGlobals mg → FnG P w K mg base k fa fd [x] sp) (hbind : ∀ (s : Shared) (u : Value), BindsTo s fd ⟨[u], []⟩ [(x, u)])
    (hsp : ∀ H : Hp, SqL K H a (ns.map V.int) → sp [.ref a] H (fun v _ => v = .bl true) E0) :
    codeAny (model P w) callerA (.call (.ref fa) ⟨[.ref a], []⟩) (fun r s' => r = .ok (.ret (.bool true)) ∧ OldK s₁.heap s'.heap ∧ s'.os = s₁.os ∧ AllBare s'.gens) s₁ := by
  have ivs := vals_ints hi
  -- what is tracked: the script, if the module does not hold it itself
  obtain ⟨H, seq, ok, only, free⟩ : ∃ H : Hp, SqL K H a (ns.map V.int) ∧ HOk P w H s₁.heap ∧ (∀ b u, H b = some u → b = a ∧ u = .frz { cls := .type "list", data := .seq vs.toArray } (.lst (ns.map V.int))) ∧ ∀ b u, H b = some u → K.lookup b = none := by
    cases look : K.lookup a with
    | some o =>
      have same := KX a o look
      rw [ha] at same
      injection same with same
      subst same
      have empty : ∀ {u : HO}, (none : Option HO) = some u → False := fun z => nomatch z
      refine ⟨fun _ => none, .inr ⟨_, vs.toArray, _, look, rfl, rfl, rfl, ?_, ?_⟩, fun b u z => (empty z).elim, fun b u z => (empty z).elim, fun b u z => (empty z).elim⟩
      · rw [List.size_toArray, hi.length]
        exact hl
      · simpa using ivs
    | none =>
      have at_a : ∀ b u, (fun b => if b = a then some (HO.frz { cls := .type "list", data := .seq vs.toArray } (.lst (ns.map V.int))) else none : Hp) b = some u → b = a ∧ u = .frz { cls := .type "list", data := .seq vs.toArray } (.lst (ns.map V.int)) := by
        intro b u z
        by_cases e : b = a
        · have z := (if_pos e).symm.trans z
          exact ⟨e, (Option.some.inj z).symm⟩
        · exact nomatch (if_neg e).symm.trans z
      refine ⟨_, .inl (.inr ⟨_, if_pos rfl⟩), fun b u z => ?_, at_a, fun b u z => ?_⟩
      · obtain ⟨rfl, rfl⟩ := at_a b u z
        exact ⟨ha, by rw [List.length_map]; exact hl, vs, _, ivs, ha⟩
      · rw [(at_a b u z).1]
        exact look
  have stays : ∀ {b : Addr} {o : Obj}, s₁.heap.get? b = some o → (∀ u, H b ≠ some u) → (hidT s₁.heap H).get? b = some o := fun {b o} e no => hidT_get e (by
    cases z : H b with
    | none => rfl
    | some u => exact (no u z).elim)
  have spaces : ∀ {b : Addr} {m : Str → Option Value}, s₁.heap.Ns b m → (hidT s₁.heap H).Ns b m := by
    rintro b m ⟨o, es, ep, there, data, rest⟩
    refine ⟨o, es, ep, stays there fun u z => ?_, data, rest⟩
    rw [(only b u z).1, ha] at there
    injection there with there
    subst there
    exact nomatch data
  have inn : K.In (hidT s₁.heap H) := fun b o e => stays (KX b o e) fun u z => by
    rw [free b u z] at e
    exact nomatch e
  have mod : Mod K mg (hidT s₁.heap H) := by
    obtain ⟨mc, c1, c2⟩ := hlim
    exact ⟨inn, spaces hns, ⟨mb, spaces hb, hbb⟩, mc, spaces c1, c2⟩
  have e0 : Env0 P w K mg (hidT s₁.heap H) callerA [] s₁ H := by
    refine ⟨rfl, mod, fun b o e => of_hidT e, Nat.le_of_eq (hidT_size _ _), trivial, ?_, ok, .of_eq hg⟩
    intro b q
    exact absurd q (List.not_mem_nil (a := b))
  refine codeAny_mono ((F _ inn (spaces hns)).run callerA [] s₁ H ⟨[.ref a], []⟩ [.ref a] [.ref a] _ _ rfl hr e0 (hbind s₁ (.ref a)) (.cons rfl .nil) (hsp H seq)) ?_
  rintro (e | out) s' got
  · exact got.elim
  · match out, got with
    | .next, got => exact got.elim
    | .brk, got => exact got.elim
    | .cont, got => exact got.elim
    | .ret u, ⟨v, H', os, bare, un, ok', rel, q⟩ =>
      have q : v = V.bl true := q
      subst q
      have rel : u = Value.bool true := rel
      subst rel
      refine ⟨rfl, .of_keep fun b o e => ?_, os, bare⟩
      cases z : H b with
      | none => exact un.keep b o e z (List.not_mem_nil (a := b)) (List.not_mem_nil (a := b))
      | some u =>
        obtain ⟨rfl, rfl⟩ := only b u z
        have now := (ok' _ _ (un.frzs _ _ _ z)).1
        rw [ha] at e
        injection e with e
        rw [← e]
        exact now
theorem walk_at_law {l : PySem.W.OpenLaw} {k : Nat} {q : Program} {loose : List Str} {XP : (Str → Option Value) → Heap → Prop} {YP : World → Heap → Prop} {d : DefRec} {K : Params → PySem.W.Frag} {sp : PySem.W.Frag → Sp} {x : Str}
    (hn : l.most = some 63) (hdf : d.params.defaults = []) (hr : Room k callerA) (hY : ∀ (w : World) (h : Heap), YP w h → (K w.params).In h)
    (F : ∀ (w : World) (mg : Str → Option Value) (fa : Addr) (h : Heap), (K w.params).In h → h.Ns mainGlobals mg → mg d.name = some (.ref fa) →
      ∃ fd : FuncData, (∀ (s : Shared) (u : Value), BindsTo s fd ⟨[u], []⟩ [(x, u)]) ∧ ∀ base : Heap, (K w.params).In base → base.Ns mainGlobals mg → FnG l.prog w (K w.params) mg base k fa fd [x] (sp (K w.params)))
    (hsp : ∀ (K : PySem.W.Frag) (H : Hp) (a : Addr) (ns : List Int), ns.length ≤ 63 → SqL K H a (ns.map V.int) → sp K [.ref a] H (fun v _ => v = .bl true) E0) :
    PySem.W.WalkO q loose XP YP l.row.toRowW d [] (fun f vs => PySem.call f vs) := by
  refine Att.attach_call hn hdf ?_
  intro w s₀ s₁ mg mb fa o pm cd doc a vs ns G Y ho hd hcd hmg hobj hints hlen hg
  obtain ⟨fd, bind, each⟩ := F w mg fa _ (hY w _ Y) G.T.g hmg
  exact law_at (hY w _ Y) G.T.g G.T.b G.T.builtins G.T.nolimit hg hobj hints (Nat.le_trans hlen (by decide)) hr each bind fun H sq => hsp (K w.params) H a ns hlen sq
end Sm

set_option Elab.async false
set_option linter.all false
set_option maxRecDepth 100000
set_option maxHeartbeats 4000000
namespace Sm
open PySem PySem.Spec PyProof.Rows L2
section
variable {P : Program} {w : World} {K : PySem.W.Frag} {mg : Str → Option Value} {base : Heap}
def Df (K : PySem.W.Frag) (mg : Str → Option Value) (x : Str) (st : Stmt) (ps : List Str) : Prop :=
  ∃ (f : Addr) (fd : FuncData), Fun K x x st f fd ∧ mg x = some (.ref f) ∧ Binds K fd ps []
def Cal (P : Program) (w : World) (K : PySem.W.Frag) (mg : Str → Option Value) (base : Heap) (x : Str) (ps : List Str) (k : Nat) (sp : Sp) : Prop :=
  ∃ (f : Addr) (fd : FuncData), FnOk P w K mg base CX0 k f fd ps sp ∧ mg x = some (.ref f) ∧ PySem.W.keepIn K (.ref f) = true ∧ Binds K fd ps []
theorem Df.cal {x : Str} {st : Stmt} {N ps : List Str} {k : Nat} {sp : Sp} (D : Df K mg x st ps) (S : FnScope N ps (defScope st)) (len : ∀ vs H Q E, sp vs H Q E → vs.length = ps.length)
    (hbody : ∀ (f : Addr) (cdv : Value) (A : Around) (outer : List Env) (s : Shared) (H : Hp) (vs : List V) (Q : VK) (E : XK), Room k (A.deeper (envOfC x (defScope st) s.heap.objs.size f cdv)) → sp vs H Q E →
      ∃ t, PSs (cxOf CX0 P w K mg base N x (defScope st) f cdv A outer s H E).nox (defBody st) t ∧ t { nx := fun _ H' => Q .non H', rt := Q } (start N vs) H) : Cal P w K mg base x ps (k + 1) sp := by
  obtain ⟨f, fd, F, m, b⟩ := D
  exact ⟨f, fd, F.ok S len (fun cdv A outer s H vs Q E hr h => hbody f cdv A outer s H vs Q E hr h), m, F.kp, b⟩
theorem same_upd {H : Hp} {p : Addr} {o : HO} (h : H p = none) : Same H (upd H p o) := fun b x e => by
  rw [upd_ne (ne_of_none e h)]
  exact e
theorem iteP {p A B : Prop} [Decidable p] (h : p) (a : A) : if decide p = true then A else B := by
  rw [decide_eq_true h]
  exact iteT a
theorem iteN {p A B : Prop} [Decidable p] (h : ¬ p) (b : B) : if decide p = true then A else B := by
  rw [decide_eq_false h]
  exact iteF b
theorem iteNP {p A B : Prop} [Decidable p] (h : p) (b : B) : if (!decide p) = true then A else B := by
  rw [decide_eq_true h]
  exact iteF b
theorem iteNN {p A B : Prop} [Decidable p] (h : ¬ p) (a : A) : if (!decide p) = true then A else B := by
  rw [decide_eq_false h]
  exact iteT a
theorem ite3 {p A B : Prop} [Decidable p] (h1 : p → A) (h2 : ¬ p → B) : if decide p = true then A else B := by
  by_cases h : p
  · exact iteP h (h1 h)
  · exact iteN h (h2 h)
theorem fmod_pos {a b : Int} (h : 0 < b) : a.fmod b = a % b := Int.fmod_eq_emod_of_nonneg a (by omega)
end
/-! ### the deck -/
structure Deck (H : Hp) (p l : Addr) (n : Int) : Prop where
  hp : H p = some (.lst [.ref l, .int n])
  hl : ∃ cells : List Int, H l = some (.lst (cells.map V.int)) ∧ (∀ c ∈ cells, 0 ≤ c) ∧ cells.length ≤ 63
theorem deck_ne {l : Addr} {n : Int} {cells : List Int} : HO.lst [.ref l, .int n] ≠ HO.lst (cells.map V.int) := by
  intro q
  injection q with q
  cases cells with
  | nil => cases q
  | cons c r => cases (List.cons.inj q).1
/-- all but the deck is as it was -/
def Fr (p l : Addr) (H H' : Hp) : Prop := ∀ b o, b ≠ p → b ≠ l → H b = some o → H' b = some o
theorem Fr.trans {p l : Addr} {H H1 H2 : Hp} (a : Fr p l H H1) (b : Fr p l H1 H2) : Fr p l H H2 := fun c o h1 h2 h => b c o h1 h2 (a c o h1 h2 h)
theorem Same.fr {p l : Addr} {H H' : Hp} (s : Same H H') : Fr p l H H' := fun b o _ _ h => s b o h
theorem Deck.same {H H' : Hp} {p l : Addr} {n : Int} (D : Deck H p l n) (s : Same H H') : Deck H' p l n := by
  obtain ⟨cells, hl, hc⟩ := D.hl
  exact ⟨s _ _ D.hp, cells, s _ _ hl, hc⟩
theorem Fr.tup {H H' : Hp} {p l b : Addr} {n : Int} {xs : List V} (f : Fr p l H H') (D : Deck H p l n) (h : H b = some (.tup xs)) : H' b = some (.tup xs) := by
  obtain ⟨cells, hl, hc⟩ := D.hl
  exact f b _ (ne_of h D.hp (by intro q; cases q)) (ne_of h hl (by intro q; cases q)) h
def sp_l_deck (K : PySem.W.Frag) : Sp := fun vs H Q _ => ∃ (a : Addr) (ns : List Int), vs = [.ref a] ∧ SqL K H a (ns.map V.int) ∧ ns.length ≤ 63 ∧ ∀ H' p l, Same H H' → Deck H' p l 0 → Q (.ref p) H'
def sp_l_draw (K : PySem.W.Frag) : Sp := fun vs H Q _ => ∃ (p l : Addr) (n m : Int), vs = [.ref p, .int m] ∧ Deck H p l n ∧ 0 ≤ n ∧ n ≤ 1000000 ∧ 0 < m ∧ m ≤ 1000000000000000000000000000000000000000000000000000000000000 ∧
  ∀ r H', 0 ≤ r → r < m → Fr p l H H' → Deck H' p l (n + 1) → Q (.int r) H'
def sp_l_one (K : PySem.W.Frag) : Sp := fun vs H Q _ => ∃ (p l b : Addr) (n : Int) (xs : List V), vs = [.ref p, .ref b] ∧ Deck H p l n ∧ 0 ≤ n ∧ n ≤ 1000000 ∧ H b = some (.lst xs) ∧ b ≠ p ∧ b ≠ l ∧ 0 < xs.length ∧ xs.length ≤ 1000 ∧
  ∀ x H', x ∈ xs → Fr p l H H' → Deck H' p l (n + 1) → Q x H'
theorem cut63 {ns : List Int} (h : ns.length ≤ 63) : cutV (ns.map V.int) none (some 63) = ns.map V.int := by
  unfold cutV
  rw [HT.sIx_none, show HT.sIx (ns.map V.int).length (ns.map V.int).length (some 63) = min 63 (ns.map V.int).length from HT.sIx_nat _ _ 63]
  rw [List.length_map, Nat.min_eq_right h, List.drop_zero]
  exact List.take_of_length_le (by rw [List.length_map]; omega)
def absI (n : Int) : Int := if n < 0 then -n else n
theorem absI_pos (n : Int) : 0 ≤ absI n := by
  unfold absI
  split <;> omega
theorem div_draw {c m : Int} (h0 : 0 < m) (h : m ≤ 1000000000000000000000000000000000000000000000000000000000000) : CDivW c m :=
  wide_div (b := 300) h0 (by omega) (by decide) (by decide)
theorem cut_all {xs : List V} {n : Nat} : cutV xs none (some (n : Int)) = xs.take n := by
  unfold cutV
  rw [HT.sIx_none, HT.sIx_nat, List.drop_zero, Nat.sub_zero]
  rcases Nat.le_total n xs.length with h | h
  · rw [Nat.min_eq_left h]
  · rw [Nat.min_eq_right h, List.take_length, List.take_of_length_le h]
theorem ne_new {H : Hp} {p b : Addr} {o : HO} (h : H p = some o) (n : H b = none) : b ≠ p := (ne_of_none h n).symm
/-- what the deck's second list is not -/
theorem Deck.lne {H : Hp} {p l b : Addr} {n : Int} (D : Deck H p l n) (h : H b = none) : b ≠ p ∧ b ≠ l := by
  obtain ⟨cells, hl, hc⟩ := D.hl
  exact ⟨ne_new D.hp h, ne_new hl h⟩
section
variable {X : Cx}
/-- repr of an int or None -/
theorem call_repr_some : CallR X (.builtin "repr") (fun xs H Q => (∃ i, xs = [.int i] ∧ i.natAbs.log2 < 1920 ∧ Q (.str (toString i)) H) ∨ (xs = [.non] ∧ Q (.str "None") H)) := by
  intro pins s σ H xs us Q I r h
  rcases h with ⟨i, rfl, hz, q⟩ | ⟨rfl, q⟩
  · obtain ⟨u, rfl, t, rfl⟩ := vals1 r
    exact PySem.P.repr_of_int hz ⟨.str _, H, I.tok _, ⟨_, rfl⟩, q⟩
  · obtain ⟨u, rfl, rfl⟩ := vals1 r
    exact PySem.P.repr_of_none ⟨.str _, H, I.tok _, ⟨_, rfl⟩, q⟩
def dataI (ns : List Int) : PyData := .list (ns.map PyData.int)
theorem dp_ints {K : PySem.W.Frag} {H : Hp} : ∀ ns : List Int, DpAll K H (ns.map V.int) (ns.map PyData.int)
  | [] => .nil
  | n :: ns => .cons (.int n) (dp_ints ns)
theorem showable_ints : ∀ {ns : List Int}, (∀ n ∈ ns, n.natAbs.log2 < 1920) → PyData.showableAll (ns.map PyData.int) = true
  | [], _ => rfl
  | n :: ns, h => by
    have a := h n (List.mem_cons_self ..)
    have b := showable_ints (ns := ns) fun m hm => h m (List.mem_cons_of_mem _ hm)
    simp only [List.map_cons, PyData.showableAll, PyData.showable, decide_eq_true a, b, Bool.and_self]
theorem hasDict_ints : ∀ ns : List Int, PyData.hasDictAll (ns.map PyData.int) = false
  | [] => rfl
  | n :: ns => by
    simp only [List.map_cons, PyData.hasDictAll, PyData.hasDict, hasDict_ints ns, Bool.or_self]
theorem depth_ints : ∀ ns : List Int, PyData.depthAll (ns.map PyData.int) ≤ 1
  | [] => by simp [PyData.depthAll]
  | n :: ns => by
    have := depth_ints ns
    simp only [List.map_cons, PyData.depthAll, PyData.depth]
    omega
theorem shown_ints : ∀ {ns : List Int}, (∀ n ∈ ns, n.natAbs.log2 < 1920) → ((PyData.shownAll (ns.map PyData.int)).map (·.length)).sum ≤ 1921 * ns.length ∧ (PyData.shownAll (ns.map PyData.int)).length = ns.length
  | [], _ => by simp [PyData.shownAll]
  | n :: ns, h => by
    have a := PyProof.Rows.int_text_len_1921 (h n (List.mem_cons_self ..))
    obtain ⟨b, c⟩ := shown_ints (ns := ns) fun m hm => h m (List.mem_cons_of_mem _ hm)
    simp only [List.map_cons, PyData.shownAll, PyData.shown, List.sum_cons, List.length_cons]
    omega
/-- repr of a list of ints -/
theorem call_repr_ints (gu : X.A.guards = some []) (room : ∃ k, Room k X.A) : CallR X (.builtin "repr") (fun xs H Q => ∃ a ns, xs = [.ref a] ∧ SqL X.K H a (ns.map V.int) ∧ ns.length ≤ 5000 ∧ (∀ n ∈ ns, n.natAbs.log2 < 1920) ∧ Q (.str (dataI ns).shown) H) := by
  intro pins s σ H xs us Q I r h
  obtain ⟨a, ns, rfl, hS, len, small, q⟩ := h
  refine call_repr_data gu room pins s σ H _ us Q I r ⟨a, dataI ns, rfl, .lst hS (dp_ints ns), ?_, ?_, ?_, ?_, q⟩
  · unfold dataI
    simp only [PyData.showable, showable_ints small]
  · unfold dataI
    simp only [PyData.hasDict, hasDict_ints]
  · have := depth_ints ns
    unfold dataI
    simp only [PyData.depth]
    omega
  · obtain ⟨s1, s2⟩ := shown_ints small
    have := listText_len_le (PyData.shownAll (ns.map PyData.int))
    unfold dataI
    simp only [PyData.shown]
    rw [sizeLine_eq]
    omega
end
end Sm

set_option maxHeartbeats 4000000
namespace Sm
/-! rules: a table that repeats -/
def vl (T : List Int) (p : Nat) (r : Int) (x : Nat) : Int :=
  if x < T.length then T.getD x 0 else T.getD (x - ((x - T.length) / p + 1) * p) 0 + (((x - T.length) / p + 1 : Nat) : Int) * r
structure RuleOk (T : List Int) (p : Nat) (r : Int) : Prop where
  p0 : 0 < p
  p1 : p ≤ T.length
  r0 : 0 ≤ r
  nn : ∀ i, i < T.length → 0 ≤ T.getD i 0
  mono : ∀ i, i + 1 < T.length → T.getD i 0 ≤ T.getD (i + 1) 0
  wrap : T.getD (T.length - 1) 0 ≤ T.getD (T.length - p) 0 + r
theorem place {n p x : Nat} (hp : 0 < p) (hpn : p ≤ n) (h : n ≤ x) : ((x - n) / p + 1) * p ≤ x ∧ n - p ≤ x - ((x - n) / p + 1) * p ∧ x - ((x - n) / p + 1) * p < n := by
  have a := Nat.div_add_mod (x - n) p
  have b := Nat.mod_lt (x - n) hp
  have c : ((x - n) / p + 1) * p = p * ((x - n) / p) + p := by rw [Nat.add_mul, Nat.one_mul, Nat.mul_comm]
  omega
theorem vl_lt {T : List Int} {p : Nat} {r : Int} {x : Nat} (h : x < T.length) : vl T p r x = T.getD x 0 := if_pos h
theorem vl_step {T : List Int} {p : Nat} {r : Int} {x : Nat} (hp : 0 < p) (hpn : p ≤ T.length) (h : T.length ≤ x) : vl T p r x = vl T p r (x - p) + r := by
  by_cases q : x - p < T.length
  · have e : (x - T.length) / p = 0 := Nat.div_eq_of_lt (by omega)
    rw [vl_lt q]
    unfold vl
    rw [if_neg (by omega), e]
    simp
  · have e : (x - T.length) / p = (x - p - T.length) / p + 1 := by
      rw [Nat.div_eq_sub_div hp (by omega), show x - T.length - p = x - p - T.length by omega]
    unfold vl
    rw [if_neg (by omega), if_neg q, e]
    have i : x - ((x - p - T.length) / p + 1 + 1) * p = x - p - ((x - p - T.length) / p + 1) * p := by
      rw [Nat.add_mul ((x - p - T.length) / p + 1) 1 p, Nat.one_mul]
      omega
    rw [i]
    have k : (((x - p - T.length) / p + 1 + 1 : Nat) : Int) * r = (((x - p - T.length) / p + 1 : Nat) : Int) * r + r := by
      rw [Int.natCast_add ((x - p - T.length) / p + 1) 1, Int.add_mul]
      simp
    rw [k, Int.add_assoc]
theorem vl_add {T : List Int} {p : Nat} {r : Int} {x : Nat} (hp : 0 < p) (hpn : p ≤ T.length) (h : T.length - p ≤ x) : vl T p r (x + p) = vl T p r x + r := by
  rw [vl_step hp hpn (by omega), Nat.add_sub_cancel]
theorem vl_addk {T : List Int} {p : Nat} {r : Int} {x : Nat} (hp : 0 < p) (hpn : p ≤ T.length) (h : T.length - p ≤ x) : ∀ k : Nat, vl T p r (x + k * p) = vl T p r x + (k : Int) * r
  | 0 => by simp
  | k + 1 => by
    have ih := vl_addk (r := r) hp hpn h k
    rw [show x + (k + 1) * p = x + k * p + p by rw [Nat.add_mul, Nat.one_mul, Nat.add_assoc], vl_add hp hpn (by omega), ih]
    rw [Int.natCast_add, Int.add_mul]
    simp
    omega
section
variable {T : List Int} {p : Nat} {r : Int}
theorem RuleOk.up (o : RuleOk T p r) : ∀ x, vl T p r x ≤ vl T p r (x + 1) := by
  intro x
  induction x using Nat.strongRecOn with
  | _ x ih =>
    have p0 := o.p0
    have p1 := o.p1
    by_cases a : x + 1 < T.length
    · rw [vl_lt a, vl_lt (by omega)]
      exact o.mono x a
    · by_cases b : x < T.length
      · rw [vl_lt b, vl_step p0 p1 (by omega), vl_lt (by omega)]
        have w := o.wrap
        rw [show x = T.length - 1 by omega]
        rw [show T.length - 1 + 1 - p = T.length - p by omega]
        exact w
      · rw [vl_step p0 p1 (by omega), vl_step (x := x + 1) p0 p1 (by omega)]
        have := ih (x - p) (by omega)
        rw [show x - p + 1 = x + 1 - p by omega] at this
        omega
theorem RuleOk.le (o : RuleOk T p r) {x y : Nat} (h : x ≤ y) : vl T p r x ≤ vl T p r y := by
  obtain ⟨k, rfl⟩ := Nat.le.dest h
  induction k with
  | zero => exact Int.le_refl _
  | succ k ih => exact Int.le_trans (ih (by omega)) (o.up _)
theorem RuleOk.pos (o : RuleOk T p r) (x : Nat) : 0 ≤ vl T p r x := by
  have a := o.le (Nat.zero_le x)
  have p0 := o.p0
  have p1 := o.p1
  rw [vl_lt (x := 0) (by omega)] at a
  have := o.nn 0 (by omega)
  omega
theorem RuleOk.row (o : RuleOk T p r) {i j : Nat} (h : i ≤ j) (hj : j < T.length) : T.getD i 0 ≤ T.getD j 0 := by
  have a := o.le h
  rw [vl_lt hj, vl_lt (by omega)] at a
  exact a
/-- the values of the last period repeat by s, increased by c -/
def Rep (T : List Int) (p : Nat) (r : Int) (s : Nat) (c : Int) : Prop := ∀ i, T.length - p ≤ i → i < T.length → vl T p r (i + s) = T.getD i 0 + c
theorem rep_all {s : Nat} {c : Int} (o : RuleOk T p r) (h : Rep T p r s c) : ∀ y, T.length - p ≤ y → vl T p r (y + s) = vl T p r y + c := by
  intro y
  induction y using Nat.strongRecOn with
  | _ y ih =>
    intro hy
    have p0 := o.p0
    have p1 := o.p1
    by_cases a : y < T.length
    · rw [vl_lt a]
      exact h y hy a
    · have e := ih (y - p) (by omega) (by omega)
      rw [vl_step (x := y) p0 p1 (by omega), vl_step (x := y + s) p0 p1 (by omega), show y + s - p = y - p + s by omega, e]
      omega
theorem rep_self (o : RuleOk T p r) : Rep T p r p r := fun i h1 h2 => by
  rw [vl_add o.p0 o.p1 h1, vl_lt h2]
theorem getD_take {n i : Nat} (h : i < n) : (T.take n).getD i 0 = T.getD i 0 := by
  rw [List.getD_eq_getElem?_getD, List.getD_eq_getElem?_getD, List.getElem?_take_of_lt h]
/-- the table cut: still a rule, with the same values -/
theorem cut_ok {a s : Nat} {c : Int} (o : RuleOk T p r) (hs : 0 < s) (ha : a + s ≤ T.length) (c0 : 0 ≤ c) (h : ∀ y, a ≤ y → vl T p r (y + s) = vl T p r y + c) : RuleOk (T.take (a + s)) s c := by
  have len : (T.take (a + s)).length = a + s := by rw [List.length_take]; omega
  refine ⟨hs, by omega, c0, fun i hi => ?_, fun i hi => ?_, ?_⟩
  · rw [getD_take (by omega)]
    exact o.nn i (by omega)
  · rw [getD_take (by omega), getD_take (by omega)]
    exact o.mono i (by omega)
  · rw [len, getD_take (by omega), getD_take (by omega), show a + s - s = a by omega]
    have e := h a (Nat.le_refl _)
    have u := o.up (a + s - 1)
    rw [show a + s - 1 + 1 = a + s by omega, e, vl_lt (by omega), vl_lt (by omega)] at u
    exact u
theorem cut_vl {a s : Nat} {c : Int} (hs : 0 < s) (ha : a + s ≤ T.length) (h : ∀ y, a ≤ y → vl T p r (y + s) = vl T p r y + c) : ∀ x, vl (T.take (a + s)) s c x = vl T p r x := by
  have len : (T.take (a + s)).length = a + s := by rw [List.length_take]; omega
  intro x
  induction x using Nat.strongRecOn with
  | _ x ih =>
    by_cases q : x < a + s
    · rw [vl_lt (by omega), vl_lt (by omega), getD_take q]
    · rw [vl_step hs (by omega) (by omega), ih (x - s) (by omega), ← h (x - s) (by omega), show x - s + s = x by omega]
/-- the least amount, or none -/
def IsLf (T : List Int) (p : Nat) (r : Int) (y : Int) : Option Nat → Prop
  | none => r = 0 ∧ T.getD (T.length - 1) 0 < y
  | some x => y ≤ vl T p r x ∧ ∀ z, z < x → vl T p r z < y
theorem lf_near {y : Int} {i : Nat} (hi : i < T.length) (h1 : y ≤ T.getD i 0) (h2 : ∀ j, j < i → T.getD j 0 < y) : IsLf T p r y (some i) :=
  ⟨by rw [vl_lt hi]; exact h1, fun z hz => by rw [vl_lt (by omega)]; exact h2 z hz⟩
theorem lf_far {y : Int} {i k : Nat} (o : RuleOk T p r) (k0 : 0 < k) (hk : T.getD (T.length - 1) 0 + ((k : Int) - 1) * r < y) (h0 : T.length - p ≤ i) (hi : i < T.length) (h1 : y - (k : Int) * r ≤ T.getD i 0)
    (h2 : ∀ j, T.length - p ≤ j → j < i → T.getD j 0 < y - (k : Int) * r) : IsLf T p r y (some (i + k * p)) := by
  have p0 := o.p0
  have p1 := o.p1
  refine ⟨?_, fun z hz => ?_⟩
  · rw [vl_addk p0 p1 h0, vl_lt hi]
    omega
  · have kp : p ≤ k * p := Nat.le_mul_of_pos_left p k0
    refine Int.lt_of_le_of_lt (o.le (show z ≤ i + k * p - 1 by omega)) ?_
    by_cases q : i = T.length - p
    · obtain ⟨k, rfl⟩ : ∃ j, k = j + 1 := ⟨k - 1, by omega⟩
      have e : i + (k + 1) * p - 1 = T.length - 1 + k * p := by
        rw [Nat.add_mul, Nat.one_mul] at kp ⊢
        omega
      rw [e, vl_addk p0 p1 (by omega), vl_lt (by omega)]
      have c : ((k + 1 : Nat) : Int) - 1 = (k : Int) := by omega
      rw [c] at hk
      exact hk
    · rw [show i + k * p - 1 = i - 1 + k * p by omega, vl_addk p0 p1 (by omega), vl_lt (by omega)]
      have := h2 (i - 1) (by omega) (by omega)
      omega
theorem lf_one {y : Int} {a b : Option Nat} (o : RuleOk T p r) (ha : IsLf T p r y a) (hb : IsLf T p r y b) : a = b := by
  have no : ∀ {x : Nat}, IsLf T p r y none → IsLf T p r y (some x) → False := by
    rintro x ⟨h1, h2⟩ ⟨h3, _⟩
    have p0 := o.p0
    have p1 := o.p1
    have all : ∀ x, vl T p r x ≤ T.getD (T.length - 1) 0 := by
      intro x
      induction x using Nat.strongRecOn with
      | _ x ih =>
        by_cases q : x < T.length
        · rw [vl_lt q]
          exact o.row (by omega) (by omega)
        · rw [vl_step p0 p1 (by omega)]
          have := ih (x - p) (by omega)
          omega
    have := all x
    omega
  match a, b, ha, hb with
  | none, none, _, _ => rfl
  | none, some x, ha, hb => exact (no ha hb).elim
  | some x, none, ha, hb => exact (no hb ha).elim
  | some x, some z, ⟨h1, h2⟩, ⟨h3, h4⟩ =>
    rcases Nat.lt_trichotomy x z with q | q | q
    · have := h4 x q
      omega
    · rw [q]
    · have := h2 z q
      omega
end
theorem div_cast {x n p : Nat} (h : n ≤ x) : ((x : Int) - (n : Int)) / (p : Int) + 1 = (((x - n) / p + 1 : Nat) : Int) := by
  rw [← Int.natCast_sub h]
  rfl
theorem ceil_lo {a r : Int} (hr : 0 < r) : a ≤ (a + r - 1) / r * r ∧ ((a + r - 1) / r - 1) * r < a := by
  have h1 := Int.mul_ediv_add_emod (a + r - 1) r
  have h2 := Int.emod_nonneg (a + r - 1) (show r ≠ 0 by omega)
  have h3 := Int.emod_lt_of_pos (a + r - 1) hr
  have e : (a + r - 1) / r * r = r * ((a + r - 1) / r) := Int.mul_comm _ _
  have e2 : ((a + r - 1) / r - 1) * r = r * ((a + r - 1) / r) - r := by rw [Int.sub_mul, Int.mul_comm]; omega
  omega
end Sm

set_option maxHeartbeats 4000000
namespace Sm
structure RuleW (T : List Int) (p : Nat) (r : Int) : Prop where
  p0 : 0 < p
  p1 : p ≤ T.length
  r0 : 0 ≤ r
theorem RuleOk.w {T : List Int} {p : Nat} {r : Int} (o : RuleOk T p r) : RuleW T p r := ⟨o.p0, o.p1, o.r0⟩
section
variable {T : List Int} {p : Nat} {r : Int}
theorem rep_allW {s : Nat} {c : Int} (o : RuleW T p r) (h : Rep T p r s c) : ∀ y, T.length - p ≤ y → vl T p r (y + s) = vl T p r y + c := by
  intro y
  induction y using Nat.strongRecOn with
  | _ y ih =>
    intro hy
    have p0 := o.p0
    have p1 := o.p1
    by_cases a : y < T.length
    · rw [vl_lt a]
      exact h y hy a
    · have e := ih (y - p) (by omega) (by omega)
      rw [vl_step (x := y) p0 p1 (by omega), vl_step (x := y + s) p0 p1 (by omega), show y + s - p = y - p + s by omega, e]
      omega
theorem rep_selfW (o : RuleW T p r) : Rep T p r p r := fun i h1 h2 => by
  rw [vl_add o.p0 o.p1 h1, vl_lt h2]
/-- a weak rule that does not fall within its table and behind it is a rule -/
theorem W_ok (o : RuleW T p r) (nn : ∀ i, i < T.length → 0 ≤ T.getD i 0) (h : ∀ x, x < T.length → T.getD x 0 ≤ vl T p r (x + 1)) : RuleOk T p r := by
  have p0 := o.p0
  have p1 := o.p1
  refine ⟨p0, p1, o.r0, nn, fun i hi => ?_, ?_⟩
  · have := h i (by omega)
    rw [vl_lt hi] at this
    exact this
  · have := h (T.length - 1) (by omega)
    rw [vl_step p0 p1 (by omega), show T.length - 1 + 1 - p = T.length - p by omega, vl_lt (by omega)] at this
    exact this
end
section
variable {T1 T2 : List Int} {p1 p2 : Nat} {r1 r2 : Int}
def gp (T1 : List Int) (p1 : Nat) (r1 : Int) (T2 : List Int) (p2 : Nat) (r2 : Int) (x : Nat) : Int := vl T1 p1 r1 x - vl T2 p2 r2 x
/-- the first amount at which the one is above, or none -/
def IsFst (T1 : List Int) (p1 : Nat) (r1 : Int) (T2 : List Int) (p2 : Nat) (r2 : Int) : Option Nat → Prop
  | none => ∀ x, gp T1 p1 r1 T2 p2 r2 x ≤ 0
  | some x => 0 < gp T1 p1 r1 T2 p2 r2 x ∧ ∀ z, z < x → gp T1 p1 r1 T2 p2 r2 z ≤ 0
theorem fst_one {a b : Option Nat} (ha : IsFst T1 p1 r1 T2 p2 r2 a) (hb : IsFst T1 p1 r1 T2 p2 r2 b) : a = b := by
  match a, b, ha, hb with
  | none, none, _, _ => rfl
  | none, some x, ha, hb =>
    have := ha x
    have := hb.1
    omega
  | some x, none, ha, hb =>
    have := hb x
    have := ha.1
    omega
  | some x, some z, ⟨h1, h2⟩, ⟨h3, h4⟩ =>
    rcases Nat.lt_trichotomy x z with q | q | q
    · have := h4 x q
      omega
    · rw [q]
    · have := h2 z q
      omega
/-- by a common turn t = a p1 = b p2 the gap grows by g, from a start of both on -/
theorem gp_turn {B a b : Nat} (w1 : RuleW T1 p1 r1) (w2 : RuleW T2 p2 r2) (hB1 : T1.length - p1 ≤ B) (hB2 : T2.length - p2 ≤ B) (e : a * p1 = b * p2) {x : Nat} (hx : B ≤ x) :
    gp T1 p1 r1 T2 p2 r2 (x + a * p1) = gp T1 p1 r1 T2 p2 r2 x + ((a : Int) * r1 - (b : Int) * r2) := by
  unfold gp
  rw [vl_addk w1.p0 w1.p1 (by omega) a, e, vl_addk w2.p0 w2.p1 (by omega) b]
  omega
theorem gp_turns {B t : Nat} {g : Int} (h : ∀ x, B ≤ x → gp T1 p1 r1 T2 p2 r2 (x + t) = gp T1 p1 r1 T2 p2 r2 x + g) {x : Nat} (hx : B ≤ x) : ∀ k : Nat, gp T1 p1 r1 T2 p2 r2 (x + k * t) = gp T1 p1 r1 T2 p2 r2 x + (k : Int) * g
  | 0 => by simp
  | k + 1 => by
    have ih := gp_turns h hx k
    rw [show x + (k + 1) * t = x + k * t + t by rw [Nat.add_mul, Nat.one_mul, Nat.add_assoc], h _ (by omega), ih, Int.natCast_add, Int.add_mul]
    simp
    omega
theorem split_turn {B t z : Nat} (t0 : 0 < t) (hz : B ≤ z) : ∃ x k, B ≤ x ∧ x < B + t ∧ z = x + k * t := by
  have a := Nat.div_add_mod (z - B) t
  have b := Nat.mod_lt (z - B) t0
  refine ⟨B + (z - B) % t, (z - B) / t, by omega, by omega, ?_⟩
  rw [Nat.mul_comm]
  omega
theorem none_of {B t : Nat} {g : Int} (t0 : 0 < t) (h : ∀ x, B ≤ x → gp T1 p1 r1 T2 p2 r2 (x + t) = gp T1 p1 r1 T2 p2 r2 x + g) (hg : g ≤ 0) (early : ∀ x, x < B + t → gp T1 p1 r1 T2 p2 r2 x ≤ 0) : IsFst T1 p1 r1 T2 p2 r2 none := by
  intro z
  by_cases q : z < B
  · exact early z (by omega)
  · obtain ⟨x, k, h1, h2, rfl⟩ := split_turn t0 (show B ≤ z by omega)
    rw [gp_turns h h1 k]
    have := early x h2
    have : (k : Int) * g ≤ 0 := Int.mul_nonpos_of_nonneg_of_nonpos (by omega) hg
    omega
/-- the least of the first amounts of all rests -/
theorem some_of {B t m : Nat} {g : Int} (t0 : 0 < t) (h : ∀ x, B ≤ x → gp T1 p1 r1 T2 p2 r2 (x + t) = gp T1 p1 r1 T2 p2 r2 x + g) (hg : 0 < g) (early : ∀ x, x < B + t → gp T1 p1 r1 T2 p2 r2 x ≤ 0)
    (hm : ∃ x, B ≤ x ∧ x < B + t ∧ (m : Int) = (x : Int) + (t : Int) * ((-gp T1 p1 r1 T2 p2 r2 x) / g + 1)) (least : ∀ x, B ≤ x → x < B + t → (m : Int) ≤ (x : Int) + (t : Int) * ((-gp T1 p1 r1 T2 p2 r2 x) / g + 1)) : IsFst T1 p1 r1 T2 p2 r2 (some m) := by
  constructor
  · obtain ⟨x, h1, h2, e⟩ := hm
    have ex := early x h2
    have q0 : 0 ≤ (-gp T1 p1 r1 T2 p2 r2 x) / g := Int.ediv_nonneg (by omega) (by omega)
    obtain ⟨k, hk⟩ : ∃ k : Nat, (-gp T1 p1 r1 T2 p2 r2 x) / g = (k : Int) := ⟨_, (Int.toNat_of_nonneg q0).symm⟩
    have e2 : m = x + (k + 1) * t := by
      rw [hk] at e
      have : ((x + (k + 1) * t : Nat) : Int) = (x : Int) + (t : Int) * ((k : Int) + 1) := by
        rw [Int.natCast_add, Int.natCast_mul, Int.mul_comm]
        rfl
      omega
    rw [e2, gp_turns h h1]
    have d1 := Int.mul_ediv_add_emod (-gp T1 p1 r1 T2 p2 r2 x) g
    have d2 := Int.emod_lt_of_pos (-gp T1 p1 r1 T2 p2 r2 x) hg
    rw [hk] at d1
    have e3 : ((k + 1 : Nat) : Int) * g = g * (k : Int) + g := by rw [Int.natCast_add, Int.add_mul, Int.mul_comm]; simp
    omega
  · intro z hz
    by_cases q : z < B
    · exact early z (by omega)
    · obtain ⟨x, k, h1, h2, rfl⟩ := split_turn t0 (show B ≤ z by omega)
      rcases Int.lt_or_le 0 (gp T1 p1 r1 T2 p2 r2 (x + k * t)) with w | w
      · exfalso
        have l := least x h1 h2
        rw [gp_turns h h1 k] at w
        have d1 := Int.mul_ediv_add_emod (-gp T1 p1 r1 T2 p2 r2 x) g
        have d2 := Int.emod_nonneg (-gp T1 p1 r1 T2 p2 r2 x) (show g ≠ 0 by omega)
        have lt : (-gp T1 p1 r1 T2 p2 r2 x) / g < (k : Int) := by
          rcases Int.lt_or_le ((-gp T1 p1 r1 T2 p2 r2 x) / g) (k : Int) with c | c
          · exact c
          · have := Int.mul_le_mul_of_nonneg_left c (show 0 ≤ g by omega)
            rw [Int.mul_comm g (k : Int)] at this
            omega
        have le := Int.mul_le_mul_of_nonneg_left (show (-gp T1 p1 r1 T2 p2 r2 x) / g + 1 ≤ (k : Int) by omega) (show 0 ≤ (t : Int) by omega)
        have c1 : ((k * t : Nat) : Int) = (t : Int) * (k : Int) := by rw [Int.natCast_mul, Int.mul_comm]
        omega
      · exact w
end
end Sm

set_option maxHeartbeats 4000000
namespace Sm
/-! just one shortest tuple has given values -/
structure Short (T : List Int) (p : Nat) (r : Int) : Prop where
  ok : RuleOk T p r
  turn : ∀ s c, 0 < s → s < p → s ∣ p → ¬ Rep T p r s c
  start : p = T.length ∨ vl T p r (T.length - 1) ≠ T.getD (T.length - p - 1) 0 + r
theorem vl_ge_turn {T : List Int} {p : Nat} {r : Int} (o : RuleOk T p r) {x : Nat} (h : T.length - p ≤ x) (k : Nat) : vl T p r (x + k * p) = vl T p r x + (k : Int) * r := vl_addk o.p0 o.p1 h k
/-- what holds far off holds from the start of the turns on -/
theorem rep_down {T : List Int} {p s A : Nat} {r c : Int} (o : RuleOk T p r) (h : ∀ x, A ≤ x → vl T p r (x + s) = vl T p r x + c) {x : Nat} (hx : T.length - p ≤ x) : vl T p r (x + s) = vl T p r x + c := by
  have p0 := o.p0
  have e1 := vl_ge_turn o (x := x) hx A
  have e2 := vl_ge_turn o (x := x + s) (by omega) A
  have far : A ≤ x + A * p := by
    have : A * 1 ≤ A * p := Nat.mul_le_mul_left A p0
    omega
  have e3 := h _ far
  rw [show x + A * p + s = x + s + A * p by omega] at e3
  omega
/-- two turns have a turn as long as their greatest common divisor -/
theorem gcd_turn {f : Nat → Int} {A : Nat} : ∀ (n p q : Nat), p + q ≤ n → 0 < p → 0 < q → (∃ r, ∀ x, A ≤ x → f (x + p) = f x + r) → (∃ t, ∀ x, A ≤ x → f (x + q) = f x + t) → ∃ c, ∀ x, A ≤ x → f (x + Nat.gcd p q) = f x + c
  | 0, p, q, h, p0, q0, _, _ => by omega
  | n + 1, p, q, h, p0, q0, ⟨r, hr⟩, ⟨t, ht⟩ => by
    rcases Nat.lt_trichotomy p q with l | l | l
    · have g : Nat.gcd p (q - p) = Nat.gcd p q := Nat.gcd_sub_self_right (Nat.le_of_lt l)
      rw [← g]
      refine gcd_turn n p (q - p) (by omega) p0 (by omega) ⟨r, hr⟩ ⟨t - r, fun x hx => ?_⟩
      have e1 := ht x hx
      have e2 := hr (x + (q - p)) (by omega)
      rw [show x + (q - p) + p = x + q by omega] at e2
      omega
    · subst l
      rw [Nat.gcd_self]
      exact ⟨r, hr⟩
    · have g : Nat.gcd (p - q) q = Nat.gcd p q := Nat.gcd_sub_self_left (Nat.le_of_lt l)
      rw [← g]
      refine gcd_turn n (p - q) q (by omega) (by omega) q0 ⟨r - t, fun x hx => ?_⟩ ⟨t, ht⟩
      have e1 := hr x hx
      have e2 := ht (x + (p - q)) (by omega)
      rw [show x + (p - q) + q = x + p by omega] at e2
      omega
theorem short_le {T1 T2 : List Int} {p1 p2 : Nat} {r1 r2 : Int} (s1 : Short T1 p1 r1) (o2 : RuleOk T2 p2 r2) (h : ∀ x, vl T1 p1 r1 x = vl T2 p2 r2 x) : Nat.gcd p1 p2 = p1 := by
  have o1 := s1.ok
  obtain ⟨c, hc⟩ := gcd_turn (f := vl T1 p1 r1) (A := max (T1.length - p1) (T2.length - p2)) _ p1 p2 (Nat.le_refl _) o1.p0 o2.p0 ⟨r1, fun x hx => vl_add o1.p0 o1.p1 (by omega)⟩ ⟨r2, fun x hx => by rw [h, h]; exact vl_add o2.p0 o2.p1 (by omega)⟩
  have g0 : 0 < Nat.gcd p1 p2 := Nat.gcd_pos_of_pos_left _ o1.p0
  have gl : Nat.gcd p1 p2 ≤ p1 := Nat.le_of_dvd o1.p0 (Nat.gcd_dvd_left ..)
  by_cases q : Nat.gcd p1 p2 = p1
  · exact q
  · exact absurd (fun i h1 h2 => by rw [← vl_lt (p := p1) (r := r1) h2]; exact rep_down o1 hc h1) (s1.turn _ c g0 (by omega) (Nat.gcd_dvd_left ..))
theorem short_start {T1 T2 : List Int} {p : Nat} {r : Int} (s1 : Short T1 p r) (s2 : Short T2 p r) (h : ∀ x, vl T1 p r x = vl T2 p r x) : T2.length ≤ T1.length := by
  have o1 := s1.ok
  have o2 := s2.ok
  have p0 := o1.p0
  have l1 := o1.p1
  have l2 := o2.p1
  rcases Nat.lt_or_ge T1.length T2.length with q | q
  · exfalso
    rcases s2.start with e | e
    · omega
    · apply e
      have := vl_add (T := T1) (p := p) (r := r) p0 l1 (x := T2.length - p - 1) (by omega)
      rw [show T2.length - p - 1 + p = T2.length - 1 by omega, h, h, vl_lt (T := T2) (x := T2.length - p - 1) (by omega)] at this
      exact this
  · exact q
/-- just one shortest tuple has given values -/
theorem short_one {T1 T2 : List Int} {p1 p2 : Nat} {r1 r2 : Int} (s1 : Short T1 p1 r1) (s2 : Short T2 p2 r2) (h : ∀ x, vl T1 p1 r1 x = vl T2 p2 r2 x) : T1 = T2 ∧ p1 = p2 ∧ r1 = r2 := by
  have a := short_le s1 s2.ok h
  have b := short_le s2 s1.ok fun x => (h x).symm
  rw [Nat.gcd_comm] at b
  obtain rfl : p1 = p2 := a.symm.trans b
  have o1 := s1.ok
  have o2 := s2.ok
  have e1 := vl_add o1.p0 o1.p1 (r := r1) (x := max (T1.length - p1) (T2.length - p1)) (by omega)
  have e2 := vl_add o2.p0 o2.p1 (r := r2) (x := max (T1.length - p1) (T2.length - p1)) (by omega)
  rw [h, h] at e1
  obtain rfl : r1 = r2 := by omega
  have l : T1.length = T2.length := Nat.le_antisymm (short_start s2 s1 fun x => (h x).symm) (short_start s1 s2 h)
  refine ⟨List.ext_getElem l fun i h1 h2 => ?_, rfl, rfl⟩
  have e := h i
  rw [vl_lt h1, vl_lt h2, List.getD_eq_getElem?_getD, List.getD_eq_getElem?_getD, List.getElem?_eq_getElem h1, List.getElem?_eq_getElem h2] at e
  exact e
theorem rep_slope {T : List Int} {p s : Nat} {r c : Int} (o : RuleOk T p r) (sd : s ∣ p) (h : Rep T p r s c) : r * (s : Int) = c * (p : Int) := by
  obtain ⟨k, rfl⟩ := sd
  have all := rep_all o h
  have up : ∀ n : Nat, vl T (s * k) r (T.length - s * k + n * s) = vl T (s * k) r (T.length - s * k) + (n : Int) * c := by
    intro n
    induction n with
    | zero => simp
    | succ n ih =>
      rw [show T.length - s * k + (n + 1) * s = T.length - s * k + n * s + s by rw [Nat.add_mul]; omega, all _ (by omega), ih, Int.natCast_add, Int.add_mul]
      simp
      omega
  have e1 := up k
  have e2 := vl_add o.p0 o.p1 (r := r) (x := T.length - s * k) (Nat.le_refl _)
  rw [Nat.mul_comm k s, e2] at e1
  have e3 : r = (k : Int) * c := by omega
  rw [e3, Int.natCast_mul, Int.mul_comm (k : Int) c, Int.mul_assoc, Int.mul_comm (k : Int)]
theorem rep_quot {T : List Int} {p s : Nat} {r c : Int} (o : RuleOk T p r) (sd : s ∣ p) (h : Rep T p r s c) : r * (s : Int) / (p : Int) = c ∧ r * (s : Int) % (p : Int) = 0 := by
  have p0 := o.p0
  rw [rep_slope o sd h]
  exact ⟨Int.mul_ediv_cancel _ (by omega), Int.mul_emod_left _ _⟩
theorem cut_short {T : List Int} {p a s : Nat} {r c : Int} (o : RuleOk T p r) (hs : 0 < s) (sd : s ∣ p) (ha : a ≤ T.length - p) (c0 : 0 ≤ c) (h : ∀ y, a ≤ y → vl T p r (y + s) = vl T p r y + c)
    (hm : ∀ s' c', 0 < s' → s' < s → s' ∣ p → ¬ Rep T p r s' c') (st : a = 0 ∨ vl T p r (a - 1 + s) ≠ T.getD (a - 1) 0 + c) : Short (T.take (a + s)) s c := by
  have p1 := o.p1
  have sp : s ≤ p := Nat.le_of_dvd o.p0 sd
  have ok := cut_ok o hs (by omega) c0 h
  have eq := cut_vl (T := T) (p := p) (r := r) hs (show a + s ≤ T.length by omega) h
  have len : (T.take (a + s)).length = a + s := by rw [List.length_take]; omega
  refine ⟨ok, fun s' c' h1 h2 h3 rep => hm s' c' h1 h2 (Nat.dvd_trans h3 sd) fun i g1 g2 => ?_, ?_⟩
  · have all := rep_all ok rep i (by rw [len]; omega)
    rw [eq, eq, vl_lt (T := T) g2] at all
    exact all
  · by_cases z : a = 0
    · left
      rw [len, z, Nat.zero_add]
    · right
      rw [len, eq, show a + s - 1 = a - 1 + s by omega, show a + s - s - 1 = a - 1 by omega, getD_take (by omega)]
      rcases st with q | q
      · exact absurd q z
      · exact q
theorem dvd_of {p i : Nat} (h : (p : Int).fmod (1 + (i : Int)) = 0) : 1 + i ∣ p := by
  rw [Int.fmod_eq_emod_of_nonneg _ (by omega)] at h
  exact Int.natCast_dvd_natCast.mp (Int.dvd_of_emod_eq_zero (b := (p : Int)) (a := ((1 + i : Nat) : Int)) h)
theorem of_dvd {p i : Nat} (h : 1 + i ∣ p) : (p : Int).fmod (1 + (i : Int)) = 0 := by
  rw [Int.fmod_eq_emod_of_nonneg _ (by omega)]
  exact Int.emod_eq_zero_of_dvd (a := ((1 + i : Nat) : Int)) (Int.natCast_dvd_natCast.mpr h)
end Sm

set_option maxHeartbeats 4000000
namespace Sm
/-! a list that comes back when it is turned; the steps of the last period -/
def Rot (I : List Int) (s : Nat) : Prop := I = I.drop s ++ I.take s
structure Cyc (I : List Int) (s : Nat) : Prop where
  s0 : 0 < s
  s1 : s ≤ I.length
  dv : s ∣ I.length
  rot : s < I.length → Rot I s
  least : ∀ t, 0 < t → t < s → t ∣ I.length → ¬ Rot I t
def stepsOf (T : List Int) (p : Nat) (r : Int) : List Int := (List.range p).map fun i => vl T p r (T.length - p + i + 1) - vl T p r (T.length - p + i)
theorem stepsOf_len (T : List Int) (p : Nat) (r : Int) : (stepsOf T p r).length = p := by
  unfold stepsOf
  rw [List.length_map, List.length_range]
theorem stepsOf_get {T : List Int} {p : Nat} {r : Int} {i : Nat} (h : i < p) : (stepsOf T p r)[i]? = some (vl T p r (T.length - p + i + 1) - vl T p r (T.length - p + i)) := by
  unfold stepsOf
  rw [List.getElem?_map, List.getElem?_range h]
  rfl
theorem rot_get {I : List Int} {s i : Nat} (h : Rot I s) (hs : s ≤ I.length) (hi : i < I.length) : I[i]? = if i + s < I.length then I[i + s]? else I[i + s - I.length]? := by
  have e : I[i]? = (I.drop s ++ I.take s)[i]? := congrArg (fun l => l[i]?) h
  rw [e, List.getElem?_append, List.length_drop]
  by_cases q : i < I.length - s
  · rw [if_pos q, if_pos (by omega), List.getElem?_drop, Nat.add_comm]
  · rw [if_neg q, if_neg (by omega), List.getElem?_take_of_lt (by omega), show i - (I.length - s) = i + s - I.length by omega]
theorem of_rot {I : List Int} {s : Nat} (hs : s ≤ I.length) (h : ∀ i, i < I.length → I[i]? = if i + s < I.length then I[i + s]? else I[i + s - I.length]?) : Rot I s := by
  refine List.ext_getElem? fun i => ?_
  by_cases hi : i < I.length
  · rw [h i hi, List.getElem?_append, List.length_drop]
    by_cases q : i < I.length - s
    · rw [if_pos q, if_pos (by omega), List.getElem?_drop, Nat.add_comm]
    · rw [if_neg q, if_neg (by omega), List.getElem?_take_of_lt (by omega), show i - (I.length - s) = i + s - I.length by omega]
  · rw [List.getElem?_eq_none (by omega), List.getElem?_eq_none (by rw [List.length_append, List.length_drop, List.length_take]; omega)]
theorem rot_rep {T : List Int} {p s : Nat} {r : Int} (o : RuleW T p r) (sp : s < p) (h : Rot (stepsOf T p r) s) : Rep T p r s (vl T p r (T.length - p + s) - vl T p r (T.length - p)) := by
  have p0 := o.p0
  have p1 := o.p1
  have ln := stepsOf_len T p r
  have d : ∀ j, j < p → vl T p r (T.length - p + (j + s) + 1) - vl T p r (T.length - p + (j + s)) = vl T p r (T.length - p + j + 1) - vl T p r (T.length - p + j) := by
    intro j hj
    have e := rot_get h (by omega) (i := j) (by omega)
    rw [ln, stepsOf_get hj] at e
    by_cases q : j + s < p
    · rw [if_pos q, stepsOf_get q] at e
      exact (Option.some.inj e).symm
    · rw [if_neg q, stepsOf_get (by omega)] at e
      have e := Option.some.inj e
      have e1 := vl_add p0 p1 (r := r) (x := T.length - p + (j + s - p) + 1) (by omega)
      have e2 := vl_add p0 p1 (r := r) (x := T.length - p + (j + s - p)) (by omega)
      rw [show T.length - p + (j + s - p) + 1 + p = T.length - p + (j + s) + 1 by omega] at e1
      rw [show T.length - p + (j + s - p) + p = T.length - p + (j + s) by omega] at e2
      omega
  have all : ∀ j, j ≤ p → vl T p r (T.length - p + j + s) = vl T p r (T.length - p + j) + (vl T p r (T.length - p + s) - vl T p r (T.length - p)) := by
    intro j
    induction j with
    | zero => intro _; simp; omega
    | succ j ih =>
      intro hj
      have a := ih (by omega)
      have b := d j (by omega)
      rw [show T.length - p + (j + s) + 1 = T.length - p + (j + 1) + s by omega, show T.length - p + (j + s) = T.length - p + j + s by omega] at b
      rw [show T.length - p + (j + 1) = T.length - p + j + 1 by omega] at b ⊢
      omega
  intro i h1 h2
  have := all (i - (T.length - p)) (by omega)
  rw [show T.length - p + (i - (T.length - p)) = i by omega] at this
  rw [this, vl_lt h2]
theorem rep_rot {T : List Int} {p s : Nat} {r c : Int} (o : RuleW T p r) (sp : s ≤ p) (h : Rep T p r s c) : Rot (stepsOf T p r) s := by
  have p0 := o.p0
  have p1 := o.p1
  have ln := stepsOf_len T p r
  have all := rep_allW o h
  refine of_rot (by omega) fun i hi => ?_
  rw [ln] at hi ⊢
  rw [stepsOf_get hi]
  have a := all (T.length - p + i) (by omega)
  have b := all (T.length - p + i + 1) (by omega)
  by_cases q : i + s < p
  · rw [if_pos q, stepsOf_get q]
    rw [show T.length - p + i + s = T.length - p + (i + s) by omega] at a
    rw [show T.length - p + i + 1 + s = T.length - p + (i + s) + 1 by omega] at b
    congr 1
    omega
  · rw [if_neg q, stepsOf_get (by omega)]
    have e1 := vl_add p0 p1 (r := r) (x := T.length - p + (i + s - p) + 1) (by omega)
    have e2 := vl_add p0 p1 (r := r) (x := T.length - p + (i + s - p)) (by omega)
    rw [show T.length - p + (i + s - p) + 1 + p = T.length - p + i + 1 + s by omega] at e1
    rw [show T.length - p + (i + s - p) + p = T.length - p + i + s by omega] at e2
    congr 1
    omega
/-- the least turn of the steps is the rule's least turn -/
theorem cyc_rule {T : List Int} {p s : Nat} {r : Int} (o : RuleOk T p r) (h : Cyc (stepsOf T p r) s) : 0 < s ∧ s ≤ p ∧ s ∣ p ∧ Rep T p r s (r * (s : Int) / (p : Int)) ∧ ∀ s' c', 0 < s' → s' < s → s' ∣ p → ¬ Rep T p r s' c' := by
  obtain ⟨s0, s1, dv, rot, least⟩ := h
  rw [stepsOf_len] at s1 dv rot least
  have p0 := o.p0
  refine ⟨s0, s1, dv, ?_, fun s' c' h1 h2 h3 rep => least s' h1 h2 h3 (rep_rot o.w (by omega) rep)⟩
  by_cases q : s < p
  · have rep := rot_rep o.w q (rot q)
    rw [(rep_quot o dv rep).1]
    exact rep
  · obtain rfl : s = p := by omega
    rw [Int.mul_ediv_cancel _ (by omega)]
    exact rep_self o
/-! values told by a function, as a rule -/
theorem tab_getD {f : Nat → Int} {n i : Nat} (h : i < n) : ((List.range n).map f).getD i 0 = f i := by
  rw [List.getD_eq_getElem?_getD, List.getElem?_map, List.getElem?_range h]
  rfl
theorem tab_len {f : Nat → Int} {n : Nat} : ((List.range n).map f).length = n := by rw [List.length_map, List.length_range]
theorem tab_vl {f : Nat → Int} {B t : Nat} {R : Int} (t0 : 0 < t) (h : ∀ x, B ≤ x → f (x + t) = f x + R) : ∀ x, vl ((List.range (B + t)).map f) t R x = f x := by
  intro x
  induction x using Nat.strongRecOn with
  | _ x ih =>
    by_cases q : x < B + t
    · rw [vl_lt (by rw [tab_len]; exact q), tab_getD q]
    · rw [vl_step t0 (by rw [tab_len]; omega) (by rw [tab_len]; omega), ih (x - t) (by omega)]
      have := h (x - t) (by omega)
      rw [show x - t + t = x by omega] at this
      omega
theorem tab_ok {f : Nat → Int} {B t : Nat} {R : Int} (t0 : 0 < t) (R0 : 0 ≤ R) (h : ∀ x, B ≤ x → f (x + t) = f x + R) (f0 : ∀ x, 0 ≤ f x) (up : ∀ x, f x ≤ f (x + 1)) : RuleOk ((List.range (B + t)).map f) t R := by
  refine ⟨t0, by rw [tab_len]; omega, R0, fun i hi => ?_, fun i hi => ?_, ?_⟩
  · rw [tab_len] at hi
    rw [tab_getD hi]
    exact f0 i
  · rw [tab_len] at hi
    rw [tab_getD hi, tab_getD (by omega)]
    exact up i
  · rw [tab_len, tab_getD (by omega), tab_getD (by omega), show B + t - t = B by omega]
    have a := h B (Nat.le_refl _)
    have b := up (B + t - 1)
    rw [show B + t - 1 + 1 = B + t by omega] at b
    omega
end Sm

set_option Elab.async false
set_option linter.all false
set_option maxRecDepth 100000
set_option maxHeartbeats 4000000
namespace Sm
open PySem PySem.Spec PyProof.Rows L2
/-- isinstance of the exception that the suite holds, with its dict: one class, or a tuple of classes just laid -/
def rIsX (K : PySem.W.Frag) (cls : Value) (d : Option Addr) (a : Addr) : List V → Hp → VK → Prop := fun xs H Q => ∃ (D dd : Addr) (fs : List (Str × V)), cls = .ref D ∧ d = some dd ∧ H dd = some (.xd fs) ∧ ExcC K D ∧
  ((∃ (c : V) (cv : Value) (b : Bool), xs = [.ref a, c] ∧ ClsV c cv ∧ PySem.W.kitOne K (.ref D) cv = some b ∧ Q (.bl b) H) ∨
   ∃ (tp : Addr) (cs : List V) (us : List Value) (b : Bool), xs = [.ref a, .ref tp] ∧ H tp = some (.tup cs) ∧ Paired ClsV cs us ∧ PySem.W.kitAny K (.ref D) us = some b ∧ Q (.bl b) H)
theorem call_isX {X : Cx} {a : Addr} {cls : Value} {d : Option Addr} {oe : Obj} {pn : List (Addr × Obj)} (hz : Zc cls d oe) (hf : ∃ vs, oe.data = .fields vs) : CallR (X.suite a ((a, oe) :: pn)) (.builtin "isinstance") (rIsX X.K cls d a) := by
  intro pins s σ H xs us Q I r h
  obtain ⟨D, dd, fs, rfl, rfl, ea, C, h⟩ := h
  obtain ⟨ha, _⟩ := I.pin (a, oe) (List.mem_append_left _ List.mem_cons_self)
  obtain ⟨vs, hd⟩ := hf
  have hx : ObjOk X.prog X.w H s.heap dd (.xd fs) := I.hok dd _ ea
  obtain ⟨mA, hns, hr⟩ := hx
  obtain ⟨od, ho, hl⟩ := lookIn_ns hns
  have J : PySem.W.InstAt s.heap a oe D (some od) := ⟨ha, hz.1, by unfold PySem.W.notCls; rw [hd] <;> rfl, by rw [hz.2]; exact ho⟩
  obtain ⟨cd, hc, _⟩ := PySem.W.any_some C.hd
  have Z := PySem.W.kitx_exc (x := a) (ox := oe) (od := some od) (by rw [hc]; rfl) C.hg C.hk C.hs C.ha C.hn C.ht C.hm
  rcases h with ⟨c, cv, b, rfl, k, e, q⟩ | ⟨tp, cs, ws, b, rfl, hT, k, e, q⟩
  · obtain ⟨u1, u2, rfl, r1, r2⟩ := vals2 r
    cases (show u1 = Value.ref a from r1)
    cases k.eq r2
    exact PySem.W.kia_one Z I.kIn J e (fun z => nomatch z) fun tk => ⟨.bl b, H, I.kept (t' := tk) fun _ _ z => z, rfl, q⟩
  · obtain ⟨u1, u2, rfl, r1, r2⟩ := vals2 r
    cases (show u1 = Value.ref a from r1)
    cases (show u2 = Value.ref tp from r2)
    obtain ⟨_, its, rv, o, h1, h2, n, h3⟩ := (show ObjOk X.prog X.w H s.heap tp (.tup cs) from I.hok tp _ hT)
    have e3 := ClsV.all k rv
    subst e3
    obtain ⟨oc, od', dt, sl⟩ := o
    simp only at h2 h3
    subst h2 h3
    exact PySem.W.kia_tup Z I.kIn J h1 e (fun z => nomatch z) fun tk => ⟨.bl b, H, I.kept (t' := tk) fun _ _ z => z, rfl, q⟩
theorem kit_own {K : PySem.W.Frag} {D C : Addr} {b : Bool} (h1 : PySem.W.isClsIn K C = true) (h2 : PySem.W.typeIn K (.ref C) = some (.type "type")) (h3 : PySem.W.subIn K (.ref D) (.ref C) = some b) (h4 : PySem.W.subIn K (.ref D) (.ref D) = some true) : PySem.W.kitOne K (.ref D) (.ref C) = some b := by
  unfold PySem.W.kitOne
  by_cases e : D = C
  · subst e
    rw [h4] at h3
    rw [if_pos (beq_self_eq_true _)]
    exact h3
  · rw [if_neg (fun q => e (Value.ref.inj (beq_iff_eq.mp q)))]
    have h1' : (PySem.W.clsIn K C).isSome = true := h1
    have z : ((PySem.W.clsIn K C).isSome && PySem.W.typeIn K (.ref C) == some (.type "type")) = true := by rw [h1', h2] <;> rfl
    show (if ((PySem.W.clsIn K C).isSome && PySem.W.typeIn K (.ref C) == some (.type "type")) = true then PySem.W.subIn K (.ref D) (.ref C) else none) = some b
    rw [if_pos z]
    exact h3
theorem kit_valerr {K : PySem.W.Frag} {D : Addr} {b : Bool} (h : PySem.W.subIn K (.ref D) (.type "ValueError") = some b) : PySem.W.kitOne K (.ref D) (.type "ValueError") = some b := by
  have q : ((Value.ref D) == (Value.type "ValueError")) = false := beq_eq_false_iff_ne.mpr fun z => nomatch z
  unfold PySem.W.kitOne
  rw [if_neg (by rw [q]; exact Bool.false_ne_true)]
  show (if PySem.W.kitMeta "ValueError" = true then PySem.W.subIn K (.ref D) (.type "ValueError") else none) = some b
  rw [if_pos (by decide +kernel)]
  exact h
theorem kit_cons_false {K : PySem.W.Frag} {t c : Value} {cs : List Value} {b : Bool} (h : PySem.W.kitOne K t c = some false) (hr : PySem.W.kitAny K t cs = some b) : PySem.W.kitAny K t (c :: cs) = some b := by
  unfold PySem.W.kitAny
  rw [h]
  exact hr
/-- an own exception class with one field, made by its own __init__ -/
structure XcTxt (K : PySem.W.Frag) (mg : Str → Option Value) (nm fl : Str) (C fI : Addr) : Prop where
  g : mg nm = some (.ref C)
  oex : OexC K C
  no : PySem.W.findIn K (.ref C) fl = some none
  iC : PySem.W.findIn K (.ref C) "__init__" = some (some (.ref fI))
  tI : PySem.W.typeIn K (.ref fI) = some (.type "function")
  xf : XfC K C
  ec : ExcC K C
/-- C(e), told plainly: the new exception's dict holds the field -/
def tMkF (C : Addr) (fl : Str) (ta : TA) : L2.St → Hp → XK → Prop := fun σ H Q => ta σ H fun vs H1 => ∃ v, vs = [v] ∧ ∀ d, H1 d = none → Q (.ref C) (some d) (upd H1 d (.xd [(fl, v)]))
def sp_init (K : PySem.W.Frag) (fl : Str) : Sp := fun vs H Q _ => ∃ (a C : Addr) (v : V), vs = [.ref a, v] ∧ OexC K C ∧ PySem.W.findIn K (.ref C) fl = some none ∧ H a = some (exo a C none) ∧ ∀ dx, H dx = none → dx ≠ a → Q .non (upd (upd H dx (exd dx [(fl, v)])) a (exo a C (some dx)))
theorem xc_mk {C : Addr} {fl : Str} {K : PySem.W.Frag} {ta : TA} {σ : L2.St} {H : Hp} {Q : XK} (T : OexC K C) (no : PySem.W.findIn K (.ref C) fl = some none)
    (h : ta σ H fun vs H1 => ∃ v, vs = [v] ∧ ∀ d H2, Same H1 H2 → H2 d = some (.xd [(fl, v)]) → Q (.ref C) (some d) H2) (mono : ∀ {A B : List V → Hp → Prop}, (∀ vs H1, A vs H1 → B vs H1) → ta σ H A → ta σ H B) : tMkO C (sp_init K fl) [] ta σ H Q := by
  refine mono ?_ h
  rintro vs H1 ⟨v, rfl, k⟩
  refine ⟨by show 1 ≤ 1000; decide, fun a na => ⟨a, C, v, rfl, T, no, upd_same, fun dx nd da => ⟨rfl, dx, [(fl, v)], upd_same, ?_, ?_, ?_⟩⟩⟩
  · rw [upd_ne da, upd_same]
  · rw [upd_ne da] at nd
    exact nd
  · have nd1 : H1 dx = none := by
      rw [upd_ne da] at nd
      exact nd
    refine k dx _ (fun b o hb => ?_) upd_same
    rw [upd_ne (ne_of_none hb nd1), del_ne (ne_of_none hb na), upd_ne (ne_of_none hb na), upd_ne (ne_of_none hb nd1), upd_ne (ne_of_none hb na)]
    exact hb
end Sm

set_option linter.all false
set_option maxRecDepth 100000
namespace Sm
section
variable {T1 T2 : List Int} {p1 p2 : Nat} {r1 r2 : Int}
/-- two rules that are equal far off: the shorter one's period divides the other one's -/
theorem far_le {A : Nat} (s1 : Short T1 p1 r1) (o2 : RuleOk T2 p2 r2) (h : ∀ x, A ≤ x → vl T1 p1 r1 x = vl T2 p2 r2 x) : Nat.gcd p1 p2 = p1 := by
  have o1 := s1.ok
  obtain ⟨c, hc⟩ := gcd_turn (f := vl T1 p1 r1) (A := max A (max (T1.length - p1) (T2.length - p2))) _ p1 p2 (Nat.le_refl _) o1.p0 o2.p0 ⟨r1, fun x hx => vl_add o1.p0 o1.p1 (by omega)⟩
    ⟨r2, fun x hx => by rw [h x (by omega), h (x + p2) (by omega)]; exact vl_add o2.p0 o2.p1 (by omega)⟩
  have g0 : 0 < Nat.gcd p1 p2 := Nat.gcd_pos_of_pos_left _ o1.p0
  have gl : Nat.gcd p1 p2 ≤ p1 := Nat.le_of_dvd o1.p0 (Nat.gcd_dvd_left ..)
  by_cases q : Nat.gcd p1 p2 = p1
  · exact q
  · refine absurd (fun i h1 h2 => ?_) (s1.turn (Nat.gcd p1 p2) c g0 (by omega) (Nat.gcd_dvd_left ..))
    have := rep_down o1 hc (x := i) h1
    rw [vl_lt h2] at this
    exact this
theorem far_turn {A : Nat} (s1 : Short T1 p1 r1) (s2 : Short T2 p2 r2) (h : ∀ x, A ≤ x → vl T1 p1 r1 x = vl T2 p2 r2 x) : p1 = p2 ∧ r1 = r2 := by
  have a := far_le s1 s2.ok h
  have b := far_le s2 s1.ok fun x hx => (h x hx).symm
  rw [Nat.gcd_comm] at b
  have e : p1 = p2 := a.symm.trans b
  refine ⟨e, ?_⟩
  subst e
  have e1 := vl_add (r := r1) s1.ok.p0 s1.ok.p1 (x := A + T1.length + T2.length) (by omega)
  have e2 := vl_add (r := r2) s2.ok.p0 s2.ok.p1 (x := A + T1.length + T2.length) (by omega)
  rw [h _ (by omega), h _ (by omega)] at e1
  omega
/-- from B on the one is nowhere below: the greater values repeat as it does -/
theorem over_turn {B : Nat} (o1 : RuleOk T1 p1 r1) (hB : T1.length - p1 ≤ B) (hL : ∀ x, B ≤ x → vl T2 p2 r2 x ≤ vl T1 p1 r1 x) : ∀ x, B ≤ x → max (vl T1 p1 r1 (x + p1)) (vl T2 p2 r2 (x + p1)) = max (vl T1 p1 r1 x) (vl T2 p2 r2 x) + r1 := by
  intro x hx
  have a := hL x hx
  have b := hL (x + p1) (by omega)
  have c := vl_add o1.p0 o1.p1 (r := r1) (x := x) (by omega)
  omega
/-- the shortest table of the greater values: it ends a period behind the last amount at which the flat one is above -/
theorem over_len {T : List Int} {p L : Nat} {r : Int} (s : Short T p r) (s1 : Short T1 p1 r1) (hv : ∀ x, vl T p r x = max (vl T1 p1 r1 x) (vl T2 p2 r2 x)) (hL : T1.length - p1 ≤ L) (above : vl T1 p1 r1 L < vl T2 p2 r2 L) (behind : ∀ x, L < x → vl T2 p2 r2 x ≤ vl T1 p1 r1 x) :
    p = p1 ∧ r = r1 ∧ T.length = L + 1 + p1 := by
  have far : ∀ x, L + 1 ≤ x → vl T p r x = vl T1 p1 r1 x := fun x hx => by
    rw [hv]
    have := behind x (by omega)
    omega
  obtain ⟨rfl, rfl⟩ := far_turn s s1 far
  refine ⟨rfl, rfl, ?_⟩
  have o := s.ok
  have o1 := s1.ok
  have p0 := o.p0
  have q1 := o.p1
  rcases Nat.lt_trichotomy T.length (L + 1 + p) with l | l | l
  · exfalso
    have a := vl_add (r := r) p0 q1 (x := L) (by omega)
    have b := vl_add (r := r) p0 o1.p1 (x := L) hL
    rw [far (L + p) (by omega), b, hv L] at a
    omega
  · exact l
  · exfalso
    rcases s.start with e | e
    · omega
    · apply e
      have c := far (T.length - 1) (by omega)
      have d := far (T.length - p - 1) (by omega)
      have f := vl_add (r := r) p0 o1.p1 (x := T.length - p - 1) (by omega)
      rw [show T.length - p - 1 + p = T.length - 1 by omega] at f
      rw [c, f, ← d, vl_lt (by omega)]
end
end Sm

set_option maxHeartbeats 4000000
namespace Sm
/-! the second rule's value at the first one's -/
section
variable {T1 T2 : List Int} {p1 p2 : Nat} {r1 r2 : Int}
def thn (T1 : List Int) (p1 : Nat) (r1 : Int) (T2 : List Int) (p2 : Nat) (r2 : Int) (x : Nat) : Int := vl T2 p2 r2 (vl T1 p1 r1 x).toNat
theorem thn_pos (o2 : RuleOk T2 p2 r2) (x : Nat) : 0 ≤ thn T1 p1 r1 T2 p2 r2 x := o2.pos _
theorem thn_up (o1 : RuleOk T1 p1 r1) (o2 : RuleOk T2 p2 r2) (x : Nat) : thn T1 p1 r1 T2 p2 r2 x ≤ thn T1 p1 r1 T2 p2 r2 (x + 1) := by
  have := o1.up x
  exact o2.le (by omega)
theorem thn_turn {B a b : Nat} (o1 : RuleOk T1 p1 r1) (o2 : RuleOk T2 p2 r2) (hB : T1.length - p1 ≤ B) (hab : (a : Int) * r1 = (b : Int) * (p2 : Int)) (hb : b = 0 ∨ ((T2.length - p2 : Nat) : Int) ≤ vl T1 p1 r1 B) :
    ∀ x, B ≤ x → thn T1 p1 r1 T2 p2 r2 (x + a * p1) = thn T1 p1 r1 T2 p2 r2 x + (b : Int) * r2 := by
  intro x hx
  unfold thn
  have e1 := vl_addk o1.p0 o1.p1 (r := r1) (x := x) (by omega) a
  rw [e1, hab]
  have n1 := o1.pos x
  have up := o1.le hx
  rcases hb with rfl | hb
  · simp
  · have e : (vl T1 p1 r1 x + (b : Int) * (p2 : Int)).toNat = (vl T1 p1 r1 x).toNat + b * p2 := by
      rw [← Int.natCast_mul]
      omega
    rw [e]
    exact vl_addk o2.p0 o2.p1 (r := r2) (by omega) b
/-- the turns that then_rule takes -/
theorem thn_times (p0 : 0 < p2) (r0 : 0 ≤ r1) : 0 < p2 / Nat.gcd p2 r1.natAbs ∧ p2 / Nat.gcd p2 r1.natAbs ≤ p2 ∧ ((p2 / Nat.gcd p2 r1.natAbs : Nat) : Int) * r1 = ((r1.natAbs * (p2 / Nat.gcd p2 r1.natAbs) / p2 : Nat) : Int) * (p2 : Int) := by
  have g0 := Nat.gcd_pos_of_pos_left r1.natAbs p0
  obtain ⟨c, hc⟩ := Nat.gcd_dvd_left p2 r1.natAbs
  obtain ⟨d, hd⟩ := Nat.gcd_dvd_right p2 r1.natAbs
  have e : p2 / Nat.gcd p2 r1.natAbs = c := by
    rw [Nat.div_eq_of_eq_mul_right g0 hc]
  rw [e]
  have c0 : 0 < c := by
    rcases Nat.eq_zero_or_pos c with z | z
    · rw [z, Nat.mul_zero] at hc
      omega
    · exact z
  refine ⟨c0, ?_, ?_⟩
  · rw [← e]
    exact Nat.div_le_self ..
  · generalize Nat.gcd p2 r1.natAbs = g at *
    have m : r1.natAbs * c / p2 = d := by
      rw [hd, hc, show g * d * c = g * c * d by rw [Nat.mul_assoc, Nat.mul_comm d c, Nat.mul_assoc]]
      exact Nat.mul_div_cancel_left _ (Nat.mul_pos g0 c0)
    rw [m]
    have er : r1 = ((g * d : Nat) : Int) := by omega
    rw [er, hc, ← Int.natCast_mul, ← Int.natCast_mul]
    congr 1
    rw [Nat.mul_comm d, Nat.mul_assoc, Nat.mul_left_comm]
end
/-- one step, at the end -/
def stepT (N : Nat) : List Int := List.replicate N 0 ++ [9]
theorem step_len (N : Nat) : (stepT N).length = N + 1 := by
  unfold stepT
  rw [List.length_append, List.length_replicate]
  rfl
theorem step_at {N i : Nat} : (stepT N).getD i 0 = if i = N then 9 else 0 := by
  unfold stepT
  rw [List.getD_eq_getElem?_getD, List.getElem?_append, List.length_replicate]
  split
  · rw [if_neg (by omega), List.getElem?_replicate]
    split <;> rfl
  · split
    · rename_i h
      rw [h, Nat.sub_self]
      rfl
    · rw [List.getElem?_eq_none (by rw [List.length_singleton]; omega)]
      rfl
theorem step_ok {N : Nat} {r : Int} (h : 0 ≤ r) : RuleOk (stepT N) 1 r := by
  have l := step_len N
  refine ⟨by decide, by omega, h, fun i hi => ?_, fun i hi => ?_, ?_⟩
  · rw [step_at]
    split <;> omega
  · rw [step_at, step_at]
    split <;> split <;> omega
  · rw [l, Nat.add_sub_cancel]
    omega
theorem step_vl {N : Nat} (x : Nat) : vl (stepT N) 1 0 x = if x < N then 0 else 9 := by
  have l := step_len N
  unfold vl
  rw [l]
  split
  · rw [step_at]
    split <;> split <;> omega
  · rw [if_neg (by omega), Nat.div_one, Nat.mul_one, show x - (x - (N + 1) + 1) = N by omega, step_at, if_pos rfl, Int.mul_zero, Int.add_zero]
theorem step_short {N : Nat} (h : 0 < N) : Short (stepT N) 1 0 := by
  have l := step_len N
  refine ⟨step_ok (by decide), fun s c h1 h2 => by omega, .inr ?_⟩
  rw [step_vl, step_at, l, if_neg (by omega), if_neg (by omega)]
  decide
end Sm

set_option Elab.async false
set_option linter.all false
set_option maxRecDepth 100000
set_option maxHeartbeats 4000000
namespace Sm
open PySem PySem.Spec PyProof.Rows L2
/-! ### a tuple taken once, or no times -/
theorem tuple_once (l : Addr) (items : Array Value) (n : Nat) (dd : Option Addr) (sl : Array (Option Value)) (u : Tok) :
    Meets (Builtin.«tuple.__mul__» ⟨[.ref l, .int 1 u], []⟩) (fun _ R s => s.heap.get? l = some { cls := .type "tuple", dict := dd, data := .seq items n, slots := sl } ∧ R (.ok (.ret (Value.ref l))) s) :=
  .of_wp fun prog w A R s h => by
    obtain ⟨hp, g, d, tk, os⟩ := s
    obtain ⟨hl, h⟩ := h
    have f1 := AutoSeq1.idx_int
    have c0 : (decide ((1 : Int) < -(2 ^ 63)) || decide ((1 : Int) ≥ 2 ^ 63)) = false := by decide
    wp_walk using wpAny_loadPart' hl
    exact ⟨_, rfl, h⟩
theorem tuple_zero (l : Addr) (items : Array Value) (n : Nat) (dd : Option Addr) (sl : Array (Option Value)) (u : Tok) (hi : items.isEmpty = false) :
    Meets (Builtin.«tuple.__mul__» ⟨[.ref l, .int 0 u], []⟩) (fun _ R s => s.heap.get? l = some { cls := .type "tuple", dict := dd, data := .seq items n, slots := sl } ∧ R (.ok (.ret (Value.ref s.heap.objs.size))) { s with heap := s.heap.push { cls := Value.type "tuple", data := Data.seq #[] } }) :=
  .of_wp fun prog w A R s h => by
    obtain ⟨hp, g, d, tk, os⟩ := s
    obtain ⟨hl, h⟩ := h
    have f1 := AutoSeq1.idx_int
    wp_walk using wpAny_loadPart' hl
    exact ⟨_, rfl, h⟩
section
variable {X : Cx}
/-- tuple * int, the int from 0 on -/
theorem op_rep0 : OpR X (binaryOp .Mult) (fun x y H Q => ∃ (l : Addr) (k : Int) (xs : List V), x = .ref l ∧ y = .int k ∧ H l = some (.tup xs) ∧ xs ≠ [] ∧ 0 ≤ k ∧ k ≤ 1000 ∧ xs.length ≤ 1000 ∧
    ∀ H' q, Same H H' → H' q = some (.tup (List.replicate k.toNat xs).flatten) → Q (.ref q) H') := by
  intro pins s σ H x y v u Q I rx ry want
  obtain ⟨l, k, xs, rfl, rfl, hT, hne, h0, h1, hz, q⟩ := want
  by_cases big : 2 ≤ k
  · exact op_repT pins s σ H _ _ v u Q I rx ry ⟨l, k, xs, rfl, rfl, SqT.of hT, hne, big, h1, hz, fun p np => q _ p (fun b o e => by rw [upd_ne (ne_of_none e np)]; exact e) upd_same⟩
  cases rx
  obtain ⟨t, rfl⟩ := ry
  obtain ⟨its, r, ⟨⟨cls, dd, data, sl⟩, ho, hc, n, hd⟩, hs⟩ := I.tuple (SqT.of hT)
  simp only at hc hd
  subst hc hd
  have hi : its.toArray.isEmpty = false := by
    cases its with
    | nil =>
      have := r.length
      exact absurd (List.eq_nil_of_length_eq_zero this) hne
    | cons a b => rfl
  by_cases one : k = 1
  · subst one
    refine wpAny_binaryOp_repeat_ref (T := "tuple") (U := "int") (by decide) ⟨_, ho, rfl⟩ (fun s' => typeIs_int s' 1 t) noFill_tuple_mul F.fills_int_mul F.slot_int_rmul repeat_tuple F.slot_int_index.lookup
      (call_meets F.slot_int_rmul (typeIs_int s 1 t) F.entry_int_rmul (F.args_int_rmul_2 _ _) (int_rmul_tuple 1 t l its.toArray n dd sl) ⟨ho, rfl, ⟨_, ho, rfl⟩, ?_⟩)
    refine call_meets F.slot_tuple_mul ⟨_, ho, rfl⟩ F.entry_tuple_mul (F.args_tuple_mul_2 _ _) (tuple_once l its.toArray n dd sl t) ⟨ho, ?_⟩
    refine ⟨.ref l, H, I, rfl, q H l (Same.refl H) ?_⟩
    rw [hT]
    simp
  · have zero : k = 0 := by omega
    subst zero
    refine wpAny_binaryOp_repeat_ref (T := "tuple") (U := "int") (by decide) ⟨_, ho, rfl⟩ (fun s' => typeIs_int s' 0 t) noFill_tuple_mul F.fills_int_mul F.slot_int_rmul repeat_tuple F.slot_int_index.lookup
      (call_meets F.slot_int_rmul (typeIs_int s 0 t) F.entry_int_rmul (F.args_int_rmul_2 _ _) (int_rmul_tuple 0 t l its.toArray n dd sl) ⟨ho, rfl, ⟨_, ho, rfl⟩, ?_⟩)
    refine call_meets F.slot_tuple_mul ⟨_, ho, rfl⟩ F.entry_tuple_mul (F.args_tuple_mul_2 _ _) (tuple_zero l its.toArray n dd sl t hi) ⟨ho, ?_⟩
    have fresh := I.hok.fresh (Nat.le_refl s.heap.objs.size)
    refine ⟨.ref s.heap.objs.size, upd H s.heap.objs.size (.tup []), I.laid (t' := s.toks) (fun b ob e => Heap.get?_push_of_some _ e) (Nat.le_refl _) ?_, rfl, q _ _ (fun b o e => by rw [upd_ne (ne_of_none e fresh)]; exact e) upd_same⟩
    exact ⟨Nat.zero_le _, [], .nil, IsTup.new _ _⟩
end
end Sm

set_option Elab.async false
set_option linter.all false
set_option maxRecDepth 100000
set_option maxHeartbeats 4000000
namespace Sm
open PySem PySem.Spec PyProof.Rows L2 LamX
/-- told: try: return a() / except e as n: a suite that is told by ts -/
def TAs (K : PySem.W.Frag) (CS : Addr) (Ng : List Str) (i : Nat) (ts : Addr → Value → Option Addr → TS) : (XK → Hp → VK → Prop) → Hp → VK → Prop := fun tl H Q =>
  tl (fun cls d H' => ∃ b, PySem.W.exmOne K cls (.ref CS) = some b ∧ (b = true → ∀ (σ : L2.St) (c : Addr), σ.length = Ng.length → H' c = none → ts c cls d { nx := fun _ H2 => Q .non H2, rt := Q } (σ.set i (some (.ref c))) H') ∧ (b = false → False)) H Q
theorem set_read {σ : L2.St} {N : List Str} {n : Str} {i : Nat} {v : V} (h : σ.length = N.length) (hi : N[i]? = some n) : (σ.set i (some v))[i]? = some (some v) := by
  have := (List.getElem?_eq_some_iff.mp hi).1
  rw [List.getElem?_set_self (by omega)]
/-- where an exception is taken, all slots are there -/
theorem takes_len {X : Cx} {W : WX} (t : Takes X W) : Takes X (fun cls d σ H => σ.length = X.N.length → W cls d σ H) := fun u s' z => by
  obtain ⟨a, B, sI, pins, σ, H, cls, d, e, I, nb, up, sky, na, os, ag, w⟩ := z
  exact t u s' ⟨a, B, sI, pins, σ, H, cls, d, e, I, nb, up, sky, na, os, ag, w I.len⟩
section
variable {X : Cx} {Ng : List Str} {x a e n q : Str} {sg : Scope} {g CS : Addr} {cdg : Value} {i : Nat} {b₀ : Stmt} {suite : List Stmt} {p1 p2 p3 p4 p5 p6 : Pos} {ts : Addr → Value → Option Addr → TS}
/-- the def that calls what it got and holds the exception in a suite of its own -/
theorem as_gives (hge : sg.names.lookup e = some .globalImplicit) (hme : X.mg e = some (.ref CS)) (hde : (e == ("__debug__" : Str)) = false) (h0 : ∀ f : Addr, (L2.start Ng [V.ref f])[0]? = some (some (V.ref f))) (nd : Ng.Nodup) (hi : Ng[i]? = some n)
    (hln : ∀ (s : Shared) (H : Hp), (cxOf C8.CX0 X.prog X.w X.K X.mg X.base Ng x sg g cdg X.A X.stack s H C8.E0).nox.env.kindOf n = some .local)
    (hsu : ∀ (s : Shared) (H : Hp) (c : Addr) (oe : Obj) (cls : Value) (d : Option Addr) (pn : List (Addr × Obj)), Zc cls d oe → (∃ vs, oe.data = .fields vs) → PSs ((cxOf C8.CX0 X.prog X.w X.K X.mg X.base Ng x sg g cdg X.A X.stack s H C8.E0).nox.suite c ((c, oe) :: pn)) (b₀ :: suite) (ts c cls d)) :
    GivesTo X Ng x sg g cdg [.Try [.Return (some (.Call (.Name a p1) [] [] p2)) p3] [.ExceptHandler (some (.Name e p4)) (some n) (b₀ :: suite) p5] [] [] p6] a q (TAs X.K CS Ng i ts) := by
  intro f c' s H Q tl act known told
  let Z := (cxOf C8.CX0 X.prog X.w X.K X.mg X.base Ng x sg g cdg X.A X.stack s H C8.E0).nox
  have glob : Gl Z e := hge
  let body : WX → TS := fun W D σ H1 => ∃ out : XK, (∀ cls d (σ' : L2.St) H', out cls d H' → σ'.length = Ng.length → W cls d σ' H') ∧ σ[0]? = some (some (.ref f)) ∧ H1 c' = some (CodeO c' q) ∧ tl out H1 D.rt
  have inner : ∀ (W : WX) (pn : List (Addr × Obj)) (xe : Value → Shared → Prop), Takes (Z.tr pn xe) W → PassesOwn (model Z.prog Z.w) Z.A Z.env xe → PSs (Z.tr pn xe) [.Return (some (.Call (.Name a p1) [] [] p2)) p3] (body W) := by
    intro W pn xe tk _
    refine ⟨fun pins s' σ H' D I told' => ?_⟩
    obtain ⟨out, hW, h1, h2, h3⟩ := told'
    exact (pss_one (ps_ret (pos := p3) (act _ pn xe out p1 p2 (takes_len tk) hW))).run pins s' σ H' D I ⟨h1, h2, h3⟩
  refine ⟨_, pss_one (ps_try_as (X := Z) (c := .ref CS) (i := i) (tb := body) (ts := ts) (Wout := fun _ _ _ _ => False) rfl rfl nd hi (hln s H) ⟨glob, hde, .inl hme⟩ L2.takes0 inner (fun c oe cls d pn hz hf => hsu s H c oe cls d pn hz hf)), ?_⟩
  exact ⟨_, fun cls d σ' H' w len => by
    obtain ⟨b, e1, e2, e3⟩ := w
    exact ⟨b, e1, fun hb c nc => e2 hb σ' c len nc, fun hb => e3 hb⟩, h0 f, known, told⟩
end
end Sm

set_option Elab.async false
set_option linter.all false
set_option maxRecDepth 100000
set_option maxHeartbeats 4000000
namespace Sm
open PySem PySem.Spec PyProof.Rows L2 LamX
/-! ### the law's own call where the law makes lambdas: its table of code objects is tracked too -/
theorem law_atT {P : Program} {w : World} {K : PySem.W.Frag} {mg mb : Str → Option Value} {k : Nat} {fa a c Pt : Addr} {fd : FuncData} {x : Str} {sp : Sp} {s₁ : Shared} {vs : List Value} {ns : List Int}
    (inK : K.In s₁.heap) (names : s₁.heap.Ns mainGlobals mg) (bnames : s₁.heap.Ns builtinsNs mb) (boots : ∀ x : Str, x ≠ "__name__" → mb x = bootBuiltins x) (unlim : s₁.heap.NoLimit) (nogen : s₁.gens = #[])
    (empty : s₁.heap.get? Pt = some (PySem.W.tabObj #[])) (loose : K.lookup Pt = none) (head : PySem.W.codeHdIn K c Pt = true)
    (mods : ∃ (bm : Addr) (ob : Obj), mg "__builtins__" = some (.ref bm) ∧ bm ≠ builtinsNs ∧ s₁.heap.get? bm = some ob ∧ ob.cls = .type "module" ∧ ob.dict = some builtinsNs ∧ ob.data = .plain)
    (script : s₁.heap.get? a = some { cls := .type "list", data := .seq vs.toArray }) (whole : IntsAre vs ns) (few : ns.length ≤ sizeLine) (room : Room k callerA)
    (each : ∀ base : Heap, K.In base → base.Ns mainGlobals mg → TabB base mg c Pt → FnG P w K mg base k fa fd [x] sp) (binds : ∀ (s : Shared) (u : Value), BindsTo s fd ⟨[u], []⟩ [(x, u)])
    (asked : ∀ H : Hp, H Pt = some (.tbl #[]) → SqL K H a (ns.map V.int) → sp [.ref a] H (fun v _ => v = .bl true) E0) :
    codeAny (model P w) callerA (.call (.ref fa) ⟨[.ref a], []⟩) (fun r s' => r = .ok (.ret (.bool true)) ∧ OldK s₁.heap s'.heap ∧ s'.os = s₁.os ∧ AllBare s'.gens) s₁ := by
  have ivs := vals_ints whole
  have apart : a ≠ Pt := fun e => by
    rw [e, empty] at script
    have z : Data.fields #[] = Data.seq vs.toArray _ := congrArg Obj.data (Option.some.inj script)
    cases z
  -- what is tracked: the table, and the script if the module does not hold it itself
  obtain ⟨H, table, seq, ok, only, free⟩ : ∃ H : Hp, H Pt = some (.tbl #[]) ∧ SqL K H a (ns.map V.int) ∧ HOk P w H s₁.heap ∧ (∀ b u, H b = some u → (b = a ∧ u = .frz { cls := .type "list", data := .seq vs.toArray } (.lst (ns.map V.int))) ∨ (b = Pt ∧ u = .tbl #[])) ∧ ∀ b u, H b = some u → K.lookup b = none := by
    cases look : K.lookup a with
    | some o =>
      have same := inK a o look
      rw [script] at same
      injection same with same
      subst same
      have one : ∀ b u, (fun b => if b = Pt then some (HO.tbl #[]) else none : Hp) b = some u → b = Pt ∧ u = .tbl #[] := by
        intro b u z
        by_cases e : b = Pt
        · exact ⟨e, (Option.some.inj ((if_pos e).symm.trans z)).symm⟩
        · exact nomatch (if_neg e).symm.trans z
      refine ⟨fun b => if b = Pt then some (.tbl #[]) else none, if_pos rfl, .inr ⟨_, vs.toArray, _, look, rfl, rfl, rfl, ?_, ?_⟩, fun b u z => ?_, fun b u z => .inr (one b u z), fun b u z => ?_⟩
      · rw [List.size_toArray, whole.length]
        exact few
      · simpa using ivs
      · obtain ⟨rfl, rfl⟩ := one b u z
        exact empty
      · rw [(one b u z).1]
        exact loose
    | none =>
      have two : ∀ b u, (fun b => if b = a then some (HO.frz { cls := .type "list", data := .seq vs.toArray } (.lst (ns.map V.int))) else if b = Pt then some (HO.tbl #[]) else none : Hp) b = some u → (b = a ∧ u = .frz { cls := .type "list", data := .seq vs.toArray } (.lst (ns.map V.int))) ∨ (b = Pt ∧ u = .tbl #[]) := by
        intro b u z
        by_cases e : b = a
        · exact .inl ⟨e, (Option.some.inj ((if_pos e).symm.trans z)).symm⟩
        · have z := (if_neg e).symm.trans z
          by_cases e2 : b = Pt
          · exact .inr ⟨e2, (Option.some.inj ((if_pos e2).symm.trans z)).symm⟩
          · exact nomatch (if_neg e2).symm.trans z
      refine ⟨_, (if_neg apart.symm).trans (if_pos rfl), .inl (.inr ⟨_, if_pos rfl⟩), fun b u z => ?_, two, fun b u z => ?_⟩
      · rcases two b u z with ⟨rfl, rfl⟩ | ⟨rfl, rfl⟩
        · exact ⟨script, by rw [List.length_map]; exact few, vs, _, ivs, script⟩
        · exact empty
      · rcases two b u z with ⟨rfl, _⟩ | ⟨rfl, _⟩
        · exact look
        · exact loose
  have stays : ∀ {b : Addr} {o : Obj}, s₁.heap.get? b = some o → (∀ u, H b ≠ some u) → (hidT s₁.heap H).get? b = some o := fun {b o} e no => hidT_get e (by
    cases z : H b with
    | none => rfl
    | some u => exact (no u z).elim)
  have plainly : ∀ {b : Addr} {o : Obj}, s₁.heap.get? b = some o → (∀ v n, o.data ≠ .seq v n) → (∀ v, o.data ≠ .fields v) → (hidT s₁.heap H).get? b = some o := fun {b o} e n1 n2 => stays e fun u z => by
    rcases only b u z with ⟨rfl, _⟩ | ⟨rfl, _⟩
    · rw [script] at e
      injection e with e
      subst e
      exact n1 _ _ rfl
    · rw [empty] at e
      injection e with e
      subst e
      exact n2 _ rfl
  have spaces : ∀ {b : Addr} {m : Str → Option Value}, s₁.heap.Ns b m → (hidT s₁.heap H).Ns b m := by
    rintro b m ⟨o, es, ep, there, data, rest⟩
    refine ⟨o, es, ep, plainly there (fun v n z => ?_) (fun v z => ?_), data, rest⟩
    · rw [data] at z
      exact nomatch z
    · rw [data] at z
      exact nomatch z
  have inn : K.In (hidT s₁.heap H) := fun b o e => stays (inK b o e) fun u z => by
    rw [free b u z] at e
    exact nomatch e
  have mod : Mod K mg (hidT s₁.heap H) := by
    obtain ⟨mc, c1, c2⟩ := unlim
    exact ⟨inn, spaces names, ⟨mb, spaces bnames, boots⟩, mc, spaces c1, c2⟩
  have tb : TabB (hidT s₁.heap H) mg c Pt := by
    refine ⟨PySem.W.codeHd_of_K inn head, ?_, fun z => ?_⟩
    · obtain ⟨bm, ob, m1, m2, m3, m4, m5, m6⟩ := mods
      refine ⟨bm, ob, m1, m2, fun z => ?_, fun z => ?_, plainly m3 (fun v n z => ?_) (fun v z => ?_), m4, m5, m6⟩
      · obtain ⟨o, es, ep, there, data, _⟩ := names
        rw [z, there] at m3
        injection m3 with m3
        subst m3
        rw [data] at m6
        exact nomatch m6
      · rw [z, empty] at m3
        injection m3 with m3
        subst m3
        exact nomatch m6
      · rw [m6] at z
        exact nomatch z
      · rw [m6] at z
        exact nomatch z
    · obtain ⟨o, es, ep, there, data, _⟩ := names
      rw [z, empty] at there
      injection there with there
      subst there
      exact nomatch data
  have e0 : Env0 P w K mg (hidT s₁.heap H) callerA [] s₁ H := by
    refine ⟨rfl, mod, fun b o e => of_hidT e, Nat.le_of_eq (hidT_size _ _), trivial, ?_, ok, .of_eq nogen⟩
    intro b q
    exact absurd q (List.not_mem_nil (a := b))
  refine codeAny_mono ((each _ inn (spaces names) tb).run callerA [] s₁ H ⟨[.ref a], []⟩ [.ref a] [.ref a] _ _ rfl room e0 (binds s₁ (.ref a)) (.cons rfl .nil) (asked H table seq)) ?_
  rintro (e | out) s' got
  · exact got.elim
  · match out, got with
    | .next, got => exact got.elim
    | .brk, got => exact got.elim
    | .cont, got => exact got.elim
    | .ret u, ⟨v, H', os, bare, un, ok', rel, q⟩ =>
      have q : v = V.bl true := q
      subst q
      have rel : u = Value.bool true := rel
      subst rel
      have kept : ∀ b o, b ≠ Pt → s₁.heap.get? b = some o → s'.heap.get? b = some o := fun b o other e => by
        cases z : H b with
        | none => exact un.keep b o e z (List.not_mem_nil (a := b)) (List.not_mem_nil (a := b))
        | some u =>
          rcases only b u z with ⟨rfl, rfl⟩ | ⟨rfl, rfl⟩
          · have now := (ok' _ _ (un.frzs _ _ _ z)).1
            rw [script] at e
            injection e with e
            rw [← e]
            exact now
          · exact (other rfl).elim
      obtain ⟨more, grown⟩ := un.tbls Pt #[] table
      have grown := ok' Pt _ grown
      refine ⟨rfl, ⟨fun b o e => ?_, fun b o e => ?_⟩, os, bare⟩
      · by_cases eb : b = Pt
        · subst eb
          rw [empty] at e
          injection e with e
          subst e
          exact .inr (.inl ⟨((PySem.W.codeHd_of_K inK head).tab empty).isCodeTable, rfl, #[], _, rfl, by rw [Array.empty_append]; exact grown⟩)
        · exact .inl (kept b o eb e)
      · by_cases eb : b = Pt
        · subst eb
          exact ⟨_, grown⟩
        · exact ⟨o, kept b o eb e⟩
/-- at the end of a law that makes lambdas of its own -/
theorem walk_at_lawT {l : PySem.W.OpenLaw} {k : Nat} {q : Program} {loose : List Str} {XP : (Str → Option Value) → Heap → Prop} {YP : World → Heap → Prop} {d : DefRec} {K : Params → PySem.W.Frag} {sp : PySem.W.Frag → Addr → Sp} {x : Str}
    (hn : l.most = some 63) (hdf : d.params.defaults = []) (listed : ((recsOf q).any fun e => e.name == d.name) = true) (hr : Room k callerA) (hY : ∀ (w : World) (h : Heap), YP w h → (K w.params).In h)
    (F : ∀ (w : World) (mg : Str → Option Value) (fa : Addr) (h : Heap), (K w.params).In h → h.Ns mainGlobals mg → mg d.name = some (.ref fa) → OwnTab (K w.params) fa h →
      ∃ (fd : FuncData) (c Pt : Addr), h.get? Pt = some (PySem.W.tabObj #[]) ∧ (K w.params).lookup Pt = none ∧ PySem.W.codeHdIn (K w.params) c Pt = true ∧ (∀ (s : Shared) (u : Value), BindsTo s fd ⟨[u], []⟩ [(x, u)]) ∧
        ∀ base : Heap, (K w.params).In base → base.Ns mainGlobals mg → TabB base mg c Pt → FnG l.prog w (K w.params) mg base k fa fd [x] (sp (K w.params) Pt))
    (asked : ∀ (K : PySem.W.Frag) (Pt : Addr) (H : Hp) (a : Addr) (ns : List Int), ns.length ≤ 63 → H Pt = some (.tbl #[]) → SqL K H a (ns.map V.int) → sp K Pt [.ref a] H (fun v _ => v = .bl true) E0) :
    PySem.W.WalkO q loose XP YP l.row.toRowW d [] (fun f vs => PySem.call f vs) := by
  refine Att.attach_call hn hdf ?_
  intro w s₀ s₁ mg mb fa o pm cd doc a vs ns G Y ho hd hcd hmg hobj hints hlen hg
  have inn := hY w _ Y
  have mine : OwnTab (K w.params) fa s₁.heap := by
    intro c Pt o1 fd1 e dd vs1 sl z1 z2 z3 z4 z5
    obtain ⟨r, mem, same⟩ := List.any_eq_true.mp listed
    obtain ⟨a2, o2, fd2, c2, P2, y1, y2, y3, y4, _, ⟨oc, vc, x1, _, x3, x4⟩, there⟩ := G.T.tab r mem
    rw [beq_iff_eq.mp same, hmg] at y1
    obtain rfl : fa = a2 := by
      injection y1 with y1
      injection y1
    have f1 := inn _ _ z1
    rw [y2] at f1
    injection f1 with f1
    subst f1
    rw [z2] at y3
    injection y3 with y3
    subst y3
    rw [z3] at y4
    injection y4 with y4
    subst y4
    have f2 := inn _ _ z4
    rw [x1] at f2
    injection f2 with f2
    subst f2
    injection x3 with x3
    subst x3
    rw [z5] at x4
    injection x4 with x4
    injection x4 with x4
    subst x4
    exact there
  obtain ⟨fd, c, Pt, t1, t2, t3, bind, each⟩ := F w mg fa _ inn G.T.g hmg mine
  exact law_atT inn G.T.g G.T.b G.T.builtins G.T.nolimit hg t1 t2 t3 G.T.bmain hobj hints (Nat.le_trans hlen (by decide)) hr each bind fun H tb sq => asked (K w.params) Pt H a ns hlen tb sq
/-- the law's own def, its code object known -/
theorem FnG.bodyC {P : Program} {w : World} {K : PySem.W.Frag} {mg : Str → Option Value} {base : Heap} {k : Nat} {f c : Addr} {fd : FuncData} {ps : List Str} {sp : Sp} {x : Str} {st : Stmt} {N : List Str} (F : Fun K x x st f fd) (code : fd.code = .ref c) (S : FnScope N ps (defScope st)) (len : ∀ vs H Q E, sp vs H Q E → vs.length = ps.length)
    (hb : ∀ (A : Around) (outer : List Env) (s : Shared) (H : Hp) (vs : List V) (Q : VK) (E : XK), A.guards = some [] → Room k (A.deeper (envOfC x (defScope st) s.heap.objs.size f (.ref c))) → sp vs H Q E →
      ∃ t, PSs (cxOf CX0 P w K mg base N x (defScope st) f (.ref c) A outer s H E).nox (defBody st) t ∧ t { nx := fun _ H' => Q .non H', rt := Q } (L2.start N vs) H) : FnG P w K mg base (k + 1) f fd ps sp := by
  obtain ⟨oc, od, kV, doc, pm, an, cdv, ct, osl, efd, look, coded⟩ := F.ex
  subst efd
  have known : cdv = .ref c := code
  subst known
  constructor
  · exact len
  intro A outer s H args us vs Q E guard room e0 bind rel want
  have inn : K.In s.heap := e0.mod.kin.keeps fun b o e => (e0.bs b o e).1
  have nolim : s.heap.NoLimit := e0.mod.nolimit.keeps fun b o e => (e0.bs b o e).1
  refine codeAny_call_function room.depth (inn _ _ look) rfl S.co S.gen rfl (PySem.W.codeRec_of inn coded) (bind _ _ _ _ ?_)
  refine wpAny_newFunctionEnv_cells S.kind ?_ ?_
  · rintro ⟨n, v⟩ there
    have := S.par n (List.of_mem_zip there).1
    cases this with
    | inl q => exact .inl q
    | inr q => exact .inr ⟨q, PySem.W.cellsFrom_some _ _ _ (.inl q)⟩
  · intro env eenv s1 laid
    subst eenv
    refine ⟨nolim.keeps laid.toInCall.keep, codeAny_func ?_⟩
    obtain ⟨t, der, goal⟩ := hb A outer s H vs Q E guard (room.deeper _) want
    have I := inv_start (CX := CX0) (E := E) S room.hd e0 (len _ _ _ _ want) rel laid
    refine wpAny_mono (der.nox.run [] s1 (L2.start N vs) H _ I goal) (fun out s' got => ?_) fun e s' got => got
    match out, got with
    | .ret u, ⟨v, σ', H', J, rv, q⟩ => exact ⟨v, H', J.os, J.bare, J.base, J.hok, rv, q⟩
    | .next, ⟨σ', H', J, q⟩ => exact ⟨V.non, H', J.os, J.bare, J.base, J.hok, rfl, q⟩
    | .brk, ⟨_, _, _, q⟩ => exact q.elim
    | .cont, ⟨_, _, _, q⟩ => exact q.elim
end Sm

set_option Elab.async false
set_option linter.all false
set_option maxRecDepth 100000
set_option maxHeartbeats 8000000
namespace Sm
open PySem PySem.Spec PyProof.Rows L2
open C8 (pss_cut)
def topS (i : Nat) : Stmt := PySem.Challenge.pw_smallchange_k08_rules_one_behind_another.main.body.getD i (.Pass ⟨0, 0, 0, 0⟩)
structure Txt (mg : Str → Option Value) : Prop where
  n_ValueError : mg "ValueError" = none
  n__law_call : mg "_law_call" = none
  n_abs : mg "abs" = none
  n_int : mg "int" = none
  n_isinstance : mg "isinstance" = none
  n_len : mg "len" = none
  n_list : mg "list" = none
  n_max : mg "max" = none
  n_range : mg "range" = none
  n_repr : mg "repr" = none
  n_tuple : mg "tuple" = none
  g_gcd : mg "gcd" = some (.builtin "math.gcd")
  c_MAX_TOLD : ∃ t, mg "MAX_TOLD" = some (.int 5000 t)
/-! ### rules in the heap -/
def RuleAt (H : Hp) (d : Addr) (T : List Int) (p : Nat) (r : Int) : Prop := ∃ t, H d = some (.tup [.ref t, .int (p : Int), .int r]) ∧ H t = some (.tup (T.map V.int))
theorem RuleAt.same {H H' : Hp} {d : Addr} {T : List Int} {p : Nat} {r : Int} (R : RuleAt H d T p r) (s : Same H H') : RuleAt H' d T p r := by
  obtain ⟨t, h1, h2⟩ := R
  exact ⟨t, s _ _ h1, s _ _ h2⟩
theorem RuleAt.fr {H H' : Hp} {d a l : Addr} {n : Int} {T : List Int} {p : Nat} {r : Int} (R : RuleAt H d T p r) (f : Fr a l H H') (D : Deck H a l n) : RuleAt H' d T p r := by
  obtain ⟨t, h1, h2⟩ := R
  exact ⟨t, f.tup D h1, f.tup D h2⟩
structure RB (T : List Int) (p : Nat) (r : Int) : Prop where
  len : T.length ≤ 30000
  r1 : r ≤ 10000000000000000000000000000000000000000
  top : ∀ i, i < T.length → T.getD i 0 ≤ 10000000000000000000000000000000000000000
/-- a small one, with bound M -/
structure RS (M : Int) (T : List Int) (p : Nat) (r : Int) : Prop where
  len : T.length ≤ 300
  turn : p ≤ 40
  r1 : r ≤ M
  top : ∀ i, i < T.length → T.getD i 0 ≤ M
theorem RS.rb {M : Int} {T : List Int} {p : Nat} {r : Int} (b : RS M T p r) (h : M ≤ 10000000000000000) : RB T p r := by
  have h1 := b.r1
  have h2 := b.len
  exact ⟨by omega, by omega, fun i hi => by have := b.top i hi; omega⟩
theorem RS.up {M N : Int} {T : List Int} {p : Nat} {r : Int} (b : RS M T p r) (h : M ≤ N) : RS N T p r := by
  have h1 := b.r1
  exact ⟨b.len, b.turn, by omega, fun i hi => by have := b.top i hi; omega⟩
/-- a rule cut shorter -/
structure Cut (T : List Int) (p : Nat) (r : Int) (T' : List Int) (p' : Nat) (r' : Int) : Prop where
  len : T'.length ≤ T.length
  turn : p' ≤ p
  rise : r' ≤ r
  get : ∀ i, i < T'.length → T'.getD i 0 = T.getD i 0
theorem Cut.rs {M : Int} {T T' : List Int} {p p' : Nat} {r r' : Int} (c : Cut T p r T' p' r') (b : RS M T p r) : RS M T' p' r' := by
  have h1 := c.len
  have h2 := c.turn
  have h3 := c.rise
  have b1 := b.len
  have b2 := b.turn
  have b3 := b.r1
  exact ⟨by omega, by omega, by omega, fun i hi => by rw [c.get i hi]; exact b.top i (by omega)⟩
theorem Cut.rb {T T' : List Int} {p p' : Nat} {r r' : Int} (c : Cut T p r T' p' r') (b : RB T p r) : RB T' p' r' := by
  have h1 := c.len
  have h3 := c.rise
  have b1 := b.len
  have b3 := b.r1
  exact ⟨by omega, by omega, fun i hi => by rw [c.get i hi]; exact b.top i (by omega)⟩
theorem get_int {T : List Int} {i : Nat} (h : i < T.length) : (T.map V.int)[i]? = some (.int (T.getD i 0)) := by
  rw [List.getElem?_map, List.getElem?_eq_getElem h, List.getD_eq_getElem?_getD, List.getElem?_eq_getElem h]
  rfl
theorem atI_neg1 {xs : List V} {v : V} (h0 : 0 < xs.length) (h : xs[xs.length - 1]? = some v) : atI xs (-1) = some v := by
  unfold atI ixN
  rw [if_neg (by decide), if_pos (by omega), show ((-1 : Int) + (xs.length : Int)).toNat = xs.length - 1 by omega]
  exact h
theorem last_int {T : List Int} (h : 0 < T.length) : atI (T.map V.int) (-1) = some (.int (T.getD (T.length - 1) 0)) :=
  atI_neg1 (by rw [List.length_map]; exact h) (by rw [List.length_map]; exact get_int (by omega))
theorem pick4 {a b c d r : Int} (h0 : 0 ≤ r) (h1 : r < 4) : ∃ z, [V.int a, V.int b, V.int c, V.int d][r.toNat]? = some (.int z) ∧ (z = a ∨ z = b ∨ z = c ∨ z = d) := by
  obtain rfl | rfl | rfl | rfl : r = 0 ∨ r = 1 ∨ r = 2 ∨ r = 3 := by omega
  · exact ⟨a, rfl, .inl rfl⟩
  · exact ⟨b, rfl, .inr (.inl rfl)⟩
  · exact ⟨c, rfl, .inr (.inr (.inl rfl))⟩
  · exact ⟨d, rfl, .inr (.inr (.inr rfl))⟩
/-- a table while it grows -/
structure Tb (T : List Int) : Prop where
  ne : 0 < T.length
  nn : ∀ i, i < T.length → 0 ≤ T.getD i 0
  mono : ∀ i, i + 1 < T.length → T.getD i 0 ≤ T.getD (i + 1) 0
  top : ∀ i, i < T.length → T.getD i 0 ≤ 10000000000 * ((i : Int) + 1)
theorem getD_app {T : List Int} {x : Int} {i : Nat} : (T ++ [x]).getD i 0 = if i < T.length then T.getD i 0 else if i = T.length then x else 0 := by
  rw [List.getD_eq_getElem?_getD, List.getD_eq_getElem?_getD, List.getElem?_append]
  by_cases h : i < T.length
  · rw [if_pos h, if_pos h]
  · rw [if_neg h, if_neg h]
    by_cases e : i = T.length
    · rw [if_pos e, e, Nat.sub_self]
      rfl
    · rw [if_neg e, List.getElem?_eq_none (by rw [List.length_singleton]; omega)]
      rfl
theorem Tb.more {T : List Int} (t : Tb T) {c : Int} (c0 : 0 ≤ c) (c1 : c ≤ 1000000000) : Tb (T ++ [T.getD (T.length - 1) 0 + c]) := by
  have n := t.ne
  have l := t.nn (T.length - 1) (by omega)
  have u := t.top (T.length - 1) (by omega)
  refine ⟨by rw [List.length_append]; omega, fun i hi => ?_, fun i hi => ?_, fun i hi => ?_⟩
  · rw [List.length_append, List.length_singleton] at hi
    rw [getD_app]
    split
    · exact t.nn i (by assumption)
    · rw [if_pos (by omega)]
      omega
  · rw [List.length_append, List.length_singleton] at hi
    rw [getD_app, getD_app, if_pos (by omega)]
    split
    · exact t.mono i (by assumption)
    · rw [if_pos (by omega), show i = T.length - 1 by omega]
      omega
  · rw [List.length_append, List.length_singleton] at hi
    rw [getD_app]
    split
    · exact t.top i (by assumption)
    · rw [if_pos (by omega), show i = T.length by omega]
      omega
theorem Tb.rs {T : List Int} (t : Tb T) (h : T.length ≤ 300) {p : Nat} {r : Int} (hp : p ≤ 40) (h1 : r ≤ 10000000000000) : RS 10000000000000 T p r :=
  ⟨h, hp, h1, fun i hi => by have := t.top i hi; omega⟩
theorem Tb.rs9 {T : List Int} (t : Tb T) (h : T.length ≤ 240) {p : Nat} {r : Int} (hp : p ≤ 40) (h1 : r ≤ 9000000000000) : RS 9000000000000 T p r :=
  ⟨by omega, hp, h1, fun i hi => by have := t.top i hi; omega⟩
theorem Tb.level {T : List Int} (t : Tb T) : RuleOk T 1 0 := ⟨by decide, t.ne, by decide, t.nn, t.mono, by omega⟩
theorem Tb.rising {T : List Int} (t : Tb T) {p : Nat} {c : Int} (p0 : 0 < p) (p1 : p ≤ T.length) (c0 : 0 ≤ c) : RuleOk T p (T.getD (T.length - 1) 0 - T.getD (T.length - p) 0 + c) := by
  have up : T.getD (T.length - p) 0 ≤ T.getD (T.length - 1) 0 := by
    have z : RuleOk T 1 0 := t.level
    exact z.row (by omega) (by omega)
  exact ⟨p0, p1, by omega, t.nn, t.mono, by omega⟩
def sp_val (_ : PySem.W.Frag) : Sp := fun vs H Q _ => ∃ (d : Addr) (T : List Int) (p : Nat) (r : Int) (x : Nat), vs = [.ref d, .int (x : Int)] ∧ RuleAt H d T p r ∧ RuleOk T p r ∧ RB T p r ∧ x ≤ 1000000000000000000 ∧ Q (.int (vl T p r x)) H
abbrev sp_value_of := sp_val
abbrev sp_l_value := sp_val
def sp_l_repeats (_ : PySem.W.Frag) : Sp := fun vs H Q _ => ∃ (d : Addr) (T : List Int) (p : Nat) (r : Int) (s : Nat) (c : Int), vs = [.ref d, .int (s : Int), .int c] ∧ RuleAt H d T p r ∧ RuleOk T p r ∧ RB T p r ∧ s ≤ 30000 ∧
  ∀ b, (b = true ↔ Rep T p r s c) → Q (.bl b) H
def sp_l_least (_ : PySem.W.Frag) : Sp := fun vs H Q _ => ∃ (d : Addr) (T : List Int) (p : Nat) (r : Int), vs = [.ref d] ∧ RuleAt H d T p r ∧ RuleOk T p r ∧ RB T p r ∧
  ∀ H' d' T' p' r', Same H H' → RuleAt H' d' T' p' r' → Cut T p r T' p' r' → Short T' p' r' → (∀ x, vl T' p' r' x = vl T p r x) → Q (.ref d') H'
def sp_l_rule (_ : PySem.W.Frag) : Sp := fun vs H Q _ => ∃ (p l : Addr) (n long wide tall : Int), vs = [.ref p, .int long, .int wide, .int tall] ∧ Deck H p l n ∧ 0 ≤ n ∧ n ≤ 900000 ∧ 0 ≤ long ∧ long ≤ 200 ∧ 1 ≤ wide ∧ wide ≤ 40 ∧ 0 ≤ tall ∧ tall ≤ 1000000000 ∧
  ∀ H' d T pp r n', Fr p l H H' → Deck H' p l n' → n ≤ n' → n' ≤ n + 1000 → RuleAt H' d T pp r → RS 9000000000000 T pp r → T.length ≤ 240 → Short T pp r → Q (.ref d) H'
section
variable {P : Program} {w : World} {K : PySem.W.Frag} {mg : Str → Option Value} {base : Heap}
abbrev s_l_deck : Stmt := topS 21
abbrev N_l_deck : List Str := ["_law_script", "_law_cell"]
theorem sc_l_deck : FnScope N_l_deck ["_law_script"] (defScope s_l_deck) := ⟨rfl, rfl, rfl, by decide +kernel, rfl, by decide +kernel, by decide +kernel⟩
theorem ok_l_deck (T : Txt mg) (D : Df K mg "_law_deck" s_l_deck ["_law_script"]) : Cal P w K mg base "_law_deck" ["_law_script"] 1 (sp_l_deck K) := by
  refine D.cal sc_l_deck (fun vs H Q E h => ?_) (fun f cdv A outer s H vs Q E hr h => ?_)
  · obtain ⟨a, ns, rfl, _⟩ := h
    rfl
  obtain ⟨a, ns, rfl, hS, hlen, k⟩ := h
  refine ⟨_, (pss_one (ps_ret (pe_lst (pa_cons (pe_lc (own := [("_law_cell", 1)]) (g := gName 1) (tt := tYes) rfl sc_l_deck.nd (pi_list (pe_slice sl_list (pv 0) po_none (po_some pe_int))) (blkOk_by (own := [("_law_cell", 1)]) (N := N_l_deck) (sc := defScope s_l_deck) (by decide +kernel)) (fun _ _ _ _ _ => pg_name (i := 1) sc_l_deck.nd rfl (Or.inl rfl)) (fun _ _ _ _ _ => pts_nil) (fun _ _ _ _ _ => (pe_callB call_abs (by rfl) T.n_abs (by decide +kernel) (pa_cons (pv 1) pa_nil)))) (pa_cons pe_int pa_nil))))), ?_⟩
  refine ⟨_, rfl, _, rfl, a, _, rfl, hS, fun c nc => ?_⟩
  rw [cut63 hlen]
  have s1 := same_upd (o := .lst (ns.map V.int)) nc
  refine ⟨c, rfl, ⟨_, SqL.of upd_same⟩, fun D nD => ?_⟩
  have s2 := s1.trans (same_upd (o := .lst []) nD)
  have hc2 : upd (upd H c (.lst (ns.map V.int))) D (.lst []) c = some (.lst (ns.map V.int)) := same_upd nD _ _ upd_same
  refine lc_list (K := K) (a := c) (xs := ns.map V.int) (fun i H' => Same H H' ∧ H' c = some (.lst (ns.map V.int)) ∧ c ≠ D ∧ H D = none ∧ H' D = some (.lst (((ns.take i).map absI).map V.int)))
    ⟨s2, hc2, ne_of_none upd_same nD, s1.free nD, upd_same⟩ (fun i H' _ h => SqL.of h.2.1) ?_ ?_
  · rintro i x H' hx ⟨sm, hc, ncD, nD0, hD⟩
    rw [List.getElem?_map] at hx
    cases e : ns[i]? with
    | none => rw [e] at hx; cases hx
    | some y =>
      rw [e] at hx
      have ex : x = .int y := (Option.some.inj hx).symm
      subst ex
      refine ⟨rfl, ?_⟩
      unfold tYes
      refine iteT ?_
      refine ⟨_, rfl, _, rfl, _, hD, ?_, ?_⟩
      · rw [List.length_map, List.length_map, List.length_take]
        exact Nat.lt_of_le_of_lt (Nat.min_le_right _ _) (small1000 (by omega))
      · refine ⟨fun b o e => ?_, ?_, ncD, nD0, ?_⟩
        · rw [upd_ne (ne_of_none e nD0)]
          exact sm _ _ e
        · rw [upd_ne ncD]
          exact hc
        · rw [upd_same, List.take_add_one, e, List.map_append, List.map_append]
          rfl
  · rintro H' ⟨sm, hc, ncD, nD0, hD⟩
    refine ⟨(by show 2 ≤ sizeLine; decide), fun p np => ?_⟩
    have s3 := sm.trans (same_upd (o := .lst [.ref D, .int 0]) np)
    refine k _ p D s3 ⟨upd_same, _, (same_upd np) _ _ hD, fun c hc => ?_, ?_⟩
    · obtain ⟨y, _, rfl⟩ := List.mem_map.mp hc
      exact absI_pos y
    · rw [List.length_map, List.length_take]
      omega
abbrev s_l_draw : Stmt := topS 22
abbrev N_l_draw : List Str := ["_law_deck_here", "_law_many", "_law_place", "_law_cell", "_law_mixed"]
theorem sc_l_draw : FnScope N_l_draw ["_law_deck_here", "_law_many"] (defScope s_l_draw) := ⟨rfl, rfl, rfl, by decide +kernel, rfl, by decide +kernel, by decide +kernel⟩
theorem ok_l_draw (T : Txt mg) (D : Df K mg "_law_draw" s_l_draw ["_law_deck_here", "_law_many"]) : Cal P w K mg base "_law_draw" ["_law_deck_here", "_law_many"] 1 (sp_l_draw K) := by
  refine D.cal sc_l_draw (fun vs H Q E h => ?_) (fun f cdv A outer s H vs Q E hr h => ?_)
  · obtain ⟨p, l, n, m, rfl, _⟩ := h
    rfl
  obtain ⟨p, l, n, m, rfl, D, n0, n1, m0, m1, k⟩ := h
  obtain ⟨cells, hl, hc⟩ := D.hl
  have npl : p ≠ l := ne_of D.hp hl deck_ne
  refine ⟨_, (pss_cons (ps_asg (pe_op op_add (pe_ix ix_list (pv 0) pe_int (fun _ _ => rfl)) pe_int) (pg_sub (pv 0) pe_int set_list))
    (pss_cons (ps_set (i := 2) sc_l_draw.nd rfl (Or.inl rfl) (pe_op op_modN (pe_callTy call_int1 (by rfl) T.n_int (by decide +kernel) (pa_cons (pe_ix ix_list (pv 0) pe_int (fun _ _ => rfl)) pa_nil)) (pe_callB (call_max2 rfl) (by rfl) T.n_max (by decide +kernel) (pa_cons pe_int (pa_cons (pe_callB call_len_seq (by rfl) T.n_len (by decide +kernel) (pa_cons (pe_ix ix_list (pv 0) pe_int (fun _ _ => rfl)) pa_nil)) pa_nil)))))
    (pss_cons (ps_set (i := 3) sc_l_draw.nd rfl (Or.inl rfl) (pe_ix ix_list (pe_op op_cat (pe_ix ix_list (pv 0) pe_int (fun _ _ => rfl)) (pe_lst (pa_cons pe_int pa_nil))) (pv 2) (fun _ _ => rfl)))
    (pss_cons (ps_if (pt_cmpR op_ge (pv 3) (pe_op op_pow pe_int pe_int) (nomark _)) (pss_cons (ps_asg (pe_op op_fdivW (pv 3) (pv 1)) (pg_sub (pe_ix ix_list (pv 0) pe_int (fun _ _ => rfl)) (pv 2) set_list))
    (pss_one (ps_ret (pe_op op_modN (pe_callTy call_int1 (by rfl) T.n_int (by decide +kernel) (pa_cons (pv 3) pa_nil)) (pv 1))))) pss_nil)
    (pss_cons (ps_set (i := 4) sc_l_draw.nd rfl (Or.inl rfl) (pe_op op_pow (pe_op op_add (pe_op op_add (pe_op op_modN (pe_callTy call_int1 (by rfl) T.n_int (by decide +kernel) (pa_cons (pv 3) pa_nil)) pe_int) (pe_op op_mul pe_int (pe_ix ix_list (pv 0) pe_int (fun _ _ => rfl)))) pe_int) pe_int))
    (pss_one (ps_ret (pe_op op_modN (pe_callTy call_int1 (by rfl) T.n_int (by decide +kernel) (pa_cons (pe_op op_modN (pe_callTy call_int1 (by rfl) T.n_int (by decide +kernel) (pa_cons (pv 4) pa_nil)) pe_int) pa_nil)) (pv 1))))))))), ?_⟩
  refine ⟨_, rfl, _, _, _, _, rfl, rfl, SqL.of D.hp, atI_nat (j := 1) rfl, _, _, rfl, rfl, _, rfl, _, _, _, _, rfl, rfl, D.hp, rfl, ?_⟩
  generalize hH0 : upd H p (HO.lst (List.set [V.ref l, V.int n] (Int.toNat 1) ((fun i j => V.int (i + j)) n 1))) = H0
  have hH0 : upd H p (.lst [.ref l, .int (n + 1)]) = H0 := hH0
  have f0 : Fr p l H H0 := fun b o h1 _ h => by rw [← hH0, upd_ne h1]; exact h
  have hl0 : H0 l = some (.lst (cells.map V.int)) := by rw [← hH0, upd_ne npl.symm]; exact hl
  have hp0 : H0 p = some (.lst [.ref l, .int (n + 1)]) := by rw [← hH0, upd_same]
  -- place
  have big : (if ((cells.map V.int).length : Int) > 1 then ((cells.map V.int).length : Int) else 1) = max 1 (cells.length : Int) := by
    rw [List.length_map]
    split <;> omega
  have fm : (n + 1).fmod (max 1 (cells.length : Int)) = (n + 1) % (max 1 (cells.length : Int)) := fmod_pos (by omega)
  have q0 : 0 ≤ (n + 1).fmod (max 1 (cells.length : Int)) := by rw [fm]; exact Int.emod_nonneg _ (by omega)
  have q1 : (n + 1).fmod (max 1 (cells.length : Int)) < max 1 (cells.length : Int) := by rw [fm]; exact Int.emod_lt_of_pos _ (by omega)
  refine ⟨_, rfl, _, _, _, _, rfl, rfl, SqL.of hp0, atI_nat (j := 1) rfl, .inl ⟨_, rfl, _, rfl, _, _, _, _, rfl, rfl, SqL.of hp0, atI_nat (j := 0) rfl, _, _, rfl, .inl (SqL.of hl0), _, _, rfl, _, _, rfl, rfl, (by rw [big]; omega), ?_⟩⟩
  have z : ∀ B : Int → Prop, B ((n + 1).fmod (max 1 (cells.length : Int))) → B ((n + 1).fmod (if ((cells.map V.int).length : Int) > 1 then ((cells.map V.int).length : Int) else 1)) := fun B h => by rw [big]; exact h
  refine z (fun y => gName 2 (.int y) _ _ _) ?_
  clear z
  -- cell
  refine ⟨_, rfl, _, _, _, _, rfl, rfl, SqL.of hp0, atI_nat (j := 0) rfl, (by show 1 ≤ sizeLine; decide), fun t nt => ?_⟩
  have st := same_upd (o := .lst [.int 0]) nt
  have hp1 := st _ _ hp0
  have hl1 := st _ _ hl0
  have f1 := f0.trans (Same.fr (p := p) (l := l) st)
  obtain ⟨hc, h63⟩ := hc
  have ln : (cells.map V.int).length = cells.length := List.length_map ..
  refine ⟨_, _, _, _, rfl, rfl, hl1, upd_same, (by rw [ln]; exact Nat.le_trans (by omega : cells.length + 1 ≤ 64) (by decide)), fun t2 nt2 => ?_⟩
  have st2 := same_upd (o := .lst (cells.map V.int ++ [.int 0])) nt2
  have hp2 := st2 _ _ hp1
  have hl2 := st2 _ _ hl1
  have f2 := f1.trans (Same.fr (p := p) (l := l) st2)
  have ht2 : upd (upd H0 t (.lst [.int 0])) t2 (.lst (cells.map V.int ++ [.int 0])) t2 = some (.lst ((cells ++ [0]).map V.int)) := by rw [upd_same, List.map_append]; rfl
  generalize upd (upd H0 t (HO.lst [V.int 0])) t2 (HO.lst (cells.map V.int ++ [V.int 0])) = H2 at hp2 hl2 f2 ht2 ⊢
  have q2 : ((n + 1).fmod (max 1 (cells.length : Int))).toNat < (cells ++ [0]).length := by rw [List.length_append, List.length_singleton]; omega
  have q3 : (n + 1).fmod (max 1 (cells.length : Int)) = (((n + 1).fmod (max 1 (cells.length : Int))).toNat : Int) := by omega
  generalize (n + 1).fmod (max 1 (cells.length : Int)) = pl at q0 q1 q2 q3 ⊢
  have q4 : ((cells ++ [0]).map V.int)[pl.toNat]? = some (.int (cells ++ [0])[pl.toNat]) := by
    rw [List.getElem?_map, List.getElem?_eq_getElem q2]
    rfl
  have c0 : 0 ≤ (cells ++ [0])[pl.toNat] := by
    rcases List.mem_append.mp (List.getElem_mem q2) with q | q
    · exact hc _ q
    · rw [List.mem_singleton.mp q]
      decide
  have inside : 1000000000000000000 ≤ (cells ++ [0])[pl.toNat] → pl.toNat < cells.length := by
    intro q
    by_cases e : pl.toNat < cells.length
    · exact e
    · rw [List.getElem_append_right (by omega)] at q
      simp at q
  generalize (cells ++ [0])[pl.toNat] = c at q4 c0 inside ⊢
  refine ⟨_, rfl, _, _, _, _, rfl, rfl, SqL.of ht2, at_of q3 q4, ?_⟩
  refine ⟨_, rfl, _, _, rfl, rfl, ⟨by decide, by decide, by decide⟩, _, _, rfl, rfl, _, rfl, ite3 (fun e => ?_) (fun e => ?_)⟩
  · have e : 1000000000000000000 ≤ c := e
    have p1 := inside e
    have ix : ixN (cells.map V.int).length pl = some pl.toNat := by
      unfold ixN
      rw [if_pos q0, if_pos (by omega)]
    refine ⟨_, rfl, _, rfl, _, _, rfl, rfl, div_draw m0 m1, _, rfl, _, _, _, _, rfl, rfl, SqL.of hp2, atI_nat (j := 0) rfl, _, rfl, _, _, _, _, rfl, rfl, hl2, ix, ?_⟩
    refine ⟨_, rfl, .inl ⟨_, rfl, _, rfl, _, _, rfl, rfl, (by omega), ?_⟩⟩
    have fm : c.fmod m = c % m := fmod_pos m0
    refine k _ _ (by rw [fm]; exact Int.emod_nonneg _ (by omega)) (by rw [fm]; exact Int.emod_lt_of_pos _ m0) (f2.trans fun b o _ h2 h => by rw [upd_ne h2]; exact h) ⟨by rw [upd_ne npl]; exact hp2, cells.set pl.toNat (c / m), by rw [upd_same, List.map_set], fun y hy => ?_, by rw [List.length_set]; exact h63⟩
    rcases List.mem_or_eq_of_mem_set hy with q | q
    · exact hc y q
    · rw [q]; exact Int.ediv_nonneg c0 (by omega)
  · refine ⟨_, rfl, .inl ⟨_, rfl, _, _, rfl, rfl, (show (2147483587 : Int) ≠ 0 by decide), _, rfl, _, _, _, _, rfl, rfl, SqL.of hp2, atI_nat (j := 1) rfl, _, _, rfl, rfl, .inl ⟨by decide, by decide⟩, _, _, rfl, rfl, _, _, rfl, rfl, ?_⟩⟩
    have fm : c.fmod 2147483587 = c % 2147483587 := fmod_pos (by decide)
    have h0 := Int.emod_nonneg c (show (2147483587 : Int) ≠ 0 by decide)
    have h1 := Int.emod_lt_of_pos c (show (0 : Int) < 2147483587 by decide)
    refine ⟨_, _, rfl, rfl, ⟨by decide, by decide, by rw [fm]; omega⟩, ?_⟩
    refine ⟨_, rfl, .inl ⟨_, rfl, _, _, rfl, rfl, (show (2147483647 : Int) ≠ 0 by decide), .inl ⟨_, rfl, _, rfl, _, _, rfl, rfl, (by omega), ?_⟩⟩⟩
    refine k _ _ ?_ ?_ f2 ⟨hp2, cells, hl2, hc, h63⟩
    · rw [fmod_pos m0]; exact Int.emod_nonneg _ (by omega)
    · rw [fmod_pos m0]; exact Int.emod_lt_of_pos _ m0
abbrev s_l_one : Stmt := topS 23
abbrev N_l_one : List Str := ["_law_deck_here", "_law_items"]
theorem sc_l_one : FnScope N_l_one ["_law_deck_here", "_law_items"] (defScope s_l_one) := ⟨rfl, rfl, rfl, by decide +kernel, rfl, by decide +kernel, by decide +kernel⟩
theorem ok_l_one (T : Txt mg) (D : Df K mg "_law_one" s_l_one ["_law_deck_here", "_law_items"]) (C_l_draw : Cal P w K mg base "_law_draw" ["_law_deck_here", "_law_many"] 1 (sp_l_draw K)) : Cal P w K mg base "_law_one" ["_law_deck_here", "_law_items"] 2 (sp_l_one K) := by
  obtain ⟨f_l_draw, fd_l_draw, G_l_draw, m_l_draw, k_l_draw, b_l_draw⟩ := C_l_draw
  refine D.cal sc_l_one (fun vs H Q E h => ?_) (fun f cdv A outer s H vs Q E hr h => ?_)
  · obtain ⟨p, l, b, n, xs, rfl, _⟩ := h
    rfl
  obtain ⟨p, l, b, n, xs, rfl, D, n0, n1, hb, bp, bl, x0, x1, k⟩ := h
  refine ⟨_, (pss_one (ps_ret (pe_ix ix_list (pv 1) (pe_call G_l_draw (hr.mono (by decide)) (by rfl) m_l_draw k_l_draw b_l_draw .nil pass0 (pa_cons (pv 0) (pa_cons (pe_callB call_len_seq (by rfl) T.n_len (by decide +kernel) (pa_cons (pv 1) pa_nil)) pa_nil))) (fun _ _ => rfl)))), ?_⟩
  refine ⟨_, rfl, _, rfl, _, rfl, _, _, rfl, .inl (SqL.of hb), p, l, n, _, rfl, D, n0, n1, (by omega), (by omega), fun r H' r0 r1 f D' => ?_⟩
  have q : r.toNat < xs.length := by omega
  refine ⟨_, _, _, _, rfl, rfl, SqL.of (f b _ bp bl hb), at_of (j := r.toNat) (by omega) (List.getElem?_eq_getElem q), ?_⟩
  exact k _ H' (List.getElem_mem q) f D'
end
end Sm

set_option Elab.async false
set_option linter.all false
set_option maxRecDepth 100000
set_option maxHeartbeats 8000000
namespace Sm
open PySem PySem.Spec PyProof.Rows L2
open C8 (pss_cut tCut)
section
variable {P : Program} {w : World} {K : PySem.W.Frag} {mg : Str → Option Value} {base : Heap}
theorem RB.div {T : List Int} {p : Nat} {r x : Int} (b : RB T p r) (o : RuleOk T p r) : CDivW x (p : Int) := by
  have := b.len
  have := o.p0
  have := o.p1
  exact wide_div (b := 15) (by omega) (by omega) (by decide) (by decide)
theorem RB.mulP {T : List Int} {p : Nat} {r x : Int} (b : RB T p r) (o : RuleOk T p r) : CMul x (p : Int) := by
  have := b.len
  have := o.p1
  exact .inr ⟨by omega, by omega⟩
theorem len_int (T : List Int) : (((T.map V.int).length : Nat) : Int) = (T.length : Int) := by rw [List.length_map]
theorem turns_eq {T : List Int} {p x : Nat} (h : T.length ≤ x) : ((x : Int) - (((T.map V.int).length : Nat) : Int)) / (p : Int) + 1 = (((x - T.length) / p + 1 : Nat) : Int) := by
  rw [len_int]
  exact div_cast h
theorem index_eq {q p x : Nat} (h : q * p ≤ x) : (x : Int) - (q : Int) * (p : Int) = ((x - q * p : Nat) : Int) := by
  rw [Int.natCast_sub h, Int.natCast_mul]
abbrev s_l_value : Stmt := topS 24
abbrev N_l_value : List Str := ["_law_rule_here", "_law_x", "_law_table", "_law_period", "_law_rise", "_law_turns"]
theorem sc_l_value : FnScope N_l_value ["_law_rule_here", "_law_x"] (defScope s_l_value) := ⟨rfl, rfl, rfl, by decide +kernel, rfl, by decide +kernel, by decide +kernel⟩
theorem ok_l_value (T : Txt mg) (D : Df K mg "_law_value" s_l_value ["_law_rule_here", "_law_x"]) : Cal P w K mg base "_law_value" ["_law_rule_here", "_law_x"] 1 (sp_l_value K) := by
  refine D.cal sc_l_value (fun vs H Q E h => ?_) (fun f cdv A outer s H vs Q E hr h => ?_)
  · obtain ⟨d, T0, p, r, x, rfl, _⟩ := h
    rfl
  obtain ⟨d, T0, p, r, x, rfl, ⟨t, hd, ht⟩, o, b, xb, k⟩ := h
  have p0 := o.p0
  have p1 := o.p1
  refine ⟨_, (pss_cons (ps_asg (pv 0) (pg_tup (by rfl) (pgs_cons (pg_name (i := 2) sc_l_value.nd rfl (Or.inl rfl)) (pgs_cons (pg_name (i := 3) sc_l_value.nd rfl (Or.inl rfl)) (pgs_cons (pg_name (i := 4) sc_l_value.nd rfl (Or.inl rfl)) pgs_nil)))))
    (pss_cons (ps_if (pt_cmpR op_lt (pv 1) (pe_callB call_len_seq (by rfl) T.n_len (by decide +kernel) (pa_cons (pv 2) pa_nil)) (nomark _)) (pss_one (ps_ret (pe_ix ix_tup (pv 2) (pv 1) (fun _ _ => rfl)))) pss_nil)
    (pss_cons (ps_set (i := 5) sc_l_value.nd rfl (Or.inl rfl) (pe_op op_add (pe_op op_fdivW (pe_op op_sub (pv 1) (pe_callB call_len_seq (by rfl) T.n_len (by decide +kernel) (pa_cons (pv 2) pa_nil))) (pv 3)) pe_int))
    (pss_one (ps_ret (pe_op op_add (pe_ix ix_tup (pv 2) (pe_op op_sub (pv 1) (pe_op op_mul (pv 5) (pv 3))) (fun _ _ => rfl)) (pe_op op_mul (pv 5) (pv 4)))))))), ?_⟩
  refine ⟨_, rfl, _, _, rfl, SqT.of hd, rfl, _, _, rfl, _, _, rfl, _, _, rfl, rfl, ?_⟩
  refine ⟨_, rfl, _, rfl, _, _, rfl, .inr (SqT.of ht), _, _, rfl, rfl, _, rfl, ite3 (fun e => ?_) (fun e => ?_)⟩
  · rw [len_int] at e
    have e : x < T0.length := by omega
    rw [vl_lt e] at k
    exact ⟨_, rfl, _, rfl, _, _, _, _, rfl, rfl, SqT.of ht, atI_nat (get_int e), k⟩
  · rw [len_int] at e
    have e : T0.length ≤ x := by omega
    have z : ∀ B : Int → Prop, B (((x - T0.length) / p + 1 : Nat) : Int) → B (((x : Int) - (((T0.map V.int).length : Nat) : Int)) / (p : Int) + 1) := fun B h => by rw [turns_eq e]; exact h
    refine ⟨_, rfl, _, rfl, _, _, rfl, .inr (SqT.of ht), _, _, rfl, rfl, _, rfl, _, _, rfl, rfl, b.div o, _, _, rfl, rfl, ?_⟩
    refine z (fun y => gName 5 (.int y) _ _ _) ?_
    clear z
    obtain ⟨a1, a2, a3⟩ := place p0 p1 e
    have kv : vl T0 p r x = T0.getD (x - ((x - T0.length) / p + 1) * p) 0 + (((x - T0.length) / p + 1 : Nat) : Int) * r := if_neg (by omega)
    rw [kv] at k
    have aq : (x - T0.length) / p + 1 ≤ 1000000000000000000 := by
      have := Nat.div_le_self (x - T0.length) p
      omega
    generalize (x - T0.length) / p + 1 = q at a1 a2 a3 k aq ⊢
    exact ⟨_, rfl, _, rfl, _, rfl, _, rfl, _, _, rfl, rfl, b.mulP o, _, _, rfl, rfl, _, _, _, _, rfl, rfl, SqT.of ht, at_of (index_eq a1) (get_int a3), _, rfl, _, rfl, _, _, rfl, rfl, .inl ⟨by omega, by omega⟩, _, _, rfl, rfl, k⟩
abbrev s_l_repeats : Stmt := topS 25
abbrev N_l_repeats : List Str := ["_law_rule_here", "_law_step", "_law_more", "_law_table", "_law_period", "_law_rise", "_law_x"]
theorem sc_l_repeats : FnScope N_l_repeats ["_law_rule_here", "_law_step", "_law_more"] (defScope s_l_repeats) := ⟨rfl, rfl, rfl, by decide +kernel, rfl, by decide +kernel, by decide +kernel⟩
theorem ok_l_repeats (T : Txt mg) (D : Df K mg "_law_repeats" s_l_repeats ["_law_rule_here", "_law_step", "_law_more"]) (C_l_value : Cal P w K mg base "_law_value" ["_law_rule_here", "_law_x"] 1 (sp_l_value K)) : Cal P w K mg base "_law_repeats" ["_law_rule_here", "_law_step", "_law_more"] 2 (sp_l_repeats K) := by
  obtain ⟨f_l_value, fd_l_value, G_l_value, m_l_value, k_l_value, b_l_value⟩ := C_l_value
  refine D.cal sc_l_repeats (fun vs H Q E h => ?_) (fun f cdv A outer s H vs Q E hr h => ?_)
  · obtain ⟨d, T0, p, r, s, c, rfl, _⟩ := h
    rfl
  obtain ⟨d, T0, p, r, st, c, rfl, R, o, b, stb, k⟩ := h
  obtain ⟨t, hd, ht⟩ := id R
  have p0 := o.p0
  have p1 := o.p1
  have bl := b.len
  refine ⟨_, (pss_cons (ps_asg (pv 0) (pg_tup (by rfl) (pgs_cons (pg_name (i := 3) sc_l_repeats.nd rfl (Or.inl rfl)) (pgs_cons (pg_name (i := 4) sc_l_repeats.nd rfl (Or.inl rfl)) (pgs_cons (pg_name (i := 5) sc_l_repeats.nd rfl (Or.inl rfl)) pgs_nil)))))
    (pss_cons (ps_for PassesOwn.never rfl (pi_range2 (by rfl) T.n_range (pa_cons (pe_op op_sub (pe_callB call_len_seq (by rfl) T.n_len (by decide +kernel) (pa_cons (pv 3) pa_nil)) (pv 4)) (pa_cons (pe_callB call_len_seq (by rfl) T.n_len (by decide +kernel) (pa_cons (pv 3) pa_nil)) pa_nil))) (pg_name (i := 6) sc_l_repeats.nd rfl (Or.inl rfl))
      (pss_one (ps_if (pt_cmpR op_ne (pe_call G_l_value (hr.mono (by decide)) (by rfl) m_l_value k_l_value b_l_value .nil pass0 (pa_cons (pv 0) (pa_cons (pe_op op_add (pv 6) (pv 1)) pa_nil))) (pe_op op_add (pe_ix ix_tup (pv 3) (pv 6) (fun _ _ => rfl)) (pv 2)) (nomark _)) (pss_one (ps_ret pe_bl)) pss_nil)))
    (pss_one (ps_ret pe_bl)))), ?_⟩
  refine ⟨_, rfl, _, _, rfl, SqT.of hd, rfl, _, _, rfl, _, _, rfl, _, _, rfl, rfl, ?_⟩
  have ll := len_int T0
  refine ⟨_, rfl, _, _, rfl, .inr (SqT.of ht), _, rfl, _, _, rfl, rfl, _, rfl, _, _, rfl, .inr (SqT.of ht), _, _, rfl, ⟨by rw [ll]; omega, by rw [ll]; omega, by rw [ll]; omega, by rw [ll]; omega⟩, ?_⟩
  refine for_range (lo := _) (n := _) (fun i σ H' => ∃ v, σ = [some (.ref d), some (.int (st : Int)), some (.int c), some (.ref t), some (.int (p : Int)), some (.int r), v] ∧ H' = H ∧ ∀ j, j < i → vl T0 p r (T0.length - p + j + st) = T0.getD (T0.length - p + j) 0 + c)
    ⟨none, rfl, rfl, fun j hj => absurd hj (Nat.not_lt_zero _)⟩ ?_ ?_
  · rintro i σ H' hi ⟨v, rfl, rfl, hj⟩
    have hi : i < p := by
      rw [ll] at hi
      omega
    have e1 : (((T0.map V.int).length : Nat) : Int) - (p : Int) + (i : Int) = ((T0.length - p + i : Nat) : Int) := by rw [ll]; omega
    have e2 : (((T0.map V.int).length : Nat) : Int) - (p : Int) + (i : Int) + (st : Int) = ((T0.length - p + i + st : Nat) : Int) := by rw [ll]; omega
    have z : ∀ B : Int → Prop, B ((T0.length - p + i : Nat) : Int) → B ((((T0.map V.int).length : Nat) : Int) - (p : Int) + (i : Int)) := fun B h => by rw [e1]; exact h
    refine z (fun y => gName 6 (.int y) _ _ _) ?_
    clear z
    refine ⟨_, rfl, _, rfl, _, rfl, _, _, rfl, rfl, d, T0, p, r, T0.length - p + i + st, rfl, R, o, b, (by omega), _, rfl, _, rfl, _, _, _, _, rfl, rfl, SqT.of ht, atI_nat (get_int (by omega)), _, rfl, _, _, rfl, rfl, rfl, _, rfl, ?_⟩
    by_cases e : vl T0 p r (T0.length - p + i + st) = T0.getD (T0.length - p + i) 0 + c
    · refine iteNP (congrArg V.int e) ⟨_, rfl, rfl, fun j hj' => ?_⟩
      by_cases q : j = i
      · rw [q]
        exact e
      · exact hj j (by omega)
    · exact iteNN (fun q => e (V.int.inj q)) (k false ⟨fun q => (nomatch q), fun rep => absurd (rep (T0.length - p + i) (by omega) (by omega)) e⟩)
  · rintro σ H' ⟨v, rfl, rfl, hj⟩
    refine k true ⟨fun _ i h1 h2 => ?_, fun _ => rfl⟩
    have := hj (i - (T0.length - p)) (by rw [ll]; omega)
    rw [show T0.length - p + (i - (T0.length - p)) = i by omega] at this
    exact this
def LeastW (d t : Addr) (T0 : List Int) (p : Nat) (r : Int) (s : Nat) (c : Int) (v : Option V) (H0 : Hp) : Nat → List (Option V) → Hp → Prop := fun m σ H =>
  σ = [some (.ref d), some (.ref t), some (.int (p : Int)), some (.int r), some (.int (s : Int)), some (.int (m : Int)), v, some (.int c)] ∧ H = H0 ∧ m ≤ T0.length - p ∧ ∀ y, m ≤ y → vl T0 p r (y + s) = vl T0 p r y + c
abbrev s_l_least : Stmt := topS 26
abbrev N_l_least : List Str := ["_law_rule_here", "_law_table", "_law_period", "_law_rise", "_law_step", "_law_start", "_law_one_here", "_law_more"]
theorem sc_l_least : FnScope N_l_least ["_law_rule_here"] (defScope s_l_least) := ⟨rfl, rfl, rfl, by decide +kernel, rfl, by decide +kernel, by decide +kernel⟩
theorem ok_l_least (T : Txt mg) (D : Df K mg "_law_least" s_l_least ["_law_rule_here"]) (C_l_value : Cal P w K mg base "_law_value" ["_law_rule_here", "_law_x"] 1 (sp_l_value K)) (C_l_repeats : Cal P w K mg base "_law_repeats" ["_law_rule_here", "_law_step", "_law_more"] 2 (sp_l_repeats K)) : Cal P w K mg base "_law_least" ["_law_rule_here"] 3 (sp_l_least K) := by
  obtain ⟨f_l_value, fd_l_value, G_l_value, m_l_value, k_l_value, b_l_value⟩ := C_l_value
  obtain ⟨f_l_repeats, fd_l_repeats, G_l_repeats, m_l_repeats, k_l_repeats, b_l_repeats⟩ := C_l_repeats
  refine D.cal sc_l_least (fun vs H Q E h => ?_) (fun f cdv A outer s H vs Q E hr h => ?_)
  · obtain ⟨d, T0, p, r, rfl, _⟩ := h
    rfl
  obtain ⟨d, T0, p, r, rfl, R, o, b, k⟩ := h
  obtain ⟨t, hd, ht⟩ := id R
  have p0 := o.p0
  have p1 := o.p1
  have bl := b.len
  have r0 := o.r0
  have ll := len_int T0
  refine ⟨_, (pss_cons (ps_asg (pv 0) (pg_tup (by rfl) (pgs_cons (pg_name (i := 1) sc_l_least.nd rfl (Or.inl rfl)) (pgs_cons (pg_name (i := 2) sc_l_least.nd rfl (Or.inl rfl)) (pgs_cons (pg_name (i := 3) sc_l_least.nd rfl (Or.inl rfl)) pgs_nil)))))
    (pss_cons (ps_par (i := 4) (j := 5) (by rfl) sc_l_least.nd rfl rfl (by decide) rfl rfl (pa_cons (pv 2) (pa_cons (pe_op op_sub (pe_callB call_len_seq (by rfl) T.n_len (by decide +kernel) (pa_cons (pv 1) pa_nil)) (pv 2)) pa_nil)) (by rfl))
    (pss_cut (ps_for PassesOwn.never rfl (pi_range2 (by rfl) T.n_range (pa_cons pe_int (pa_cons (pv 2) pa_nil))) (pg_name (i := 6) sc_l_least.nd rfl (Or.inl rfl))
      (pss_one (ps_if (PW.pt (pw_and (pt_cmpR op_eq (pv 4) (pv 2) (nomark _)) (pw_and (pt_cmpR op_eq (pe_op op_modN (pe_callTy call_int1 (by rfl) T.n_int (by decide +kernel) (pa_cons (pv 2) pa_nil)) (pv 6)) pe_int (nomark _)) (pw_and1 (pt_cmpR op_eq (pe_op op_modN (pe_callTy call_int1 (by rfl) T.n_int (by decide +kernel) (pa_cons (pe_op op_mul (pv 3) (pv 6)) pa_nil)) (pv 2)) pe_int (nomark _)))))) (pss_one (ps_if (pt_val (pe_call G_l_repeats (hr.mono (by decide)) (by rfl) m_l_repeats k_l_repeats b_l_repeats .nil pass0 (pa_cons (pv 0) (pa_cons (pv 6) (pa_cons (pe_op op_fdivW (pe_op op_mul (pv 3) (pv 6)) (pv 2)) pa_nil))))) (pss_one (ps_set (i := 4) sc_l_least.nd rfl (Or.inl rfl) (pv 6))) pss_nil)) pss_nil)))
    (pss_cons (ps_set (i := 7) sc_l_least.nd rfl (Or.inl rfl) (pe_op op_fdivW (pe_op op_mul (pv 3) (pv 4)) (pv 2)))
    (pss_cons (ps_while PassesOwn.never (PW.pt (pw_and (pt_cmpR op_gt (pv 5) pe_int (nomark _)) (pw_and1 (pt_cmpR op_eq (pe_call G_l_value (hr.mono (by decide)) (by rfl) m_l_value k_l_value b_l_value .nil pass0 (pa_cons (pv 0) (pa_cons (pe_op op_add (pe_op op_sub (pv 5) pe_int) (pv 4)) pa_nil))) (pe_op op_add (pe_ix ix_tup (pv 1) (pe_op op_sub (pv 5) pe_int) (fun _ _ => rfl)) (pv 7)) (nomark _)))))
      (pss_one (ps_set (i := 5) sc_l_least.nd rfl (Or.inl rfl) (pe_op op_sub (pv 5) pe_int))))
    (pss_one (ps_ret (pe_tup (pa_cons (pe_callTy call_tupleT (by rfl) T.n_tuple (by decide +kernel) (pa_cons (pe_slice sl_tupA (pv 1) po_none (po_some (pe_op op_add (pv 5) (pv 4)))) pa_nil)) (pa_cons (pv 4) (pa_cons (pv 7) pa_nil))))))))))), ?_⟩
  refine ⟨_, rfl, _, _, rfl, SqT.of hd, rfl, _, _, rfl, _, _, rfl, _, _, rfl, rfl, ?_⟩
  have z : ∀ B : Int → Prop, B ((T0.length - p : Nat) : Int) → B ((((T0.map V.int).length : Nat) : Int) - (p : Int)) := fun B h => by
    rw [ll, ← Int.natCast_sub p1]
    exact h
  refine ⟨_, rfl, _, rfl, _, _, rfl, .inr (SqT.of ht), _, rfl, _, _, rfl, rfl, _, _, rfl, ?_⟩
  refine z (fun y => tCut _ _ _ (List.set (List.set _ 4 (some (.int (p : Int)))) 5 (some (.int y))) H) ?_
  clear z
  refine ⟨fun σ H' => H' = H ∧ ∃ (s : Nat) (v : Option V), σ = [some (.ref d), some (.ref t), some (.int (p : Int)), some (.int r), some (.int (s : Int)), some (.int ((T0.length - p : Nat) : Int)), v, none] ∧ 1 ≤ s ∧ s ≤ p ∧ Rep T0 p r s (r * (s : Int) / (p : Int)) ∧ s ∣ p ∧ ∀ s' c', 0 < s' → s' < s → s' ∣ p → ¬ Rep T0 p r s' c', ?_, ?_⟩
  · refine ⟨_, rfl, _, _, rfl, ⟨by omega, by omega, by omega, by omega⟩, for_range (lo := _) (n := _) (fun i σ H' => H' = H ∧ ∃ (s : Nat) (v : Option V), σ = [some (.ref d), some (.ref t), some (.int (p : Int)), some (.int r), some (.int (s : Int)), some (.int ((T0.length - p : Nat) : Int)), v, none] ∧ 1 ≤ s ∧ s ≤ p ∧ Rep T0 p r s (r * (s : Int) / (p : Int)) ∧ s ∣ p ∧ (s = p ∨ s ≤ i) ∧ ∀ s' c', 0 < s' → s' < s → s' ≤ i → s' ∣ p → ¬ Rep T0 p r s' c')
      ⟨rfl, p, none, rfl, p0, Nat.le_refl _, ?_, Nat.dvd_refl _, .inl rfl, fun s' c' h1 _ h3 => absurd h1 (by omega)⟩ ?_ ?_⟩
    · rw [Int.mul_ediv_cancel _ (by omega)]
      exact rep_self o
    · rintro i σ H' hi ⟨rfl, s, v, rfl, s0, s1, hs, sd, sl, hm⟩
      have hi : i < p - 1 := by omega
      have one : (1 : Int) + (i : Int) = ((1 + i : Nat) : Int) := rfl
      have more : (∀ c', 1 + i ∣ p → ¬ Rep T0 p r (1 + i) c') → ∀ s' c', 0 < s' → s' < s → s' ≤ i + 1 → s' ∣ p → ¬ Rep T0 p r s' c' := by
        intro h s' c' h1 h2 h3 h4
        by_cases q : s' = 1 + i
        · subst q
          exact h c' h4
        · exact hm s' c' h1 h2 (by omega) h4
      have stay : s = p ∨ s ≤ i + 1 := sl.elim .inl fun h => .inr (by omega)
      refine ⟨_, rfl, _, rfl, rfl, _, rfl, ite3 (fun e => ?_) (fun e => ?_)⟩
      · have e : s = p := Int.ofNat.inj (V.int.inj e)
        refine ⟨_, rfl, .inl ⟨_, rfl, _, rfl, _, _, rfl, rfl, (by omega), rfl, _, rfl, ite3 (fun e2 => ?_) (fun e2 => ?_)⟩⟩
        · have dv : 1 + i ∣ p := dvd_of (V.int.inj e2)
          refine ⟨_, rfl, _, rfl, _, _, rfl, rfl, .inr ⟨by omega, by omega⟩, .inl ⟨_, rfl, _, rfl, _, _, rfl, rfl, (by omega), rfl, _, rfl, ite3 (fun e3 => ?_) (fun e3 => ?_)⟩⟩
          · refine ⟨_, rfl, _, rfl, _, rfl, _, rfl, _, _, rfl, rfl, .inr ⟨by omega, by omega⟩, _, rfl, _, _, rfl, rfl, b.div o, d, T0, p, r, 1 + i, _, rfl, R, o, b, (by omega), fun bb hb => ⟨_, rfl, ?_⟩⟩
            cases bb with
            | true => exact iteT ⟨_, rfl, rfl, 1 + i, _, rfl, by omega, by omega, hb.mp rfl, dv, .inr (by omega), fun s' c' h1 h2 h3 h4 => hm s' c' h1 (by omega) (by omega) h4⟩
            | false => exact iteF ⟨rfl, s, _, rfl, s0, s1, hs, sd, stay, more fun c' d' rep => by
                have q := (rep_quot o d' rep).1
                have h := hb.mpr (by rw [← q] at rep; exact rep)
                cases h⟩
          · exact ⟨rfl, s, _, rfl, s0, s1, hs, sd, stay, more fun c' d' rep => e3 (congrArg V.int ((Int.fmod_eq_emod_of_nonneg _ (by omega)).trans (rep_quot o d' rep).2))⟩
        · exact iteF ⟨rfl, s, _, rfl, s0, s1, hs, sd, stay, more fun c' d' rep => e2 (congrArg V.int (of_dvd d'))⟩
      · refine iteF ⟨rfl, s, _, rfl, s0, s1, hs, sd, stay, fun s' c' h1 h2 h3 h4 => ?_⟩
        have ne : s ≠ p := fun q => e (by rw [q])
        exact hm s' c' h1 h2 (by omega) h4
    · rintro σ H' ⟨rfl, s, v, rfl, s0, s1, hs, sd, sl, hm⟩
      exact ⟨rfl, s, v, rfl, s0, s1, hs, sd, fun s' c' h1 h2 h4 => hm s' c' h1 h2 (by omega) h4⟩
  · rintro σ H' ⟨rfl, s, v, rfl, s0, s1, hs, sd, hm⟩
    have c0 : 0 ≤ r * (s : Int) / (p : Int) := Int.ediv_nonneg (Int.mul_nonneg r0 (by omega)) (by omega)
    have c1 : r * (s : Int) / (p : Int) ≤ r := by
      have h1 : r * (s : Int) ≤ r * (p : Int) := Int.mul_le_mul_of_nonneg_left (by omega) r0
      have h2 := Int.ediv_le_ediv (show (0 : Int) < (p : Int) by omega) h1
      rw [Int.mul_ediv_cancel _ (by omega)] at h2
      exact h2
    refine ⟨_, rfl, _, rfl, _, _, rfl, rfl, .inr ⟨by omega, by omega⟩, _, rfl, _, _, rfl, rfl, b.div o, ?_⟩
    have all := rep_all o hs
    obtain ⟨c, ec⟩ : ∃ c, c = r * (s : Int) / (p : Int) := ⟨_, rfl⟩
    rw [← ec] at c0 c1 all
    refine ⟨LeastW d t T0 p r s c v H', ⟨T0.length - p, by rw [ec]; rfl, rfl, Nat.le_refl _, all⟩, ?_⟩
    rintro m σ H'' ⟨rfl, rfl, al, ha⟩
    -- the end, from any start
    have fin : (m = 0 ∨ vl T0 p r (m - 1 + s) ≠ T0.getD (m - 1) 0 + c) → ∀ (H2 : Hp) (t' : Addr), Same H'' H2 → H2 t' = some (.tup ((T0.take (m + s)).map V.int)) → ∀ q, H2 q = none → Q (.ref q) (upd H2 q (.tup [.ref t', .int (s : Int), .int c])) := by
      intro st H2 t' sm h2 q nq
      have sq := same_upd (o := .tup [.ref t', .int (s : Int), .int c]) nq
      refine k _ q (T0.take (m + s)) s c (sm.trans sq) ⟨t', upd_same, sq _ _ h2⟩ ⟨?_, s1, c1, fun i hi => ?_⟩ (cut_short o s0 sd al c0 ha hm st) (cut_vl s0 (by omega) ha)
      · rw [List.length_take]
        omega
      · rw [List.length_take] at hi
        exact getD_take (by omega)
    refine ⟨_, rfl, _, _, rfl, rfl, _, rfl, ?_⟩
    by_cases e : (0 : Int) < (m : Int)
    · have e1 : (m : Int) - 1 = ((m - 1 : Nat) : Int) := by omega
      have e2 : (m : Int) - 1 + (s : Int) = ((m - 1 + s : Nat) : Int) := by omega
      refine iteP e ⟨_, rfl, _, rfl, _, _, rfl, rfl, _, rfl, _, _, rfl, rfl, d, T0, p, r, m - 1 + s, congrArg (fun z => [V.ref d, V.int z]) e2, R, o, b, (by omega), _, rfl, _, rfl, _, _, rfl, rfl, _, _, _, _, rfl, rfl, SqT.of ht, at_of e1 (get_int (by omega)), _, rfl, _, _, rfl, rfl, rfl, _, rfl, ?_⟩
      by_cases e3 : vl T0 p r (m - 1 + s) = T0.getD (m - 1) 0 + c
      · refine iteP (congrArg V.int e3) ⟨LeastW d t T0 p r s c v H'' (m - 1), fun σ' H3 hw => ⟨m - 1, by omega, hw⟩, _, rfl, _, _, rfl, rfl, ?_⟩
        refine ⟨by rw [← e1]; rfl, rfl, by omega, fun y hy => ?_⟩
        by_cases q : y = m - 1
        · rw [q, e3, vl_lt (by omega)]
        · exact ha y (by omega)
      · refine iteN (fun q => e3 (V.int.inj q)) ?_
        refine ⟨_, rfl, _, rfl, _, rfl, _, _, rfl, rfl, _, rfl, _, _, rfl, SqT.of ht, fun wh => ?_, fun _ p' np' => ?_⟩
        · have w2 : min (m + s) (T0.map V.int).length = (T0.map V.int).length := (HT.sIx_nat _ _ (m + s)).symm.trans wh.2
          rw [List.length_map] at w2
          exact ⟨_, _, rfl, SqT.of ht, _, rfl, _, rfl, (by show 3 ≤ sizeLine; decide), fun q nq => fin (.inr e3) _ t (Same.refl _) (by rw [List.take_of_length_le (by omega)]; exact ht) q nq⟩
        · exact ⟨_, _, rfl, SqT.of upd_same, _, rfl, _, rfl, (by show 3 ≤ sizeLine; decide), fun q nq => fin (.inr e3) _ p' (same_upd np') (by rw [upd_same, show cutV (T0.map V.int) none (some ((m : Int) + (s : Int))) = cutV (T0.map V.int) none (some ((m + s : Nat) : Int)) from rfl, cut_all, List.map_take]) q nq⟩
    · refine iteN e (iteF ?_)
      refine ⟨_, rfl, _, rfl, _, rfl, _, _, rfl, rfl, _, rfl, _, _, rfl, SqT.of ht, fun wh => ?_, fun _ p' np' => ?_⟩
      · have w2 : min (m + s) (T0.map V.int).length = (T0.map V.int).length := (HT.sIx_nat _ _ (m + s)).symm.trans wh.2
        rw [List.length_map] at w2
        exact ⟨_, _, rfl, SqT.of ht, _, rfl, _, rfl, (by show 3 ≤ sizeLine; decide), fun q nq => fin (.inl (by omega)) _ t (Same.refl _) (by rw [List.take_of_length_le (by omega)]; exact ht) q nq⟩
      · exact ⟨_, _, rfl, SqT.of upd_same, _, rfl, _, rfl, (by show 3 ≤ sizeLine; decide), fun q nq => fin (.inl (by omega)) _ p' (same_upd np') (by rw [upd_same, show cutV (T0.map V.int) none (some ((m : Int) + (s : Int))) = cutV (T0.map V.int) none (some ((m + s : Nat) : Int)) from rfl, cut_all, List.map_take]) q nq⟩
end
end Sm

set_option Elab.async false
set_option linter.all false
set_option maxRecDepth 100000
set_option maxHeartbeats 16000000
namespace Sm
open PySem PySem.Spec PyProof.Rows L2
section
variable {P : Program} {w : World} {K : PySem.W.Frag} {mg : Str → Option Value} {base : Heap}
abbrev s_l_rule : Stmt := topS 27
abbrev N_l_rule : List Str := ["_law_deck_here", "_law_long", "_law_wide", "_law_tall", "_law_start", "_law_period", "_law_table", "_law_k", "_law_rise"]
theorem sc_l_rule : FnScope N_l_rule ["_law_deck_here", "_law_long", "_law_wide", "_law_tall"] (defScope s_l_rule) := ⟨rfl, rfl, rfl, by decide +kernel, rfl, by decide +kernel, by decide +kernel⟩
/-- what a draw needs of the deck, and an item of a list of four -/
theorem list_ne {H : Hp} {p l b : Addr} {n : Int} {xs : List V} (D : Deck H p l n) (h : H b = none) : b ≠ p ∧ b ≠ l := D.lne h
theorem ok_l_rule (T : Txt mg) (D : Df K mg "_law_rule" s_l_rule ["_law_deck_here", "_law_long", "_law_wide", "_law_tall"]) (C_l_least : Cal P w K mg base "_law_least" ["_law_rule_here"] 3 (sp_l_least K)) (C_l_draw : Cal P w K mg base "_law_draw" ["_law_deck_here", "_law_many"] 1 (sp_l_draw K)) : Cal P w K mg base "_law_rule" ["_law_deck_here", "_law_long", "_law_wide", "_law_tall"] 4 (sp_l_rule K) := by
  obtain ⟨f_l_least, fd_l_least, G_l_least, m_l_least, k_l_least, b_l_least⟩ := C_l_least
  obtain ⟨f_l_draw, fd_l_draw, G_l_draw, m_l_draw, k_l_draw, b_l_draw⟩ := C_l_draw
  refine D.cal sc_l_rule (fun vs H Q E h => ?_) (fun f cdv A outer s H vs Q E hr h => ?_)
  · obtain ⟨p, l, n, long, wide, tall, rfl, _⟩ := h
    rfl
  obtain ⟨p, l, n, long, wide, tall, rfl, D0, n0, n1, lo0, lo1, wi0, wi1, ta0, ta1, k⟩ := h
  refine ⟨_, (pss_cons (ps_par (i := 4) (j := 5) (by rfl) sc_l_rule.nd rfl rfl (by decide) rfl rfl (pa_cons (pe_call G_l_draw (hr.mono (by decide)) (by rfl) m_l_draw k_l_draw b_l_draw .nil pass0 (pa_cons (pv 0) (pa_cons (pe_op op_add (pv 1) pe_int) pa_nil))) (pa_cons (pe_op op_add pe_int (pe_call G_l_draw (hr.mono (by decide)) (by rfl) m_l_draw k_l_draw b_l_draw .nil pass0 (pa_cons (pv 0) (pa_cons (pv 2) pa_nil)))) pa_nil)) (by rfl))
    (pss_cons (ps_set (i := 6) sc_l_rule.nd rfl (Or.inl rfl) (pe_lst (pa_cons (pe_ix ix_list (pe_lst (pa_cons pe_int (pa_cons pe_int (pa_cons pe_int (pa_cons (pe_call G_l_draw (hr.mono (by decide)) (by rfl) m_l_draw k_l_draw b_l_draw .nil pass0 (pa_cons (pv 0) (pa_cons (pe_op op_add (pv 3) pe_int) pa_nil))) pa_nil))))) (pe_call G_l_draw (hr.mono (by decide)) (by rfl) m_l_draw k_l_draw b_l_draw .nil pass0 (pa_cons (pv 0) (pa_cons pe_int pa_nil))) (fun _ _ => rfl)) pa_nil)))
    (pss_cons (ps_for PassesOwn.never rfl (pi_range1 (by rfl) T.n_range (pa_cons (pe_op op_sub (pe_op op_add (pv 4) (pv 5)) pe_int) pa_nil)) (pg_name (i := 7) sc_l_rule.nd rfl (Or.inl rfl))
      (pss_one (ps_expr (pe_bm PySem.F.plainAttrs_list PySem.F.slot_list_append PySem.F.type_list_append mt_append (pv 6) (pa_cons (pe_op op_add (pe_ix ix_list (pv 6) (pe_un un_neg pe_int) (fun _ _ => rfl)) (pe_ix ix_list (pe_lst (pa_cons pe_int (pa_cons pe_int (pa_cons pe_int (pa_cons (pe_call G_l_draw (hr.mono (by decide)) (by rfl) m_l_draw k_l_draw b_l_draw .nil pass0 (pa_cons (pv 0) (pa_cons (pe_op op_add (pv 3) pe_int) pa_nil))) pa_nil))))) (pe_call G_l_draw (hr.mono (by decide)) (by rfl) m_l_draw k_l_draw b_l_draw .nil pass0 (pa_cons (pv 0) (pa_cons pe_int pa_nil))) (fun _ _ => rfl))) pa_nil)))))
    (pss_cons (ps_if (pt_cmpR op_eq (pe_call G_l_draw (hr.mono (by decide)) (by rfl) m_l_draw k_l_draw b_l_draw .nil pass0 (pa_cons (pv 0) (pa_cons pe_int pa_nil))) pe_int (nomark _)) (pss_one (ps_ret (pe_call G_l_least (hr.mono (by decide)) (by rfl) m_l_least k_l_least b_l_least .nil pass0 (pa_cons (pe_tup (pa_cons (pe_callTy call_tuple_of (by rfl) T.n_tuple (by decide +kernel) (pa_cons (pv 6) pa_nil)) (pa_cons pe_int (pa_cons pe_int pa_nil)))) pa_nil)))) pss_nil)
    (pss_cons (ps_set (i := 8) sc_l_rule.nd rfl (Or.inl rfl) (pe_op op_add (pe_op op_sub (pe_ix ix_list (pv 6) (pe_un un_neg pe_int) (fun _ _ => rfl)) (pe_ix ix_list (pv 6) (pv 4) (fun _ _ => rfl))) (pe_ix ix_list (pe_lst (pa_cons pe_int (pa_cons pe_int (pa_cons pe_int (pa_cons (pe_call G_l_draw (hr.mono (by decide)) (by rfl) m_l_draw k_l_draw b_l_draw .nil pass0 (pa_cons (pv 0) (pa_cons (pe_op op_add (pv 3) pe_int) pa_nil))) pa_nil))))) (pe_call G_l_draw (hr.mono (by decide)) (by rfl) m_l_draw k_l_draw b_l_draw .nil pass0 (pa_cons (pv 0) (pa_cons pe_int pa_nil))) (fun _ _ => rfl))))
    (pss_one (ps_ret (pe_call G_l_least (hr.mono (by decide)) (by rfl) m_l_least k_l_least b_l_least .nil pass0 (pa_cons (pe_tup (pa_cons (pe_callTy call_tuple_of (by rfl) T.n_tuple (by decide +kernel) (pa_cons (pv 6) pa_nil)) (pa_cons (pv 5) (pa_cons (pv 8) pa_nil)))) pa_nil))))))))), ?_⟩
  -- start, period
  refine ⟨_, rfl, _, rfl, _, _, rfl, rfl, p, l, n, _, rfl, D0, n0, by omega, by omega, by omega, fun rs H1 rs0 rs1 f1 D1 => ?_⟩
  refine ⟨_, rfl, _, rfl, p, l, n + 1, _, rfl, D1, by omega, by omega, by omega, by omega, fun rp H2 rp0 rp1 f2 D2 => ?_⟩
  refine ⟨_, _, rfl, rfl, _, _, rfl, ?_⟩
  -- the table's first item
  refine ⟨_, rfl, _, rfl, _, _, rfl, rfl, p, l, n + 1 + 1, _, rfl, D2, by omega, by omega, by omega, by omega, fun a H3 a0 a1 f3 D3 => ?_⟩
  refine ⟨(by show 4 ≤ sizeLine; decide), fun b nb => ?_⟩
  have sb := same_upd (o := .lst [.int 0, .int 0, .int 0, .int a]) nb
  obtain ⟨bp, bl⟩ := D3.lne nb
  refine ⟨_, rfl, p, l, n + 1 + 1 + 1, 4, rfl, D3.same sb, by omega, by omega, by omega, by omega, fun i4 H4 i40 i41 f4 D4 => ?_⟩
  obtain ⟨z, hz, zz⟩ := pick4 (a := 0) (b := 0) (c := 0) (d := a) i40 i41
  have z0 : 0 ≤ z := by omega
  have z1 : z ≤ 1000000000 := by omega
  refine ⟨_, _, _, _, rfl, rfl, SqL.of (f4 b _ bp bl upd_same), at_of (j := i4.toNat) (by omega) hz, ?_⟩
  refine ⟨(by show 1 ≤ sizeLine; decide), fun L nL => ?_⟩
  obtain ⟨Lp, Ll⟩ := D4.lne nL
  have sL := same_upd (o := .lst [.int z]) nL
  have fr : Fr p l H (upd H4 L (.lst [.int z])) := (f1.trans (f2.trans (f3.trans ((Same.fr sb).trans f4)))).trans (Same.fr sL)
  have D5 := D4.same sL
  have hn : ∀ b o, H b = some o → b ≠ L := by
    intro b o hb e
    subst e
    by_cases q1 : b = p
    · exact Lp q1
    · by_cases q2 : b = l
      · exact Ll q2
      · have := (f1.trans (f2.trans (f3.trans ((Same.fr sb).trans f4)))) b o q1 q2 hb
        rw [nL] at this
        cases this
  -- the loop
  refine ⟨_, rfl, _, rfl, _, _, rfl, rfl, _, _, rfl, rfl, _, rfl, (by omega), (by omega), ?_⟩
  refine for_range (lo := 0) (n := _) (fun i σ H' => ∃ (n' : Int) (T0 : List Int) (v : Option V), σ = [some (.ref p), some (.int long), some (.int wide), some (.int tall), some (.int rs), some (.int (1 + rp)), some (.ref L), v, none] ∧
      Deck H' p l n' ∧ n ≤ n' ∧ n' ≤ n + 4 + 2 * (i : Int) ∧ Fr p l H H' ∧ H' L = some (.lst (T0.map V.int)) ∧ T0.length = i + 1 ∧ Tb T0)
    ⟨_, [z], none, rfl, D5, by omega, by omega, fr, upd_same, rfl, ⟨by show 0 < 1; decide, fun i hi => ?_, fun i hi => ?_, fun i hi => ?_⟩⟩ ?_ ?_
  · have hi : i < 1 := hi
    rw [show i = 0 by omega]
    exact z0
  · have hi : i + 1 < 1 := hi
    omega
  · have hi : i < 1 := hi
    rw [show i = 0 by omega]
    show z ≤ 10000000000 * (((0 : Nat) : Int) + 1)
    omega
  · rintro i σ H' hi ⟨n', T0, v, rfl, D', m0, m1, f', hL, hT, tb⟩
    have hi : i < (rs + (1 + rp) - 1).toNat := hi
    refine ⟨_, rfl, .inl ⟨rfl, _, SqL.of hL⟩, ?_⟩
    refine ⟨_, rfl, _, rfl, _, _, _, _, rfl, rfl, SqL.of hL, last_int tb.ne, ?_⟩
    refine ⟨_, rfl, _, rfl, _, _, rfl, rfl, p, l, n', _, rfl, D', by omega, by omega, by omega, by omega, fun a' H6 a0' a1' f6 D6 => ?_⟩
    refine ⟨(by show 4 ≤ sizeLine; decide), fun b' nb' => ?_⟩
    have sb' := same_upd (o := .lst [.int 0, .int 0, .int 1, .int a']) nb'
    obtain ⟨bp', bl'⟩ := D6.lne nb'
    refine ⟨_, rfl, p, l, n' + 1, 4, rfl, D6.same sb', by omega, by omega, by omega, by omega, fun i5 H7 i50 i51 f7 D7 => ?_⟩
    obtain ⟨c, hc, cc⟩ := pick4 (a := 0) (b := 0) (c := 1) (d := a') i50 i51
    have c0 : 0 ≤ c := by omega
    have c1 : c ≤ 1000000000 := by omega
    have hL7 : H7 L = some (.lst (T0.map V.int)) := f7 L _ Lp Ll (sb' _ _ (f6 L _ Lp Ll hL))
    refine ⟨_, _, _, _, rfl, rfl, SqL.of (f7 b' _ bp' bl' upd_same), at_of (j := i5.toNat) (by omega) hc, _, _, rfl, rfl, L, _, _, rfl, rfl, hL7, ?_, ?_⟩
    · rw [List.length_map, hT]
      exact small1000 (by omega)
    · have fL : Fr p l H (upd H7 L (.lst ((T0 ++ [T0.getD (T0.length - 1) 0 + c]).map V.int))) := by
        intro b o h1 h2 hb
        rw [upd_ne (hn b o hb)]
        exact (f'.trans (f6.trans ((Same.fr sb').trans f7))) b o h1 h2 hb
      refine ⟨n' + 1 + 1, T0 ++ [T0.getD (T0.length - 1) 0 + c], _, rfl, ⟨by rw [upd_ne Lp.symm]; exact D7.hp, ?_⟩, by omega, by omega, ?_, ?_, ?_, tb.more c0 c1⟩
      · obtain ⟨cells, q1, q2⟩ := D7.hl
        exact ⟨cells, by rw [upd_ne Ll.symm]; exact q1, q2⟩
      · rw [List.map_append] at fL
        exact fL
      · rw [upd_same, List.map_append]
        rfl
      · rw [List.length_append, List.length_singleton, hT]
  · rintro σ H' ⟨n', T0, v, rfl, D', m0, m1, f', hL, hT, tb⟩
    have hlen : (T0.length : Int) = rs + (1 + rp) := by omega
    have small : T0.length ≤ 300 := by omega
    have line : T0.length ≤ sizeLine := Nat.le_trans small (by decide)
    have topI := tb.top
    refine ⟨_, rfl, p, l, n', 5, rfl, D', by omega, by omega, by omega, by omega, fun r5 H6 r50 r51 f6 D6 => ?_⟩
    have hL6 := f6 L _ Lp Ll hL
    refine ⟨rfl, _, rfl, ite3 (fun e => ?_) (fun e => ?_)⟩
    · -- a level rule
      refine ⟨_, rfl, L, _, rfl, .inl ⟨SqL.of hL6, fun t nt => ?_⟩⟩
      have st := same_upd (o := .tup (T0.map V.int)) nt
      refine ⟨(by show 3 ≤ sizeLine; decide), fun d nd => ?_⟩
      have sd := same_upd (o := .tup [.ref t, .int 1, .int 0]) nd
      refine ⟨d, T0, 1, 0, rfl, ⟨t, upd_same, sd _ _ upd_same⟩, tb.level, (tb.rs small (by omega) (by decide)).rb (by decide), fun H9 d' T' p' r' s9 hr' hc hsh hv => ?_⟩
      have s := st.trans (sd.trans s9)
      exact k H9 d' T' p' r' (n' + 1) (f'.trans (f6.trans (Same.fr s))) (D6.same s) (by omega) (by omega) hr' (hc.rs (tb.rs9 (by omega) (by omega) (by decide))) (Nat.le_trans hc.len (by omega)) hsh
    · -- a rising rule
      have gs : (T0.map V.int)[rs.toNat]? = some (.int (T0.getD rs.toNat 0)) := get_int (by omega)
      refine ⟨_, rfl, _, rfl, _, _, _, _, rfl, rfl, SqL.of hL6, last_int tb.ne, _, rfl, _, rfl, _, _, _, _, rfl, rfl, SqL.of hL6, at_of (j := rs.toNat) (by omega) gs, _, _, rfl, rfl, ?_⟩
      refine ⟨_, rfl, _, rfl, _, _, rfl, rfl, p, l, n' + 1, _, rfl, D6, by omega, by omega, by omega, by omega, fun a' H7 a0' a1' f7 D7 => ?_⟩
      refine ⟨(by show 4 ≤ sizeLine; decide), fun b' nb' => ?_⟩
      have sb' := same_upd (o := .lst [.int 0, .int 0, .int 1, .int a']) nb'
      obtain ⟨bp', bl'⟩ := D7.lne nb'
      refine ⟨_, rfl, p, l, n' + 1 + 1, 4, rfl, D7.same sb', by omega, by omega, by omega, by omega, fun i5 H8 i50 i51 f8 D8 => ?_⟩
      obtain ⟨c, hc, cc⟩ := pick4 (a := 0) (b := 0) (c := 1) (d := a') i50 i51
      have c0 : 0 ≤ c := by omega
      have c1 : c ≤ 1000000000 := by omega
      have hL8 : H8 L = some (.lst (T0.map V.int)) := f8 L _ Lp Ll (sb' _ _ (f7 L _ Lp Ll hL6))
      refine ⟨_, _, _, _, rfl, rfl, SqL.of (f8 b' _ bp' bl' upd_same), at_of (j := i5.toNat) (by omega) hc, _, _, rfl, rfl, ?_⟩
      refine ⟨_, rfl, L, _, rfl, .inl ⟨SqL.of hL8, fun t nt => ?_⟩⟩
      have st := same_upd (o := .tup (T0.map V.int)) nt
      refine ⟨_, rfl, _, rfl, (by show 3 ≤ sizeLine; decide), fun d nd => ?_⟩
      have ep : (1 : Int) + rp = (((1 + rp).toNat : Nat) : Int) := by omega
      have er : T0.length - (1 + rp).toNat = rs.toNat := by omega
      have ok := tb.rising (p := (1 + rp).toNat) (c := c) (by omega) (by omega) c0
      rw [er] at ok
      have t1 := tb.top (T0.length - 1) (by omega)
      have t2 := tb.nn rs.toNat (by omega)
      have sd := same_upd (o := .tup [.ref t, .int (1 + rp), .int (T0.getD (T0.length - 1) 0 - T0.getD rs.toNat 0 + c)]) nd
      refine ⟨d, T0, (1 + rp).toNat, T0.getD (T0.length - 1) 0 - T0.getD rs.toNat 0 + c, rfl, ⟨t, by rw [← ep]; exact upd_same, sd _ _ upd_same⟩, ok, (tb.rs small (by omega) (by omega)).rb (by decide), fun H9 d' T' p' r' s9 hr' hc hsh hv => ?_⟩
      have s := st.trans (sd.trans s9)
      exact k H9 d' T' p' r' (n' + 1 + 1 + 1) (f'.trans (f6.trans (f7.trans ((Same.fr sb').trans (f8.trans (Same.fr s)))))) (D8.same s) (by omega) (by omega) hr' (hc.rs (tb.rs9 (by omega) (by omega) (by omega))) (Nat.le_trans hc.len (by omega)) hsh
end
end Sm

set_option Elab.async false
set_option linter.all false
set_option maxRecDepth 100000
set_option maxHeartbeats 16000000
namespace Sm
open PySem PySem.Spec PyProof.Rows L2
open C8 (pss_cut tCut)
theorem RS.vl {M : Int} {T : List Int} {p : Nat} {r : Int} (o : RuleOk T p r) (b : RS M T p r) (hM : 0 ≤ M) : ∀ x : Nat, vl T p r x ≤ M * ((x : Int) + 1) := by
  intro x
  induction x using Nat.strongRecOn with
  | _ x ih =>
    have p0 := o.p0
    have p1 := o.p1
    have r1 := b.r1
    by_cases q : x < T.length
    · rw [vl_lt q]
      have h1 := b.top x q
      have h2 : M * 1 ≤ M * ((x : Int) + 1) := Int.mul_le_mul_of_nonneg_left (by omega) hM
      omega
    · rw [vl_step p0 o.p1 (by omega)]
      have h1 := ih (x - p) (by omega)
      have h2 : M * (((x - p : Nat) : Int) + 1 + 1) ≤ M * ((x : Int) + 1) := Int.mul_le_mul_of_nonneg_left (by omega) hM
      rw [Int.mul_add M (((x - p : Nat) : Int) + 1) 1] at h2
      omega
def vals (T : List Int) (p : Nat) (r : Int) (n : Nat) : List Int := (List.range n).map (vl T p r)
def sp_begin_of (_ : PySem.W.Frag) : Sp := fun vs H Q _ => ∃ (d : Addr) (T : List Int) (p : Nat) (r : Int), vs = [.ref d] ∧ RuleAt H d T p r ∧ p ≤ T.length ∧ Q (.int ((T.length - p : Nat) : Int)) H
def sp_values_to (_ : PySem.W.Frag) : Sp := fun vs H Q _ => ∃ (d : Addr) (T : List Int) (p : Nat) (r : Int) (n : Nat), vs = [.ref d, .int (n : Int)] ∧ RuleAt H d T p r ∧ RuleOk T p r ∧ RB T p r ∧ n ≤ 20000 ∧
  ∀ H' q, Same H H' → (∀ b o, H b = some o → b ≠ q) → H' q = some (.lst ((vals T p r n).map V.int)) → Q (.ref q) H'
theorem ps_no {X : Cx} {st : Stmt} : PS X st (fun _ _ _ => False) := by
  constructor
  intros
  contradiction
theorem vals_len (T : List Int) (p : Nat) (r : Int) (n : Nat) : (vals T p r n).length = n := by unfold vals; rw [List.length_map, List.length_range]
theorem vals_get {T : List Int} {p : Nat} {r : Int} {n i : Nat} (h : i < n) : ((vals T p r n).map V.int)[i]? = some (.int (vl T p r i)) := by
  unfold vals
  rw [List.getElem?_map, List.getElem?_map, List.getElem?_range h]
  rfl
theorem vals_take {T : List Int} {p : Nat} {r : Int} {n : Nat} (h : n ≤ T.length) : T.take n = vals T p r n := by
  refine List.ext_getElem? fun i => ?_
  unfold vals
  by_cases q : i < n
  · rw [List.getElem?_take_of_lt q, List.getElem?_map, List.getElem?_range q, List.getElem?_eq_getElem (by omega)]
    show some _ = some (vl T p r i)
    rw [vl_lt (by omega), List.getD_eq_getElem?_getD, List.getElem?_eq_getElem (by omega)]
    rfl
  · rw [List.getElem?_eq_none (by rw [List.length_take]; omega), List.getElem?_eq_none (by rw [List.length_map, List.length_range]; omega)]
theorem vals_succ {T : List Int} {p : Nat} {r : Int} {n : Nat} : vals T p r (n + 1) = vals T p r n ++ [vl T p r n] := by
  unfold vals
  rw [List.range_succ, List.map_append]
  rfl
section
variable {P : Program} {w : World} {K : PySem.W.Frag} {mg : Str → Option Value} {base : Heap}
abbrev s_begin_of : Stmt := topS 17
abbrev N_begin_of : List Str := ["rule"]
theorem sc_begin_of : FnScope N_begin_of ["rule"] (defScope s_begin_of) := ⟨rfl, rfl, rfl, by decide +kernel, rfl, by decide +kernel, by decide +kernel⟩
theorem ok_begin_of (T : Txt mg) (D : Df K mg "begin_of" s_begin_of ["rule"]) : Cal P w K mg base "begin_of" ["rule"] 1 (sp_begin_of K) := by
  refine D.cal sc_begin_of (fun vs H Q E h => ?_) (fun f cdv A outer s H vs Q E hr h => ?_)
  · obtain ⟨d, T0, p, r, rfl, _⟩ := h
    rfl
  obtain ⟨d, T0, p, r, rfl, ⟨t, hd, ht⟩, p1, k⟩ := h
  refine ⟨_, (pss_one (ps_ret (pe_op op_sub (pe_callB call_len_seq (by rfl) T.n_len (by decide +kernel) (pa_cons (pe_ix ix_tup (pv 0) pe_int (fun _ _ => rfl)) pa_nil)) (pe_ix ix_tup (pv 0) pe_int (fun _ _ => rfl))))), ?_⟩
  refine ⟨_, rfl, _, _, _, _, rfl, rfl, SqT.of hd, atI_nat (j := 0) rfl, _, _, rfl, .inr (SqT.of ht), _, rfl, _, _, _, _, rfl, rfl, SqT.of hd, atI_nat (j := 1) rfl, _, _, rfl, rfl, ?_⟩
  have e : (((T0.map V.int).length : Nat) : Int) - (p : Int) = ((T0.length - p : Nat) : Int) := by rw [len_int]; omega
  have k := k
  rw [← e] at k
  exact k
abbrev s_values_to : Stmt := topS 14
abbrev N_values_to : List Str := ["rule", "count", "table", "period", "rise", "values", "x"]
theorem sc_values_to : FnScope N_values_to ["rule", "count"] (defScope s_values_to) := ⟨rfl, rfl, rfl, by decide +kernel, rfl, by decide +kernel, by decide +kernel⟩
theorem ok_values_to (T : Txt mg) (D : Df K mg "values_to" s_values_to ["rule", "count"]) : Cal P w K mg base "values_to" ["rule", "count"] 1 (sp_values_to K) := by
  refine D.cal sc_values_to (fun vs H Q E h => ?_) (fun f cdv A outer s H vs Q E hr h => ?_)
  · obtain ⟨d, T0, p, r, n, rfl, _⟩ := h
    rfl
  obtain ⟨d, T0, p, r, n, rfl, ⟨t, hd, ht⟩, o, b, nb, k⟩ := h
  have p0 := o.p0
  have p1 := o.p1
  have bl := b.len
  have ll := len_int T0
  have lm : (T0.map V.int).length = T0.length := List.length_map ..
  refine ⟨_, (pss_cons (ps_asg (pv 0) (pg_tup (by rfl) (pgs_cons (pg_name (i := 2) sc_values_to.nd rfl (Or.inl rfl)) (pgs_cons (pg_name (i := 3) sc_values_to.nd rfl (Or.inl rfl)) (pgs_cons (pg_name (i := 4) sc_values_to.nd rfl (Or.inl rfl)) pgs_nil)))))
    (pss_cut (ps_set (i := 5) sc_values_to.nd rfl (Or.inl rfl) (pe_callTy call_list_of (by rfl) T.n_list (by decide +kernel) (pa_cons (pe_slice sl_tupA (pv 2) po_none (po_some (pv 1))) pa_nil)))
    (pss_cons (ps_for PassesOwn.never rfl (pi_range2 (by rfl) T.n_range (pa_cons (pe_callB call_len_seq (by rfl) T.n_len (by decide +kernel) (pa_cons (pv 2) pa_nil)) (pa_cons (pv 1) pa_nil))) (pg_name (i := 6) sc_values_to.nd rfl (Or.inl rfl))
      (pss_one (ps_expr (pe_bm PySem.F.plainAttrs_list PySem.F.slot_list_append PySem.F.type_list_append mt_append (pv 5) (pa_cons (pe_op op_add (pe_ix ix_list (pv 5) (pe_op op_sub (pv 6) (pv 3)) (fun _ _ => rfl)) (pv 4)) pa_nil)))))
    (pss_one (ps_ret (pv 5)))))), ?_⟩
  refine ⟨_, rfl, _, _, rfl, SqT.of hd, rfl, _, _, rfl, _, _, rfl, _, _, rfl, rfl, ?_⟩
  refine ⟨fun σ H1 => ∃ q, σ = [some (.ref d), some (.int (n : Int)), some (.ref t), some (.int (p : Int)), some (.int r), some (.ref q), none] ∧ Same H H1 ∧ (∀ b o, H b = some o → b ≠ q) ∧ H1 q = some (.lst ((vals T0 p r (min n T0.length)).map V.int)), ?_, ?_⟩
  · have tk : (T0.map V.int).take n = (vals T0 p r (min n T0.length)).map V.int := by
      rw [← vals_take (Nat.min_le_right ..), ← List.map_take]
      congr 1
      rcases Nat.le_total n T0.length with h | h
      · rw [Nat.min_eq_left h]
      · rw [Nat.min_eq_right h, List.take_length, List.take_of_length_le h]
    refine ⟨_, rfl, _, rfl, _, rfl, _, _, rfl, SqT.of ht, fun wh => ?_, fun _ q1 nq1 => ?_⟩
    · have w2 : (T0.map V.int).take n = T0.map V.int := by
        have := wh.2
        rw [HT.sIx_nat] at this
        exact List.take_of_length_le (by omega)
      refine ⟨_, _, rfl, .inr (SqT.of ht), fun q nq => ⟨q, rfl, same_upd nq, fun b o h => ne_of_none h nq, ?_⟩⟩
      rw [upd_same, ← w2, tk]
    · have s1 := same_upd (o := .tup (cutV (T0.map V.int) none (some (n : Int)))) nq1
      refine ⟨_, _, rfl, .inr (SqT.of upd_same), fun q nq => ⟨q, rfl, s1.trans (same_upd nq), fun b o h => ne_of_none (s1 _ _ h) nq, ?_⟩⟩
      rw [upd_same, cut_all, tk]
  · rintro σ H1 ⟨q, rfl, s1, ne, hq⟩
    have ht1 := s1 _ _ ht
    refine ⟨_, rfl, _, _, rfl, .inr (SqT.of ht1), _, rfl, _, _, rfl, ⟨by rw [ll]; omega, by rw [ll]; omega, by omega, by omega⟩, ?_⟩
    refine for_range (lo := _) (n := _) (fun i σ H2 => ∃ v, σ = [some (.ref d), some (.int (n : Int)), some (.ref t), some (.int (p : Int)), some (.int r), some (.ref q), v] ∧ Same H H2 ∧ H2 q = some (.lst ((vals T0 p r (min n T0.length + i)).map V.int)))
      ⟨none, rfl, s1, hq⟩ ?_ ?_
    · rintro i σ H2 hi ⟨v, rfl, s2, hq2⟩
      rw [ll] at hi
      have hi : T0.length + i < n := by omega
      have em : min n T0.length = T0.length := by omega
      rw [em] at hq2 ⊢
      have e1 : (((T0.map V.int).length : Nat) : Int) + (i : Int) - (p : Int) = ((T0.length + i - p : Nat) : Int) := by rw [ll]; omega
      refine ⟨_, rfl, .inl ⟨rfl, _, SqL.of hq2⟩, _, rfl, _, rfl, _, rfl, _, _, rfl, rfl, _, _, _, _, rfl, rfl, SqL.of hq2, at_of e1 (vals_get (by omega)), _, rfl, _, _, rfl, rfl, q, _, _, rfl, rfl, hq2, ?_, _, rfl, fun b o h => ?_, ?_⟩
      · rw [List.length_map, vals_len]
        exact Nat.lt_of_le_of_lt (show T0.length + i ≤ 20000 by omega) (by decide)
      · rw [upd_ne (ne b o h)]
        exact s2 _ _ h
      · rw [upd_same, ← Nat.add_assoc, vals_succ, List.map_append, vl_step (x := T0.length + i) p0 p1 (by omega)]
        rfl
    · rintro σ H2 ⟨v, rfl, s2, hq2⟩
      refine ⟨_, rfl, k H2 q s2 ne ?_⟩
      rw [hq2, ll]
      congr 4
      omega
end
end Sm

set_option Elab.async false
set_option linter.all false
set_option maxRecDepth 100000
set_option maxHeartbeats 16000000
namespace Sm
open PySem PySem.Spec PyProof.Rows L2
open C8 (pss_cut tCut)
def sp_cycle_of (K : PySem.W.Frag) : Sp := fun vs H Q _ => ∃ (a : Addr) (I : List Int), vs = [.ref a] ∧ H a = some (.lst (I.map V.int)) ∧ 0 < I.length ∧ I.length ≤ 30000 ∧ ∀ H' s, Same H H' → Cyc I s → Q (.int (s : Int)) H'
theorem ints_eqvAll : ∀ I J : List Int, PyData.eqvAll (I.map PyData.int) (J.map PyData.int) = decide (I = J)
  | [], [] => by simp [PyData.eqvAll]
  | [], j :: J => by simp [PyData.eqvAll]
  | i :: I, [] => by simp [PyData.eqvAll]
  | i :: I, j :: J => by
    have := ints_eqvAll I J
    simp only [List.map_cons, PyData.eqvAll, this]
    simp [PyData.eqv]
    rfl
theorem ints_eqv (I J : List Int) : PyData.eqv (.list (I.map PyData.int)) (.list (J.map PyData.int)) = decide (I = J) := by
  rw [← ints_eqvAll]
  simp [PyData.eqv]
theorem ints_shaped (I : List Int) : SeqAt.shaped (.list (I.map PyData.int)) = true := by
  have a : PyData.canLayAll0 (I.map PyData.int) = true := by
    induction I with
    | nil => rfl
    | cons i I ih => simp [PyData.canLayAll0, PyData.canLay0, ih]
  have b := depth_ints I
  have c : PyData.depth (.list (I.map PyData.int)) ≤ 64 := by
    simp only [PyData.depth]
    omega
  simp [SeqAt.shaped, PyData.canLay0, a, c]
theorem cut_from {xs : List V} {n : Nat} (h : n ≤ xs.length) : cutV xs (some (n : Int)) none = xs.drop n := by
  unfold cutV
  rw [HT.sIx_none, HT.sIx_nat, Nat.min_eq_left h]
  exact List.take_of_length_le (by rw [List.length_drop]; omega)
section
variable {P : Program} {w : World} {K : PySem.W.Frag} {mg : Str → Option Value} {base : Heap}
abbrev s_cycle_of : Stmt := topS 10
abbrev N_cycle_of : List Str := ["items", "turn"]
theorem sc_cycle_of : FnScope N_cycle_of ["items"] (defScope s_cycle_of) := ⟨rfl, rfl, rfl, by decide +kernel, rfl, by decide +kernel, by decide +kernel⟩
theorem ok_cycle_of (T : Txt mg) (D : Df K mg "cycle_of" s_cycle_of ["items"]) : Cal P w K mg base "cycle_of" ["items"] 1 (sp_cycle_of K) := by
  refine D.cal sc_cycle_of (fun vs H Q E h => ?_) (fun f cdv A outer s H vs Q E hr h => ?_)
  · obtain ⟨a, I, rfl, _⟩ := h
    rfl
  obtain ⟨a, I, rfl, hS, i0, i1, k⟩ := h
  have ll := len_int I
  have lm : (I.map V.int).length = I.length := List.length_map ..
  refine ⟨_, (pss_cons (ps_for PassesOwn.never rfl (pi_range2 (by rfl) T.n_range (pa_cons pe_int (pa_cons (pe_callB call_len_seq (by rfl) T.n_len (by decide +kernel) (pa_cons (pv 0) pa_nil)) pa_nil))) (pg_name (i := 1) sc_cycle_of.nd rfl (Or.inl rfl))
      (pss_one (ps_if (PW.pt (pw_and (pt_cmpR op_eq (pe_op op_modN (pe_callB call_len_seq (by rfl) T.n_len (by decide +kernel) (pa_cons (pv 0) pa_nil)) (pv 1)) pe_int (nomark _)) (pw_and1 (pt_cmpR (op_eqD hr.units) (pv 0) (pe_op op_cat (pe_slice sl_list (pv 0) (po_some (pv 1)) po_none) (pe_slice sl_list (pv 0) po_none (po_some (pv 1)))) (nomark _))))) (pss_one (ps_ret (pv 1))) pss_nil)))
    (pss_one (ps_ret (pe_callB call_len_seq (by rfl) T.n_len (by decide +kernel) (pa_cons (pv 0) pa_nil))))), ?_⟩
  refine ⟨_, rfl, _, _, rfl, .inl (SqL.of hS), _, _, rfl, ⟨by omega, by omega, by rw [ll]; omega, by rw [ll]; omega⟩, ?_⟩
  refine for_range (lo := _) (n := _) (fun i σ H' => ∃ v, σ = [some (.ref a), v] ∧ Same H H' ∧ H' a = some (.lst (I.map V.int)) ∧ ∀ t, 0 < t → t ≤ i → t < I.length → t ∣ I.length → ¬ Rot I t)
    ⟨none, rfl, Same.refl _, hS, fun t h1 h2 => absurd h1 (by omega)⟩ ?_ ?_
  · rintro i σ H' hi ⟨v, rfl, s, hS, least⟩
    rw [ll] at hi
    have hi : 1 + i < I.length := by omega
    have more : (1 + i ∣ I.length → ¬ Rot I (1 + i)) → ∀ t, 0 < t → t ≤ i + 1 → t < I.length → t ∣ I.length → ¬ Rot I t := by
      intro h t h1 h2 h3 h4
      by_cases q : t = 1 + i
      · subst q
        exact h h4
      · exact least t h1 (by omega) h3 h4
    refine ⟨_, rfl, _, _, rfl, .inl (SqL.of hS), _, rfl, _, _, rfl, rfl, (by omega), rfl, _, rfl, ite3 (fun e => ?_) (fun e => ?_)⟩
    · rw [ll] at e
      have dv : 1 + i ∣ I.length := dvd_of (V.int.inj e)
      refine ⟨_, rfl, _, rfl, _, rfl, _, rfl, a, _, rfl, SqL.of hS, fun c nc => ?_⟩
      have e1 : cutV (I.map V.int) (some (1 + (i : Int))) none = (I.drop (1 + i)).map V.int := by
        rw [show (1 : Int) + (i : Int) = ((1 + i : Nat) : Int) by omega, cut_from (by rw [lm]; omega), List.map_drop]
      have e2 : cutV (I.map V.int) none (some (1 + (i : Int))) = (I.take (1 + i)).map V.int := by
        rw [show (1 : Int) + (i : Int) = ((1 + i : Nat) : Int) by omega, cut_all, List.map_take]
      have s1 := same_upd (o := .lst (cutV (I.map V.int) (some (1 + (i : Int))) none)) nc
      refine ⟨_, rfl, _, rfl, _, rfl, a, _, rfl, SqL.of (s1 _ _ hS), fun d nd => ?_⟩
      have s2 := same_upd (o := .lst (cutV (I.map V.int) none (some (1 + (i : Int))))) nd
      refine ⟨_, _, _, _, rfl, rfl, s2 _ _ upd_same, upd_same, ?_, fun g ng => ?_⟩
      · rw [e1, e2, List.length_map, List.length_map, List.length_drop, List.length_take]
        exact Nat.le_trans (show I.length - (1 + i) + min (1 + i) I.length ≤ 30000 by omega) (by decide)
      rw [e1, e2] at *
      have s3 := same_upd (o := .lst ((I.drop (1 + i)).map V.int ++ (I.take (1 + i)).map V.int)) ng
      have sz := s1.trans (s2.trans s3)
      have hg : ∀ H9 : Hp, H9 = upd (upd (upd H' c (.lst ((I.drop (1 + i)).map V.int))) d (.lst ((I.take (1 + i)).map V.int))) g (.lst ((I.drop (1 + i)).map V.int ++ (I.take (1 + i)).map V.int)) → H9 g = some (.lst ((I.drop (1 + i) ++ I.take (1 + i)).map V.int)) := by
        rintro H9 rfl
        rw [upd_same, List.map_append]
      have hg := hg _ rfl
      generalize upd (upd (upd H' c (.lst ((I.drop (1 + i)).map V.int))) d (.lst ((I.take (1 + i)).map V.int))) g (.lst ((I.drop (1 + i)).map V.int ++ (I.take (1 + i)).map V.int)) = H9 at sz hg ⊢
      refine ⟨dataI I, dataI (I.drop (1 + i) ++ I.take (1 + i)), .lst (SqL.of (sz _ _ hS)) (dp_ints _), .lst (SqL.of hg) (dp_ints _), ints_shaped _, ints_shaped _, ?_⟩
      unfold dataI
      rw [ints_eqv]
      refine ⟨_, rfl, ite3 (fun r => ?_) (fun r => ?_)⟩
      · refine ⟨_, rfl, ?_⟩
        have z : (1 : Int) + (i : Int) = ((1 + i : Nat) : Int) := by omega
        rw [z]
        exact k H9 (1 + i) (s.trans sz) ⟨by omega, by omega, dv, fun _ => r, fun t h1 h2 h3 => least t h1 (by omega) (by omega) h3⟩
      · exact ⟨_, rfl, s.trans sz, sz _ _ hS, more fun _ => r⟩
    · exact iteF ⟨_, rfl, s, hS, more fun dv => absurd (congrArg V.int (by rw [ll]; exact of_dvd dv)) e⟩
  · rintro σ H' ⟨v, rfl, s, hS, least⟩
    rw [ll] at least
    refine ⟨_, rfl, _, _, rfl, .inl (SqL.of hS), ?_⟩
    rw [ll]
    exact k H' I.length s ⟨i0, Nat.le_refl _, Nat.dvd_refl _, fun h => absurd h (Nat.lt_irrefl _), fun t h1 h2 h3 => least t h1 (by omega) (by omega) h3⟩
end
end Sm

set_option Elab.async false
set_option linter.all false
set_option maxRecDepth 100000
set_option maxHeartbeats 16000000
namespace Sm
open PySem PySem.Spec PyProof.Rows L2
open C8 (pss_cut tCut)
def sp_shortest (K : PySem.W.Frag) : Sp := fun vs H Q _ => ∃ (a : Addr) (T : List Int) (p : Nat) (r : Int), vs = [.ref a, .int (p : Int), .int r] ∧ H a = some (.lst (T.map V.int)) ∧ RuleOk T p r ∧ RB T p r ∧
  ∀ H' d' T' p' r', Same H H' → RuleAt H' d' T' p' r' → Cut T p r T' p' r' → Short T' p' r' → (∀ x, vl T' p' r' x = vl T p r x) → Q (.ref d') H'
abbrev sp_told := sp_shortest
theorem steps_split {T : List Int} {p : Nat} {r : Int} (o : RuleW T p r) : ((List.range (p - 1)).map fun i => T.getD (T.length - p + (i + 1)) 0 - T.getD (T.length - p + i) 0) ++ [T.getD (T.length - p + 0) 0 + r - T.getD (T.length - 1) 0] = stepsOf T p r := by
  have p0 := o.p0
  have p1 := o.p1
  obtain ⟨q, rfl⟩ : ∃ q, p = q + 1 := ⟨p - 1, by omega⟩
  unfold stepsOf
  rw [List.range_succ, List.map_append, Nat.add_sub_cancel]
  congr 1
  · refine List.map_congr_left fun i hi => ?_
    have hi := List.mem_range.mp hi
    rw [vl_lt (by omega), vl_lt (by omega), Nat.add_assoc]
  · show [_] = [vl T (q + 1) r (T.length - (q + 1) + q + 1) - vl T (q + 1) r (T.length - (q + 1) + q)]
    have e := vl_add p0 p1 (r := r) (x := T.length - (q + 1)) (Nat.le_refl _)
    rw [show T.length - (q + 1) + q + 1 = T.length - (q + 1) + (q + 1) by omega, e, vl_lt (by omega), vl_lt (by omega), show T.length - (q + 1) + q = T.length - 1 by omega]
    rfl
section
variable {P : Program} {w : World} {K : PySem.W.Frag} {mg : Str → Option Value} {base : Heap}
abbrev s_shortest : Stmt := topS 9
abbrev N_shortest : List Str := ["table", "period", "rise", "tail", "steps", "turn", "gain", "count", "at"]
theorem sc_shortest : FnScope N_shortest ["table", "period", "rise"] (defScope s_shortest) := ⟨rfl, rfl, rfl, by decide +kernel, rfl, by decide +kernel, by decide +kernel⟩
theorem ok_shortest (T : Txt mg) (D : Df K mg "shortest" s_shortest ["table", "period", "rise"]) (C_cycle_of : Cal P w K mg base "cycle_of" ["items"] 1 (sp_cycle_of K)) : Cal P w K mg base "shortest" ["table", "period", "rise"] 2 (sp_shortest K) := by
  obtain ⟨f_cycle_of, fd_cycle_of, G_cycle_of, m_cycle_of, k_cycle_of, b_cycle_of⟩ := C_cycle_of
  refine D.cal sc_shortest (fun vs H Q E h => ?_) (fun f cdv A outer s H vs Q E hr h => ?_)
  · obtain ⟨a, T0, p, r, rfl, _⟩ := h
    rfl
  obtain ⟨a, T0, p, r, rfl, hS, o, b, k⟩ := h
  have p0 := o.p0
  have p1 := o.p1
  have bl := b.len
  have r0 := o.r0
  have ll := len_int T0
  have lm : (T0.map V.int).length = T0.length := List.length_map ..
  have lo : (((T0.map V.int).length : Nat) : Int) - (p : Int) = ((T0.length - p : Nat) : Int) := by rw [ll]; omega
  refine ⟨_, (pss_cons (ps_set (i := 3) sc_shortest.nd rfl (Or.inr rfl) (pe_slice sl_list (pv 0) (po_some (pe_op op_sub (pe_callB call_len_seq (by rfl) T.n_len (by decide +kernel) (pa_cons (pv 0) pa_nil)) (pv 1))) po_none))
    (pss_cons (ps_setLc (i := 4) (own := [("at", 8)]) (g := gName 8) (tt := tYes) rfl sc_shortest.nd rfl rfl (sw_true rfl rfl rfl (by decide +kernel)) (pi_range1 (by rfl) T.n_range (pa_cons (pe_op op_sub (pv 1) pe_int) pa_nil)) (blkOk_by (own := [("at", 8)]) (N := N_shortest) (sc := defScope s_shortest) (by decide +kernel)) (fun _ _ _ _ _ => pg_name (i := 8) sc_shortest.nd rfl (Or.inl rfl)) (fun _ _ _ _ _ => pts_nil) (fun _ _ _ _ _ => (pe_op op_sub (pe_ix (show IxR _ (rIxL K) from ix_list) (pv 3) (pe_op op_add (pv 8) pe_int) (fun _ _ => rfl)) (pe_ix (show IxR _ (rIxL K) from ix_list) (pv 3) (pv 8) (fun _ _ => rfl)))))
    (pss_cons (ps_set (i := 5) sc_shortest.nd rfl (Or.inl rfl) (pe_call G_cycle_of (hr.mono (by decide)) (by rfl) m_cycle_of k_cycle_of b_cycle_of .nil pass0 (pa_cons (pe_op op_cat (pv 4) (pe_lst (pa_cons (pe_op op_sub (pe_op op_add (pe_ix ix_list (pv 3) pe_int (fun _ _ => rfl)) (pv 2)) (pe_ix ix_list (pv 3) (pe_un un_neg pe_int) (fun _ _ => rfl))) pa_nil))) pa_nil)))
    (pss_cons (ps_set (i := 6) sc_shortest.nd rfl (Or.inl rfl) (pe_op op_fdivW (pe_op op_mul (pv 2) (pv 5)) (pv 1)))
    (pss_cons (ps_set (i := 7) sc_shortest.nd rfl (Or.inl rfl) (pe_callB call_len_seq (by rfl) T.n_len (by decide +kernel) (pa_cons (pv 0) pa_nil)))
    (pss_cons (ps_while PassesOwn.never (PW.pt (pw_and (pt_cmpR op_gt (pv 7) (pv 5) (nomark _)) (pw_and1 (pt_cmpR op_eq (pe_ix ix_list (pv 0) (pe_op op_sub (pv 7) pe_int) (fun _ _ => rfl)) (pe_op op_add (pe_ix ix_list (pv 0) (pe_op op_sub (pe_op op_sub (pv 7) pe_int) (pv 5)) (fun _ _ => rfl)) (pv 6)) (nomark _)))))
      (pss_one (ps_aug (i := 7) sc_shortest.nd rfl (Or.inl rfl) pe_int ip_sub)))
    (pss_one (ps_ret (pe_tup (pa_cons (pe_callTy call_tuple_of (by rfl) T.n_tuple (by decide +kernel) (pa_cons (pe_slice sl_list (pv 0) po_none (po_some (pv 7))) pa_nil)) (pa_cons (pv 5) (pa_cons (pv 6) pa_nil)))))))))))), ?_⟩
  refine ⟨_, rfl, _, rfl, _, _, rfl, .inl (SqL.of hS), _, rfl, _, _, rfl, rfl, _, rfl, a, _, rfl, SqL.of hS, fun c nc => ?_⟩
  rw [lo, cut_from (by rw [lm]; omega), ← List.map_drop]
  have s1 := same_upd (o := .lst ((T0.drop (T0.length - p)).map V.int)) nc
  have hc : upd H c (.lst ((T0.drop (T0.length - p)).map V.int)) c = some (.lst ((T0.drop (T0.length - p)).map V.int)) := upd_same
  generalize upd H c (.lst ((T0.drop (T0.length - p)).map V.int)) = H1 at s1 hc ⊢
  have tl : (T0.drop (T0.length - p)).length = p := by rw [List.length_drop]; omega
  have tg : ∀ i, i < p → ((T0.drop (T0.length - p)).map V.int)[i]? = some (.int (T0.getD (T0.length - p + i) 0)) := by
    intro i hi
    rw [List.getElem?_map, List.getElem?_drop, List.getElem?_eq_getElem (by omega), List.getD_eq_getElem?_getD, List.getElem?_eq_getElem (by omega)]
    rfl
  have cnt : ((p : Int) - 1).toNat = p - 1 := by omega
  refine ⟨_, rfl, _, _, rfl, rfl, _, rfl, (by omega), (by omega), fun D nD => ?_⟩
  rw [cnt]
  have sD := same_upd (o := .lst []) nD
  refine lc_range (lo := 0) (n := p - 1) (fun j H' => Same H1 H' ∧ H' D = some (.lst (((List.range j).map fun i => T0.getD (T0.length - p + (i + 1)) 0 - T0.getD (T0.length - p + i) 0).map V.int))) ⟨sD, upd_same⟩ ?_ ?_
  · rintro j H' hj ⟨s', hD⟩
    refine ⟨rfl, ?_⟩
    unfold tYes
    refine iteT ?_
    have e1 : (0 : Int) + (j : Int) + 1 = ((j + 1 : Nat) : Int) := by omega
    have e0 : (0 : Int) + (j : Int) = (j : Int) := Int.zero_add _
    refine ⟨_, rfl, _, rfl, _, _, rfl, rfl, _, _, _, _, rfl, rfl, SqL.of (s' _ _ hc), at_of e1 (tg (j + 1) (by omega)), _, rfl, _, rfl, _, _, _, _, rfl, rfl, SqL.of (s' _ _ hc), at_of e0 (tg j (by omega)), _, _, rfl, rfl, _, hD, ?_, fun b o e => ?_, ?_⟩
    · rw [List.length_map, List.length_map, List.length_range]
      exact Nat.lt_of_le_of_lt (show j ≤ 30000 by omega) (by decide)
    · rw [upd_ne (ne_of_none e nD)]
      exact s' _ _ e
    · rw [upd_same, List.range_succ, List.map_append, List.map_append]
      rfl
  rintro H2 ⟨s2, hD⟩
  have hc2 := s2 _ _ hc
  have g0 := tg 0 p0
  have gl := tg (p - 1) (by omega)
  rw [show T0.length - p + (p - 1) = T0.length - 1 by omega] at gl
  refine ⟨_, rfl, _, rfl, _, _, _, _, rfl, rfl, SqL.of hc2, atI_nat (j := 0) g0, _, rfl, _, _, rfl, rfl, _, rfl, _, rfl, _, _, _, _, rfl, rfl, SqL.of hc2, atI_neg1 (by rw [List.length_map, tl]; exact p0) (by rw [List.length_map, tl]; exact gl), _, _, rfl, rfl, (by show 1 ≤ sizeLine; decide), fun e ne => ?_⟩
  have se := same_upd (o := .lst [.int (T0.getD (T0.length - p + 0) 0 + r - T0.getD (T0.length - 1) 0)]) ne
  refine ⟨_, _, _, _, rfl, rfl, se _ _ hD, upd_same, ?_, fun g ng => ?_⟩
  · rw [List.length_map, List.length_map, List.length_range]
    exact Nat.le_trans (show p - 1 + 1 ≤ 30000 by omega) (by decide)
  have sg := same_upd (o := .lst ((((List.range (p - 1)).map fun i => T0.getD (T0.length - p + (i + 1)) 0 - T0.getD (T0.length - p + i) 0).map V.int) ++ [.int (T0.getD (T0.length - p + 0) 0 + r - T0.getD (T0.length - 1) 0)])) ng
  have hg : ∀ H9 : Hp, H9 g = some (.lst ((((List.range (p - 1)).map fun i => T0.getD (T0.length - p + (i + 1)) 0 - T0.getD (T0.length - p + i) 0).map V.int) ++ [.int (T0.getD (T0.length - p + 0) 0 + r - T0.getD (T0.length - 1) 0)])) → H9 g = some (.lst ((stepsOf T0 p r).map V.int)) := by
    intro H9 h
    rw [h, ← steps_split o.w, List.map_append]
    rfl
  have s3 := s1.trans (s2.trans (se.trans sg))
  refine ⟨g, stepsOf T0 p r, rfl, hg _ upd_same, by rw [stepsOf_len]; exact p0, by rw [stepsOf_len]; omega, fun H3 s s4 cyc => ?_⟩
  obtain ⟨s0, sp, sd, hs, hm⟩ := cyc_rule o cyc
  have sz := s3.trans s4
  have hS3 := sz _ _ hS
  refine ⟨_, rfl, _, rfl, _, _, rfl, rfl, .inr ⟨by omega, by omega⟩, _, rfl, _, _, rfl, rfl, b.div o, _, rfl, _, _, rfl, .inl (SqL.of hS3), ?_⟩
  have c0 : 0 ≤ r * (s : Int) / (p : Int) := Int.ediv_nonneg (Int.mul_nonneg r0 (by omega)) (by omega)
  have c1 : r * (s : Int) / (p : Int) ≤ r := by
    have h1 : r * (s : Int) ≤ r * (p : Int) := Int.mul_le_mul_of_nonneg_left (by omega) r0
    have h2 := Int.ediv_le_ediv (show (0 : Int) < (p : Int) by omega) h1
    rw [Int.mul_ediv_cancel _ (by omega)] at h2
    exact h2
  have all := rep_all o hs
  obtain ⟨cc, ec⟩ : ∃ cc, cc = r * (s : Int) / (p : Int) := ⟨_, rfl⟩
  rw [← ec] at c0 c1 all
  refine ⟨fun m σ H' => σ = [some (.ref a), some (.int (p : Int)), some (.int r), some (.ref c), some (.ref D), some (.int (s : Int)), some (.int cc), some (.int ((m + s : Nat) : Int)), none] ∧ H' = H3 ∧ m + s ≤ T0.length ∧ ∀ y, m ≤ y → vl T0 p r (y + s) = vl T0 p r y + cc, ⟨T0.length - s, ?_, rfl, by omega, fun y hy => all y (by omega)⟩, ?_⟩
  · rw [ec, show T0.length - s + s = T0.length by omega, ← ll]
    rfl
  rintro m σ H' ⟨rfl, rfl, al, ha⟩
  have fin : (m = 0 ∨ vl T0 p r (m - 1 + s) ≠ T0.getD (m - 1) 0 + cc) → ∀ (H5 : Hp) (t' : Addr), Same H' H5 → H5 t' = some (.tup ((T0.take (m + s)).map V.int)) → ∀ q, H5 q = none → Q (.ref q) (upd H5 q (.tup [.ref t', .int (s : Int), .int cc])) := by
    intro st H5 t' sm h5 q nq
    have sq := same_upd (o := .tup [.ref t', .int (s : Int), .int cc]) nq
    have am : m ≤ T0.length - p := by
      rcases Nat.lt_or_ge (T0.length - p) m with w | w
      · exfalso
        rcases st with z | z
        · omega
        · apply z
          rw [all (m - 1) (by omega), vl_lt (by omega)]
      · exact w
    refine k _ q (T0.take (m + s)) s cc (sz.trans (sm.trans sq)) ⟨t', upd_same, sq _ _ h5⟩ ⟨?_, sp, c1, fun i hi => ?_⟩ (cut_short o s0 sd am c0 ha hm st) (cut_vl s0 (by omega) ha)
    · rw [List.length_take]
      omega
    · rw [List.length_take] at hi
      exact getD_take (by omega)
  have out : (m = 0 ∨ vl T0 p r (m - 1 + s) ≠ T0.getD (m - 1) 0 + cc) → ∀ (g : Addr), H' g = none → ∀ (xs : List V), xs = (T0.take (m + s)).map V.int → ∀ t', upd H' g (.lst xs) t' = none → ∀ q, upd (upd H' g (.lst xs)) t' (.tup xs) q = none → Q (.ref q) (upd (upd (upd H' g (.lst xs)) t' (.tup xs)) q (.tup [.ref t', .int (s : Int), .int cc])) := by
    rintro st g ng xs rfl t' nt q nq
    exact fin st _ t' ((same_upd ng).trans (same_upd nt)) upd_same q nq
  have cx : cutV (T0.map V.int) none (some ((m + s : Nat) : Int)) = (T0.take (m + s)).map V.int := by rw [cut_all, List.map_take]
  refine ⟨_, rfl, _, rfl, _, _, rfl, rfl, _, rfl, ?_⟩
  by_cases e : ((m + s : Nat) : Int) > (s : Int)
  · have e1 : ((m + s : Nat) : Int) - 1 = ((m + s - 1 : Nat) : Int) := by omega
    have e2 : ((m + s : Nat) : Int) - 1 - (s : Int) = ((m - 1 : Nat) : Int) := by omega
    refine iteP e ⟨_, rfl, _, rfl, _, _, rfl, rfl, _, _, _, _, rfl, rfl, SqL.of hS3, at_of e1 (get_int (by omega)), _, rfl, _, rfl, _, _, rfl, rfl, _, rfl, _, _, rfl, rfl, _, _, _, _, rfl, rfl, SqL.of hS3, at_of e2 (get_int (by omega)), _, rfl, _, _, rfl, rfl, rfl, _, rfl, ?_⟩
    have e4 : vl T0 p r (m - 1 + s) = T0.getD (m + s - 1) 0 := by rw [show m - 1 + s = m + s - 1 by omega, vl_lt (by omega)]
    by_cases e3 : T0.getD (m + s - 1) 0 = T0.getD (m - 1) 0 + cc
    · refine iteP (congrArg V.int e3) ⟨fun σ H'' => σ = [some (.ref a), some (.int (p : Int)), some (.int r), some (.ref c), some (.ref D), some (.int (s : Int)), some (.int cc), some (.int ((m - 1 + s : Nat) : Int)), none] ∧ H'' = H' ∧ m - 1 + s ≤ T0.length ∧ ∀ y, m - 1 ≤ y → vl T0 p r (y + s) = vl T0 p r y + cc, fun σ' H3 hw => ⟨m - 1, by omega, hw⟩, ?_⟩
      have e5 : ((m + s : Nat) : Int) - 1 = ((m - 1 + s : Nat) : Int) := by omega
      refine ⟨_, rfl, _, _, rfl, rfl, ⟨by rw [← e5]; rfl, rfl, by omega, fun y hy => ?_⟩⟩
      by_cases q : y = m - 1
      · rw [q, e4, e3, vl_lt (by omega)]
      · exact ha y (by omega)
    · refine iteN (fun q => e3 (V.int.inj q)) ?_
      refine ⟨_, rfl, _, rfl, _, rfl, a, _, rfl, SqL.of hS3, fun g ng => ⟨_, _, rfl, .inl ⟨SqL.of upd_same, fun t' nt => ⟨_, rfl, _, rfl, (by show 3 ≤ sizeLine; decide), fun q nq => ?_⟩⟩⟩⟩
      exact out (.inr (by rw [e4]; exact e3)) g ng _ cx t' nt q nq
  · refine iteN e (iteF ?_)
    refine ⟨_, rfl, _, rfl, _, rfl, a, _, rfl, SqL.of hS3, fun g ng => ⟨_, _, rfl, .inl ⟨SqL.of upd_same, fun t' nt => ⟨_, rfl, _, rfl, (by show 3 ≤ sizeLine; decide), fun q nq => ?_⟩⟩⟩⟩
    exact out (.inl (by omega)) g ng _ cx t' nt q nq
end
end Sm

set_option Elab.async false
set_option linter.all false
set_option maxRecDepth 100000
set_option maxHeartbeats 16000000
namespace Sm
open PySem PySem.Spec PyProof.Rows L2
open C8 (pss_cut tCut)
abbrev s_init : Stmt := inClass (topS 3) 0
abbrev N_init : List Str := ["self", "number"]
theorem sc_init : FnScope N_init ["self", "number"] (defScope s_init) := ⟨rfl, rfl, rfl, by decide +kernel, rfl, by decide +kernel, by decide +kernel⟩
/-- what the written part says of the class TooLong -/
structure Txl (K : PySem.W.Frag) (mg : Str → Option Value) (cTooLong fB : Addr) : Prop where
  gBadRule : mg "TooLong" = some (.ref cTooLong)
  oex : OexC K cTooLong
  noE : PySem.W.findIn K (.ref cTooLong) "number" = some none
  iC : PySem.W.findIn K (.ref cTooLong) "__init__" = some (some (.ref fB))
  tI : PySem.W.typeIn K (.ref fB) = some (.type "function")
  fI : ∃ fd, Fun K "__init__" "TooLong.__init__" s_init fB fd ∧ Binds K fd ["self", "number"] []
def CalX (P : Program) (w : World) (K : PySem.W.Frag) (mg : Str → Option Value) (base : Heap) (x : Str) (ps : List Str) (k : Nat) (sp : Sp) : Prop :=
  ∃ (f : Addr) (fd : FuncData), FnOk P w K mg base (L2.CX P w) k f fd ps sp ∧ mg x = some (.ref f) ∧ PySem.W.keepIn K (.ref f) = true ∧ Binds K fd ps []
/-- TooLong(n) in the air -/
def Lng (c : Addr) (n : Int) (H : Hp) (E : XK) : Prop := ∀ H' d, Same H H' → H' d = some (.xd [(("number" : Str), .int n)]) → E (.ref c) (some d) H'
def sp_check_told (c : Addr) : Sp := fun vs H Q E => ∃ n : Int, vs = [.int n] ∧ (n ≤ 5000 → Q .non H) ∧ (5000 < n → Lng c n H E)
def sp_toldX (c : Addr) : Sp := fun vs H Q E => ∃ (a : Addr) (T : List Int) (p : Nat) (r : Int), vs = [.ref a, .int (p : Int), .int r] ∧ H a = some (.lst (T.map V.int)) ∧ RuleOk T p r ∧ RB T p r ∧
  ∀ H' d' T' p' r', Same H H' → RuleAt H' d' T' p' r' → Cut T p r T' p' r' → Short T' p' r' → (∀ x, vl T' p' r' x = vl T p r x) → (T'.length ≤ 5000 → Q (.ref d') H') ∧ (5000 < T'.length → Lng c (T'.length : Int) H' E)
section
variable {P : Program} {w : World} {K : PySem.W.Frag} {mg : Str → Option Value} {base : Heap} {cTooLong fB : Addr}
theorem ok_init {fd : FuncData} (F : Fun K "__init__" "TooLong.__init__" s_init fB fd) : FnOk P w K mg base CX0 1 fB fd ["self", "number"] (sp_init K "number") := by
  refine F.ok sc_init (fun vs H Q E h => ?_) (fun cdv A outer s H vs Q E hr h => ?_)
  · obtain ⟨a, C, v, rfl, _⟩ := h
    rfl
  obtain ⟨a, C, v, rfl, T, no, ha, k⟩ := h
  refine ⟨_, pss_one (ps_ost (pv 0) (pv 1)), ?_⟩
  exact ⟨_, rfl, _, rfl, a, C, rfl, T, no, .inl ⟨ha, k⟩⟩
abbrev s_check_told : Stmt := topS 12
abbrev N_check_told : List Str := ["number"]
theorem sc_check_told : FnScope N_check_told ["number"] (defScope s_check_told) := ⟨rfl, rfl, rfl, by decide +kernel, rfl, by decide +kernel, by decide +kernel⟩
theorem ok_check_told (T : Txt mg) (XC : Txl K mg cTooLong fB) (D : Df K mg "check_told" s_check_told ["number"]) : CalX P w K mg base "check_told" ["number"] 3 (sp_check_told cTooLong) := by
  obtain ⟨fdI, FI, b_init⟩ := XC.fI
  have G_init : FnOk P w K mg base CX0 1 fB fdI ["self", "number"] (sp_init K "number") := ok_init FI
  obtain ⟨f, fd, F, m, b⟩ := D
  refine ⟨f, fd, F.okX sc_check_told (fun vs H Q E h => ?_) (fun cdv A outer s H vs Q E hr h => ?_), m, F.kp, b⟩
  · obtain ⟨n, rfl, _⟩ := h
    rfl
  obtain ⟨n, rfl, k1, k2⟩ := h
  obtain ⟨_, hMAX_TOLD⟩ := T.c_MAX_TOLD
  refine ⟨_, (pss_one (ps_if (pt_cmpR op_gt (pv 0) (pe_glob (v := .int 5000) rfl hMAX_TOLD ⟨_, rfl⟩) (nomark _)) (pss_one (ps_raise rfl (takes_of rfl rfl rfl rfl) (pmk_oex XC.oex XC.iC XC.tI G_init (hr.mono (by decide)) b_init .nil pass0 (by rfl) XC.gBadRule (pa_cons (pv 0) pa_nil)))) pss_nil)), ?_⟩
  refine ⟨_, rfl, _, _, rfl, rfl, _, rfl, ite3 (fun e => ?_) (fun e => k1 (by omega))⟩
  refine xc_mk XC.oex XC.noE ⟨_, rfl, V.int n, rfl, fun d H2 s2 hd => k2 (by omega) H2 d s2 hd⟩ (fun h z => ?_)
  obtain ⟨v, e, q⟩ := z
  exact ⟨v, e, h _ _ q⟩
abbrev s_told : Stmt := topS 11
abbrev N_told : List Str := ["table", "period", "rise", "rule"]
theorem sc_told : FnScope N_told ["table", "period", "rise"] (defScope s_told) := ⟨rfl, rfl, rfl, by decide +kernel, rfl, by decide +kernel, by decide +kernel⟩
theorem ok_told (T : Txt mg) (D : Df K mg "told" s_told ["table", "period", "rise"]) (C_check_told : CalX P w K mg base "check_told" ["number"] 3 (sp_check_told cTooLong)) (C_shortest : Cal P w K mg base "shortest" ["table", "period", "rise"] 2 (sp_shortest K)) : CalX P w K mg base "told" ["table", "period", "rise"] 4 (sp_toldX cTooLong) := by
  obtain ⟨f_check_told, fd_check_told, G_check_told, m_check_told, k_check_told, b_check_told⟩ := C_check_told
  obtain ⟨f_shortest, fd_shortest, G_shortest, m_shortest, k_shortest, b_shortest⟩ := C_shortest
  obtain ⟨f, fd, F, m, b⟩ := D
  refine ⟨f, fd, F.okX sc_told (fun vs H Q E h => ?_) (fun cdv A outer s H vs Q E hr h => ?_), m, F.kp, b⟩
  · obtain ⟨a, T0, p, r, rfl, _⟩ := h
    rfl
  obtain ⟨a, T0, p, r, rfl, hS, o, b, k⟩ := h
  have bl := b.len
  refine ⟨_, (pss_cons (ps_set (i := 3) sc_told.nd rfl (Or.inl rfl) (pe_call G_shortest (hr.mono (by decide)) (by rfl) m_shortest k_shortest b_shortest .nil pass0 (pa_cons (pv 0) (pa_cons (pv 1) (pa_cons (pv 2) pa_nil)))))
    (pss_cons (ps_expr (pe_callS G_check_told (hr.mono (by decide)) rfl m_check_told k_check_told b_check_told (fun σ => passAt (takes_of rfl rfl rfl rfl) σ) (pa_cons (pe_callB call_len_seq (by rfl) T.n_len (by decide +kernel) (pa_cons (pe_ix ix_tup (pv 3) pe_int (fun _ _ => rfl)) pa_nil)) pa_nil)))
    (pss_one (ps_ret (pv 3))))), ?_⟩
  refine ⟨_, rfl, _, rfl, _, rfl, a, T0, p, r, rfl, hS, o, b, fun H1 d' T' p' r' s1 R cut sh hv => ?_⟩
  obtain ⟨t, hd, ht⟩ := id R
  obtain ⟨k1, k2⟩ := k H1 d' T' p' r' s1 R cut sh hv
  refine ⟨_, rfl, _, _, _, _, rfl, rfl, SqT.of hd, atI_nat (j := 0) rfl, _, _, rfl, .inr (SqT.of ht), _, rfl, fun e => ?_, fun e => ?_⟩
  · rw [len_int] at e
    exact ⟨_, rfl, k1 (by omega)⟩
  · rw [len_int] at e ⊢
    exact k2 (by omega)
end
end Sm

set_option Elab.async false
set_option linter.all false
set_option maxRecDepth 100000
set_option maxHeartbeats 16000000
namespace Sm
open PySem PySem.Spec PyProof.Rows L2
open C8 (pss_cut tCut)
def sp_first_place (_ : PySem.W.Frag) : Sp := fun vs H Q _ => ∃ (t : Addr) (T : List Int) (lo : Nat) (y : Int), vs = [.ref t, .int (lo : Int), .int y] ∧ H t = some (.tup (T.map V.int)) ∧ lo < T.length ∧ T.length ≤ 30000 ∧
  (∀ i j, i ≤ j → j < T.length → T.getD i 0 ≤ T.getD j 0) ∧ y ≤ T.getD (T.length - 1) 0 ∧ ∀ i : Nat, lo ≤ i → i < T.length → y ≤ T.getD i 0 → (∀ j, lo ≤ j → j < i → T.getD j 0 < y) → Q (.int (i : Int)) H
def optV : Option Nat → V
  | none => .non
  | some x => .int (x : Int)
def sp_least_for (_ : PySem.W.Frag) : Sp := fun vs H Q _ => ∃ (d : Addr) (T : List Int) (p : Nat) (r y : Int), vs = [.ref d, .int y] ∧ RuleAt H d T p r ∧ RuleOk T p r ∧ RS 10000000000000 T p r ∧ ∀ o, IsLf T p r y o → Q (optV o) H
theorem thn_le {T1 T2 : List Int} {p1 p2 : Nat} {r1 r2 : Int} (o1 : RuleOk T1 p1 r1) (o2 : RuleOk T2 p2 r2) (s1 : RS 10000000000000 T1 p1 r1) (s2 : RS 10000000000000 T2 p2 r2) {x : Nat} (hx : x ≤ 30000) : vl T1 p1 r1 x ≤ 1000000000000000000 ∧ thn T1 p1 r1 T2 p2 r2 x ≤ 10000000000000000000000000000000000000000 := by
  have a := RS.vl o1 s1 (by decide) x
  have b := RS.vl o2 s2 (by decide) (vl T1 p1 r1 x).toNat
  have n := o1.pos x
  have c : (10000000000000 : Int) * ((x : Int) + 1) ≤ 10000000000000 * 30001 := Int.mul_le_mul_of_nonneg_left (by omega) (by decide)
  refine ⟨by omega, ?_⟩
  unfold thn
  generalize vl T2 p2 r2 (vl T1 p1 r1 x).toNat = v at *
  omega
/-- a table of such values -/
theorem thn_tab {T1 T2 : List Int} {p1 p2 B t : Nat} {r1 r2 R : Int} (o1 : RuleOk T1 p1 r1) (o2 : RuleOk T2 p2 r2) (s1 : RS 10000000000000 T1 p1 r1) (s2 : RS 10000000000000 T2 p2 r2) (t0 : 0 < t) (R0 : 0 ≤ R) (R1 : R ≤ 10000000000000000000000000000000000000000) (hb : B + t ≤ 30000)
    (turn : ∀ x, B ≤ x → thn T1 p1 r1 T2 p2 r2 (x + t) = thn T1 p1 r1 T2 p2 r2 x + R) :
    RuleOk ((List.range (B + t)).map (thn T1 p1 r1 T2 p2 r2)) t R ∧ RB ((List.range (B + t)).map (thn T1 p1 r1 T2 p2 r2)) t R ∧ ∀ x, vl ((List.range (B + t)).map (thn T1 p1 r1 T2 p2 r2)) t R x = thn T1 p1 r1 T2 p2 r2 x := by
  refine ⟨tab_ok t0 R0 turn (thn_pos o2) (thn_up o1 o2), ⟨by rw [tab_len]; exact hb, R1, fun i hi => ?_⟩, tab_vl t0 turn⟩
  rw [tab_len] at hi
  rw [tab_getD hi]
  exact (thn_le o1 o2 s1 s2 (by omega)).2
theorem reach {T1 : List Int} {p1 : Nat} {r1 y : Int} (o1 : RuleOk T1 p1 r1) (r0 : 0 < r1) (hy : y ≤ 300) {i : Nat} (hi : T1.length + 300 * p1 ≤ i) : y ≤ vl T1 p1 r1 i := by
  have a := vl_addk o1.p0 o1.p1 (r := r1) (x := T1.length) (by omega) 300
  have b := o1.le hi
  have c := o1.pos T1.length
  have d : (300 : Int) * 1 ≤ 300 * r1 := Int.mul_le_mul_of_nonneg_left (by omega) (by decide)
  rw [a] at b
  have e : ((300 : Nat) : Int) * r1 = 300 * r1 := rfl
  omega
def ThenOf (c : Addr) (T1 : List Int) (p1 : Nat) (r1 : Int) (T2 : List Int) (p2 : Nat) (r2 : Int) (H : Hp) (Q : VK) (E : XK) : Prop :=
  ∀ H' T p r, Same H H' → RB T p r → Short T p r → (∀ x, vl T p r x = thn T1 p1 r1 T2 p2 r2 x) → (∀ d, T.length ≤ 5000 → RuleAt H' d T p r → Q (.ref d) H') ∧ (5000 < T.length → Lng c (T.length : Int) H' E)
def sp_then (c : Addr) : Sp := fun vs H Q E => ∃ (d1 d2 : Addr) (T1 T2 : List Int) (p1 p2 : Nat) (r1 r2 : Int), vs = [.ref d1, .ref d2] ∧ RuleAt H d1 T1 p1 r1 ∧ RuleAt H d2 T2 p2 r2 ∧ RuleOk T1 p1 r1 ∧ RuleOk T2 p2 r2 ∧ RS 10000000000000 T1 p1 r1 ∧ RS 10000000000000 T2 p2 r2 ∧ ThenOf c T1 p1 r1 T2 p2 r2 H Q E
section
variable {P : Program} {w : World} {K : PySem.W.Frag} {mg : Str → Option Value} {base : Heap} {cTooLong : Addr}
abbrev s_value_of : Stmt := topS 13
abbrev N_value_of : List Str := ["rule", "x", "table", "period", "rise", "turns"]
theorem sc_value_of : FnScope N_value_of ["rule", "x"] (defScope s_value_of) := ⟨rfl, rfl, rfl, by decide +kernel, rfl, by decide +kernel, by decide +kernel⟩
theorem ok_value_of (T : Txt mg) (D : Df K mg "value_of" s_value_of ["rule", "x"]) : Cal P w K mg base "value_of" ["rule", "x"] 1 (sp_value_of K) := by
  refine D.cal sc_value_of (fun vs H Q E h => ?_) (fun f cdv A outer s H vs Q E hr h => ?_)
  · obtain ⟨d, T0, p, r, x, rfl, _⟩ := h
    rfl
  obtain ⟨d, T0, p, r, x, rfl, ⟨t, hd, ht⟩, o, b, xb, k⟩ := h
  have p0 := o.p0
  have p1 := o.p1
  refine ⟨_, (pss_cons (ps_asg (pv 0) (pg_tup (by rfl) (pgs_cons (pg_name (i := 2) sc_value_of.nd rfl (Or.inl rfl)) (pgs_cons (pg_name (i := 3) sc_value_of.nd rfl (Or.inl rfl)) (pgs_cons (pg_name (i := 4) sc_value_of.nd rfl (Or.inl rfl)) pgs_nil)))))
    (pss_cons (ps_if (pt_cmpR op_lt (pv 1) (pe_callB call_len_seq (by rfl) T.n_len (by decide +kernel) (pa_cons (pv 2) pa_nil)) (nomark _)) (pss_one (ps_ret (pe_ix ix_tup (pv 2) (pv 1) (fun _ _ => rfl)))) pss_nil)
    (pss_cons (ps_set (i := 5) sc_value_of.nd rfl (Or.inl rfl) (pe_op op_add (pe_op op_fdivW (pe_op op_sub (pv 1) (pe_callB call_len_seq (by rfl) T.n_len (by decide +kernel) (pa_cons (pv 2) pa_nil))) (pv 3)) pe_int))
    (pss_one (ps_ret (pe_op op_add (pe_ix ix_tup (pv 2) (pe_op op_sub (pv 1) (pe_op op_mul (pv 5) (pv 3))) (fun _ _ => rfl)) (pe_op op_mul (pv 5) (pv 4)))))))), ?_⟩
  refine ⟨_, rfl, _, _, rfl, SqT.of hd, rfl, _, _, rfl, _, _, rfl, _, _, rfl, rfl, ?_⟩
  refine ⟨_, rfl, _, rfl, _, _, rfl, .inr (SqT.of ht), _, _, rfl, rfl, _, rfl, ite3 (fun e => ?_) (fun e => ?_)⟩
  · rw [len_int] at e
    have e : x < T0.length := by omega
    rw [vl_lt e] at k
    exact ⟨_, rfl, _, rfl, _, _, _, _, rfl, rfl, SqT.of ht, atI_nat (get_int e), k⟩
  · rw [len_int] at e
    have e : T0.length ≤ x := by omega
    have z : ∀ B : Int → Prop, B (((x - T0.length) / p + 1 : Nat) : Int) → B (((x : Int) - (((T0.map V.int).length : Nat) : Int)) / (p : Int) + 1) := fun B h => by rw [turns_eq e]; exact h
    refine ⟨_, rfl, _, rfl, _, _, rfl, .inr (SqT.of ht), _, _, rfl, rfl, _, rfl, _, _, rfl, rfl, b.div o, _, _, rfl, rfl, ?_⟩
    refine z (fun y => gName 5 (.int y) _ _ _) ?_
    clear z
    obtain ⟨a1, a2, a3⟩ := place p0 p1 e
    have kv : vl T0 p r x = T0.getD (x - ((x - T0.length) / p + 1) * p) 0 + (((x - T0.length) / p + 1 : Nat) : Int) * r := if_neg (by omega)
    rw [kv] at k
    have aq : (x - T0.length) / p + 1 ≤ 1000000000000000000 := by
      have := Nat.div_le_self (x - T0.length) p
      omega
    generalize (x - T0.length) / p + 1 = q at a1 a2 a3 k aq ⊢
    exact ⟨_, rfl, _, rfl, _, rfl, _, rfl, _, _, rfl, rfl, b.mulP o, _, _, rfl, rfl, _, _, _, _, rfl, rfl, SqT.of ht, at_of (index_eq a1) (get_int a3), _, rfl, _, rfl, _, _, rfl, rfl, .inl ⟨by omega, by omega⟩, _, _, rfl, rfl, k⟩
def FpW (t : Addr) (T : List Int) (lo : Nat) (y : Int) (H0 : Hp) : Nat → List (Option V) → Hp → Prop := fun m σ H => ∃ (a b : Nat) (v : Option V), m = b - a ∧ σ = [some (.ref t), some (.int (a : Int)), some (.int y), some (.int (b : Int)), v] ∧ H = H0 ∧
  lo ≤ a ∧ a ≤ b ∧ b < T.length ∧ y ≤ T.getD b 0 ∧ ∀ j, lo ≤ j → j < a → T.getD j 0 < y
abbrev s_first_place : Stmt := topS 16
abbrev N_first_place : List Str := ["table", "low", "y", "high", "middle"]
theorem sc_first_place : FnScope N_first_place ["table", "low", "y"] (defScope s_first_place) := ⟨rfl, rfl, rfl, by decide +kernel, rfl, by decide +kernel, by decide +kernel⟩
theorem ok_first_place (T : Txt mg) (D : Df K mg "first_place" s_first_place ["table", "low", "y"]) : Cal P w K mg base "first_place" ["table", "low", "y"] 1 (sp_first_place K) := by
  refine D.cal sc_first_place (fun vs H Q E h => ?_) (fun f cdv A outer s H vs Q E hr h => ?_)
  · obtain ⟨t, T0, lo, y, rfl, _⟩ := h
    rfl
  obtain ⟨t, T0, lo, y, rfl, ht, hlo, hlen, mono, hy, k⟩ := h
  refine ⟨_, (pss_cons (ps_set (i := 3) sc_first_place.nd rfl (Or.inl rfl) (pe_op op_sub (pe_callB call_len_seq (by rfl) T.n_len (by decide +kernel) (pa_cons (pv 0) pa_nil)) pe_int))
    (pss_cons (ps_while PassesOwn.never (pt_cmpR op_lt (pv 1) (pv 3) (nomark _))
      (pss_cons (ps_set (i := 4) sc_first_place.nd rfl (Or.inl rfl) (pe_op op_fdivW (pe_op op_add (pv 1) (pv 3)) pe_int))
    (pss_one (ps_if (pt_cmpR op_ge (pe_ix ix_tup (pv 0) (pv 4) (fun _ _ => rfl)) (pv 2) (nomark _)) (pss_one (ps_set (i := 3) sc_first_place.nd rfl (Or.inl rfl) (pv 4))) (pss_one (ps_set (i := 1) sc_first_place.nd rfl (Or.inl rfl) (pe_op op_add (pv 4) pe_int)))))))
    (pss_one (ps_ret (pv 1))))), ?_⟩
  refine ⟨_, rfl, _, _, rfl, .inr (SqT.of ht), _, _, rfl, rfl, ?_⟩
  have ll := len_int T0
  refine ⟨FpW t T0 lo y H, ⟨_, lo, T0.length - 1, none, rfl, ?_, rfl, Nat.le_refl _, by omega, by omega, hy, fun j h1 h2 => by omega⟩, ?_⟩
  · rw [show ((T0.length - 1 : Nat) : Int) = (((T0.map V.int).length : Nat) : Int) - 1 by rw [ll]; omega]
    rfl
  rintro m σ H' ⟨a, b, v, rfl, rfl, rfl, l1, l2, l3, hb, hj⟩
  refine ⟨_, rfl, _, rfl, _, _, rfl, rfl, _, rfl, ?_⟩
  by_cases e : (a : Int) < (b : Int)
  · have em : ((a : Int) + (b : Int)) / 2 = (((a + b) / 2 : Nat) : Int) := by
      rw [Int.natCast_ediv, Int.natCast_add]
      rfl
    have z : ∀ B : Int → Prop, B (((a + b) / 2 : Nat) : Int) → B (((a : Int) + (b : Int)) / 2) := fun B h => by rw [em]; exact h
    have q1 : (a + b) / 2 < T0.length := by omega
    refine iteP e ⟨FpW t T0 lo y H' |> fun W σ' H3 => ∃ m', m' < b - a ∧ W m' σ' H3, fun σ' H3 hw => hw, ?_⟩
    refine ⟨_, rfl, _, rfl, _, _, rfl, rfl, _, _, rfl, rfl, ⟨by decide, by decide⟩, ?_⟩
    refine z (fun y => gName 4 (.int y) _ _ _) ?_
    refine ⟨_, rfl, _, rfl, _, _, _, _, rfl, rfl, SqT.of ht, atI_nat (get_int q1), _, rfl, _, _, rfl, rfl, _, rfl, ite3 (fun e2 => ?_) (fun e2 => ?_)⟩
    · exact ⟨_, rfl, (a + b) / 2 - a, by omega, a, (a + b) / 2, _, rfl, rfl, rfl, l1, by omega, q1, e2, hj⟩
    · refine ⟨_, rfl, _, _, rfl, rfl, b - ((a + b) / 2 + 1), by omega, (a + b) / 2 + 1, b, _, rfl, rfl, rfl, by omega, by omega, l3, hb, fun j h1 h2 => ?_⟩
      have := mono j ((a + b) / 2) (by omega) q1
      omega
  · have ab : a = b := by omega
    subst ab
    exact iteN e ⟨_, rfl, k a l1 l3 hb hj⟩
abbrev s_least_for : Stmt := topS 15
abbrev N_least_for : List Str := ["rule", "y", "table", "period", "rise", "turns"]
theorem sc_least_for : FnScope N_least_for ["rule", "y"] (defScope s_least_for) := ⟨rfl, rfl, rfl, by decide +kernel, rfl, by decide +kernel, by decide +kernel⟩
theorem ok_least_for (T : Txt mg) (D : Df K mg "least_for" s_least_for ["rule", "y"]) (C_first_place : Cal P w K mg base "first_place" ["table", "low", "y"] 1 (sp_first_place K)) : Cal P w K mg base "least_for" ["rule", "y"] 2 (sp_least_for K) := by
  obtain ⟨f_first_place, fd_first_place, G_first_place, m_first_place, k_first_place, b_first_place⟩ := C_first_place
  refine D.cal sc_least_for (fun vs H Q E h => ?_) (fun f cdv A outer s H vs Q E hr h => ?_)
  · obtain ⟨d, T0, p, r, y, rfl, _⟩ := h
    rfl
  obtain ⟨d, T0, p, r, y, rfl, ⟨t, hd, ht⟩, o, bs, k⟩ := h
  have b := bs.rb (by decide)
  have p0 := o.p0
  have p1 := o.p1
  have r0 := o.r0
  have bl := b.len
  have ll := len_int T0
  have mono : ∀ i j, i ≤ j → j < T0.length → T0.getD i 0 ≤ T0.getD j 0 := fun i j h1 h2 => o.row h1 h2
  refine ⟨_, (pss_cons (ps_asg (pv 0) (pg_tup (by rfl) (pgs_cons (pg_name (i := 2) sc_least_for.nd rfl (Or.inl rfl)) (pgs_cons (pg_name (i := 3) sc_least_for.nd rfl (Or.inl rfl)) (pgs_cons (pg_name (i := 4) sc_least_for.nd rfl (Or.inl rfl)) pgs_nil)))))
    (pss_cons (ps_if (pt_cmpR op_ge (pe_ix ix_tup (pv 2) (pe_un un_neg pe_int) (fun _ _ => rfl)) (pv 1) (nomark _)) (pss_one (ps_ret (pe_call G_first_place (hr.mono (by decide)) (by rfl) m_first_place k_first_place b_first_place .nil pass0 (pa_cons (pv 2) (pa_cons pe_int (pa_cons (pv 1) pa_nil)))))) pss_nil)
    (pss_cons (ps_if (pt_cmpR op_eq (pv 4) pe_int (nomark _)) (pss_one (ps_ret pe_non)) pss_nil)
    (pss_cons (ps_set (i := 5) sc_least_for.nd rfl (Or.inl rfl) (pe_op op_fdivW (pe_op op_sub (pe_op op_add (pe_op op_sub (pv 1) (pe_ix ix_tup (pv 2) (pe_un un_neg pe_int) (fun _ _ => rfl))) (pv 4)) pe_int) (pv 4)))
    (pss_one (ps_ret (pe_op op_add (pe_call G_first_place (hr.mono (by decide)) (by rfl) m_first_place k_first_place b_first_place .nil pass0 (pa_cons (pv 2) (pa_cons (pe_op op_sub (pe_callB call_len_seq (by rfl) T.n_len (by decide +kernel) (pa_cons (pv 2) pa_nil)) (pv 3)) (pa_cons (pe_op op_sub (pv 1) (pe_op op_mul (pv 5) (pv 4))) pa_nil)))) (pe_op op_mul (pv 5) (pv 3))))))))), ?_⟩
  refine ⟨_, rfl, _, _, rfl, SqT.of hd, rfl, _, _, rfl, _, _, rfl, _, _, rfl, rfl, ?_⟩
  refine ⟨_, rfl, _, rfl, _, _, _, _, rfl, rfl, SqT.of ht, last_int (by omega), _, rfl, _, _, rfl, rfl, _, rfl, ite3 (fun e => ?_) (fun e => ?_)⟩
  · refine ⟨_, rfl, _, rfl, t, T0, 0, y, rfl, ht, by omega, bl, mono, e, fun i h0 h1 h2 h3 => ?_⟩
    exact k (some i) (lf_near h1 h2 fun j hj => h3 j (Nat.zero_le _) hj)
  refine ⟨_, rfl, rfl, _, rfl, ite3 (fun e1 => ?_) (fun e1 => ?_)⟩
  · exact k none ⟨V.int.inj e1, by omega⟩
  have r1 : 0 < r := by
    have : r ≠ 0 := fun q => e1 (congrArg V.int q)
    omega
  have rb := bs.r1
  refine ⟨_, rfl, _, rfl, _, rfl, _, _, _, _, rfl, rfl, SqT.of ht, last_int (by omega), _, _, rfl, rfl, _, rfl, _, _, rfl, rfl, _, _, rfl, rfl, _, rfl, _, _, rfl, rfl, wide_div (b := 60) r1 (by omega) (by decide) (by decide), ?_⟩
  obtain ⟨c1, c2⟩ := ceil_lo (a := y - T0.getD (T0.length - 1) 0) r1
  have kpos : 0 < (y - T0.getD (T0.length - 1) 0 + r - 1) / r := by
    have : 0 < (y - T0.getD (T0.length - 1) 0 + r - 1) / r * r := by omega
    exact Int.pos_of_mul_pos_left this (by omega)
  obtain ⟨kk, hk⟩ : ∃ kk : Nat, (y - T0.getD (T0.length - 1) 0 + r - 1) / r = (kk : Int) := ⟨_, (Int.toNat_of_nonneg (by omega)).symm⟩
  have z : ∀ B : Int → Prop, B (kk : Int) → B ((y - T0.getD (T0.length - 1) 0 + r - 1) / r) := fun B h => by rw [hk]; exact h
  refine z (fun y => gName 5 (.int y) _ _ _) ?_
  rw [hk] at c1 c2 kpos
  have el : (((T0.map V.int).length : Nat) : Int) - (p : Int) = ((T0.length - p : Nat) : Int) := by rw [ll]; omega
  refine ⟨_, rfl, _, rfl, _, _, rfl, .inr (SqT.of ht), _, rfl, _, _, rfl, rfl, _, rfl, _, rfl, _, rfl, _, _, rfl, rfl, .inr ⟨by omega, by omega⟩, _, _, rfl, rfl, t, T0, T0.length - p, _, congrArg (fun z => [V.ref t, V.int z, V.int (y - (kk : Int) * r)]) el, ht, by omega, bl, mono, by omega, fun i h0 h1 h2 h3 => ?_⟩
  refine ⟨_, rfl, _, rfl, _, _, rfl, rfl, b.mulP o, _, _, rfl, rfl, ?_⟩
  have q := k (some (i + kk * p)) (lf_far o (by omega) (by omega) h0 h1 h2 h3)
  have e : ((i + kk * p : Nat) : Int) = (i : Int) + (kk : Int) * (p : Int) := by rw [Int.natCast_add, Int.natCast_mul]
  show Q (.int ((i : Int) + (kk : Int) * (p : Int))) _
  rw [← e]
  exact q
abbrev s_then_rule : Stmt := topS 19
abbrev N_then_rule : List Str := ["first", "second", "begin", "times", "turn", "values", "worth"]
theorem sc_then_rule : FnScope N_then_rule ["first", "second"] (defScope s_then_rule) := ⟨rfl, rfl, rfl, by decide +kernel, rfl, by decide +kernel, by decide +kernel⟩
theorem ok_then_rule (T : Txt mg) (D : Df K mg "then_rule" s_then_rule ["first", "second"]) (C_begin_of : Cal P w K mg base "begin_of" ["rule"] 1 (sp_begin_of K)) (C_least_for : Cal P w K mg base "least_for" ["rule", "y"] 2 (sp_least_for K)) (C_value_of : Cal P w K mg base "value_of" ["rule", "x"] 1 (sp_value_of K)) (C_values_to : Cal P w K mg base "values_to" ["rule", "count"] 1 (sp_values_to K)) (C_told : CalX P w K mg base "told" ["table", "period", "rise"] 4 (sp_toldX cTooLong)) : CalX P w K mg base "then_rule" ["first", "second"] 5 (sp_then cTooLong) := by
  obtain ⟨f_begin_of, fd_begin_of, G_begin_of, m_begin_of, k_begin_of, b_begin_of⟩ := C_begin_of
  obtain ⟨f_least_for, fd_least_for, G_least_for, m_least_for, k_least_for, b_least_for⟩ := C_least_for
  obtain ⟨f_value_of, fd_value_of, G_value_of, m_value_of, k_value_of, b_value_of⟩ := C_value_of
  obtain ⟨f_values_to, fd_values_to, G_values_to, m_values_to, k_values_to, b_values_to⟩ := C_values_to
  obtain ⟨f_told, fd_told, G_told, m_told, k_told, b_told⟩ := C_told
  obtain ⟨f, fd, F, m, b⟩ := D
  refine ⟨f, fd, F.okX sc_then_rule (fun vs H Q E h => ?_) (fun cdv A outer s H vs Q E hr h => ?_), m, F.kp, b⟩
  · obtain ⟨d1, d2, T1, T2, p1, p2, r1, r2, rfl, _⟩ := h
    rfl
  obtain ⟨d1, d2, T1, T2, p1, p2, r1, r2, rfl, R1, R2, o1, o2, s1, s2, k⟩ := h
  refine ⟨_, (pss_cons (ps_set (i := 2) sc_then_rule.nd rfl (Or.inl rfl) (pe_call G_begin_of (hr.mono (by decide)) (by rfl) m_begin_of k_begin_of b_begin_of .nil pass0 (pa_cons (pv 0) pa_nil)))
    (pss_cons (ps_set (i := 3) sc_then_rule.nd rfl (Or.inl rfl) (pe_op op_fdivW (pe_ix ix_tup (pv 1) pe_int (fun _ _ => rfl)) (pe_callBfun cr_gcd (by rfl) T.g_gcd (pa_cons (pe_ix ix_tup (pv 1) pe_int (fun _ _ => rfl)) (pa_cons (pe_ix ix_tup (pv 0) pe_int (fun _ _ => rfl)) pa_nil)))))
    (pss_cut (ps_if (pt_cmpR op_gt (pe_ix ix_tup (pv 0) pe_int (fun _ _ => rfl)) pe_int (nomark _)) (pss_one (ps_set (i := 2) sc_then_rule.nd rfl (Or.inl rfl) (pe_callB (call_max2 rfl) (by rfl) T.n_max (by decide +kernel) (pa_cons (pv 2) (pa_cons (pe_call G_least_for (hr.mono (by decide)) (by rfl) m_least_for k_least_for b_least_for .nil pass0 (pa_cons (pv 0) (pa_cons (pe_call G_begin_of (hr.mono (by decide)) (by rfl) m_begin_of k_begin_of b_begin_of .nil pass0 (pa_cons (pv 1) pa_nil)) pa_nil))) pa_nil))))) pss_nil)
    (pss_cons (ps_set (i := 4) sc_then_rule.nd rfl (Or.inl rfl) (pe_op op_mul (pe_ix ix_tup (pv 0) pe_int (fun _ _ => rfl)) (pv 3)))
    (pss_cons (ps_setLc (i := 5) (own := [("worth", 6)]) (g := gName 6) (tt := tYes) rfl sc_then_rule.nd rfl rfl (sw_true rfl rfl rfl (by decide +kernel)) (pi_list (pe_call G_values_to (hr.mono (by decide)) (by rfl) m_values_to k_values_to b_values_to .nil pass0 (pa_cons (pv 0) (pa_cons (pe_op op_add (pv 2) (pv 4)) pa_nil)))) (blkOk_by (own := [("worth", 6)]) (N := N_then_rule) (sc := defScope s_then_rule) (by decide +kernel)) (fun _ _ _ _ _ => pg_name (i := 6) sc_then_rule.nd rfl (Or.inl rfl)) (fun _ _ _ _ _ => pts_nil) (fun _ _ _ _ _ => (pe_call G_value_of (hr.mono (by decide)) (by rfl) m_value_of k_value_of b_value_of .nil pass0 (pa_cons (pv 1) (pa_cons (pv 6) pa_nil)))))
    (pss_one (ps_ret (pe_callS G_told (hr.mono (by decide)) rfl m_told k_told b_told (fun σ => passAt (takes_of rfl rfl rfl rfl) σ) (pa_cons (pv 5) (pa_cons (pv 4) (pa_cons (pe_op op_mul (pe_ix ix_tup (pv 1) pe_int (fun _ _ => rfl)) (pe_op op_fdivW (pe_op op_mul (pe_ix ix_tup (pv 0) pe_int (fun _ _ => rfl)) (pv 3)) (pe_ix ix_tup (pv 1) pe_int (fun _ _ => rfl)))) pa_nil))))))))))), ?_⟩
  obtain ⟨t1, hd1, ht1⟩ := id R1
  obtain ⟨t2, hd2, ht2⟩ := id R2
  have l1 := s1.len
  have l2 := s2.len
  have q1 := s1.turn
  have q2 := s2.turn
  have u1 := s1.r1
  have u2 := s2.r1
  have rb1 := s1.rb (by decide)
  have rb2 := s2.rb (by decide)
  have r10 := o1.r0
  have r20 := o2.r0
  have p10 := o1.p0
  have p20 := o2.p0
  have g0 := Nat.gcd_pos_of_pos_left r1.natAbs p20
  have gl : Nat.gcd p2 r1.natAbs ≤ p2 := Nat.le_of_dvd p20 (Nat.gcd_dvd_left ..)
  obtain ⟨m0, m1, m2⟩ := thn_times (r1 := r1) p20 r10
  refine ⟨_, rfl, d1, T1, p1, r1, rfl, R1, o1.p1, ?_⟩
  have z : ∀ B : Int → Prop, B ((p2 / Nat.gcd p2 r1.natAbs : Nat) : Int) → B ((p2 : Int) / ((Nat.gcd (p2 : Int).natAbs r1.natAbs : Nat) : Int)) := fun B h => by
    rw [Int.natAbs_natCast, ← Int.natCast_ediv]
    exact h
  refine ⟨_, rfl, _, _, _, _, rfl, rfl, SqT.of hd2, atI_nat (j := 1) rfl, _, rfl, _, _, _, _, rfl, rfl, SqT.of hd2, atI_nat (j := 1) rfl, _, rfl, _, _, _, _, rfl, rfl, SqT.of hd1, atI_nat (j := 2) rfl, _, _, rfl, _, _, rfl, rfl, wide_div (b := 15) (by rw [Int.natAbs_natCast]; omega) (by rw [Int.natAbs_natCast, Int.natAbs_natCast]; omega) (by decide) (by decide), ?_⟩
  refine z (fun y => gName 3 (.int y) _ _ _) ?_
  clear z
  generalize p2 / Nat.gcd p2 r1.natAbs = tm at m0 m1 m2 ⊢
  refine ⟨fun σ H1 => H1 = H ∧ ∃ B : Nat, σ = [some (.ref d1), some (.ref d2), some (.int (B : Int)), some (.int (tm : Int)), none, none, none] ∧ T1.length - p1 ≤ B ∧ B ≤ 13000 ∧ (r1 = 0 ∨ ((T2.length - p2 : Nat) : Int) ≤ vl T1 p1 r1 B), ?_, ?_⟩
  · refine ⟨_, rfl, _, _, _, _, rfl, rfl, SqT.of hd1, atI_nat (j := 2) rfl, _, _, rfl, rfl, _, rfl, ite3 (fun e => ?_) (fun e => ?_)⟩
    · refine ⟨_, rfl, _, rfl, _, rfl, d2, T2, p2, r2, rfl, R2, o2.p1, d1, T1, p1, r1, _, rfl, R1, o1, s1, fun o lf => ?_⟩
      cases o with
      | none =>
        have := lf.1
        omega
      | some i =>
        obtain ⟨lf1, lf2⟩ := lf
        have ib : i ≤ T1.length + 300 * p1 := by
          rcases Nat.lt_or_ge (T1.length + 300 * p1) i with w | w
          · have := lf2 _ w
            have := reach o1 e (y := ((T2.length - p2 : Nat) : Int)) (by omega) (Nat.le_refl _)
            omega
          · exact w
        have em : (if (i : Int) > ((T1.length - p1 : Nat) : Int) then (i : Int) else ((T1.length - p1 : Nat) : Int)) = ((max (T1.length - p1) i : Nat) : Int) := by
          split <;> omega
        refine ⟨_, _, rfl, rfl, max (T1.length - p1) i, ?_, by omega, by omega, .inr ?_⟩
        · rw [← em]
          rfl
        · have := o1.le (show i ≤ max (T1.length - p1) i by omega)
          omega
    · exact ⟨rfl, T1.length - p1, rfl, by omega, by omega, .inl (by omega)⟩
  rintro σ H1 ⟨rfl, B, rfl, hB, hB2, hv⟩
  have tb : tm * p1 ≤ 1600 := Nat.mul_le_mul (show tm ≤ 40 by omega) q1
  have z : ∀ B : Int → Prop, B ((tm * p1 : Nat) : Int) → B ((p1 : Int) * (tm : Int)) := fun B h => by
    rw [← Int.natCast_mul, Nat.mul_comm p1]
    exact h
  refine ⟨_, rfl, _, _, _, _, rfl, rfl, SqT.of hd1, atI_nat (j := 1) rfl, _, rfl, _, _, rfl, rfl, .inl ⟨by omega, by omega⟩, ?_⟩
  refine z (fun y => gName 4 (.int y) _ _ _) ?_
  clear z
  have t0 : 0 < tm * p1 := Nat.mul_pos m0 p10
  have bq : ((r1.natAbs * tm / p2 : Nat) : Int) = r1 * (tm : Int) / (p2 : Int) := by
    rw [Int.natCast_ediv, Int.natCast_mul, Int.natAbs_of_nonneg r10]
  have bu : r1 * (tm : Int) / (p2 : Int) ≤ 400000000000000 := by
    have h1 : r1 * (tm : Int) ≤ 10000000000000 * (tm : Int) := Int.mul_le_mul_of_nonneg_right u1 (by omega)
    have h2 := Int.ediv_le_self (b := (p2 : Int)) (show 0 ≤ r1 * (tm : Int) from Int.mul_nonneg r10 (by omega))
    omega
  have b0 : 0 ≤ r1 * (tm : Int) / (p2 : Int) := Int.ediv_nonneg (Int.mul_nonneg r10 (by omega)) (by omega)
  have turn := thn_turn (B := B) (a := tm) (b := r1.natAbs * tm / p2) o1 o2 hB m2 (hv.imp_left fun e => by rw [e]; simp)
  have R0 : 0 ≤ ((r1.natAbs * tm / p2 : Nat) : Int) * r2 := Int.mul_nonneg (by omega) r20
  have R9 : ((r1.natAbs * tm / p2 : Nat) : Int) * r2 ≤ 400000000000000 * 10000000000000 := Int.mul_le_mul (by omega) u2 r20 (by decide)
  obtain ⟨ok, rb, hvl⟩ := thn_tab o1 o2 s1 s2 t0 R0 (by omega) (by omega) turn
  refine ⟨_, rfl, _, rfl, _, rfl, _, _, rfl, rfl, d1, T1, p1, r1, B + tm * p1, rfl, R1, o1, rb1, (by omega), fun H2 q sq ne hq => ?_⟩
  refine ⟨q, rfl, ⟨_, SqL.of hq⟩, fun D nD => ?_⟩
  have sD := same_upd (o := .lst []) nD
  refine lc_list (K := K) (a := q) (xs := (vals T1 p1 r1 (B + tm * p1)).map V.int) (fun j H' => Same H2 H' ∧ H' D = some (.lst (((List.range j).map (thn T1 p1 r1 T2 p2 r2)).map V.int))) ⟨sD, upd_same⟩ (fun i H' _ h => SqL.of (h.1 _ _ hq)) ?_ ?_
  · rintro j x H' hx ⟨s', hD⟩
    have hj : j < B + tm * p1 := by
      have := (List.getElem?_eq_some_iff.mp hx).1
      rwa [List.length_map, vals_len] at this
    rw [vals_get hj] at hx
    have ex := (Option.some.inj hx).symm
    subst ex
    refine ⟨rfl, ?_⟩
    unfold tYes
    refine iteT ?_
    have nn := o1.pos j
    refine ⟨_, rfl, _, rfl, d2, T2, p2, r2, (vl T1 p1 r1 j).toNat, by rw [Int.toNat_of_nonneg nn]; rfl, R2.same (sq.trans s'), o2, rb2, ?_, _, hD, ?_, fun b o e => ?_, ?_⟩
    · have := (thn_le o1 o2 s1 s2 (show j ≤ 30000 by omega)).1
      omega
    · rw [List.length_map, List.length_map, List.length_range]
      exact Nat.lt_of_le_of_lt (show j ≤ 20000 by omega) (by decide)
    · rw [upd_ne (ne_of_none e nD)]
      exact s' _ _ e
    · rw [upd_same, List.range_succ, List.map_append, List.map_append]
      rfl
  rintro H3 ⟨s3, hD⟩
  rw [List.length_map, vals_len] at hD
  have s23 := sq.trans s3
  refine ⟨_, rfl, _, rfl, _, rfl, _, _, _, _, rfl, rfl, SqT.of (s23 _ _ hd2), atI_nat (j := 2) rfl, _, rfl, _, _, _, _, rfl, rfl, SqT.of (s23 _ _ hd1), atI_nat (j := 2) rfl, _, rfl, _, _, rfl, rfl, .inr ⟨by omega, by omega⟩, _, rfl, _, _, _, _, rfl, rfl, SqT.of (s23 _ _ hd2), atI_nat (j := 1) rfl, _, _, rfl, rfl, rb2.div o2, _, _, rfl, rfl, .inl ⟨by omega, by omega⟩, ?_⟩
  refine ⟨D, _, tm * p1, ((r1.natAbs * tm / p2 : Nat) : Int) * r2, by rw [bq]; exact congrArg (fun z => [V.ref D, V.int ((tm * p1 : Nat) : Int), V.int z]) (Int.mul_comm _ _), hD, ok, rb, fun H' d' T' p' r' s' R c sh hv' => ?_⟩
  obtain ⟨k1, k2⟩ := k H' T' p' r' (s23.trans s') (c.rb rb) sh fun x => by rw [hv', hvl]
  exact ⟨fun l => k1 d' l R, k2⟩
end
end Sm

set_option Elab.async false
set_option linter.all false
set_option maxRecDepth 100000
set_option maxHeartbeats 16000000
namespace Sm
open PySem PySem.Spec PyProof.Rows L2
open C8 (pss_cut tCut)
/-- what is due: the shortest tuple, or its length -/
def ThenAt (H : Hp) (q : Addr) (T1 : List Int) (p1 : Nat) (r1 : Int) (T2 : List Int) (p2 : Nat) (r2 : Int) : Prop :=
  ∃ (T : List Int) (p : Nat) (r : Int), Short T p r ∧ (∀ x, vl T p r x = thn T1 p1 r1 T2 p2 r2 x) ∧ RB T p r ∧ ((T.length ≤ 5000 ∧ RuleAt H q T p r) ∨ (5000 < T.length ∧ H q = some (.lst [.str "long", .int (T.length : Int)])))
def sp_l_then (_ : PySem.W.Frag) : Sp := fun vs H Q _ => ∃ (d1 d2 : Addr) (T1 T2 : List Int) (p1 p2 : Nat) (r1 r2 : Int), vs = [.ref d1, .ref d2] ∧ RuleAt H d1 T1 p1 r1 ∧ RuleAt H d2 T2 p2 r2 ∧ RuleOk T1 p1 r1 ∧ RuleOk T2 p2 r2 ∧ RS 10000000000000 T1 p1 r1 ∧ RS 10000000000000 T2 p2 r2 ∧
  ∀ H' q, Same H H' → ThenAt H' q T1 p1 r1 T2 p2 r2 → Q (.ref q) H'
section
variable {P : Program} {w : World} {K : PySem.W.Frag} {mg : Str → Option Value} {base : Heap}
abbrev s_l_then : Stmt := topS 29
abbrev N_l_then : List Str := ["_law_first", "_law_second", "_law_many", "_law_period", "_law_rise", "_law_table", "_law_found", "_law_x"]
theorem sc_l_then : FnScope N_l_then ["_law_first", "_law_second"] (defScope s_l_then) := ⟨rfl, rfl, rfl, by decide +kernel, rfl, by decide +kernel, by decide +kernel⟩
theorem ok_l_then (T : Txt mg) (D : Df K mg "_law_then" s_l_then ["_law_first", "_law_second"]) (C_l_least : Cal P w K mg base "_law_least" ["_law_rule_here"] 3 (sp_l_least K)) (C_l_value : Cal P w K mg base "_law_value" ["_law_rule_here", "_law_x"] 1 (sp_l_value K)) : Cal P w K mg base "_law_then" ["_law_first", "_law_second"] 4 (sp_l_then K) := by
  obtain ⟨f_l_least, fd_l_least, G_l_least, m_l_least, k_l_least, b_l_least⟩ := C_l_least
  obtain ⟨f_l_value, fd_l_value, G_l_value, m_l_value, k_l_value, b_l_value⟩ := C_l_value
  refine D.cal sc_l_then (fun vs H Q E h => ?_) (fun f cdv A outer s H vs Q E hr h => ?_)
  · obtain ⟨d1, d2, T1, T2, p1, p2, r1, r2, rfl, _⟩ := h
    rfl
  obtain ⟨d1, d2, T1, T2, p1, p2, r1, r2, rfl, R1, R2, o1, o2, s1, s2, k⟩ := h
  obtain ⟨t1, hd1, ht1⟩ := id R1
  obtain ⟨t2, hd2, ht2⟩ := id R2
  have l1 := s1.len
  have l2 := s2.len
  have q1 := s1.turn
  have q2 := s2.turn
  have u1 := s1.r1
  have u2 := s2.r1
  have rb1 := s1.rb (by decide)
  have rb2 := s2.rb (by decide)
  have r10 := o1.r0
  have r20 := o2.r0
  have p10 := o1.p0
  have p20 := o2.p0
  have ll1 := len_int T1
  have ll2 := len_int T2
  refine ⟨_, (pss_cons (ps_par3 (i := 2) (j := 3) (l := 4) (by rfl) sc_l_then.nd rfl rfl rfl (by decide) (by decide) (by decide) rfl rfl rfl (pa_cons (pe_callB call_len_seq (by rfl) T.n_len (by decide +kernel) (pa_cons (pe_ix ix_tup (pv 0) pe_int (fun _ _ => rfl)) pa_nil)) (pa_cons (pe_ix ix_tup (pv 0) pe_int (fun _ _ => rfl)) (pa_cons pe_int pa_nil))) (by rfl))
    (pss_cut (ps_if (pt_cmpR op_gt (pe_ix ix_tup (pv 0) pe_int (fun _ _ => rfl)) pe_int (nomark _)) (pss_cons (ps_par (i := 3) (j := 4) (by rfl) sc_l_then.nd rfl rfl (by decide) rfl rfl (pa_cons (pe_op op_mul (pe_ix ix_tup (pv 0) pe_int (fun _ _ => rfl)) (pe_ix ix_tup (pv 1) pe_int (fun _ _ => rfl))) (pa_cons (pe_op op_mul (pe_ix ix_tup (pv 0) pe_int (fun _ _ => rfl)) (pe_ix ix_tup (pv 1) pe_int (fun _ _ => rfl))) pa_nil)) (by rfl))
    (pss_one (ps_while PassesOwn.never (pt_cmpR op_lt (pe_call G_l_value (hr.mono (by decide)) (by rfl) m_l_value k_l_value b_l_value .nil pass0 (pa_cons (pv 0) (pa_cons (pv 2) pa_nil))) (pe_callB call_len_seq (by rfl) T.n_len (by decide +kernel) (pa_cons (pe_ix ix_tup (pv 1) pe_int (fun _ _ => rfl)) pa_nil)) (nomark _))
      (pss_one (ps_set (i := 2) sc_l_then.nd rfl (Or.inl rfl) (pe_op op_add (pv 2) pe_int)))))) pss_nil)
    (pss_cons (ps_set (i := 5) sc_l_then.nd rfl (Or.inl rfl) (pe_callTy call_tuple_of (by rfl) T.n_tuple (by decide +kernel) (pa_cons (pe_lc (own := [("_law_x", 7)]) (g := gName 7) (tt := tYes) rfl sc_l_then.nd (pi_range1 (by rfl) T.n_range (pa_cons (pe_op op_add (pv 2) (pv 3)) pa_nil)) (blkOk_by (own := [("_law_x", 7)]) (N := N_l_then) (sc := defScope s_l_then) (by decide +kernel)) (fun _ _ _ _ _ => pg_name (i := 7) sc_l_then.nd rfl (Or.inl rfl)) (fun _ _ _ _ _ => pts_nil) (fun _ _ _ _ _ => (pe_call G_l_value (hr.mono (by decide)) (by rfl) m_l_value k_l_value b_l_value .nil pass0 (pa_cons (pv 1) (pa_cons (pe_call G_l_value (hr.mono (by decide)) (by rfl) m_l_value k_l_value b_l_value .nil pass0 (pa_cons (pv 0) (pa_cons (pv 7) pa_nil))) pa_nil))))) pa_nil)))
    (pss_cons (ps_set (i := 6) sc_l_then.nd rfl (Or.inl rfl) (pe_call G_l_least (hr.mono (by decide)) (by rfl) m_l_least k_l_least b_l_least .nil pass0 (pa_cons (pe_tup (pa_cons (pv 5) (pa_cons (pv 3) (pa_cons (pv 4) pa_nil)))) pa_nil)))
    (pss_one (ps_ret (pe_ifExp (pt_cmpR op_gt (pe_callB call_len_seq (by rfl) T.n_len (by decide +kernel) (pa_cons (pe_ix ix_tup (pv 6) pe_int (fun _ _ => rfl)) pa_nil)) pe_int (nomark _)) (pe_lst (pa_cons pe_str (pa_cons (pe_callB call_len_seq (by rfl) T.n_len (by decide +kernel) (pa_cons (pe_ix ix_tup (pv 6) pe_int (fun _ _ => rfl)) pa_nil)) pa_nil))) (pv 6)))))))), ?_⟩
  refine ⟨_, rfl, _, _, _, _, rfl, rfl, SqT.of hd1, atI_nat (j := 0) rfl, _, _, rfl, .inr (SqT.of ht1), _, rfl, _, _, _, _, rfl, rfl, SqT.of hd1, atI_nat (j := 1) rfl, _, _, _, rfl, ?_⟩
  refine ⟨fun σ H1 => H1 = H ∧ ∃ (n a b : Nat) (pd ri : Int), σ = [some (.ref d1), some (.ref d2), some (.int (n : Int)), some (.int pd), some (.int ri), none, none, none] ∧ pd = ((a * p1 : Nat) : Int) ∧ ri = (b : Int) * r2 ∧ 0 < a ∧ a ≤ 40 ∧ (b : Int) ≤ 10000000000000 ∧ T1.length - p1 ≤ n ∧ n ≤ 13000 ∧ (a : Int) * r1 = (b : Int) * (p2 : Int) ∧ (b = 0 ∨ ((T2.length - p2 : Nat) : Int) ≤ vl T1 p1 r1 n), ?_, ?_⟩
  · refine ⟨_, rfl, _, _, _, _, rfl, rfl, SqT.of hd1, atI_nat (j := 2) rfl, _, _, rfl, rfl, _, rfl, ite3 (fun e => ?_) (fun e => ?_)⟩
    · refine ⟨_, rfl, _, _, _, _, rfl, rfl, SqT.of hd1, atI_nat (j := 1) rfl, _, rfl, _, _, _, _, rfl, rfl, SqT.of hd2, atI_nat (j := 1) rfl, _, _, rfl, rfl, .inl ⟨by omega, by omega⟩, _, rfl, _, _, _, _, rfl, rfl, SqT.of hd1, atI_nat (j := 2) rfl, _, rfl, _, _, _, _, rfl, rfl, SqT.of hd2, atI_nat (j := 2) rfl, _, _, rfl, rfl, .inl ⟨by omega, by omega⟩, _, _, rfl, ?_⟩
      obtain ⟨pd, epd⟩ : ∃ pd, pd = (p1 : Int) * (p2 : Int) := ⟨_, rfl⟩
      obtain ⟨ri, eri⟩ : ∃ ri, ri = r1 * r2 := ⟨_, rfl⟩
      refine ⟨fun m σ H' => ∃ n : Nat, m = T1.length + 300 * p1 - n ∧ σ = [some (.ref d1), some (.ref d2), some (.int (n : Int)), some (.int pd), some (.int ri), none, none, none] ∧ H' = H ∧ T1.length ≤ n ∧ n ≤ T1.length + 300 * p1, ⟨_, T1.length, rfl, ?_, rfl, Nat.le_refl _, by omega⟩, ?_⟩
      · rw [epd, eri, ← ll1]
        rfl
      rintro m σ H' ⟨n, rfl, rfl, rfl, n0, n1⟩
      refine ⟨_, rfl, _, rfl, d1, T1, p1, r1, n, rfl, R1, o1, rb1, (by omega), _, rfl, _, _, _, _, rfl, rfl, SqT.of hd2, atI_nat (j := 0) rfl, _, _, rfl, .inr (SqT.of ht2), _, _, rfl, rfl, _, rfl, ?_⟩
      by_cases c : vl T1 p1 r1 n < (((T2.map V.int).length : Nat) : Int)
      · refine iteP c ⟨fun σ' H3 => ∃ m', m' < T1.length + 300 * p1 - n ∧ ∃ n : Nat, m' = T1.length + 300 * p1 - n ∧ σ' = [some (.ref d1), some (.ref d2), some (.int (n : Int)), some (.int pd), some (.int ri), none, none, none] ∧ H3 = H' ∧ T1.length ≤ n ∧ n ≤ T1.length + 300 * p1, fun σ' H3 hw => hw, ?_⟩
        have nl : n < T1.length + 300 * p1 := by
          rcases Nat.lt_or_ge n (T1.length + 300 * p1) with w | w
          · exact w
          · have := reach o1 e (y := (T2.length : Int)) (by omega) w
            omega
        exact ⟨_, rfl, _, _, rfl, rfl, _, by omega, n + 1, rfl, rfl, rfl, by omega, by omega⟩
      · refine iteN c ⟨rfl, n, p2, r1.toNat, pd, ri, rfl, ?_, ?_, p20, q2, by omega, by omega, by omega, ?_, .inr (by omega)⟩
        · rw [epd, Int.natCast_mul, Int.mul_comm]
        · rw [eri, Int.toNat_of_nonneg r10]
        · rw [Int.toNat_of_nonneg r10, Int.mul_comm]
    · refine ⟨rfl, T1.length, 1, 0, (p1 : Int), 0, ?_, by rw [Nat.one_mul], by simp, by decide, by decide, by decide, by omega, by omega, ?_, .inl rfl⟩
      · rw [← ll1]
        rfl
      · have : r1 = 0 := by omega
        rw [this]
        simp
  rintro σ H1 ⟨rfl, n, a, b, pd, ri, rfl, rfl, rfl, a0, a1, b1, n0, n1, hab, hb⟩
  have tb : a * p1 ≤ 1600 := Nat.mul_le_mul a1 q1
  have t0 : 0 < a * p1 := Nat.mul_pos a0 p10
  have turn := thn_turn (B := n) o1 o2 n0 hab hb
  have R0 : 0 ≤ (b : Int) * r2 := Int.mul_nonneg (by omega) r20
  have R9 : (b : Int) * r2 ≤ 10000000000000 * 10000000000000 := Int.mul_le_mul b1 u2 r20 (by decide)
  obtain ⟨ok, rb, hvl⟩ := thn_tab o1 o2 s1 s2 t0 R0 (by omega) (by omega) turn
  have cnt : ((n : Int) + ((a * p1 : Nat) : Int)).toNat = n + a * p1 := by omega
  refine ⟨_, rfl, _, rfl, _, _, rfl, rfl, _, rfl, (by omega), (by omega), fun U nU => ?_⟩
  have sU := same_upd (o := .lst []) nU
  rw [cnt]
  refine lc_range (lo := 0) (n := n + a * p1) (fun j H2 => Same H1 H2 ∧ H2 U = some (.lst (((List.range j).map (thn T1 p1 r1 T2 p2 r2)).map V.int))) ⟨sU, upd_same⟩ ?_ ?_
  · rintro j H2 hj ⟨sm, hU⟩
    refine ⟨rfl, ?_⟩
    unfold tYes
    refine iteT ?_
    rw [Int.zero_add]
    have nn := o1.pos j
    refine ⟨_, rfl, _, rfl, _, rfl, d1, T1, p1, r1, j, rfl, R1.same sm, o1, rb1, (by omega), d2, T2, p2, r2, (vl T1 p1 r1 j).toNat, by rw [Int.toNat_of_nonneg nn]; rfl, R2.same sm, o2, rb2, ?_, _, hU, ?_, fun b o e' => ?_, ?_⟩
    · have := (thn_le o1 o2 s1 s2 (show j ≤ 30000 by omega)).1
      omega
    · rw [List.length_map, List.length_map, List.length_range]
      exact Nat.lt_of_le_of_lt (show j ≤ 20000 by omega) (by decide)
    · rw [upd_ne (ne_of_none e' nU)]
      exact sm _ _ e'
    · rw [upd_same, List.range_succ, List.map_append, List.map_append]
      rfl
  rintro H2 ⟨sm, hU⟩
  refine ⟨_, _, rfl, .inl ⟨SqL.of hU, fun tq ntq => ?_⟩⟩
  have st := same_upd (o := .tup (((List.range (n + a * p1)).map (thn T1 p1 r1 T2 p2 r2)).map V.int)) ntq
  generalize (List.range (n + a * p1)).map (thn T1 p1 r1 T2 p2 r2) = TT at st ok rb hvl ⊢
  refine ⟨_, rfl, _, rfl, _, rfl, (by show 3 ≤ sizeLine; decide), fun e ne => ?_⟩
  have se := same_upd (o := .tup [.ref tq, .int ((a * p1 : Nat) : Int), .int ((b : Int) * r2)]) ne
  refine ⟨e, TT, a * p1, (b : Int) * r2, rfl, ⟨tq, upd_same, se _ _ upd_same⟩, ok, rb, fun H3 d' T' p' r' s3 R cut sh hv' => ?_⟩
  obtain ⟨t', hd', ht'⟩ := id R
  have ss := sm.trans (st.trans (se.trans s3))
  have hv : ∀ x, vl T' p' r' x = thn T1 p1 r1 T2 p2 r2 x := fun x => by rw [hv', hvl]
  have lt' := len_int T'
  refine ⟨_, rfl, _, _, _, _, rfl, rfl, SqT.of hd', atI_nat (j := 0) rfl, _, _, rfl, .inr (SqT.of ht'), _, _, rfl, rfl, _, rfl, ite3 (fun e => ?_) (fun e => ?_)⟩
  · refine ⟨_, rfl, _, _, _, _, rfl, rfl, SqT.of hd', atI_nat (j := 0) rfl, _, _, rfl, .inr (SqT.of ht'), (by show 2 ≤ sizeLine; decide), fun q nq => ?_⟩
    refine k _ q (ss.trans (same_upd nq)) ⟨T', p', r', sh, hv, cut.rb rb, .inr ⟨by omega, ?_⟩⟩
    rw [upd_same, lt']
  · exact ⟨_, rfl, k _ d' ss ⟨T', p', r', sh, hv, cut.rb rb, .inl ⟨by omega, R⟩⟩⟩
end
end Sm

set_option Elab.async false
set_option linter.all false
set_option maxRecDepth 100000
set_option maxHeartbeats 16000000
namespace Sm
open PySem PySem.Spec PyProof.Rows L2 LamX
open C8 (pss_cut tCut)
/-- what the written part says of the classes that _law_tried names -/
structure Txt3 (K : PySem.W.Frag) (mg : Str → Option Value) (cChangeError cTooLong cBadRule cNoRise cNoStart : Addr) : Prop where
  gChangeError : mg "ChangeError" = some (.ref cChangeError)
  gTooLong : mg "TooLong" = some (.ref cTooLong)
  gBadRule : mg "BadRule" = some (.ref cBadRule)
  gNoRise : mg "NoRise" = some (.ref cNoRise)
  gNoStart : mg "NoStart" = some (.ref cNoStart)
  noE : PySem.W.findIn K (.ref cTooLong) "number" = some none
  xf : XfC K cTooLong
  ec : ExcC K cTooLong
  te : PySem.W.exmOne K (.ref cTooLong) (.ref cChangeError) = some true
  k1 : PySem.W.kitAny K (.ref cTooLong) [.ref cBadRule, .ref cNoRise, .ref cNoStart] = some false
  k2 : PySem.W.kitOne K (.ref cTooLong) (.type "ValueError") = some true
  k3 : PySem.W.kitOne K (.ref cTooLong) (.ref cTooLong) = some true
abbrev s_l_tried : Stmt := topS 28
abbrev N_l_tried : List Str := ["_law_call", "error"]
theorem sc_l_tried : FnScope N_l_tried ["_law_call"] (defScope s_l_tried) := ⟨rfl, rfl, rfl, by decide +kernel, rfl, by decide +kernel, by decide +kernel⟩
theorem tried_gives {X : Cx} {q : Str} {cChangeError cTooLong cBadRule cNoRise cNoStart : Addr} (T : Txt X.mg) (XC : Txt3 X.K X.mg cChangeError cTooLong cBadRule cNoRise cNoStart) :
    ∃ ts : Addr → Value → Option Addr → TS, (∀ (g : Addr) (cdg : Value), GivesTo X N_l_tried "_law_tried" (defScope s_l_tried) g cdg (defBody s_l_tried) "_law_call" q (TAs X.K cChangeError N_l_tried 1 ts)) ∧
      ∀ (c d : Addr) (n : Int) (D : Ends) (σ : L2.St) (H : Hp), σ.length = 2 → H d = some (.xd [(("number" : Str), .int n)]) → (∀ H' q, Same H H' → H' q = some (.lst [.str "long", .int n]) → D.rt (.ref q) H') → ts c (.ref cTooLong) (some d) D (σ.set 1 (some (.ref c))) H := by
  refine ⟨_, fun g cdg => as_gives (by rfl) XC.gChangeError (by decide) (fun f => rfl) sc_l_tried.nd rfl (fun s H => by rfl) (fun s H a oe cls d pn hz hf => (pss_cons (ps_if (PW.pt (pw_or (pt_val (pe_callB (show CallR _ (.builtin "isinstance") (rIsX X.K cls d a) from call_isX hz hf) (by rfl) T.n_isinstance (by decide +kernel) (pa_cons (pv 1) (pa_cons (pe_tup (pa_cons (pe_glob (v := .ref cBadRule) rfl XC.gBadRule rfl) (pa_cons (pe_glob (v := .ref cNoRise) rfl XC.gNoRise rfl) (pa_cons (pe_glob (v := .ref cNoStart) rfl XC.gNoStart rfl) pa_nil)))) pa_nil)))) (pw_or1 (pt_not (pt_val (pe_callB (show CallR _ (.builtin "isinstance") (rIsX X.K cls d a) from call_isX hz hf) (by rfl) T.n_isinstance (by decide +kernel) (pa_cons (pv 1) (pa_cons (pe_bltn (v := .ty "ValueError") (by rfl) T.n_ValueError (by decide +kernel) rfl) pa_nil)))))))) (pss_one (ps_ret (pe_lst (pa_cons pe_str pa_nil)))) pss_nil)
    (pss_one (ps_ret (pe_ifExp (pt_val (pe_callB (show CallR _ (.builtin "isinstance") (rIsX X.K cls d a) from call_isX hz hf) (by rfl) T.n_isinstance (by decide +kernel) (pa_cons (pv 1) (pa_cons (pe_glob (v := .ref cTooLong) rfl XC.gTooLong rfl) pa_nil)))) (pe_lst (pa_cons pe_str (pa_cons (pe_xf XC.xf XC.noE hz hf (pv 1)) pa_nil))) (pe_lst (pa_cons pe_str pa_nil))))))), ?_⟩
  intro c d n D σ H len hd kk
  obtain ⟨x0, x1, rfl⟩ : ∃ x0 x1, σ = [x0, x1] := by
    match σ, len with
    | [x0, x1], _ => exact ⟨x0, x1, rfl⟩
  refine ⟨_, rfl, (by show 3 ≤ sizeLine; decide), fun tp ntp => ?_⟩
  have st := same_upd (o := .tup [.ref cBadRule, .ref cNoRise, .ref cNoStart]) ntp
  refine ⟨cTooLong, d, _, rfl, rfl, st _ _ hd, XC.ec, .inr ⟨tp, _, _, false, rfl, upd_same, .cons (.own _) (.cons (.own _) (.cons (.own _) .nil)), XC.k1, _, rfl, iteF ?_⟩⟩
  refine ⟨_, rfl, cTooLong, d, _, rfl, rfl, st _ _ hd, XC.ec, .inl ⟨_, _, true, rfl, .ty _, XC.k2, _, rfl, iteF ?_⟩⟩
  refine ⟨_, rfl, cTooLong, d, _, rfl, rfl, st _ _ hd, XC.ec, .inl ⟨_, _, true, rfl, .own _, XC.k3, _, rfl, iteT ?_⟩⟩
  refine ⟨_, rfl, rfl, rfl, d, _, _, rfl, st _ _ hd, rfl, (by show 2 ≤ sizeLine; decide), fun q nq => ?_⟩
  exact kk _ q (st.trans (same_upd nq)) upd_same
/-! ### what stands while tables grow -/
theorem extTup {H H' : Hp} (e : ExtN H H') {b : Addr} {xs : List V} (h : H b = some (.tup xs)) : H' b = some (.tup xs) := e _ _ h fun ps z => by cases z
theorem extLst {H H' : Hp} (e : ExtN H H') {b : Addr} {xs : List V} (h : H b = some (.lst xs)) : H' b = some (.lst xs) := e _ _ h fun ps z => by cases z
theorem RuleAt.ext {H H' : Hp} {d : Addr} {T : List Int} {p : Nat} {r : Int} (R : RuleAt H d T p r) (e : ExtN H H') : RuleAt H' d T p r := by
  obtain ⟨t, h1, h2⟩ := R
  exact ⟨t, extTup e h1, extTup e h2⟩
theorem Deck.ext {H H' : Hp} {p l : Addr} {n : Int} (D : Deck H p l n) (e : ExtN H H') : Deck H' p l n := by
  obtain ⟨cells, h1, h2⟩ := D.hl
  exact ⟨extLst e D.hp, cells, extLst e h1, h2⟩
theorem Tabs.fr {H H' : Hp} {p l : Addr} {n : Int} {TT : List (Addr × Str)} (t : Tabs TT H) (f : Fr p l H H') (D : Deck H p l n) : Tabs TT H' := by
  obtain ⟨cells, hl, _⟩ := D.hl
  have hp := D.hp
  intro x hx
  obtain ⟨ps, h1, h2, h3⟩ := t x hx
  have n1 : x.1 ≠ p := fun e => by
    rw [e, hp] at h1
    cases h1
  have n2 : x.1 ≠ l := fun e => by
    rw [e, hl] at h1
    cases h1
  refine ⟨ps, f _ _ n1 n2 h1, h2, fun pos cv hc => ?_⟩
  obtain ⟨c, rfl, hcd⟩ := h3 pos cv hc
  refine ⟨c, rfl, f _ _ (fun e => ?_) (fun e => ?_) hcd⟩
  · rw [e, hp] at hcd
    cases hcd
  · rw [e, hl] at hcd
    cases hcd
/-! ### rules and words of their length as data -/
def rD (T : List Int) (p : Nat) (r : Int) : PyData := .tuple [.tuple (T.map PyData.int), .int (p : Int), .int r]
def longD (n : Nat) : PyData := .list [.str "long", .int (n : Int)]
theorem log_20 {i : Int} (h0 : 0 ≤ i) (h1 : i ≤ 10000000000000000000000000000000000000000) : i.natAbs.log2 < 1920 :=
  Nat.lt_of_lt_of_le (PySem.Flt.log2_lt_of (k := 310) (by decide) (by omega)) (by decide)
theorem RuleAt.dp {K : PySem.W.Frag} {H : Hp} {d : Addr} {T : List Int} {p : Nat} {r : Int} (R : RuleAt H d T p r) : Dp K H (.ref d) (rD T p r) := by
  obtain ⟨t, h1, h2⟩ := R
  exact .tup (SqT.of h1) (.cons (.tup (SqT.of h2) (dp_ints T)) (.cons (.int _) (.cons (.int _) .nil)))
theorem short_text {i : Int} (h0 : 0 ≤ i) (h1 : i ≤ 10000000000000000000000000000000000000000) : (PySem.Str.ofString (toString i)).length ≤ 141 := by
  rw [PySem.ofString_length]
  exact PySem.int_text_length_le (k := 140) (by decide) (PySem.Flt.log2_lt_of (k := 140) (by decide) (by omega))
theorem short_texts : ∀ {ns : List Int}, (∀ n ∈ ns, 0 ≤ n ∧ n ≤ 10000000000000000000000000000000000000000) → ((PyData.shownAll (ns.map PyData.int)).map (·.length)).sum ≤ 141 * ns.length ∧ (PyData.shownAll (ns.map PyData.int)).length = ns.length
  | [], _ => by simp [PyData.shownAll]
  | n :: ns, h => by
    have a := short_text (h n List.mem_cons_self).1 (h n List.mem_cons_self).2
    obtain ⟨b, c⟩ := short_texts (ns := ns) fun m hm => h m (List.mem_cons_of_mem _ hm)
    simp only [List.map_cons, PyData.shownAll, PyData.shown, List.sum_cons, List.length_cons]
    omega
structure Shw (d : PyData) : Prop where
  sh : PyData.showable d = true
  nd : PyData.hasDict d = false
  dep : d.depth ≤ 5
  len : d.shown.length ≤ 4000000
theorem at_mem {T : List Int} {n : Int} (h : n ∈ T) : ∃ i, i < T.length ∧ T.getD i 0 = n := by
  obtain ⟨i, hi, e⟩ := List.mem_iff_getElem.mp h
  exact ⟨i, hi, by rw [List.getD_eq_getElem?_getD, List.getElem?_eq_getElem hi, e]; rfl⟩
theorem rD_shw {T : List Int} {p : Nat} {r : Int} (o : RuleOk T p r) (b : RB T p r) (l5 : T.length ≤ 5000) : Shw (rD T p r) := by
  have p1 := o.p1
  have r0 := o.r0
  have r1 := b.r1
  have sm : ∀ n ∈ T, n.natAbs.log2 < 1920 := fun n hn => by
    obtain ⟨i, hi, rfl⟩ := at_mem hn
    exact log_20 (o.nn i hi) (b.top i hi)
  have sp : (p : Int).natAbs.log2 < 1920 := log_20 (by omega) (by omega)
  have sr : r.natAbs.log2 < 1920 := log_20 r0 (by omega)
  have lp := PyProof.Rows.int_text_len_1921 sp
  have lr := PyProof.Rows.int_text_len_1921 sr
  have dep := depth_ints T
  obtain ⟨s1, s2⟩ := short_texts fun n hn => by
    obtain ⟨i, hi, rfl⟩ := at_mem hn
    exact ⟨o.nn i hi, b.top i hi⟩
  have t1 := PySem.tupleText_len_le (PyData.shownAll (T.map PyData.int))
  refine ⟨?_, ?_, ?_, ?_⟩
  · unfold rD
    simp only [PyData.showable, PyData.showableAll, showable_ints sm, decide_eq_true sp, decide_eq_true sr, Bool.and_self]
  · unfold rD
    simp only [PyData.hasDict, PyData.hasDictAll, hasDict_ints, Bool.or_self]
  · unfold rD
    simp only [PyData.depth, PyData.depthAll]
    omega
  · unfold rD
    simp only [PyData.shown, PyData.shownAll]
    have t2 := PySem.tupleText_len_le [tupleText (PyData.shownAll (T.map PyData.int)), Str.ofString (toString (p : Int)), Str.ofString (toString r)]
    simp only [List.map_cons, List.map_nil, List.sum_cons, List.sum_nil, List.length_cons, List.length_nil] at t2
    omega
theorem longD_shw {n : Nat} (h : n ≤ 10000000000000000000000000000000000000000) : Shw (longD n) := by
  have sn : (n : Int).natAbs.log2 < 1920 := log_20 (by omega) (by omega)
  have ln := PyProof.Rows.int_text_len_1921 sn
  refine ⟨?_, ?_, Nat.le_of_ble_eq_true rfl, ?_⟩
  · unfold longD
    simp only [PyData.showable, PyData.showableAll, decide_eq_true sn, Bool.and_self]
  · rfl
  · unfold longD
    simp only [PyData.shown, PyData.shownAll]
    have t2 := listText_len_le [PyData.shown (.str "long"), Str.ofString (toString (n : Int))]
    have l4 : (PyData.shown (.str "long")).length ≤ 100 := by decide +kernel
    simp only [List.map_cons, List.map_nil, List.sum_cons, List.sum_nil, List.length_cons, List.length_nil] at t2
    simp only [PyData.shown] at t2 l4
    omega
/-! ### _law_tried(lambda: then_rule(a, b)) in the law -/
abbrev s_law : Stmt := topS 30
abbrev N_law : List Str := ["_law_script", "_law_deck_here", "_law_turn", "_law_long", "_law_wide", "_law_tall", "_law_first", "_law_second", "_law_size", "_law_slow", "_law_late", "_law_pairs", "_law_one_here", "_law_other", "_law_due", "_law_shown", "_law_told"]
theorem sc_law : FnScope N_law ["_law_script"] (defScope s_law) := ⟨rfl, rfl, rfl, by decide +kernel, rfl, by decide +kernel, by decide +kernel⟩
abbrev lamP : Arguments := { posonlyargs := [], args := [], vararg := none, kwonlyargs := [], kw_defaults := [], kwarg := none, defaults := [] }
section
variable {P : Program} {w : World} {K : PySem.W.Frag} {mg : Str → Option Value} {base : Heap}
abbrev lawX (P : Program) (w : World) (K : PySem.W.Frag) (mg : Str → Option Value) (base : Heap) (f c : Addr) (A : Around) (outer : List Env) (s : Shared) (H : Hp) (E : XK) : Cx := (cxOf CX0 P w K mg base N_law "law" (defScope s_law) f (.ref c) A outer s H E).nox
abbrev qLam : Str := ("law" : Str) ++ (".<locals>." : Str) ++ ("<lambda>" : Str)
/-- what the law makes of _law_tried(lambda: then_rule(a, b)), a and b in the slots i and j -/
def tTried (K : PySem.W.Frag) (Pt cC cT : Addr) (ts : Addr → Value → Option Addr → TS) (i j : Nat) : TE :=
  tLam [(Pt, qLam)] (TAs K cC N_l_tried 1 ts) (fun E => tCallS (sp_then cT) (fun _ => E) (tCons (tVar i) (tCons (tVar j) tNil)))
theorem pe_tried {f c Pt : Addr} {A : Around} {outer : List Env} {s : Shared} {H : Hp} {E : XK} {a b : Str} {i j : Nat} {cC cT : Addr} {ts : Addr → Value → Option Addr → TS} {p1 p2 p3 p4 p5 p6 p7 : Pos} (D : Df K mg "_law_tried" s_l_tried ["_law_call"]) (C : CalX P w K mg base "then_rule" ["first", "second"] 5 (sp_then cT))
    (hG : ∀ (g : Addr) (cdg : Value), GivesTo (lawX P w K mg base f c A outer s H E) N_l_tried "_law_tried" (defScope s_l_tried) g cdg (defBody s_l_tried) "_law_call" qLam (TAs K cC N_l_tried 1 ts))
    (TB : TabB base mg c Pt) (hr : Room 7 (lawX P w K mg base f c A outer s H E).A)
    {sc : Scope} (hL : lamSB (defScope s_law) sc = true) (hgl : sc.names.lookup ("then_rule" : Str) = some NameKind.globalImplicit) (hva : Vis sc a) (hvb : Vis sc b) (na : (a == ("__debug__" : Str)) = false ∧ (a == ("__classdict__" : Str)) = false) (nb : (b == ("__debug__" : Str)) = false ∧ (b == ("__classdict__" : Str)) = false) (hi : N_law[i]? = some a) (hj : N_law[j]? = some b) :
    PE (lawX P w K mg base f c A outer s H E) (.Call (.Name "_law_tried" p1) [.Lambda lamP (.Call (.Name "then_rule" p2) [.Name a p3, .Name b p4] [] p5) sc p6] [] p7) (tTried K Pt cC cT ts i j) := by
  obtain ⟨g, fd, F, m, bd⟩ := D
  obtain ⟨oc, od, kV, doc, pm, an, cdv, ct, osl, rfl, look, coded⟩ := F.ex
  obtain ⟨fb, fdb, G, mb, kb, bb⟩ := C
  refine pe_lamcall (T := [(Pt, qLam)]) (k := 5) (Ng := N_l_tried) rfl m F.kp look coded bd sc_l_tried rfl (by first | exact Or.inl rfl | exact Or.inr (Or.inl rfl) | exact Or.inr (Or.inr rfl)) (hG g cdv) TB rfl (List.mem_singleton.mpr rfl) (fun p hp _ => by rw [List.mem_singleton.mp hp]; rfl) hr (lamS_by hL) rfl (fun _ _ _ _ _ => rfl) (fun A' outer' s' H' E' f' c' hr' => ?_)
  exact pe_callS G hr' hgl mb kb bb (fun σ => passAt (takes_of rfl rfl rfl rfl) σ) (pa_cons (pe_var hi hva na.1 na.2) (pa_cons (pe_var hj hvb nb.1 nb.2) pa_nil))
end

/-- what is due, as data: but one -/
def ThenD (d : PyData) (T1 : List Int) (p1 : Nat) (r1 : Int) (T2 : List Int) (p2 : Nat) (r2 : Int) : Prop :=
  ∃ (T : List Int) (p : Nat) (r : Int), Short T p r ∧ (∀ x, vl T p r x = thn T1 p1 r1 T2 p2 r2 x) ∧ RB T p r ∧ d = if T.length ≤ 5000 then rD T p r else longD T.length
theorem ThenAt.dp {K : PySem.W.Frag} {H : Hp} {q : Addr} {T1 T2 : List Int} {p1 p2 : Nat} {r1 r2 : Int} (h : ThenAt H q T1 p1 r1 T2 p2 r2) : ∃ d, Dp K H (.ref q) d ∧ ThenD d T1 p1 r1 T2 p2 r2 := by
  obtain ⟨T, p, r, sh, hv, rb, h | h⟩ := h
  · exact ⟨_, h.2.dp, T, p, r, sh, hv, rb, (if_pos h.1).symm⟩
  · exact ⟨longD T.length, .lst (SqL.of h.2) (.cons (.str _) (.cons (.int _) .nil)), T, p, r, sh, hv, rb, (if_neg (by omega)).symm⟩
theorem ThenD.one {d e : PyData} {T1 T2 : List Int} {p1 p2 : Nat} {r1 r2 : Int} (h : ThenD d T1 p1 r1 T2 p2 r2) (k : ThenD e T1 p1 r1 T2 p2 r2) : d = e := by
  obtain ⟨T, p, r, s, hv, b, rfl⟩ := h
  obtain ⟨T', p', r', s', hv', b', rfl⟩ := k
  obtain ⟨rfl, rfl, rfl⟩ := short_one s s' fun x => by rw [hv, hv']
  rfl
theorem ThenD.shw {d : PyData} {T1 T2 : List Int} {p1 p2 : Nat} {r1 r2 : Int} (h : ThenD d T1 p1 r1 T2 p2 r2) : Shw d := by
  obtain ⟨T, p, r, s, hv, b, rfl⟩ := h
  have := b.len
  split
  · exact rD_shw s.ok b (by omega)
  · exact longD_shw (by omega)
theorem ThenAt.ext {H H' : Hp} {q : Addr} {T1 T2 : List Int} {p1 p2 : Nat} {r1 r2 : Int} (h : ThenAt H q T1 p1 r1 T2 p2 r2) (e : ExtN H H') : ThenAt H' q T1 p1 r1 T2 p2 r2 := by
  obtain ⟨T, p, r, sh, hv, rb, h | h⟩ := h
  · exact ⟨T, p, r, sh, hv, rb, .inl ⟨h.1, h.2.ext e⟩⟩
  · exact ⟨T, p, r, sh, hv, rb, .inr ⟨h.1, extLst e h.2⟩⟩
/-- where it cannot raise -/
def sp_then0 (_ : PySem.W.Frag) : Sp := fun vs H Q _ => ∃ (d1 d2 : Addr) (T1 T2 : List Int) (p1 p2 : Nat) (r1 r2 : Int), vs = [.ref d1, .ref d2] ∧ RuleAt H d1 T1 p1 r1 ∧ RuleAt H d2 T2 p2 r2 ∧ RuleOk T1 p1 r1 ∧ RuleOk T2 p2 r2 ∧ RS 10000000000000 T1 p1 r1 ∧ RS 10000000000000 T2 p2 r2 ∧
  (∀ T p r, Short T p r → (∀ x, vl T p r x = thn T1 p1 r1 T2 p2 r2 x) → T.length ≤ 5000) ∧
  ∀ H' d T p r, Same H H' → RuleAt H' d T p r → Short T p r → (∀ x, vl T p r x = thn T1 p1 r1 T2 p2 r2 x) → Q (.ref d) H'
theorem ok_then0 {P : Program} {w : World} {K : PySem.W.Frag} {mg : Str → Option Value} {base : Heap} {cTooLong : Addr} {k : Nat} (C : CalX P w K mg base "then_rule" ["first", "second"] k (sp_then cTooLong)) : Cal P w K mg base "then_rule" ["first", "second"] k (sp_then0 K) := by
  obtain ⟨f, fd, F, m, kp, b⟩ := C
  refine ⟨f, fd, ⟨fun vs H Q E h => ?_, fun A outer s H args us vs Q E hr e0 hb hv h => ?_⟩, m, kp, b⟩
  · obtain ⟨a, c, _, _, _, _, _, _, rfl, _⟩ := h
    rfl
  obtain ⟨d1, d2, T1, T2, p1, p2, r1, r2, rfl, R1, R2, s1, s2, b1, b2, lim, k⟩ := h
  refine codeAny_mono (F.run A outer s H args us _ Q E0 hr e0 hb hv ⟨d1, d2, T1, T2, p1, p2, r1, r2, rfl, R1, R2, s1, s2, b1, b2, fun H' T' p' r' s rb sh hv => ⟨fun d l R => k H' d T' p' r' s R sh hv, fun l => ?_⟩⟩) ?_
  · have := lim T' p' r' sh hv
    omega
  rintro (e | fl) s' got
  · obtain ⟨_, _, _, _, _, _, _, _, _, _, _, _, hE⟩ := got
    exact hE.elim
  · match fl, got with
    | .next, got => exact got.elim
    | .brk, got => exact got.elim
    | .cont, got => exact got.elim
    | .ret u, got => exact got
/-! ### the written pairs -/
theorem vl_stairs {r : Int} (x : Nat) : vl (List.replicate 40 0) 40 r x = ((x / 40 : Nat) : Int) * r := by
  have z : ∀ {i n : Nat}, (List.replicate n (0 : Int)).getD i 0 = 0 := fun {i n} => by
    rw [List.getD_eq_getElem?_getD, List.getElem?_replicate]
    split <;> rfl
  unfold vl
  rw [List.length_replicate, z, z]
  split
  · rename_i h
    rw [show x / 40 = 0 by omega]
    simp
  · rename_i h
    rw [show (x - 40) / 40 + 1 = x / 40 by omega, Int.zero_add]
theorem thn_step {N : Nat} (x : Nat) : thn (List.replicate 40 0) 40 1 (stepT N) 1 0 x = vl (stepT (40 * N)) 1 0 x := by
  unfold thn
  rw [vl_stairs, Int.mul_one, Int.toNat_natCast, step_vl, step_vl]
  split <;> split <;> omega
theorem level_ok {n p : Nat} {c r : Int} (h : 0 < p) (hp : p ≤ n) (h0 : 0 ≤ c) (r0 : 0 ≤ r) : RuleOk (List.replicate n c) p r := by
  have ln : (List.replicate n c).length = n := List.length_replicate
  have g : ∀ i, i < n → (List.replicate n c).getD i 0 = c := fun i hi => by
    rw [List.getD_eq_getElem?_getD, List.getElem?_replicate, if_pos hi]
    rfl
  refine ⟨h, by omega, r0, fun i hi => ?_, fun i hi => ?_, ?_⟩
  · rw [g i (by omega)]
    exact h0
  · rw [g _ (by omega), g _ (by omega)]
    exact Int.le_refl _
  · rw [g _ (by omega), g _ (by omega)]
    omega
theorem level_rs {n p : Nat} {c r : Int} (hn : n ≤ 300) (hp : p ≤ 40) (h1 : c ≤ 10000000000000) (r1 : r ≤ 10000000000000) : RS 10000000000000 (List.replicate n c) p r := by
  refine ⟨by rw [List.length_replicate]; exact hn, hp, r1, fun i hi => ?_⟩
  rw [List.length_replicate] at hi
  rw [List.getD_eq_getElem?_getD, List.getElem?_replicate, if_pos hi]
  exact h1
theorem step_rs {N : Nat} {r : Int} (hn : N ≤ 299) (r1 : r ≤ 10000000000000) : RS 10000000000000 (stepT N) 1 r := by
  refine ⟨by rw [step_len]; omega, by decide, r1, fun i hi => ?_⟩
  rw [step_at]
  split <;> omega
theorem shw2 {a b : PyData} (ha : Shw a) (hb : Shw b) : PyData.showable (.list [a, b]) = true ∧ PyData.hasDict (.list [a, b]) = false ∧ PyData.depth (.list [a, b]) ≤ 60 ∧ (PyData.shown (.list [a, b])).length ≤ sizeLine := by
  have d1 := ha.dep
  have d2 := hb.dep
  have l1 := ha.len
  have l2 := hb.len
  refine ⟨?_, ?_, ?_, ?_⟩
  · simp only [PyData.showable, PyData.showableAll, ha.sh, hb.sh, Bool.and_self]
  · simp only [PyData.hasDict, PyData.hasDictAll, ha.nd, hb.nd, Bool.or_self]
  · simp only [PyData.depth, PyData.depthAll]
    omega
  · simp only [PyData.shown, PyData.shownAll]
    have t := listText_len_le [a.shown, b.shown]
    simp only [List.map_cons, List.map_nil, List.sum_cons, List.sum_nil, List.length_cons, List.length_nil] at t
    rw [sizeLine_eq]
    omega
theorem zeros_tup {n : Nat} : (List.replicate n [V.int 0]).flatten = (List.replicate n (0 : Int)).map V.int := by
  rw [List.flatten_replicate_singleton, List.map_replicate]
theorem told_is {K : PySem.W.Frag} {mg : Str → Option Value} {Pt cC cT cB cN cS : Addr} {ts : Addr → Value → Option Addr → TS} {i j : Nat} {σ : L2.St} {H : Hp} {Q : VK} {d1 d2 : Addr} {T1 T2 : List Int} {p1 p2 : Nat} {r1 r2 : Int} (XC : Txt3 K mg cC cT cB cN cS)
    (hts : ∀ (c d : Addr) (n : Int) (D : Ends) (σ : L2.St) (H : Hp), σ.length = 2 → H d = some (.xd [(("number" : Str), .int n)]) → (∀ H' q, Same H H' → H' q = some (.lst [.str "long", .int n]) → D.rt (.ref q) H') → ts c (.ref cT) (some d) D (σ.set 1 (some (.ref c))) H)
    (tb : Tabs [(Pt, qLam)] H) (hi : σ[i]? = some (some (.ref d1))) (hj : σ[j]? = some (some (.ref d2))) (R1 : RuleAt H d1 T1 p1 r1) (R2 : RuleAt H d2 T2 p2 r2) (s1 : RuleOk T1 p1 r1) (s2 : RuleOk T2 p2 r2) (b1 : RS 10000000000000 T1 p1 r1) (b2 : RS 10000000000000 T2 p2 r2)
    (k : ∀ H' q, ExtN H H' → Tabs [(Pt, qLam)] H' → ThenAt H' q T1 p1 r1 T2 p2 r2 → Q (.ref q) H') : tTried K Pt cC cT ts i j σ H Q := by
  refine ⟨tb, fun H1 e1 t1 => ?_⟩
  refine ⟨_, hi, _, hj, d1, d2, T1, T2, p1, p2, r1, r2, rfl, R1.ext e1, R2.ext e1, s1, s2, b1, b2, fun H' T p r s rb sh hv => ⟨fun d l R => k H' d (e1.trans (ExtN.of s)) (t1.ext s) ⟨T, p, r, sh, hv, rb, .inl ⟨l, R⟩⟩, fun l H2 d s2 hd => ?_⟩⟩
  exact ⟨true, XC.te, fun _ σ' c len _ => hts c d _ _ σ' H2 len hd fun H3 q s3 hq => k H3 q (e1.trans (ExtN.of ((s.trans s2).trans s3))) (((t1.ext s).ext s2).ext s3) ⟨T, p, r, sh, hv, rb, .inr ⟨l, hq⟩⟩, fun q => nomatch q⟩
theorem lay_ints : ∀ ns : List Int, PyData.canLayAll0 (ns.map PyData.int) = true
  | [] => rfl
  | n :: ns => by simp [PyData.canLayAll0, PyData.canLay0, lay_ints ns]
theorem rD_shaped (T : List Int) (p : Nat) (r : Int) : SeqAt.shaped (rD T p r) = true := by
  have d := depth_ints T
  have e : (rD T p r).depth ≤ 64 := by
    unfold rD
    simp only [PyData.depth, PyData.depthAll]
    omega
  have l : (rD T p r).canLay0 = true := by
    unfold rD
    simp only [PyData.canLay0, PyData.canLayAll0, lay_ints, Bool.and_self]
  unfold SeqAt.shaped
  rw [l, decide_eq_true e]
  rfl
end Sm

set_option Elab.async false
set_option linter.all false
set_option maxRecDepth 100000
set_option maxHeartbeats 16000000
namespace Sm
open PySem PySem.Spec PyProof.Rows L2 LamX
open C8 (pss_cut tCut)
section
variable {K : PySem.W.Frag} {H : Hp} {Q : VK}
theorem cat_uni {a b : Addr} {xs ys : List V} (ha : H a = some (.tup xs)) (hb : H b = some (.tup ys)) (l : xs.length + ys.length ≤ sizeLine) (q : ∀ u H', Same H H' → H' u = some (.tup (xs ++ ys)) → Q (.ref u) H') : rCatA K (.ref a) (.ref b) H Q := by
  refine ⟨a, b, xs, ys, rfl, rfl, SqT.of ha, SqT.of hb, l, fun e => q b H (Same.refl H) ?_, fun _ e => q a H (Same.refl H) ?_, fun _ _ u nu => q u _ (same_upd nu) upd_same⟩
  · rw [hb, e, List.nil_append]
  · rw [ha, e, List.append_nil]
end
theorem level_tup {n : Nat} {c : Int} : (List.replicate n [V.int c]).flatten = (List.replicate n c).map V.int := by
  rw [List.flatten_replicate_singleton, List.map_replicate]
theorem step_tup {N : Nat} : (List.replicate N (0 : Int)).map V.int ++ [V.int 9] = (stepT N).map V.int := by
  unfold stepT
  rw [List.map_append]
  rfl
theorem sizes6 {H : Hp} {t1 t2 t3 t4 t5 t6 : Addr} {i : Nat} (hi : i < 6) (h1 : H t1 = some (.tup [.int 4, .int 4, .int 2])) (h2 : H t2 = some (.tup [.int 0, .int 12, .int 3])) (h3 : H t3 = some (.tup [.int 20, .int 6, .int (10 ^ 9)]))
    (h4 : H t4 = some (.tup [.int 8, .int 10, .int 1])) (h5 : H t5 = some (.tup [.int 40, .int 20, .int 3])) (h6 : H t6 = some (.tup [.int 0, .int 40, .int 1])) :
    ∃ (tv : Addr) (lo wi ta : Int), [V.ref t1, V.ref t2, V.ref t3, V.ref t4, V.ref t5, V.ref t6][i]? = some (.ref tv) ∧ H tv = some (.tup [.int lo, .int wi, .int ta]) ∧ 0 ≤ lo ∧ lo ≤ 200 ∧ 1 ≤ wi ∧ wi ≤ 40 ∧ 0 ≤ ta ∧ ta ≤ 1000000000 := by
  obtain rfl | rfl | rfl | rfl | rfl | rfl : i = 0 ∨ i = 1 ∨ i = 2 ∨ i = 3 ∨ i = 4 ∨ i = 5 := by omega
  · exact ⟨t1, 4, 4, 2, rfl, h1, by decide, by decide, by decide, by decide, by decide, by decide⟩
  · exact ⟨t2, 0, 12, 3, rfl, h2, by decide, by decide, by decide, by decide, by decide, by decide⟩
  · exact ⟨t3, 20, 6, 10 ^ 9, rfl, h3, by decide, by decide, by decide, by decide, by decide, by decide⟩
  · exact ⟨t4, 8, 10, 1, rfl, h4, by decide, by decide, by decide, by decide, by decide, by decide⟩
  · exact ⟨t5, 40, 20, 3, rfl, h5, by decide, by decide, by decide, by decide, by decide, by decide⟩
  · exact ⟨t6, 0, 40, 1, rfl, h6, by decide, by decide, by decide, by decide, by decide, by decide⟩
/-- a rule in the heap -/
def RK (H : Hp) (d : Addr) : Prop := ∃ (T : List Int) (p : Nat) (r : Int), RuleAt H d T p r ∧ RuleOk T p r ∧ RS 10000000000000 T p r
theorem RK.ext {H H' : Hp} {d : Addr} (h : RK H d) (s : ExtN H H') : RK H' d := by
  obtain ⟨T, p, r, R, q⟩ := h
  exact ⟨T, p, r, R.ext s, q⟩
theorem RK.same {H H' : Hp} {d : Addr} (h : RK H d) (s : Same H H') : RK H' d := h.ext (ExtN.of s)
theorem RK.fr {H H' : Hp} {d p l : Addr} {n : Int} (h : RK H d) (f : Fr p l H H') (D : Deck H p l n) : RK H' d := by
  obtain ⟨T, p, r, R, q⟩ := h
  exact ⟨T, p, r, R.fr f D, q⟩
/-- two rules in the heap -/
def RP (H : Hp) (v : V) : Prop := ∃ q d e, v = .ref q ∧ H q = some (.tup [.ref d, .ref e]) ∧ RK H d ∧ RK H e
theorem RP.ext {H H' : Hp} {v : V} (h : RP H v) (s : ExtN H H') : RP H' v := by
  obtain ⟨q, d, e, hv, hq, h1, h2⟩ := h
  exact ⟨q, d, e, hv, extTup s hq, h1.ext s, h2.ext s⟩
theorem RP.same {H H' : Hp} {v : V} (h : RP H v) (s : Same H H') : RP H' v := h.ext (ExtN.of s)
theorem shw1 {d : PyData} (h : Shw d) : PyData.showable d = true ∧ PyData.hasDict d = false ∧ d.depth ≤ 60 ∧ d.shown.length ≤ sizeLine := by
  have := h.dep
  have := h.len
  refine ⟨h.sh, h.nd, by omega, ?_⟩
  rw [sizeLine_eq]
  omega
theorem step_drop : ((stepT 4000).map V.int).drop 3999 = [V.int 0, V.int 9] := by
  have e : stepT 4000 = List.replicate 3999 0 ++ [0, 9] := by
    unfold stepT
    rw [show (4000 : Nat) = 3999 + 1 from rfl, List.replicate_succ', List.append_assoc]
    rfl
  rw [e, List.map_append, List.drop_left' (by rw [List.length_map, List.length_replicate])]
  rfl
def sp_law (K : PySem.W.Frag) (Pt : Addr) : Sp := fun vs H Q _ => ∃ (a : Addr) (ns : List Int), vs = [.ref a] ∧ SqL K H a (ns.map V.int) ∧ ns.length ≤ 63 ∧ H Pt = some (.tbl #[]) ∧ ∀ H', Q (.bl true) H'
section
variable {P : Program} {w : World} {K : PySem.W.Frag} {mg : Str → Option Value} {base : Heap} {cChangeError cTooLong cBadRule cNoRise cNoStart c Pt : Addr}
theorem ok_lawC {f : Addr} {fd : FuncData} (T : Txt mg) (XC : Txt3 K mg cChangeError cTooLong cBadRule cNoRise cNoStart) (F : Fun K "law" "law" s_law f fd) (code : fd.code = .ref c) (TB : TabB base mg c Pt) (D_l_tried : Df K mg "_law_tried" s_l_tried ["_law_call"]) (X_then_rule : CalX P w K mg base "then_rule" ["first", "second"] 5 (sp_then cTooLong))
  (C_l_deck : Cal P w K mg base "_law_deck" ["_law_script"] 1 (sp_l_deck K)) (C_l_draw : Cal P w K mg base "_law_draw" ["_law_deck_here", "_law_many"] 1 (sp_l_draw K)) (C_l_rule : Cal P w K mg base "_law_rule" ["_law_deck_here", "_law_long", "_law_wide", "_law_tall"] 4 (sp_l_rule K)) (C_l_then : Cal P w K mg base "_law_then" ["_law_first", "_law_second"] 4 (sp_l_then K)) : FnG P w K mg base 8 f fd ["_law_script"] (sp_law K Pt) := by
  obtain ⟨f_l_deck, fd_l_deck, G_l_deck, m_l_deck, k_l_deck, b_l_deck⟩ := C_l_deck
  obtain ⟨f_l_draw, fd_l_draw, G_l_draw, m_l_draw, k_l_draw, b_l_draw⟩ := C_l_draw
  obtain ⟨f_l_rule, fd_l_rule, G_l_rule, m_l_rule, k_l_rule, b_l_rule⟩ := C_l_rule
  obtain ⟨f_l_then, fd_l_then, G_l_then, m_l_then, k_l_then, b_l_then⟩ := C_l_then
  obtain ⟨f_then_rule, fd_then_rule, G_then_rule, m_then_rule, k_then_rule, b_then_rule⟩ := ok_then0 X_then_rule
  refine FnG.bodyC (k := 7) F code sc_law (fun vs H Q E h => ?_) (fun A outer s H vs Q E gu hr h => ?_)
  · obtain ⟨a, ns, rfl, _⟩ := h
    rfl
  obtain ⟨a, ns, rfl, hS, hlen, hP, kk⟩ := h
  obtain ⟨ts, hG, hts⟩ := tried_gives (X := lawX P w K mg base f c A outer s H E) (q := qLam) T XC
  refine ⟨_, (pss_cons (ps_set (i := 1) sc_law.nd rfl (Or.inl rfl) (pe_call G_l_deck (hr.mono (by decide)) (by rfl) m_l_deck k_l_deck b_l_deck .nil pass0 (pa_cons (pv 0) pa_nil)))
    (pss_cons (ps_for PassesOwn.never rfl (pi_range1 (by rfl) T.n_range (pa_cons pe_int pa_nil)) (pg_name (i := 2) sc_law.nd rfl (Or.inl rfl))
      (pss_cons (ps_asg (pe_ix ix_list (pe_lst (pa_cons (pe_tup (pa_cons pe_int (pa_cons pe_int (pa_cons pe_int pa_nil)))) (pa_cons (pe_tup (pa_cons pe_int (pa_cons pe_int (pa_cons pe_int pa_nil)))) (pa_cons (pe_tup (pa_cons pe_int (pa_cons pe_int (pa_cons (pe_op op_pow pe_int pe_int) pa_nil)))) (pa_cons (pe_tup (pa_cons pe_int (pa_cons pe_int (pa_cons pe_int pa_nil)))) (pa_cons (pe_tup (pa_cons pe_int (pa_cons pe_int (pa_cons pe_int pa_nil)))) (pa_cons (pe_tup (pa_cons pe_int (pa_cons pe_int (pa_cons pe_int pa_nil)))) pa_nil))))))) (pv 2) (fun _ _ => rfl)) (pg_tup (by rfl) (pgs_cons (pg_name (i := 3) sc_law.nd rfl (Or.inl rfl)) (pgs_cons (pg_name (i := 4) sc_law.nd rfl (Or.inl rfl)) (pgs_cons (pg_name (i := 5) sc_law.nd rfl (Or.inl rfl)) pgs_nil)))))
    (pss_cons (ps_par (i := 6) (j := 7) (by rfl) sc_law.nd rfl rfl (by decide) rfl rfl (pa_cons (pe_call G_l_rule (hr.mono (by decide)) (by rfl) m_l_rule k_l_rule b_l_rule .nil pass0 (pa_cons (pv 1) (pa_cons (pv 3) (pa_cons (pv 4) (pa_cons (pv 5) pa_nil))))) (pa_cons (pe_call G_l_rule (hr.mono (by decide)) (by rfl) m_l_rule k_l_rule b_l_rule .nil pass0 (pa_cons (pv 1) (pa_cons (pv 3) (pa_cons (pv 4) (pa_cons (pv 5) pa_nil))))) pa_nil)) (by rfl))
    (pss_cons (ps_set (i := 8) sc_law.nd rfl (Or.inl rfl) (pe_op op_add pe_int (pe_call G_l_draw (hr.mono (by decide)) (by rfl) m_l_draw k_l_draw b_l_draw .nil pass0 (pa_cons (pv 1) (pa_cons pe_int pa_nil)))))
    (pss_cons (ps_asg (pe_tup (pa_cons (pe_tup (pa_cons (pe_op op_rep0 (pe_tup (pa_cons (pe_call G_l_draw (hr.mono (by decide)) (by rfl) m_l_draw k_l_draw b_l_draw .nil pass0 (pa_cons (pv 1) (pa_cons pe_int pa_nil))) pa_nil)) (pv 8)) (pa_cons (pv 8) (pa_cons pe_int pa_nil)))) (pa_cons (pe_tup (pa_cons (pe_op op_catA (pe_op op_rep0 (pe_tup (pa_cons pe_int pa_nil)) (pe_op op_add pe_int (pe_call G_l_draw (hr.mono (by decide)) (by rfl) m_l_draw k_l_draw b_l_draw .nil pass0 (pa_cons (pv 1) (pa_cons pe_int pa_nil))))) (pe_tup (pa_cons pe_int pa_nil))) (pa_cons pe_int (pa_cons pe_int pa_nil)))) pa_nil))) (pg_tup (by rfl) (pgs_cons (pg_name (i := 9) sc_law.nd rfl (Or.inr rfl)) (pgs_cons (pg_name (i := 10) sc_law.nd rfl (Or.inr rfl)) pgs_nil))))
    (pss_cons (ps_set (i := 11) sc_law.nd rfl (Or.inl rfl) (pe_lst (pa_cons (pe_tup (pa_cons (pv 6) (pa_cons (pv 7) pa_nil))) (pa_cons (pe_tup (pa_cons (pv 7) (pa_cons (pv 6) pa_nil))) (pa_cons (pe_tup (pa_cons (pv 6) (pa_cons (pv 6) pa_nil))) (pa_cons (pe_tup (pa_cons (pv 9) (pa_cons (pv 7) pa_nil))) (pa_cons (pe_tup (pa_cons (pv 6) (pa_cons (pv 10) pa_nil))) (pa_cons (pe_tup (pa_cons (pv 9) (pa_cons (pv 10) pa_nil))) pa_nil))))))))
    (pss_one (ps_for PassesOwn.never rfl (pi_list (pe_op op_cat (pv 11) (pe_lst (pa_cons (pe_tup (pa_cons (pv 6) (pa_cons (pe_tup (pa_cons (pe_tup (pa_cons pe_int pa_nil)) (pa_cons pe_int (pa_cons pe_int pa_nil)))) pa_nil))) (pa_cons (pe_tup (pa_cons (pe_tup (pa_cons (pe_tup (pa_cons pe_int pa_nil)) (pa_cons pe_int (pa_cons pe_int pa_nil)))) (pa_cons (pv 6) pa_nil))) (pa_cons (pe_tup (pa_cons (pe_tup (pa_cons (pe_tup (pa_cons pe_int pa_nil)) (pa_cons pe_int (pa_cons pe_int pa_nil)))) (pa_cons (pv 6) pa_nil))) pa_nil)))))) (pg_tup (by rfl) (pgs_cons (pg_name (i := 12) sc_law.nd rfl (Or.inr rfl)) (pgs_cons (pg_name (i := 13) sc_law.nd rfl (Or.inr rfl)) pgs_nil)))
      (pss_cons (ps_par (i := 14) (j := 15) (by rfl) sc_law.nd rfl rfl (by decide) rfl rfl (pa_cons (pe_call G_l_then (hr.mono (by decide)) (by rfl) m_l_then k_l_then b_l_then .nil pass0 (pa_cons (pv 12) (pa_cons (pv 13) pa_nil))) (pa_cons (pe_callB (call_repr_data gu ⟨_, hr⟩) (by rfl) T.n_repr (by decide +kernel) (pa_cons (pe_lst (pa_cons (pv 12) (pa_cons (pv 13) pa_nil))) pa_nil)) pa_nil)) (by rfl))
    (pss_cons (ps_set (i := 16) sc_law.nd rfl (Or.inl rfl) (pe_tried (i := 12) (j := 13) D_l_tried X_then_rule hG TB (hr.mono (by decide)) (by decide +kernel) rfl (by first | exact Or.inl rfl | exact Or.inr (Or.inl rfl) | exact Or.inr (Or.inr rfl)) (by first | exact Or.inl rfl | exact Or.inr (Or.inl rfl) | exact Or.inr (Or.inr rfl)) (by decide) (by decide) rfl rfl))
    (pss_one (ps_if (PW.pt (pw_or (pt_cmpR op_ne (pe_callB (call_repr_data gu ⟨_, hr⟩) (by rfl) T.n_repr (by decide +kernel) (pa_cons (pv 16) pa_nil)) (pe_callB (call_repr_data gu ⟨_, hr⟩) (by rfl) T.n_repr (by decide +kernel) (pa_cons (pv 14) pa_nil)) (nomark _)) (pw_or1 (pt_cmpR op_ne (pe_callB (call_repr_data gu ⟨_, hr⟩) (by rfl) T.n_repr (by decide +kernel) (pa_cons (pe_lst (pa_cons (pv 12) (pa_cons (pv 13) pa_nil))) pa_nil)) (pv 15) (nomark _))))) (pss_one (ps_ret pe_bl)) pss_nil))))))))))))
    (pss_cons (ps_asg (pe_tup (pa_cons (pe_tup (pa_cons (pe_op op_rep0 (pe_tup (pa_cons pe_int pa_nil)) pe_int) (pa_cons pe_int (pa_cons pe_int pa_nil)))) (pa_cons (pe_tup (pa_cons (pe_op op_catA (pe_op op_rep0 (pe_tup (pa_cons pe_int pa_nil)) pe_int) (pe_tup (pa_cons pe_int pa_nil))) (pa_cons pe_int (pa_cons pe_int pa_nil)))) pa_nil))) (pg_tup (by rfl) (pgs_cons (pg_name (i := 9) sc_law.nd rfl (Or.inr rfl)) (pgs_cons (pg_name (i := 10) sc_law.nd rfl (Or.inr rfl)) pgs_nil))))
    (pss_cons (ps_set (i := 16) sc_law.nd rfl (Or.inl rfl) (pe_tried (i := 9) (j := 10) D_l_tried X_then_rule hG TB (hr.mono (by decide)) (by decide +kernel) rfl (by first | exact Or.inl rfl | exact Or.inr (Or.inl rfl) | exact Or.inr (Or.inr rfl)) (by first | exact Or.inl rfl | exact Or.inr (Or.inl rfl) | exact Or.inr (Or.inr rfl)) (by decide) (by decide) rfl rfl))
    (pss_one (ps_ret (pe_and (pe_cmpR (op_eqD hr.units) (pv 16) (pe_lst (pa_cons pe_str (pa_cons (pe_op op_add (pe_op op_mul pe_int pe_int) pe_int) pa_nil))) (nomark _)) (pe_one (pe_cmpR (op_eqD hr.units) (pe_slice sl_tup (pe_ix ix_tup (pe_call G_then_rule (hr.mono (by decide)) (by rfl) m_then_rule k_then_rule b_then_rule .nil pass0 (pa_cons (pv 9) (pa_cons (pe_tup (pa_cons (pe_op op_catA (pe_op op_rep0 (pe_tup (pa_cons pe_int pa_nil)) pe_int) (pe_tup (pa_cons pe_int pa_nil))) (pa_cons pe_int (pa_cons pe_int pa_nil)))) pa_nil))) pe_int (fun _ _ => rfl)) (po_some pe_int) po_none) (pe_tup (pa_cons pe_int (pa_cons pe_int pa_nil))) (nomark _)))))))))), ?_⟩
  refine ⟨_, rfl, a, ns, rfl, hS, hlen, fun H1 p l s1 D1 => ?_⟩
  have tb0 : Tabs [(Pt, qLam)] H1 := fun x hx => by
    rw [List.mem_singleton.mp hx]
    exact TabS.nil (s1 _ _ hP)
  refine ⟨6, rfl, (by decide), (by decide), for_range (lo := 0) (n := 6) (fun i σ H' => ∃ (n : Int) (v2 v3 v4 v5 v6 v7 v8 v9 v10 v11 v12 v13 v14 v15 v16 : Option V), σ = [some (.ref a), some (.ref p), v2, v3, v4, v5, v6, v7, v8, v9, v10, v11, v12, v13, v14, v15, v16] ∧ Deck H' p l n ∧ Tabs [(Pt, qLam)] H' ∧ 0 ≤ n ∧ n ≤ 6000 * (i : Int))
    ⟨0, none, none, none, none, none, none, none, none, none, none, none, none, none, none, none, rfl, D1, tb0, by omega, by omega⟩ ?_ ?_⟩
  · rintro i σ H2 hi ⟨n, v2, v3, v4, v5, v6, v7, v8, v9, v10, v11, v12, v13, v14, v15, v16, rfl, D2, tb2, n0, n1⟩
    refine ⟨(by show 3 ≤ sizeLine; decide), fun t1 nt1 => ⟨(by show 3 ≤ sizeLine; decide), fun t2 nt2 => ⟨_, _, rfl, rfl, ⟨by decide, by decide, by decide⟩, (by show 3 ≤ sizeLine; decide), fun t3 nt3 => ⟨(by show 3 ≤ sizeLine; decide), fun t4 nt4 =>
      ⟨(by show 3 ≤ sizeLine; decide), fun t5 nt5 => ⟨(by show 3 ≤ sizeLine; decide), fun t6 nt6 => ⟨(by show 6 ≤ sizeLine; decide), fun tb ntb => ?_⟩⟩⟩⟩⟩⟩⟩
    have u1 := same_upd (o := .tup [.int 4, .int 4, .int 2]) nt1
    have u2 := same_upd (o := .tup [.int 0, .int 12, .int 3]) nt2
    have u3 := same_upd (o := .tup [.int 20, .int 6, .int (10 ^ 9)]) nt3
    have u4 := same_upd (o := .tup [.int 8, .int 10, .int 1]) nt4
    have u5 := same_upd (o := .tup [.int 40, .int 20, .int 3]) nt5
    have u6 := same_upd (o := .tup [.int 0, .int 40, .int 1]) nt6
    have ub := same_upd (o := .lst [.ref t1, .ref t2, .ref t3, .ref t4, .ref t5, .ref t6]) ntb
    obtain ⟨tv, lo, wi, ta, hget, htv, lo0, lo1, wi0, wi1, ta0, ta1⟩ := sizes6 hi ((u2.trans (u3.trans (u4.trans (u5.trans (u6.trans ub))))) _ _ upd_same) ((u3.trans (u4.trans (u5.trans (u6.trans ub)))) _ _ upd_same) ((u4.trans (u5.trans (u6.trans ub))) _ _ upd_same) ((u5.trans (u6.trans ub)) _ _ upd_same) ((u6.trans ub) _ _ upd_same) (ub _ _ upd_same)
    have sA := u1.trans (u2.trans (u3.trans (u4.trans (u5.trans (u6.trans ub)))))
    have DA := D2.same sA
    have tbA := tb2.ext sA
    refine ⟨_, rfl, _, _, _, _, rfl, rfl, SqL.of upd_same, at_of (j := i) (Int.zero_add _) hget, _, _, rfl, SqT.of htv, rfl, _, _, rfl, _, _, rfl, _, _, rfl, rfl, ?_⟩
    generalize upd (upd (upd (upd (upd (upd (upd H2 t1 _) t2 _) t3 _) t4 _) t5 _) t6 _) tb _ = HA at sA DA tbA htv ⊢
    clear u1 u2 u3 u4 u5 u6 ub nt1 nt2 nt3 nt4 nt5 nt6 ntb
    -- first, second
    refine ⟨_, rfl, _, rfl, _, rfl, _, rfl, p, l, n, lo, wi, ta, rfl, DA, n0, by omega, lo0, lo1, wi0, wi1, ta0, ta1, fun HB d1 T1 p1 r1 nB fB DB mB0 mB1 RB1 rs1 ln1 sh1 => ?_⟩
    refine ⟨_, rfl, _, rfl, _, rfl, _, rfl, p, l, nB, lo, wi, ta, rfl, DB, by omega, by omega, lo0, lo1, wi0, wi1, ta0, ta1, fun HC d2 T2 p2 r2 nC fC DC mC0 mC1 RC2 rs2 ln2 sh2 => ⟨_, _, rfl, ?_⟩⟩
    have k1 : RK HC d1 := ⟨T1, p1, r1, RB1.fr fC DB, sh1.ok, rs1.up (by decide)⟩
    have k2 : RK HC d2 := ⟨T2, p2, r2, RC2, sh2.ok, rs2.up (by decide)⟩
    have tbC : Tabs [(Pt, qLam)] HC := Sm.Tabs.fr (Sm.Tabs.fr tbA fB DA) fC DB
    -- size
    refine ⟨_, rfl, p, l, nC, 40, rfl, DC, by omega, by omega, by decide, by decide, fun sz HD sz0 sz1 fD DD => ⟨_, _, rfl, rfl, ?_⟩⟩
    obtain ⟨N1, eN1⟩ : ∃ N1 : Nat, 1 + sz = (N1 : Int) := ⟨(1 + sz).toNat, (Int.toNat_of_nonneg (by omega)).symm⟩
    have z1 : ∀ B : Int → Prop, B (N1 : Int) → B (1 + sz) := fun B h => by rw [eN1]; exact h
    refine z1 (fun y => gName 8 (.int y) _ _ _) ?_
    have k1 := k1.fr fD DC
    have k2 := k2.fr fD DC
    have tbD := Sm.Tabs.fr tbC fD DC
    -- slow, late
    refine ⟨_, rfl, p, l, nC + 1, 3, rfl, DD, by omega, by omega, by decide, by decide, fun dv HE dv0 dv1 fE DE => ⟨(by show 1 ≤ sizeLine; decide), fun a1 na1 => ?_⟩⟩
    have w1 := same_upd (o := .tup [.int dv]) na1
    refine ⟨_, rfl, a1, _, _, rfl, rfl, upd_same, (fun z => nomatch z), by omega, by omega, (by show 1 ≤ 1000; decide), fun HF a2 sF ha2 => ⟨_, rfl, (by show 3 ≤ sizeLine; decide), fun q1 nq1 => ⟨(by show 1 ≤ sizeLine; decide), fun a3 na3 => ?_⟩⟩⟩
    rw [Int.toNat_natCast, level_tup] at ha2
    have w2 := same_upd (o := .tup [.ref a2, .int (N1 : Int), .int 1]) nq1
    have w3 := same_upd (o := .tup [.int 0]) na3
    have ws := w1.trans (sF.trans (w2.trans w3))
    have k1 := (k1.fr fE DD).same ws
    have k2 := (k2.fr fE DD).same ws
    have tbE := (Sm.Tabs.fr tbD fE DD).ext ws
    have DE := DE.same ws
    have kS : RuleAt (upd (upd HF q1 (.tup [.ref a2, .int (N1 : Int), .int 1])) a3 (.tup [.int 0])) q1 (List.replicate N1 dv) N1 1 := ⟨a2, w3 _ _ upd_same, (w2.trans w3) _ _ ha2⟩
    have ha3 : upd (upd HF q1 (.tup [.ref a2, .int (N1 : Int), .int 1])) a3 (.tup [.int 0]) a3 = some (.tup [.int 0]) := upd_same
    generalize upd (upd HF q1 (.tup [.ref a2, .int (N1 : Int), .int 1])) a3 (.tup [.int 0]) = HG at k1 k2 tbE DE kS ha3 ⊢
    clear ws w1 w2 w3 sF ha2 na1 nq1 na3
    refine ⟨_, rfl, p, l, nC + 1 + 1, 190, rfl, DE, by omega, by omega, by decide, by decide, fun lt HH lt0 lt1 fH DH => ⟨_, _, rfl, rfl, ?_⟩⟩
    obtain ⟨N2, eN2⟩ : ∃ N2 : Nat, 1 + lt = (N2 : Int) := ⟨(1 + lt).toNat, (Int.toNat_of_nonneg (by omega)).symm⟩
    refine ⟨a3, _, _, rfl, rfl, fH.tup DE ha3, (fun z => nomatch z), by omega, by omega, by decide, fun HI a4 sI ha4 => ⟨(by show 1 ≤ sizeLine; decide), fun a5 na5 => ?_⟩⟩
    rw [eN2, Int.toNat_natCast, level_tup] at ha4
    have w5 := same_upd (o := .tup [.int 9]) na5
    refine cat_uni (w5 _ _ ha4) upd_same (by rw [List.length_map, List.length_replicate]; exact Nat.le_trans (show N2 + 1 ≤ 250 by omega) (by decide)) fun a6 HJ sJ ha6 => ?_
    rw [step_tup] at ha6
    refine ⟨(by show 3 ≤ sizeLine; decide), fun q2 nq2 => ⟨(by show 2 ≤ sizeLine; decide), fun q3 nq3 => ⟨q3, _, rfl, SqT.of upd_same, rfl, _, _, rfl, _, _, rfl, rfl, ?_⟩⟩⟩
    have w6 := same_upd (o := .tup [.ref a6, .int 1, .int 2]) nq2
    have w7 := same_upd (o := .tup [.ref q1, .ref q2]) nq3
    have ws := sI.trans (w5.trans (sJ.trans (w6.trans w7)))
    have k1 := (k1.fr fH DE).same ws
    have k2 := (k2.fr fH DE).same ws
    have tbK := (Sm.Tabs.fr tbE fH DE).ext ws
    have DK := DH.same ws
    have kS : RK _ q1 := ⟨_, N1, 1, (kS.fr fH DE).same ws, level_ok (by omega) (Nat.le_refl _) dv0 (by decide), level_rs (by omega) (by omega) (by omega) (by decide)⟩
    have kL : RK _ q2 := ⟨stepT N2, 1, 2, ⟨a6, w7 _ _ upd_same, (w6.trans w7) _ _ ha6⟩, step_ok (by decide), step_rs (by omega) (by decide)⟩
    generalize upd (upd HJ q2 (.tup [.ref a6, .int 1, .int 2])) q3 (.tup [.ref q1, .ref q2]) = HK at k1 k2 tbK DK kS kL ⊢
    clear ws w5 w6 w7 sI sJ ha4 ha6 na5 nq2 nq3
    -- the pairs
    refine ⟨_, rfl, _, rfl, (by show 2 ≤ sizeLine; decide), fun b1 nb1 => ⟨_, rfl, _, rfl, (by show 2 ≤ sizeLine; decide), fun b2 nb2 => ⟨_, rfl, _, rfl, (by show 2 ≤ sizeLine; decide), fun b3 nb3 => ⟨_, rfl, _, rfl, (by show 2 ≤ sizeLine; decide), fun b4 nb4 => ⟨_, rfl, _, rfl, (by show 2 ≤ sizeLine; decide), fun b5 nb5 => ⟨_, rfl, _, rfl, (by show 2 ≤ sizeLine; decide), fun b6 nb6 => ⟨(by show 6 ≤ sizeLine; decide), fun U nU => ?_⟩⟩⟩⟩⟩⟩⟩
    have x1 := same_upd (o := .tup [.ref d1, .ref d2]) nb1
    have x2 := same_upd (o := .tup [.ref d2, .ref d1]) nb2
    have x3 := same_upd (o := .tup [.ref d1, .ref d1]) nb3
    have x4 := same_upd (o := .tup [.ref q1, .ref d2]) nb4
    have x5 := same_upd (o := .tup [.ref d1, .ref q2]) nb5
    have x6 := same_upd (o := .tup [.ref q1, .ref q2]) nb6
    have xU := same_upd (o := .lst [.ref b1, .ref b2, .ref b3, .ref b4, .ref b5, .ref b6]) nU
    have y6 := x6.trans xU
    have y5 := x5.trans y6
    have y4 := x4.trans y5
    have y3 := x3.trans y4
    have y2 := x2.trans y3
    have y1 := x1.trans y2
    have k1 := k1.same y1
    have k2 := k2.same y1
    have kS := kS.same y1
    have kL := kL.same y1
    have tbL := tbK.ext y1
    have DL := DK.same y1
    have hU : upd (upd (upd (upd (upd (upd (upd HK b1 (.tup [.ref d1, .ref d2])) b2 (.tup [.ref d2, .ref d1])) b3 (.tup [.ref d1, .ref d1])) b4 (.tup [.ref q1, .ref d2])) b5 (.tup [.ref d1, .ref q2])) b6 (.tup [.ref q1, .ref q2])) U (.lst [.ref b1, .ref b2, .ref b3, .ref b4, .ref b5, .ref b6]) U = some (.lst [.ref b1, .ref b2, .ref b3, .ref b4, .ref b5, .ref b6]) := upd_same
    have P1 : RP _ (.ref b1) := ⟨b1, d1, d2, rfl, y2 _ _ upd_same, k1, k2⟩
    have P2 : RP _ (.ref b2) := ⟨b2, d2, d1, rfl, y3 _ _ upd_same, k2, k1⟩
    have P3 : RP _ (.ref b3) := ⟨b3, d1, d1, rfl, y4 _ _ upd_same, k1, k1⟩
    have P4 : RP _ (.ref b4) := ⟨b4, q1, d2, rfl, y5 _ _ upd_same, kS, k2⟩
    have P5 : RP _ (.ref b5) := ⟨b5, d1, q2, rfl, y6 _ _ upd_same, k1, kL⟩
    have P6 : RP _ (.ref b6) := ⟨b6, q1, q2, rfl, xU _ _ upd_same, kS, kL⟩
    generalize upd (upd (upd (upd (upd (upd (upd HK b1 (.tup [.ref d1, .ref d2])) b2 (.tup [.ref d2, .ref d1])) b3 (.tup [.ref d1, .ref d1])) b4 (.tup [.ref q1, .ref d2])) b5 (.tup [.ref d1, .ref q2])) b6 (.tup [.ref q1, .ref q2])) U (.lst [.ref b1, .ref b2, .ref b3, .ref b4, .ref b5, .ref b6]) = HL at k1 k2 kS kL tbL DL hU P1 P2 P3 P4 P5 P6 ⊢
    clear y1 y2 y3 y4 y5 y6 x1 x2 x3 x4 x5 x6 xU nb1 nb2 nb3 nb4 nb5 nb6 nU
    refine ⟨_, rfl, _, rfl, (by show 1 ≤ sizeLine; decide), fun c1 nc1 => ⟨(by show 3 ≤ sizeLine; decide), fun c2 nc2 => ⟨(by show 2 ≤ sizeLine; decide), fun c3 nc3 => ⟨(by show 1 ≤ sizeLine; decide), fun c4 nc4 => ⟨(by show 3 ≤ sizeLine; decide), fun c5 nc5 => ⟨_, rfl, (by show 2 ≤ sizeLine; decide), fun c6 nc6 => ⟨(by show 1 ≤ sizeLine; decide), fun c7 nc7 => ⟨(by show 3 ≤ sizeLine; decide), fun c8 nc8 => ⟨_, rfl, (by show 2 ≤ sizeLine; decide), fun c9 nc9 => ⟨(by show 3 ≤ sizeLine; decide), fun W nW => ?_⟩⟩⟩⟩⟩⟩⟩⟩⟩⟩
    have x1 := same_upd (o := .tup [.int 0]) nc1
    have x2 := same_upd (o := .tup [.ref c1, .int 1, .int 1]) nc2
    have x3 := same_upd (o := .tup [.ref d1, .ref c2]) nc3
    have x4 := same_upd (o := .tup [.int 5]) nc4
    have x5 := same_upd (o := .tup [.ref c4, .int 1, .int 0]) nc5
    have x6 := same_upd (o := .tup [.ref c5, .ref d1]) nc6
    have x7 := same_upd (o := .tup [.int 0]) nc7
    have x8 := same_upd (o := .tup [.ref c7, .int 1, .int 1]) nc8
    have x9 := same_upd (o := .tup [.ref c8, .ref d1]) nc9
    have xW := same_upd (o := .lst [.ref c3, .ref c6, .ref c9]) nW
    have y9 := x9.trans xW
    have y8 := x8.trans y9
    have y7 := x7.trans y8
    have y6 := x6.trans y7
    have y5 := x5.trans y6
    have y4 := x4.trans y5
    have y3 := x3.trans y4
    have y2 := x2.trans y3
    have y1 := x1.trans y2
    refine ⟨U, W, _, _, rfl, rfl, y1 _ _ hU, upd_same, (by show 6 + 3 ≤ sizeLine; decide), fun q nq => ?_⟩
    have xq := same_upd (o := .lst ([.ref b1, .ref b2, .ref b3, .ref b4, .ref b5, .ref b6] ++ [.ref c3, .ref c6, .ref c9])) nq
    have yy := y1.trans xq
    have k1 := k1.same yy
    have e1 : RK _ c2 := ⟨[0], 1, 1, ⟨c1, (y3.trans xq) _ _ upd_same, (y2.trans xq) _ _ upd_same⟩, level_ok (n := 1) (by decide) (by decide) (by decide) (by decide), level_rs (n := 1) (by decide) (by decide) (by decide) (by decide)⟩
    have e2 : RK _ c5 := ⟨[5], 1, 0, ⟨c4, (y6.trans xq) _ _ upd_same, (y5.trans xq) _ _ upd_same⟩, level_ok (n := 1) (by decide) (by decide) (by decide) (by decide), level_rs (n := 1) (by decide) (by decide) (by decide) (by decide)⟩
    have e3 : RK _ c8 := ⟨[0], 1, 1, ⟨c7, (y9.trans xq) _ _ upd_same, (y8.trans xq) _ _ upd_same⟩, level_ok (n := 1) (by decide) (by decide) (by decide) (by decide), level_rs (n := 1) (by decide) (by decide) (by decide) (by decide)⟩
    have P7 : RP _ (.ref c3) := ⟨c3, d1, c2, rfl, (y4.trans xq) _ _ upd_same, k1, e1⟩
    have P8 : RP _ (.ref c6) := ⟨c6, c5, d1, rfl, (y7.trans xq) _ _ upd_same, e2, k1⟩
    have P9 : RP _ (.ref c9) := ⟨c9, c8, d1, rfl, (xW.trans xq) _ _ upd_same, e3, k1⟩
    have tbM := tbL.ext yy
    have DM := DL.same yy
    have P1 := P1.same yy
    have P2 := P2.same yy
    have P3 := P3.same yy
    have P4 := P4.same yy
    have P5 := P5.same yy
    have P6 := P6.same yy
    clear k1 k2 kS kL e1 e2 e3
    have hq : upd (upd (upd (upd (upd (upd (upd (upd (upd (upd (upd HL c1 (.tup [.int 0])) c2 (.tup [.ref c1, .int 1, .int 1])) c3 (.tup [.ref d1, .ref c2])) c4 (.tup [.int 5])) c5 (.tup [.ref c4, .int 1, .int 0])) c6 (.tup [.ref c5, .ref d1])) c7 (.tup [.int 0])) c8 (.tup [.ref c7, .int 1, .int 1])) c9 (.tup [.ref c8, .ref d1])) W (.lst [.ref c3, .ref c6, .ref c9])) q (.lst ([.ref b1, .ref b2, .ref b3, .ref b4, .ref b5, .ref b6] ++ [.ref c3, .ref c6, .ref c9])) q = some (.lst [.ref b1, .ref b2, .ref b3, .ref b4, .ref b5, .ref b6, .ref c3, .ref c6, .ref c9]) := upd_same
    generalize upd (upd (upd (upd (upd (upd (upd (upd (upd (upd (upd HL c1 (.tup [.int 0])) c2 (.tup [.ref c1, .int 1, .int 1])) c3 (.tup [.ref d1, .ref c2])) c4 (.tup [.int 5])) c5 (.tup [.ref c4, .int 1, .int 0])) c6 (.tup [.ref c5, .ref d1])) c7 (.tup [.int 0])) c8 (.tup [.ref c7, .int 1, .int 1])) c9 (.tup [.ref c8, .ref d1])) W (.lst [.ref c3, .ref c6, .ref c9])) q (.lst ([.ref b1, .ref b2, .ref b3, .ref b4, .ref b5, .ref b6] ++ [.ref c3, .ref c6, .ref c9])) = HM at tbM DM hq P1 P2 P3 P4 P5 P6 P7 P8 P9 ⊢
    clear y1 y2 y3 y4 y5 y6 y7 y8 y9 x1 x2 x3 x4 x5 x6 x7 x8 x9 xW xq yy nc1 nc2 nc3 nc4 nc5 nc6 nc7 nc8 nc9 nW nq
    have all : ∀ v ∈ [V.ref b1, V.ref b2, V.ref b3, V.ref b4, V.ref b5, V.ref b6, V.ref c3, V.ref c6, V.ref c9], RP HM v := by
      intro v hv
      simp only [List.mem_cons, List.not_mem_nil, or_false] at hv
      rcases hv with rfl | rfl | rfl | rfl | rfl | rfl | rfl | rfl | rfl <;> assumption
    refine ⟨q, rfl, ⟨_, SqL.of hq⟩, for_list (K := K) (a := q) (xs := [.ref b1, .ref b2, .ref b3, .ref b4, .ref b5, .ref b6, .ref c3, .ref c6, .ref c9]) (fun j σ H' => ExtN HM H' ∧ Tabs [(Pt, qLam)] H' ∧ ∃ (w12 w13 w14 w15 w16 : Option V), σ = [some (.ref a), some (.ref p), some (.int (0 + (i : Int))), some (.int lo), some (.int wi), some (.int ta), some (.ref d1), some (.ref d2), some (.int (N1 : Int)), some (.ref q1), some (.ref q2), some (.ref U), w12, w13, w14, w15, w16])
      ⟨ExtN.refl _, tbM, _, _, _, _, _, rfl⟩ (fun j σ H' _ h => SqL.of (extLst h.1 hq)) ?_ ?_⟩
    · rintro j x σ H' hx ⟨s', tb', w12, w13, w14, w15, w16, rfl⟩
      obtain ⟨qx, dx, dy, rfl, hqx, ⟨Tx, px, rx, Ax, ox, sx⟩, ⟨Ty, py, ry, Ay, oy, sy⟩⟩ := (all x (List.mem_of_getElem? hx)).ext s'
      refine ⟨_, _, rfl, SqT.of hqx, rfl, _, _, rfl, _, _, rfl, rfl, ?_⟩
      refine ⟨_, rfl, _, rfl, dx, dy, Tx, Ty, px, py, rx, ry, rfl, Ax, Ay, ox, oy, sx, sy, fun H5 e5 s5 due5 => ?_⟩
      have lx := sx.len
      have ly := sy.len
      obtain ⟨a1, a2, a3, a4⟩ := shw2 (rD_shw ox (sx.rb (by decide)) (by omega)) (rD_shw oy (sy.rb (by decide)) (by omega))
      refine ⟨_, rfl, _, rfl, (by show 2 ≤ sizeLine; decide), fun g1 ng1 => ?_⟩
      have sg := same_upd (o := .lst [.ref dx, .ref dy]) ng1
      have Bx := (Ax.same s5).same sg
      have By := (Ay.same s5).same sg
      refine ⟨g1, .list [rD Tx px rx, rD Ty py ry], rfl, .lst (SqL.of upd_same) (.cons Bx.dp (.cons By.dp .nil)), a1, a2, a3, a4, _, _, rfl, ?_⟩
      have due5 := due5.ext (ExtN.of sg)
      have tbG := (tb'.ext s5).ext sg
      generalize upd H5 g1 (.lst [.ref dx, .ref dy]) = HG at sg Bx By due5 tbG ⊢
      refine told_is XC hts tbG rfl rfl Bx By ox oy sx sy fun H6 e6 x6 tb6 due6 => ?_
      have Bx := Bx.ext x6
      have By := By.ext x6
      have due5 := due5.ext x6
      obtain ⟨D5, dp5, dd5⟩ := due5.dp (K := K)
      obtain ⟨D6, dp6, dd6⟩ := due6.dp (K := K)
      obtain rfl := dd6.one dd5
      obtain ⟨c1, c2, c3, c4⟩ := shw1 dd6.shw
      refine ⟨_, rfl, e6, D6, rfl, dp6, c1, c2, c3, c4, _, rfl, e5, D6, rfl, dp5, c1, c2, c3, c4, rfl, _, rfl, iteNP rfl ?_⟩
      refine ⟨_, rfl, _, rfl, (by show 2 ≤ sizeLine; decide), fun g4 ng4 => ?_⟩
      have sg4 := same_upd (o := .lst [.ref dx, .ref dy]) ng4
      refine ⟨g4, .list [rD Tx px rx, rD Ty py ry], rfl, .lst (SqL.of upd_same) (.cons (Bx.same sg4).dp (.cons (By.same sg4).dp .nil)), a1, a2, a3, a4, _, rfl, rfl, _, rfl, iteNP rfl ?_⟩
      exact ⟨s'.trans ((ExtN.of (s5.trans sg)).trans (x6.trans (ExtN.of sg4))), tb6.ext sg4, _, _, _, _, _, rfl⟩
    · rintro σ H' ⟨s', tb', w12, w13, w14, w15, w16, rfl⟩
      exact ⟨nC + 1 + 1 + 1, _, _, _, _, _, _, _, _, _, _, _, _, _, _, _, rfl, DM.ext s', tb', by omega, by omega⟩
  · rintro σ H2 ⟨n, v2, v3, v4, v5, v6, v7, v8, v9, v10, v11, v12, v13, v14, v15, v16, rfl, D2, tb2, n0, n1⟩
    refine ⟨(by show 1 ≤ sizeLine; decide), fun a1 na1 => ?_⟩
    have w1 := same_upd (o := .tup [.int 0]) na1
    refine ⟨a1, 40, _, rfl, rfl, upd_same, (fun z => nomatch z), by decide, by decide, (by show 1 ≤ 1000; decide), fun H3 a2 s3 ha2 => ⟨(by show 3 ≤ sizeLine; decide), fun q1 nq1 => ⟨(by show 1 ≤ sizeLine; decide), fun a3 na3 => ?_⟩⟩⟩
    rw [show Int.toNat 40 = 40 from rfl, level_tup] at ha2
    have w2 := same_upd (o := .tup [.ref a2, .int 40, .int 1]) nq1
    have w3 := same_upd (o := .tup [.int 0]) na3
    have kS : RuleAt _ q1 (List.replicate 40 0) 40 1 := ⟨a2, w3 _ _ upd_same, (w2.trans w3) _ _ ha2⟩
    have tb3 := tb2.ext (w1.trans (s3.trans (w2.trans w3)))
    have ha3 : upd (upd H3 q1 (.tup [.ref a2, .int 40, .int 1])) a3 (.tup [.int 0]) a3 = some (.tup [.int 0]) := upd_same
    generalize upd (upd H3 q1 (.tup [.ref a2, .int 40, .int 1])) a3 (.tup [.int 0]) = H4 at kS tb3 ha3 ⊢
    clear w1 w2 w3 s3 ha2 nq1 na3 na1
    refine ⟨a3, 199, _, rfl, rfl, ha3, (fun z => nomatch z), by decide, by decide, (by show 1 ≤ 1000; decide), fun H5 a4 s5 ha4 => ⟨(by show 1 ≤ sizeLine; decide), fun a5 na5 => ?_⟩⟩
    rw [show Int.toNat 199 = 199 from rfl, level_tup] at ha4
    have w5 := same_upd (o := .tup [.int 9]) na5
    refine cat_uni (w5 _ _ ha4) upd_same (by rw [List.length_map, List.length_replicate]; exact (by decide : 199 + 1 ≤ sizeLine)) fun a6 H6 s6 ha6 => ?_
    rw [step_tup] at ha6
    refine ⟨(by show 3 ≤ sizeLine; decide), fun q2 nq2 => ⟨(by show 2 ≤ sizeLine; decide), fun q3 nq3 => ⟨q3, _, rfl, SqT.of upd_same, rfl, _, _, rfl, _, _, rfl, rfl, ?_⟩⟩⟩
    have w6 := same_upd (o := .tup [.ref a6, .int 1, .int 0]) nq2
    have w7 := same_upd (o := .tup [.ref q1, .ref q2]) nq3
    have ws := s5.trans (w5.trans (s6.trans (w6.trans w7)))
    have tb7 := tb3.ext ws
    have kS := kS.same ws
    have kL : RuleAt _ q2 (stepT 199) 1 0 := ⟨a6, w7 _ _ upd_same, (w6.trans w7) _ _ ha6⟩
    generalize upd (upd H6 q2 (.tup [.ref a6, .int 1, .int 0])) q3 (.tup [.ref q1, .ref q2]) = H7 at kS kL tb7 ⊢
    clear ws w5 w6 w7 s5 s6 ha4 ha6 na5 nq2 nq3
    have oS : RuleOk (List.replicate 40 0) 40 1 := level_ok (by decide) (by decide) (by decide) (by decide)
    have bS : RS 10000000000000 (List.replicate 40 0) 40 1 := level_rs (by decide) (by decide) (by decide) (by decide)
    refine told_is XC hts tb7 rfl rfl kS kL oS (step_ok (by decide)) bS (step_rs (by decide) (by decide)) fun H8 e8 x8 tb8 due8 => ?_
    have kS := kS.ext x8
    have he : H8 e8 = some (.lst [.str "long", .int 7961]) := by
      obtain ⟨T0, p0, r0, sh, hv, rb, hd⟩ := due8
      obtain ⟨rfl, rfl, rfl⟩ := short_one sh (step_short (N := 40 * 199) (by decide)) fun x => (hv x).trans (thn_step x)
      rw [step_len] at hd
      rcases hd with h | h
      · exact absurd h.1 (by decide)
      · exact h.2
    clear due8 x8 tb8 tb7 kL
    refine ⟨_, rfl, _, _, rfl, rfl, .inl ⟨by decide, by decide⟩, _, _, rfl, rfl, (by show 2 ≤ sizeLine; decide), fun g ng => ?_⟩
    have sg := same_upd (o := .lst [.str "long", .int (199 * 40 + 1)]) ng
    have hg : upd H8 g (.lst [.str "long", .int (199 * 40 + 1)]) g = some (.lst [.str "long", .int 7961]) := upd_same
    have kS := kS.same sg
    have he := sg _ _ he
    generalize upd H8 g (.lst [.str "long", .int (199 * 40 + 1)]) = H9 at hg he kS ⊢
    refine ⟨longD 7961, longD 7961, .lst (SqL.of he) (.cons (.str _) (.cons (.int _) .nil)), .lst (SqL.of hg) (.cons (.str _) (.cons (.int _) .nil)), by decide +kernel, by decide +kernel, ?_⟩
    rw [show PyData.eqv (longD 7961) (longD 7961) = true by decide +kernel]
    refine ⟨true, rfl, iteT ?_⟩
    clear he hg sg ng
    -- the last one
    refine ⟨_, rfl, (by show 1 ≤ sizeLine; decide), fun c1 nc1 => ?_⟩
    have w1 := same_upd (o := .tup [.int 0]) nc1
    refine ⟨c1, 100, _, rfl, rfl, upd_same, (fun z => nomatch z), by decide, by decide, (by show 1 ≤ 1000; decide), fun H10 c2 s10 hc2 => ⟨(by show 1 ≤ sizeLine; decide), fun c3 nc3 => ?_⟩⟩
    rw [show Int.toNat 100 = 100 from rfl, level_tup] at hc2
    have w2 := same_upd (o := .tup [.int 9]) nc3
    refine cat_uni (w2 _ _ hc2) upd_same (by rw [List.length_map, List.length_replicate]; exact (by decide : 100 + 1 ≤ sizeLine)) fun c4 H11 s11 hc4 => ?_
    rw [step_tup] at hc4
    refine ⟨(by show 3 ≤ sizeLine; decide), fun c5 nc5 => ?_⟩
    have w5 := same_upd (o := .tup [.ref c4, .int 1, .int 0]) nc5
    refine ⟨q1, c5, List.replicate 40 0, stepT 100, 40, 1, 1, 0, rfl, kS.same (w1.trans (s10.trans (w2.trans (s11.trans w5)))), ⟨c4, upd_same, w5 _ _ hc4⟩, oS, step_ok (by decide), bS, step_rs (by decide) (by decide), fun T0 p0 r0 sh hv => ?_, fun H12 d12 T0 p0 r0 s12 R12 sh hv => ?_⟩
    · obtain ⟨rfl, rfl, rfl⟩ := short_one sh (step_short (N := 40 * 100) (by decide)) fun x => (hv x).trans (thn_step x)
      rw [step_len]
      decide
    obtain ⟨rfl, rfl, rfl⟩ := short_one sh (step_short (N := 40 * 100) (by decide)) fun x => (hv x).trans (thn_step x)
    obtain ⟨t12, hd12, ht12⟩ := R12
    have ln : ((stepT (40 * 100)).map V.int).length = 4001 := by rw [List.length_map, step_len]
    refine ⟨_, _, _, _, rfl, rfl, SqT.of hd12, atI_nat (j := 0) rfl, _, rfl, t12, _, rfl, SqT.of ht12, fun w => ?_, fun z nz => ⟨(by show 2 ≤ sizeLine; decide), fun y ny => ?_⟩⟩
    · have w1 := w.1
      rw [show (3999 : Int) = ((3999 : Nat) : Int) from rfl, HT.sIx_nat, ln] at w1
      exact absurd w1 (by decide)
    have sy := same_upd (o := .tup [.int 0, .int 9]) ny
    have hz : cutV ((stepT (40 * 100)).map V.int) (some 3999) none = [V.int 0, V.int 9] := by
      rw [show (3999 : Int) = ((3999 : Nat) : Int) from rfl, cut_from (by rw [ln]; decide)]
      exact step_drop
    rw [hz] at sy ⊢
    refine ⟨.tuple [.int 0, .int 9], .tuple [.int 0, .int 9], .tup (SqT.of (sy _ _ upd_same)) (.cons (.int _) (.cons (.int _) .nil)), .tup (SqT.of upd_same) (.cons (.int _) (.cons (.int _) .nil)), by decide +kernel, by decide +kernel, ?_⟩
    rw [show PyData.eqv (.tuple [.int 0, .int 9]) (.tuple [.int 0, .int 9]) = true by decide +kernel]
    exact kk _
end
end Sm

set_option Elab.async false
set_option linter.all false
set_option maxRecDepth 100000
set_option maxHeartbeats 16000000
namespace Sm
open PySem PySem.Spec PyProof.Rows L2 LamX
theorem all_mk {l : PySem.W.OpenLaw} {w : World} {K : PySem.W.Frag} {h : Heap} {mg : Str → Option Value} {fa : Addr} (X : K.In h) (G : h.Ns mainGlobals mg) (hfa : mg "law" = some (.ref fa)) (own : LamX.OwnTab K fa h) {cL : Addr}
    {F_shortest : Addr} {od_shortest an_shortest : Option Addr} {sl_shortest : Array (Option Value)} {oc_shortest kV_shortest dc_shortest pm_shortest cd_shortest ct_shortest : Value} (a_shortest : PySem.W.nsIn K mainGlobals "shortest" = some (some (.ref F_shortest))) (l_shortest : K.lookup F_shortest = some ⟨oc_shortest, od_shortest, .func (PySem.W.fnOf "shortest" "shortest" (defArgs s_shortest) (defBody s_shortest) (defScope s_shortest) .none kV_shortest dc_shortest pm_shortest an_shortest cd_shortest ct_shortest), sl_shortest⟩) (c_shortest : PySem.W.codeIn K cd_shortest "shortest" = true) (k_shortest : PySem.W.keepIn K (.ref F_shortest) = true)
    {F_cycle_of : Addr} {od_cycle_of an_cycle_of : Option Addr} {sl_cycle_of : Array (Option Value)} {oc_cycle_of kV_cycle_of dc_cycle_of pm_cycle_of cd_cycle_of ct_cycle_of : Value} (a_cycle_of : PySem.W.nsIn K mainGlobals "cycle_of" = some (some (.ref F_cycle_of))) (l_cycle_of : K.lookup F_cycle_of = some ⟨oc_cycle_of, od_cycle_of, .func (PySem.W.fnOf "cycle_of" "cycle_of" (defArgs s_cycle_of) (defBody s_cycle_of) (defScope s_cycle_of) .none kV_cycle_of dc_cycle_of pm_cycle_of an_cycle_of cd_cycle_of ct_cycle_of), sl_cycle_of⟩) (c_cycle_of : PySem.W.codeIn K cd_cycle_of "cycle_of" = true) (k_cycle_of : PySem.W.keepIn K (.ref F_cycle_of) = true)
    {F_told : Addr} {od_told an_told : Option Addr} {sl_told : Array (Option Value)} {oc_told kV_told dc_told pm_told cd_told ct_told : Value} (a_told : PySem.W.nsIn K mainGlobals "told" = some (some (.ref F_told))) (l_told : K.lookup F_told = some ⟨oc_told, od_told, .func (PySem.W.fnOf "told" "told" (defArgs s_told) (defBody s_told) (defScope s_told) .none kV_told dc_told pm_told an_told cd_told ct_told), sl_told⟩) (c_told : PySem.W.codeIn K cd_told "told" = true) (k_told : PySem.W.keepIn K (.ref F_told) = true)
    {F_check_told : Addr} {od_check_told an_check_told : Option Addr} {sl_check_told : Array (Option Value)} {oc_check_told kV_check_told dc_check_told pm_check_told cd_check_told ct_check_told : Value} (a_check_told : PySem.W.nsIn K mainGlobals "check_told" = some (some (.ref F_check_told))) (l_check_told : K.lookup F_check_told = some ⟨oc_check_told, od_check_told, .func (PySem.W.fnOf "check_told" "check_told" (defArgs s_check_told) (defBody s_check_told) (defScope s_check_told) .none kV_check_told dc_check_told pm_check_told an_check_told cd_check_told ct_check_told), sl_check_told⟩) (c_check_told : PySem.W.codeIn K cd_check_told "check_told" = true) (k_check_told : PySem.W.keepIn K (.ref F_check_told) = true)
    {F_value_of : Addr} {od_value_of an_value_of : Option Addr} {sl_value_of : Array (Option Value)} {oc_value_of kV_value_of dc_value_of pm_value_of cd_value_of ct_value_of : Value} (a_value_of : PySem.W.nsIn K mainGlobals "value_of" = some (some (.ref F_value_of))) (l_value_of : K.lookup F_value_of = some ⟨oc_value_of, od_value_of, .func (PySem.W.fnOf "value_of" "value_of" (defArgs s_value_of) (defBody s_value_of) (defScope s_value_of) .none kV_value_of dc_value_of pm_value_of an_value_of cd_value_of ct_value_of), sl_value_of⟩) (c_value_of : PySem.W.codeIn K cd_value_of "value_of" = true) (k_value_of : PySem.W.keepIn K (.ref F_value_of) = true)
    {F_values_to : Addr} {od_values_to an_values_to : Option Addr} {sl_values_to : Array (Option Value)} {oc_values_to kV_values_to dc_values_to pm_values_to cd_values_to ct_values_to : Value} (a_values_to : PySem.W.nsIn K mainGlobals "values_to" = some (some (.ref F_values_to))) (l_values_to : K.lookup F_values_to = some ⟨oc_values_to, od_values_to, .func (PySem.W.fnOf "values_to" "values_to" (defArgs s_values_to) (defBody s_values_to) (defScope s_values_to) .none kV_values_to dc_values_to pm_values_to an_values_to cd_values_to ct_values_to), sl_values_to⟩) (c_values_to : PySem.W.codeIn K cd_values_to "values_to" = true) (k_values_to : PySem.W.keepIn K (.ref F_values_to) = true)
    {F_least_for : Addr} {od_least_for an_least_for : Option Addr} {sl_least_for : Array (Option Value)} {oc_least_for kV_least_for dc_least_for pm_least_for cd_least_for ct_least_for : Value} (a_least_for : PySem.W.nsIn K mainGlobals "least_for" = some (some (.ref F_least_for))) (l_least_for : K.lookup F_least_for = some ⟨oc_least_for, od_least_for, .func (PySem.W.fnOf "least_for" "least_for" (defArgs s_least_for) (defBody s_least_for) (defScope s_least_for) .none kV_least_for dc_least_for pm_least_for an_least_for cd_least_for ct_least_for), sl_least_for⟩) (c_least_for : PySem.W.codeIn K cd_least_for "least_for" = true) (k_least_for : PySem.W.keepIn K (.ref F_least_for) = true)
    {F_first_place : Addr} {od_first_place an_first_place : Option Addr} {sl_first_place : Array (Option Value)} {oc_first_place kV_first_place dc_first_place pm_first_place cd_first_place ct_first_place : Value} (a_first_place : PySem.W.nsIn K mainGlobals "first_place" = some (some (.ref F_first_place))) (l_first_place : K.lookup F_first_place = some ⟨oc_first_place, od_first_place, .func (PySem.W.fnOf "first_place" "first_place" (defArgs s_first_place) (defBody s_first_place) (defScope s_first_place) .none kV_first_place dc_first_place pm_first_place an_first_place cd_first_place ct_first_place), sl_first_place⟩) (c_first_place : PySem.W.codeIn K cd_first_place "first_place" = true) (k_first_place : PySem.W.keepIn K (.ref F_first_place) = true)
    {F_begin_of : Addr} {od_begin_of an_begin_of : Option Addr} {sl_begin_of : Array (Option Value)} {oc_begin_of kV_begin_of dc_begin_of pm_begin_of cd_begin_of ct_begin_of : Value} (a_begin_of : PySem.W.nsIn K mainGlobals "begin_of" = some (some (.ref F_begin_of))) (l_begin_of : K.lookup F_begin_of = some ⟨oc_begin_of, od_begin_of, .func (PySem.W.fnOf "begin_of" "begin_of" (defArgs s_begin_of) (defBody s_begin_of) (defScope s_begin_of) .none kV_begin_of dc_begin_of pm_begin_of an_begin_of cd_begin_of ct_begin_of), sl_begin_of⟩) (c_begin_of : PySem.W.codeIn K cd_begin_of "begin_of" = true) (k_begin_of : PySem.W.keepIn K (.ref F_begin_of) = true)
    {F_then_rule : Addr} {od_then_rule an_then_rule : Option Addr} {sl_then_rule : Array (Option Value)} {oc_then_rule kV_then_rule dc_then_rule pm_then_rule cd_then_rule ct_then_rule : Value} (a_then_rule : PySem.W.nsIn K mainGlobals "then_rule" = some (some (.ref F_then_rule))) (l_then_rule : K.lookup F_then_rule = some ⟨oc_then_rule, od_then_rule, .func (PySem.W.fnOf "then_rule" "then_rule" (defArgs s_then_rule) (defBody s_then_rule) (defScope s_then_rule) .none kV_then_rule dc_then_rule pm_then_rule an_then_rule cd_then_rule ct_then_rule), sl_then_rule⟩) (c_then_rule : PySem.W.codeIn K cd_then_rule "then_rule" = true) (k_then_rule : PySem.W.keepIn K (.ref F_then_rule) = true)
    {F_l_deck : Addr} {od_l_deck an_l_deck : Option Addr} {sl_l_deck : Array (Option Value)} {oc_l_deck kV_l_deck dc_l_deck pm_l_deck cd_l_deck ct_l_deck : Value} (a_l_deck : PySem.W.nsIn K mainGlobals "_law_deck" = some (some (.ref F_l_deck))) (l_l_deck : K.lookup F_l_deck = some ⟨oc_l_deck, od_l_deck, .func (PySem.W.fnOf "_law_deck" "_law_deck" (defArgs s_l_deck) (defBody s_l_deck) (defScope s_l_deck) .none kV_l_deck dc_l_deck pm_l_deck an_l_deck cd_l_deck ct_l_deck), sl_l_deck⟩) (c_l_deck : PySem.W.codeIn K cd_l_deck "_law_deck" = true) (k_l_deck : PySem.W.keepIn K (.ref F_l_deck) = true)
    {F_l_draw : Addr} {od_l_draw an_l_draw : Option Addr} {sl_l_draw : Array (Option Value)} {oc_l_draw kV_l_draw dc_l_draw pm_l_draw cd_l_draw ct_l_draw : Value} (a_l_draw : PySem.W.nsIn K mainGlobals "_law_draw" = some (some (.ref F_l_draw))) (l_l_draw : K.lookup F_l_draw = some ⟨oc_l_draw, od_l_draw, .func (PySem.W.fnOf "_law_draw" "_law_draw" (defArgs s_l_draw) (defBody s_l_draw) (defScope s_l_draw) .none kV_l_draw dc_l_draw pm_l_draw an_l_draw cd_l_draw ct_l_draw), sl_l_draw⟩) (c_l_draw : PySem.W.codeIn K cd_l_draw "_law_draw" = true) (k_l_draw : PySem.W.keepIn K (.ref F_l_draw) = true)
    {F_l_value : Addr} {od_l_value an_l_value : Option Addr} {sl_l_value : Array (Option Value)} {oc_l_value kV_l_value dc_l_value pm_l_value cd_l_value ct_l_value : Value} (a_l_value : PySem.W.nsIn K mainGlobals "_law_value" = some (some (.ref F_l_value))) (l_l_value : K.lookup F_l_value = some ⟨oc_l_value, od_l_value, .func (PySem.W.fnOf "_law_value" "_law_value" (defArgs s_l_value) (defBody s_l_value) (defScope s_l_value) .none kV_l_value dc_l_value pm_l_value an_l_value cd_l_value ct_l_value), sl_l_value⟩) (c_l_value : PySem.W.codeIn K cd_l_value "_law_value" = true) (k_l_value : PySem.W.keepIn K (.ref F_l_value) = true)
    {F_l_repeats : Addr} {od_l_repeats an_l_repeats : Option Addr} {sl_l_repeats : Array (Option Value)} {oc_l_repeats kV_l_repeats dc_l_repeats pm_l_repeats cd_l_repeats ct_l_repeats : Value} (a_l_repeats : PySem.W.nsIn K mainGlobals "_law_repeats" = some (some (.ref F_l_repeats))) (l_l_repeats : K.lookup F_l_repeats = some ⟨oc_l_repeats, od_l_repeats, .func (PySem.W.fnOf "_law_repeats" "_law_repeats" (defArgs s_l_repeats) (defBody s_l_repeats) (defScope s_l_repeats) .none kV_l_repeats dc_l_repeats pm_l_repeats an_l_repeats cd_l_repeats ct_l_repeats), sl_l_repeats⟩) (c_l_repeats : PySem.W.codeIn K cd_l_repeats "_law_repeats" = true) (k_l_repeats : PySem.W.keepIn K (.ref F_l_repeats) = true)
    {F_l_least : Addr} {od_l_least an_l_least : Option Addr} {sl_l_least : Array (Option Value)} {oc_l_least kV_l_least dc_l_least pm_l_least cd_l_least ct_l_least : Value} (a_l_least : PySem.W.nsIn K mainGlobals "_law_least" = some (some (.ref F_l_least))) (l_l_least : K.lookup F_l_least = some ⟨oc_l_least, od_l_least, .func (PySem.W.fnOf "_law_least" "_law_least" (defArgs s_l_least) (defBody s_l_least) (defScope s_l_least) .none kV_l_least dc_l_least pm_l_least an_l_least cd_l_least ct_l_least), sl_l_least⟩) (c_l_least : PySem.W.codeIn K cd_l_least "_law_least" = true) (k_l_least : PySem.W.keepIn K (.ref F_l_least) = true)
    {F_l_rule : Addr} {od_l_rule an_l_rule : Option Addr} {sl_l_rule : Array (Option Value)} {oc_l_rule kV_l_rule dc_l_rule pm_l_rule cd_l_rule ct_l_rule : Value} (a_l_rule : PySem.W.nsIn K mainGlobals "_law_rule" = some (some (.ref F_l_rule))) (l_l_rule : K.lookup F_l_rule = some ⟨oc_l_rule, od_l_rule, .func (PySem.W.fnOf "_law_rule" "_law_rule" (defArgs s_l_rule) (defBody s_l_rule) (defScope s_l_rule) .none kV_l_rule dc_l_rule pm_l_rule an_l_rule cd_l_rule ct_l_rule), sl_l_rule⟩) (c_l_rule : PySem.W.codeIn K cd_l_rule "_law_rule" = true) (k_l_rule : PySem.W.keepIn K (.ref F_l_rule) = true)
    {F_l_tried : Addr} {od_l_tried an_l_tried : Option Addr} {sl_l_tried : Array (Option Value)} {oc_l_tried kV_l_tried dc_l_tried pm_l_tried cd_l_tried ct_l_tried : Value} (a_l_tried : PySem.W.nsIn K mainGlobals "_law_tried" = some (some (.ref F_l_tried))) (l_l_tried : K.lookup F_l_tried = some ⟨oc_l_tried, od_l_tried, .func (PySem.W.fnOf "_law_tried" "_law_tried" (defArgs s_l_tried) (defBody s_l_tried) (defScope s_l_tried) .none kV_l_tried dc_l_tried pm_l_tried an_l_tried cd_l_tried ct_l_tried), sl_l_tried⟩) (c_l_tried : PySem.W.codeIn K cd_l_tried "_law_tried" = true) (k_l_tried : PySem.W.keepIn K (.ref F_l_tried) = true)
    {F_l_then : Addr} {od_l_then an_l_then : Option Addr} {sl_l_then : Array (Option Value)} {oc_l_then kV_l_then dc_l_then pm_l_then cd_l_then ct_l_then : Value} (a_l_then : PySem.W.nsIn K mainGlobals "_law_then" = some (some (.ref F_l_then))) (l_l_then : K.lookup F_l_then = some ⟨oc_l_then, od_l_then, .func (PySem.W.fnOf "_law_then" "_law_then" (defArgs s_l_then) (defBody s_l_then) (defScope s_l_then) .none kV_l_then dc_l_then pm_l_then an_l_then cd_l_then ct_l_then), sl_l_then⟩) (c_l_then : PySem.W.codeIn K cd_l_then "_law_then" = true) (k_l_then : PySem.W.keepIn K (.ref F_l_then) = true)
    {F_law : Addr} {od_law an_law : Option Addr} {sl_law : Array (Option Value)} {oc_law kV_law dc_law pm_law ct_law : Value} (a_law : PySem.W.nsIn K mainGlobals "law" = some (some (.ref F_law))) (l_law : K.lookup F_law = some ⟨oc_law, od_law, .func (PySem.W.fnOf "law" "law" (defArgs s_law) (defBody s_law) (defScope s_law) .none kV_law dc_law pm_law an_law (.ref cL) ct_law), sl_law⟩) (c_law : PySem.W.codeIn K (.ref cL) "law" = true) (k_law : PySem.W.keepIn K (.ref F_law) = true)
    {cCE cTL cBR cNS cNR fB Pt : Addr} {nm qn : Str} {Nn : Addr} {bs : List Value} {sn : List Str} {sub : List Value} {ab : Bool} {col : Option Bool} {dd : Option Addr} {m0 m1 m2 m3 m5 : Option Value} {odI anI ddL : Option Addr} {slI slL : Array (Option Value)} {vsL : Array Value} {ocI kVI dcI pmI cdI ctI eL : Value}
    (a_cCE : PySem.W.nsIn K mainGlobals "ChangeError" = some (some (.ref cCE)))
    (a_cTL : PySem.W.nsIn K mainGlobals "TooLong" = some (some (.ref cTL)))
    (a_cBR : PySem.W.nsIn K mainGlobals "BadRule" = some (some (.ref cBR)))
    (a_cNS : PySem.W.nsIn K mainGlobals "NoStart" = some (some (.ref cNS)))
    (a_cNR : PySem.W.nsIn K mainGlobals "NoRise" = some (some (.ref cNR)))
    (x_TL : K.lookup cTL = some (excClassObj nm qn cTL Nn bs [.ref cCE, .type "ValueError", .type "Exception", .type "BaseException", .type "object"] true sn sub ab col dd m0 m1 m2 m3 m5 "ValueError.__new__"))
    (f_sa : PySem.W.findIn K (.ref cTL) "__setattr__" = some (some (.builtin "object.__setattr__")))
    (f_ga : PySem.W.findIn K (.ref cTL) "__getattribute__" = some (some (.builtin "BaseException.__getattribute__")))
    (f_gg : PySem.W.findIn K (.ref cTL) "__getattr__" = some none)
    (f_no : PySem.W.findIn K (.ref cTL) "number" = some none)
    (f_iC : PySem.W.findIn K (.ref cTL) "__init__" = some (some (.ref fB)))
    (f_cl : PySem.W.findIn K (.ref cTL) "__class__" = some (some (.builtin "object.__class__")))
    (t_fB : PySem.W.typeIn K (.ref fB) = some (.type "function"))
    (t_TL : PySem.W.typeIn K (.ref cTL) = some (.type "type"))
    (k_TL : PySem.W.keepIn K (.ref cTL) = true)
    (e_TL : PySem.W.subIn K (.ref cTL) (.type "BaseException") = some true)
    (v_TL : PySem.W.subIn K (.ref cTL) (.type "ValueError") = some true)
    (s_TL : PySem.W.subIn K (.ref cTL) (.ref cTL) = some true)
    (h_TL : PySem.W.hasDictIn K cTL = true)
    (m_TL : PySem.W.mroIn K cTL (.type "object") = some true)
    (g_cl : PySem.W.specialIn K (.builtin "object.__class__") "__get__" = some (some (.builtin "getset_descriptor.__get__")))
    (t_cl : PySem.W.takesIn K (.builtin "object.__class__") = some true)
    (e_CE : PySem.W.subIn K (.ref cCE) (.type "BaseException") = some true)
    (h_CE : PySem.W.hasDictIn K cCE = true)
    (t_CE : PySem.W.typeIn K (.ref cCE) = some (.type "type"))
    (s_CE : PySem.W.subIn K (.ref cTL) (.ref cCE) = some true)
    (i_BR : PySem.W.isClsIn K cBR = true)
    (t_BR : PySem.W.typeIn K (.ref cBR) = some (.type "type"))
    (s_BR : PySem.W.subIn K (.ref cTL) (.ref cBR) = some false)
    (i_NR : PySem.W.isClsIn K cNR = true)
    (t_NR : PySem.W.typeIn K (.ref cNR) = some (.type "type"))
    (s_NR : PySem.W.subIn K (.ref cTL) (.ref cNR) = some false)
    (i_NS : PySem.W.isClsIn K cNS = true)
    (t_NS : PySem.W.typeIn K (.ref cNS) = some (.type "type"))
    (s_NS : PySem.W.subIn K (.ref cTL) (.ref cNS) = some false)
    (l_fB : K.lookup fB = some ⟨ocI, odI, .func (PySem.W.fnOf "__init__" "TooLong.__init__" (defArgs s_init) (defBody s_init) (defScope s_init) .none kVI dcI pmI anI cdI ctI), slI⟩)
    (c_fB : PySem.W.codeIn K cdI "TooLong.__init__" = true)
    (k_fB : PySem.W.keepIn K (.ref fB) = true)
    (l_cL : K.lookup cL = some ⟨eL, ddL, .fields vsL, slL⟩)
    (e_Pt : vsL[11]? = some (.ref Pt))
    (d_Pt : PySem.W.codeHdIn K cL Pt = true)
    (n_Pt : K.lookup Pt = none)
    (z_ValueError : PySem.W.nsIn K mainGlobals "ValueError" = some none)
    (z__law_call : PySem.W.nsIn K mainGlobals "_law_call" = some none)
    (z_abs : PySem.W.nsIn K mainGlobals "abs" = some none)
    (z_int : PySem.W.nsIn K mainGlobals "int" = some none)
    (z_isinstance : PySem.W.nsIn K mainGlobals "isinstance" = some none)
    (z_len : PySem.W.nsIn K mainGlobals "len" = some none)
    (z_list : PySem.W.nsIn K mainGlobals "list" = some none)
    (z_max : PySem.W.nsIn K mainGlobals "max" = some none)
    (z_range : PySem.W.nsIn K mainGlobals "range" = some none)
    (z_repr : PySem.W.nsIn K mainGlobals "repr" = some none)
    (z_tuple : PySem.W.nsIn K mainGlobals "tuple" = some none)
    (g_gcd : PySem.W.nsIn K mainGlobals "gcd" = some (some (.builtin "math.gcd")))
    {t_MAX_TOLD : Tok} (g_MAX_TOLD : PySem.W.nsIn K mainGlobals "MAX_TOLD" = some (some (.int 5000 t_MAX_TOLD))) :
    ∃ (fd : FuncData) (c Pt : Addr), h.get? Pt = some (PySem.W.tabObj #[]) ∧ K.lookup Pt = none ∧ PySem.W.codeHdIn K c Pt = true ∧ (∀ (s : Shared) (v : Value), BindsTo s fd ⟨[v], []⟩ [("_law_script", v)]) ∧ ∀ base : Heap, K.In base → base.Ns mainGlobals mg → TabB base mg c Pt → FnG l.prog w K mg base 8 fa fd ["_law_script"] (sp_law K Pt) := by
  have e := hfa.symm.trans (PySem.W.mg_of X G a_law)
  cases e
  have T : Txt mg := ⟨PySem.W.mg_none_of X G z_ValueError, PySem.W.mg_none_of X G z__law_call, PySem.W.mg_none_of X G z_abs, PySem.W.mg_none_of X G z_int, PySem.W.mg_none_of X G z_isinstance, PySem.W.mg_none_of X G z_len, PySem.W.mg_none_of X G z_list, PySem.W.mg_none_of X G z_max, PySem.W.mg_none_of X G z_range, PySem.W.mg_none_of X G z_repr, PySem.W.mg_none_of X G z_tuple, PySem.W.mg_of X G g_gcd, ⟨_, PySem.W.mg_of X G g_MAX_TOLD⟩⟩
  have XC : Txt3 K mg cCE cTL cBR cNR cNS :=
    { gChangeError := PySem.W.mg_of X G a_cCE, gTooLong := PySem.W.mg_of X G a_cTL, gBadRule := PySem.W.mg_of X G a_cBR, gNoStart := PySem.W.mg_of X G a_cNS, gNoRise := PySem.W.mg_of X G a_cNR,
      noE := f_no, xf := ⟨f_ga, f_gg, e_TL, h_TL⟩,
      ec := ⟨f_ga, f_gg, e_TL, h_TL, f_cl, g_cl, t_cl, m_TL⟩, te := PySem.W.exm_ref e_CE h_CE t_CE s_CE,
      k1 := kit_cons_false (kit_own i_BR t_BR s_BR s_TL) (kit_cons_false (kit_own i_NR t_NR s_NR s_TL) (kit_cons_false (kit_own i_NS t_NS s_NS s_TL) rfl)), k2 := kit_valerr v_TL, k3 := if_pos (beq_self_eq_true _) }
  have XL : Txl K mg cTL fB :=
    { gBadRule := PySem.W.mg_of X G a_cTL, oex := ⟨⟨nm, qn, Nn, bs, _, sn, sub, ab, col, dd, m0, m1, m2, m3, m5, x_TL, by rfl⟩, f_sa, e_TL, t_TL, k_TL⟩, noE := f_no, iC := f_iC, tI := t_fB,
      fI := ⟨_, fun_mk (st := s_init) l_fB c_fB k_fB, (fun_mk (st := s_init) l_fB c_fB k_fB).binds (ps := ["self", "number"]) fun _ _ _ _ _ _ us hl => match us, hl with | [_, _], _ => rfl⟩ }
  have D_shortest : Df K mg "shortest" s_shortest ["table", "period", "rise"] := ⟨_, _, fun_mk (st := s_shortest) l_shortest c_shortest k_shortest, PySem.W.mg_of X G a_shortest, (fun_mk (st := s_shortest) l_shortest c_shortest k_shortest).binds (ps := ["table", "period", "rise"]) fun _ _ _ _ _ _ us hl => match us, hl with | [_, _, _], _ => rfl⟩
  have D_cycle_of : Df K mg "cycle_of" s_cycle_of ["items"] := ⟨_, _, fun_mk (st := s_cycle_of) l_cycle_of c_cycle_of k_cycle_of, PySem.W.mg_of X G a_cycle_of, (fun_mk (st := s_cycle_of) l_cycle_of c_cycle_of k_cycle_of).binds (ps := ["items"]) fun _ _ _ _ _ _ us hl => match us, hl with | [_], _ => rfl⟩
  have D_told : Df K mg "told" s_told ["table", "period", "rise"] := ⟨_, _, fun_mk (st := s_told) l_told c_told k_told, PySem.W.mg_of X G a_told, (fun_mk (st := s_told) l_told c_told k_told).binds (ps := ["table", "period", "rise"]) fun _ _ _ _ _ _ us hl => match us, hl with | [_, _, _], _ => rfl⟩
  have D_check_told : Df K mg "check_told" s_check_told ["number"] := ⟨_, _, fun_mk (st := s_check_told) l_check_told c_check_told k_check_told, PySem.W.mg_of X G a_check_told, (fun_mk (st := s_check_told) l_check_told c_check_told k_check_told).binds (ps := ["number"]) fun _ _ _ _ _ _ us hl => match us, hl with | [_], _ => rfl⟩
  have D_value_of : Df K mg "value_of" s_value_of ["rule", "x"] := ⟨_, _, fun_mk (st := s_value_of) l_value_of c_value_of k_value_of, PySem.W.mg_of X G a_value_of, (fun_mk (st := s_value_of) l_value_of c_value_of k_value_of).binds (ps := ["rule", "x"]) fun _ _ _ _ _ _ us hl => match us, hl with | [_, _], _ => rfl⟩
  have D_values_to : Df K mg "values_to" s_values_to ["rule", "count"] := ⟨_, _, fun_mk (st := s_values_to) l_values_to c_values_to k_values_to, PySem.W.mg_of X G a_values_to, (fun_mk (st := s_values_to) l_values_to c_values_to k_values_to).binds (ps := ["rule", "count"]) fun _ _ _ _ _ _ us hl => match us, hl with | [_, _], _ => rfl⟩
  have D_least_for : Df K mg "least_for" s_least_for ["rule", "y"] := ⟨_, _, fun_mk (st := s_least_for) l_least_for c_least_for k_least_for, PySem.W.mg_of X G a_least_for, (fun_mk (st := s_least_for) l_least_for c_least_for k_least_for).binds (ps := ["rule", "y"]) fun _ _ _ _ _ _ us hl => match us, hl with | [_, _], _ => rfl⟩
  have D_first_place : Df K mg "first_place" s_first_place ["table", "low", "y"] := ⟨_, _, fun_mk (st := s_first_place) l_first_place c_first_place k_first_place, PySem.W.mg_of X G a_first_place, (fun_mk (st := s_first_place) l_first_place c_first_place k_first_place).binds (ps := ["table", "low", "y"]) fun _ _ _ _ _ _ us hl => match us, hl with | [_, _, _], _ => rfl⟩
  have D_begin_of : Df K mg "begin_of" s_begin_of ["rule"] := ⟨_, _, fun_mk (st := s_begin_of) l_begin_of c_begin_of k_begin_of, PySem.W.mg_of X G a_begin_of, (fun_mk (st := s_begin_of) l_begin_of c_begin_of k_begin_of).binds (ps := ["rule"]) fun _ _ _ _ _ _ us hl => match us, hl with | [_], _ => rfl⟩
  have D_then_rule : Df K mg "then_rule" s_then_rule ["first", "second"] := ⟨_, _, fun_mk (st := s_then_rule) l_then_rule c_then_rule k_then_rule, PySem.W.mg_of X G a_then_rule, (fun_mk (st := s_then_rule) l_then_rule c_then_rule k_then_rule).binds (ps := ["first", "second"]) fun _ _ _ _ _ _ us hl => match us, hl with | [_, _], _ => rfl⟩
  have D_l_deck : Df K mg "_law_deck" s_l_deck ["_law_script"] := ⟨_, _, fun_mk (st := s_l_deck) l_l_deck c_l_deck k_l_deck, PySem.W.mg_of X G a_l_deck, (fun_mk (st := s_l_deck) l_l_deck c_l_deck k_l_deck).binds (ps := ["_law_script"]) fun _ _ _ _ _ _ us hl => match us, hl with | [_], _ => rfl⟩
  have D_l_draw : Df K mg "_law_draw" s_l_draw ["_law_deck_here", "_law_many"] := ⟨_, _, fun_mk (st := s_l_draw) l_l_draw c_l_draw k_l_draw, PySem.W.mg_of X G a_l_draw, (fun_mk (st := s_l_draw) l_l_draw c_l_draw k_l_draw).binds (ps := ["_law_deck_here", "_law_many"]) fun _ _ _ _ _ _ us hl => match us, hl with | [_, _], _ => rfl⟩
  have D_l_value : Df K mg "_law_value" s_l_value ["_law_rule_here", "_law_x"] := ⟨_, _, fun_mk (st := s_l_value) l_l_value c_l_value k_l_value, PySem.W.mg_of X G a_l_value, (fun_mk (st := s_l_value) l_l_value c_l_value k_l_value).binds (ps := ["_law_rule_here", "_law_x"]) fun _ _ _ _ _ _ us hl => match us, hl with | [_, _], _ => rfl⟩
  have D_l_repeats : Df K mg "_law_repeats" s_l_repeats ["_law_rule_here", "_law_step", "_law_more"] := ⟨_, _, fun_mk (st := s_l_repeats) l_l_repeats c_l_repeats k_l_repeats, PySem.W.mg_of X G a_l_repeats, (fun_mk (st := s_l_repeats) l_l_repeats c_l_repeats k_l_repeats).binds (ps := ["_law_rule_here", "_law_step", "_law_more"]) fun _ _ _ _ _ _ us hl => match us, hl with | [_, _, _], _ => rfl⟩
  have D_l_least : Df K mg "_law_least" s_l_least ["_law_rule_here"] := ⟨_, _, fun_mk (st := s_l_least) l_l_least c_l_least k_l_least, PySem.W.mg_of X G a_l_least, (fun_mk (st := s_l_least) l_l_least c_l_least k_l_least).binds (ps := ["_law_rule_here"]) fun _ _ _ _ _ _ us hl => match us, hl with | [_], _ => rfl⟩
  have D_l_rule : Df K mg "_law_rule" s_l_rule ["_law_deck_here", "_law_long", "_law_wide", "_law_tall"] := ⟨_, _, fun_mk (st := s_l_rule) l_l_rule c_l_rule k_l_rule, PySem.W.mg_of X G a_l_rule, (fun_mk (st := s_l_rule) l_l_rule c_l_rule k_l_rule).binds (ps := ["_law_deck_here", "_law_long", "_law_wide", "_law_tall"]) fun _ _ _ _ _ _ us hl => match us, hl with | [_, _, _, _], _ => rfl⟩
  have D_l_tried : Df K mg "_law_tried" s_l_tried ["_law_call"] := ⟨_, _, fun_mk (st := s_l_tried) l_l_tried c_l_tried k_l_tried, PySem.W.mg_of X G a_l_tried, (fun_mk (st := s_l_tried) l_l_tried c_l_tried k_l_tried).binds (ps := ["_law_call"]) fun _ _ _ _ _ _ us hl => match us, hl with | [_], _ => rfl⟩
  have D_l_then : Df K mg "_law_then" s_l_then ["_law_first", "_law_second"] := ⟨_, _, fun_mk (st := s_l_then) l_l_then c_l_then k_l_then, PySem.W.mg_of X G a_l_then, (fun_mk (st := s_l_then) l_l_then c_l_then k_l_then).binds (ps := ["_law_first", "_law_second"]) fun _ _ _ _ _ _ us hl => match us, hl with | [_, _], _ => rfl⟩
  have D_law : Df K mg "law" s_law ["_law_script"] := ⟨_, _, fun_mk (st := s_law) l_law c_law k_law, PySem.W.mg_of X G a_law, (fun_mk (st := s_law) l_law c_law k_law).binds (ps := ["_law_script"]) fun _ _ _ _ _ _ us hl => match us, hl with | [_], _ => rfl⟩
  refine ⟨PySem.W.fnOf "law" "law" (defArgs s_law) (defBody s_law) (defScope s_law) .none kV_law dc_law pm_law an_law (.ref cL) ct_law, cL, Pt, own _ _ _ _ _ _ _ _ l_law rfl rfl l_cL e_Pt, n_Pt, d_Pt, fun s v => .of_eq rfl, fun base _ _ TB => ?_⟩
  have C_cycle_of : Cal l.prog w K mg base "cycle_of" ["items"] 1 (sp_cycle_of K) := ok_cycle_of T D_cycle_of
  have C_value_of : Cal l.prog w K mg base "value_of" ["rule", "x"] 1 (sp_value_of K) := ok_value_of T D_value_of
  have C_values_to : Cal l.prog w K mg base "values_to" ["rule", "count"] 1 (sp_values_to K) := ok_values_to T D_values_to
  have C_first_place : Cal l.prog w K mg base "first_place" ["table", "low", "y"] 1 (sp_first_place K) := ok_first_place T D_first_place
  have C_begin_of : Cal l.prog w K mg base "begin_of" ["rule"] 1 (sp_begin_of K) := ok_begin_of T D_begin_of
  have C_l_deck : Cal l.prog w K mg base "_law_deck" ["_law_script"] 1 (sp_l_deck K) := ok_l_deck T D_l_deck
  have C_l_draw : Cal l.prog w K mg base "_law_draw" ["_law_deck_here", "_law_many"] 1 (sp_l_draw K) := ok_l_draw T D_l_draw
  have C_l_value : Cal l.prog w K mg base "_law_value" ["_law_rule_here", "_law_x"] 1 (sp_l_value K) := ok_l_value T D_l_value
  have C_shortest : Cal l.prog w K mg base "shortest" ["table", "period", "rise"] 2 (sp_shortest K) := ok_shortest T D_shortest C_cycle_of
  have C_least_for : Cal l.prog w K mg base "least_for" ["rule", "y"] 2 (sp_least_for K) := ok_least_for T D_least_for C_first_place
  have C_l_repeats : Cal l.prog w K mg base "_law_repeats" ["_law_rule_here", "_law_step", "_law_more"] 2 (sp_l_repeats K) := ok_l_repeats T D_l_repeats C_l_value
  have X_check_told : CalX l.prog w K mg base "check_told" ["number"] 3 (sp_check_told cTL) := ok_check_told T XL D_check_told
  have C_l_least : Cal l.prog w K mg base "_law_least" ["_law_rule_here"] 3 (sp_l_least K) := ok_l_least T D_l_least C_l_value C_l_repeats
  have X_told : CalX l.prog w K mg base "told" ["table", "period", "rise"] 4 (sp_toldX cTL) := ok_told T D_told X_check_told C_shortest
  have C_l_rule : Cal l.prog w K mg base "_law_rule" ["_law_deck_here", "_law_long", "_law_wide", "_law_tall"] 4 (sp_l_rule K) := ok_l_rule T D_l_rule C_l_least C_l_draw
  have C_l_then : Cal l.prog w K mg base "_law_then" ["_law_first", "_law_second"] 4 (sp_l_then K) := ok_l_then T D_l_then C_l_least C_l_value
  have X_then_rule : CalX l.prog w K mg base "then_rule" ["first", "second"] 5 (sp_then cTL) := ok_then_rule T D_then_rule C_begin_of C_least_for C_value_of C_values_to X_told

  exact ok_lawC T XC (fun_mk (st := s_law) l_law c_law k_law) rfl TB D_l_tried X_then_rule C_l_deck C_l_draw C_l_rule C_l_then

end Sm
open PySem PySem.W PyProof.Rows in
set_option maxRecDepth 100000 in
set_option maxHeartbeats 0 in
theorem PySem.Challenge.cw_smallchange_k08_rules_one_behind_another_holds : PySem.Challenge.rw_smallchange_k08_rules_one_behind_another.Holds := by
  w_on; o_law; k_head; (case hw => w_witness2)
  k_fill
  refine Sm.walk_at_lawT (l := PySem.Challenge.rw_smallchange_k08_rules_one_behind_another) (k := 8) (x := "_law_script") (sp := Sm.sp_law) rfl rfl (by decide +kernel) ⟨rfl, by decide, by decide⟩ (fun w h Y => PySem.W.km_in_of Y) ?F (fun _ _ _ a ns hl hP hS => ⟨a, ns, rfl, hS, hl, hP, fun _ => rfl⟩)
  case F =>
    intro w mg fa h KX G hmg own
    refine' Sm.all_mk KX G hmg own ?a_shortest ?l_shortest ?c_shortest ?k_shortest ?a_cycle_of ?l_cycle_of ?c_cycle_of ?k_cycle_of ?a_told ?l_told ?c_told ?k_told ?a_check_told ?l_check_told ?c_check_told ?k_check_told ?a_value_of ?l_value_of ?c_value_of ?k_value_of ?a_values_to ?l_values_to ?c_values_to ?k_values_to ?a_least_for ?l_least_for ?c_least_for ?k_least_for ?a_first_place ?l_first_place ?c_first_place ?k_first_place ?a_begin_of ?l_begin_of ?c_begin_of ?k_begin_of ?a_then_rule ?l_then_rule ?c_then_rule ?k_then_rule ?a_l_deck ?l_l_deck ?c_l_deck ?k_l_deck ?a_l_draw ?l_l_draw ?c_l_draw ?k_l_draw ?a_l_value ?l_l_value ?c_l_value ?k_l_value ?a_l_repeats ?l_l_repeats ?c_l_repeats ?k_l_repeats ?a_l_least ?l_l_least ?c_l_least ?k_l_least ?a_l_rule ?l_l_rule ?c_l_rule ?k_l_rule ?a_l_tried ?l_l_tried ?c_l_tried ?k_l_tried ?a_l_then ?l_l_then ?c_l_then ?k_l_then ?a_law ?l_law ?c_law ?k_law ?a_cCE ?a_cTL ?a_cBR ?a_cNS ?a_cNR ?x_TL ?f_sa ?f_ga ?f_gg ?f_no ?f_iC ?f_cl ?t_fB ?t_TL ?k_TL ?e_TL ?v_TL ?s_TL ?h_TL ?m_TL ?g_cl ?t_cl ?e_CE ?h_CE ?t_CE ?s_CE ?i_BR ?t_BR ?s_BR ?i_NR ?t_NR ?s_NR ?i_NS ?t_NS ?s_NS ?l_fB ?c_fB ?k_fB ?l_cL ?e_Pt ?d_Pt ?n_Pt ?z_ValueError ?z__law_call ?z_abs ?z_int ?z_isinstance ?z_len ?z_list ?z_max ?z_range ?z_repr ?z_tuple ?g_gcd ?g_MAX_TOLD
    (case a_shortest => k_is)
    (case l_shortest => k_is)
    (case c_shortest => k_is)
    (case k_shortest => k_is)
    (case a_cycle_of => k_is)
    (case l_cycle_of => k_is)
    (case c_cycle_of => k_is)
    (case k_cycle_of => k_is)
    (case a_told => k_is)
    (case l_told => k_is)
    (case c_told => k_is)
    (case k_told => k_is)
    (case a_check_told => k_is)
    (case l_check_told => k_is)
    (case c_check_told => k_is)
    (case k_check_told => k_is)
    (case a_value_of => k_is)
    (case l_value_of => k_is)
    (case c_value_of => k_is)
    (case k_value_of => k_is)
    (case a_values_to => k_is)
    (case l_values_to => k_is)
    (case c_values_to => k_is)
    (case k_values_to => k_is)
    (case a_least_for => k_is)
    (case l_least_for => k_is)
    (case c_least_for => k_is)
    (case k_least_for => k_is)
    (case a_first_place => k_is)
    (case l_first_place => k_is)
    (case c_first_place => k_is)
    (case k_first_place => k_is)
    (case a_begin_of => k_is)
    (case l_begin_of => k_is)
    (case c_begin_of => k_is)
    (case k_begin_of => k_is)
    (case a_then_rule => k_is)
    (case l_then_rule => k_is)
    (case c_then_rule => k_is)
    (case k_then_rule => k_is)
    (case a_l_deck => k_is)
    (case l_l_deck => k_is)
    (case c_l_deck => k_is)
    (case k_l_deck => k_is)
    (case a_l_draw => k_is)
    (case l_l_draw => k_is)
    (case c_l_draw => k_is)
    (case k_l_draw => k_is)
    (case a_l_value => k_is)
    (case l_l_value => k_is)
    (case c_l_value => k_is)
    (case k_l_value => k_is)
    (case a_l_repeats => k_is)
    (case l_l_repeats => k_is)
    (case c_l_repeats => k_is)
    (case k_l_repeats => k_is)
    (case a_l_least => k_is)
    (case l_l_least => k_is)
    (case c_l_least => k_is)
    (case k_l_least => k_is)
    (case a_l_rule => k_is)
    (case l_l_rule => k_is)
    (case c_l_rule => k_is)
    (case k_l_rule => k_is)
    (case a_l_tried => k_is)
    (case l_l_tried => k_is)
    (case c_l_tried => k_is)
    (case k_l_tried => k_is)
    (case a_l_then => k_is)
    (case l_l_then => k_is)
    (case c_l_then => k_is)
    (case k_l_then => k_is)
    (case a_law => k_is)
    (case l_law => k_is)
    (case c_law => k_is)
    (case k_law => k_is)
    (case a_cCE => first | k_is | rfl | decide +kernel)
    (case a_cTL => first | k_is | rfl | decide +kernel)
    (case a_cBR => first | k_is | rfl | decide +kernel)
    (case a_cNS => first | k_is | rfl | decide +kernel)
    (case a_cNR => first | k_is | rfl | decide +kernel)
    (case x_TL => first | k_is | rfl | decide +kernel)
    (case f_sa => first | k_is | rfl | decide +kernel)
    (case f_ga => first | k_is | rfl | decide +kernel)
    (case f_gg => first | k_is | rfl | decide +kernel)
    (case f_no => first | k_is | rfl | decide +kernel)
    (case f_iC => first | k_is | rfl | decide +kernel)
    (case f_cl => first | k_is | rfl | decide +kernel)
    (case t_fB => first | k_is | rfl | decide +kernel)
    (case t_TL => first | k_is | rfl | decide +kernel)
    (case k_TL => first | k_is | rfl | decide +kernel)
    (case e_TL => first | k_is | rfl | decide +kernel)
    (case v_TL => first | k_is | rfl | decide +kernel)
    (case s_TL => first | k_is | rfl | decide +kernel)
    (case h_TL => first | k_is | rfl | decide +kernel)
    (case m_TL => first | k_is | rfl | decide +kernel)
    (case g_cl => first | k_is | rfl | decide +kernel)
    (case t_cl => first | k_is | rfl | decide +kernel)
    (case e_CE => first | k_is | rfl | decide +kernel)
    (case h_CE => first | k_is | rfl | decide +kernel)
    (case t_CE => first | k_is | rfl | decide +kernel)
    (case s_CE => first | k_is | rfl | decide +kernel)
    (case i_BR => first | k_is | rfl | decide +kernel)
    (case t_BR => first | k_is | rfl | decide +kernel)
    (case s_BR => first | k_is | rfl | decide +kernel)
    (case i_NR => first | k_is | rfl | decide +kernel)
    (case t_NR => first | k_is | rfl | decide +kernel)
    (case s_NR => first | k_is | rfl | decide +kernel)
    (case i_NS => first | k_is | rfl | decide +kernel)
    (case t_NS => first | k_is | rfl | decide +kernel)
    (case s_NS => first | k_is | rfl | decide +kernel)
    (case l_fB => first | k_is | rfl | decide +kernel)
    (case c_fB => first | k_is | rfl | decide +kernel)
    (case k_fB => first | k_is | rfl | decide +kernel)
    (case l_cL => first | k_is | rfl | decide +kernel)
    (case e_Pt => first | k_is | rfl | decide +kernel)
    (case d_Pt => first | k_is | rfl | decide +kernel)
    (case n_Pt => first | k_is | rfl | decide +kernel)
    (case z_ValueError => k_is)
    (case z__law_call => k_is)
    (case z_abs => k_is)
    (case z_int => k_is)
    (case z_isinstance => k_is)
    (case z_len => k_is)
    (case z_list => k_is)
    (case z_max => k_is)
    (case z_range => k_is)
    (case z_repr => k_is)
    (case z_tuple => k_is)
    (case g_gcd => k_is)
    (case g_MAX_TOLD => k_is)

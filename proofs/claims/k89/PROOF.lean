import PyProof.Rows.All
import Wide.All
import OpenK.AllK
import Wide.FinOn
import HandS.ForMost
import HandS.Wide
import HandS.Codes
import PyProof.ReprRoads
import HandS.Conv
import HandS.IsInst
import HandS.Style
import HandS.TupAny
import HandS.ForExc
import HandS.ExcIs
import HandS.ExcInit
import HandS.ExcField
import HandS.ExcOwn
import KE.KExcIs
import KE.KExcInit
import PyProof.ExcBaseAll.LookupError
import HandS.Lambda
import HandS.Dict
import HandS.TupMul
import PySem.Challenge.RW_smallchange_k89_reserves
set_option Elab.async false
set_option linter.all false
set_option maxRecDepth 100000
set_option maxHeartbeats 4000000
namespace Sm
open PySem PySem.Spec PyProof.Rows L2
/-! ### promises of defs where no repr is under way: as FnOk, with A's guards empty -/
structure FnG (P : Program) (w : World) (K : PySem.W.Frag) (mg : Str → Option Value) (base : Heap) (k : Nat) (f : Addr) (fd : FuncData) (ps : List Str) (sp : Sp) : Prop where
  len : ∀ vs H Q E, sp vs H Q E → vs.length = ps.length
  run : ∀ (A : Around) (outer : List Env) (s : Shared) (H : Hp) (args : Args) (us : List Value) (vs : List V) (Q : VK) (E : XK), A.guards = some [] → Room k A →
    Env0 P w K mg base A outer s H → BindsTo s fd args (ps.zip us) → Vals vs us → sp vs H Q E → codeAny (model P w) A (.call (.ref f) args) (CR CX0 outer P w H s Q E) s
section
variable {P : Program} {w : World} {K : PySem.W.Frag} {mg : Str → Option Value} {base : Heap} {k : Nat} {f : Addr} {fd : FuncData} {ps : List Str} {sp : Sp}
theorem FnG.of (F : FnOk P w K mg base CX0 k f fd ps sp) : FnG P w K mg base k f fd ps sp :=
  ⟨F.len, fun A outer s H args us vs Q E _ hr e b v h => F.run A outer s H args us vs Q E hr e b v h⟩
theorem FnG.body {x : Str} {st : Stmt} {N : List Str} (F : Fun K x x st f fd) (S : FnScope N ps (defScope st)) (len : ∀ vs H Q E, sp vs H Q E → vs.length = ps.length)
    (hb : ∀ (cdv : Value) (A : Around) (outer : List Env) (s : Shared) (H : Hp) (vs : List V) (Q : VK) (E : XK), A.guards = some [] → Room k (A.deeper (envOfC x (defScope st) s.heap.objs.size f cdv)) → sp vs H Q E →
      ∃ t, PSs (cxOf CX0 P w K mg base N x (defScope st) f cdv A outer s H E).nox (defBody st) t ∧ t { nx := fun _ H' => Q .non H', rt := Q } (start N vs) H) : FnG P w K mg base (k + 1) f fd ps sp := by
  obtain ⟨oc, od, kV, doc, pm, an, cdv, ct, osl, efd, look, code⟩ := F.ex
  subst efd
  constructor
  · exact len
  intro A outer s H args us vs Q E guard room e0 bind rel want
  have inn : K.In s.heap := e0.mod.kin.keeps fun b o e => (e0.bs b o e).1
  have nolim : s.heap.NoLimit := e0.mod.nolimit.keeps fun b o e => (e0.bs b o e).1
  refine codeAny_call_function room.depth (inn _ _ look) rfl S.co S.gen rfl (PySem.W.codeRec_of inn code) (bind _ _ _ _ ?_)
  refine wpAny_newFunctionEnv_cells S.kind ?_ ?_
  · rintro ⟨n, v⟩ there
    have := S.par n (List.of_mem_zip there).1
    cases this with
    | inl q => exact .inl q
    | inr q => exact .inr ⟨q, PySem.W.cellsFrom_some _ _ _ (.inl q)⟩
  · intro env eenv s1 laid
    subst eenv
    refine ⟨nolim.keeps laid.toInCall.keep, codeAny_func ?_⟩
    obtain ⟨t, der, goal⟩ := hb cdv A outer s H vs Q E guard (room.deeper _) want
    have I := inv_start (CX := CX0) (E := E) S room.hd e0 (len _ _ _ _ want) rel laid
    refine wpAny_mono (der.nox.run [] s1 (start N vs) H _ I goal) (fun out s' got => ?_) fun e s' got => got
    match out, got with
    | .ret u, ⟨v, σ', H', J, rv, q⟩ => exact ⟨v, H', J.os, J.bare, J.base, J.hok, rv, q⟩
    | .next, ⟨σ', H', J, q⟩ => exact ⟨V.non, H', J.os, J.bare, J.base, J.hok, rfl, q⟩
    | .brk, ⟨_, _, _, q⟩ => exact q.elim
    | .cont, ⟨_, _, _, q⟩ => exact q.elim
end
section
variable {X : Cx} {k : Nat} {f : Addr} {fd : FuncData} {ps : List Str} {sp : Sp} {x : Str} {p pos : Pos} {e : Expr} {es : List Expr} {t : TA}
theorem pe_callG (F : FnG X.prog X.w X.K X.mg X.base k f fd ps sp) (gu : X.A.guards = some []) (hr : Room k X.A) (hg : Gl X x) (hm : X.mg x = some (.ref f)) (hk : PySem.W.keepIn X.K (.ref f) = true) (hb : Binds X.K fd ps [])
    (ha : PA X (e :: es) t) (hdb : (x == ("__debug__" : Str)) = false := by decide) (he : starEach (e :: es) X.env = (false, eval e X.env) :: starEach es X.env := by rfl) (hpl : (backTo pos (starEach es X.env)).any (·.1) = false := by rfl) :
    PE X (.Call (.Name x p) (e :: es) [] pos) (tCall sp [] E0 t) := by
  constructor
  intro pins s σ H Q I want
  refine wpAny_Call_Name_kw (ld_glob I hg hm ?_ hdb)
  refine PySem.W.callWith_K (h₀ := X.base) I.ok.mod.kin hk (thn (ha.run pos pins s σ H _ I want) ?_) he hpl
  rintro us s1 ⟨vs, H1, I1, rel, q⟩
  refine ⟨I1.kIn, ?_⟩
  have q : sp vs H1 Q E0 := by
    have q : sp (vs ++ []) H1 Q E0 := q
    rw [List.append_nil] at q
    exact q
  have b := hb s1 us I1.kIn (by rw [List.append_nil, ← rel.length]; exact F.len _ _ _ _ q)
  rw [List.append_nil] at b
  refine wpAny_call (codeAny_mono (F.run X.A X.stack s1 H1 ⟨us, []⟩ us vs Q E0 gu hr I1.env0 b rel q) ?_)
  rintro (e | out) s' got
  · exact got.elim
  · match out, got with
    | .ret u, got => exact I1.after got
    | .next, got => exact got.elim
    | .brk, got => exact got.elim
    | .cont, got => exact got.elim
/-- repr of data at any depth -/
theorem call_repr_data (gu : X.A.guards = some []) (room : ∃ k, Room k X.A) : CallR X (.builtin "repr") (fun xs H Q => ∃ a d, xs = [.ref a] ∧ Dp X.K H (.ref a) d ∧ PyData.showable d = true ∧ PyData.hasDict d = false ∧ d.depth ≤ 60 ∧ d.shown.length ≤ sizeLine ∧ Q (.str d.shown) H) := by
  intro pins s σ H xs us Q I rel want
  obtain ⟨a, d, rfl, data, sh, nd, dep, len, q⟩ := want
  obtain ⟨u, rfl, ru⟩ := vals1 rel
  obtain ⟨as, reads⟩ := Dp.reads I d _ u data ru
  cases ru
  obtain ⟨k, room⟩ := room
  have un := room.un
  exact repr_of_reads' reads sh (PyData.noDict_hsm nd) gu (by omega) (fun _ _ e => e) (fun h' v tk keep => ⟨.str d.shown, H, I.kept keep, ⟨_, rfl⟩, q⟩) len
end
/-! ### the law's own call, at the caller's place -/
theorem law_at {P : Program} {w : World} {K : PySem.W.Frag} {mg mb : Str → Option Value} {k : Nat} {fa a : Addr} {fd : FuncData} {x : Str} {sp : Sp} {s₁ : Shared} {vs : List Value} {ns : List Int}
    (KX : K.In s₁.heap) (hns : s₁.heap.Ns mainGlobals mg) (hb : s₁.heap.Ns builtinsNs mb) (hbb : ∀ x : Str, x ≠ "__name__" → mb x = bootBuiltins x) (hlim : s₁.heap.NoLimit) (hg : s₁.gens = #[])
    (ha : s₁.heap.get? a = some { cls := .type "list", data := .seq vs.toArray }) (hi : IntsAre vs ns) (hl : ns.length ≤ sizeLine) (hr : Room k callerA)
    (F : ∀ base : Heap, K.In base → base.Ns mainGlobals mg → FnG P w K mg base k fa fd [x] sp) (hbind : ∀ (s : Shared) (u : Value), BindsTo s fd ⟨[u], []⟩ [(x, u)])
    (hsp : ∀ H : Hp, SqL K H a (ns.map V.int) → sp [.ref a] H (fun v _ => v = .bl true) E0) :
    codeAny (model P w) callerA (.call (.ref fa) ⟨[.ref a], []⟩) (fun r s' => r = .ok (.ret (.bool true)) ∧ OldK s₁.heap s'.heap ∧ s'.os = s₁.os ∧ AllBare s'.gens) s₁ := by
  have ivs := vals_ints hi
  -- what is tracked: the script, if the module does not hold it itself
  obtain ⟨H, seq, ok, only, free⟩ : ∃ H : Hp, SqL K H a (ns.map V.int) ∧ HOk P w H s₁.heap ∧ (∀ b u, H b = some u → b = a ∧ u = .frz { cls := .type "list", data := .seq vs.toArray } (.lst (ns.map V.int))) ∧ ∀ b u, H b = some u → K.lookup b = none := by
    cases look : K.lookup a with
    | some o =>
      have same := KX a o look
      rw [ha] at same
      injection same with same
      subst same
      have empty : ∀ {u : HO}, (none : Option HO) = some u → False := fun z => nomatch z
      refine ⟨fun _ => none, .inr ⟨_, vs.toArray, _, look, rfl, rfl, rfl, ?_, ?_⟩, fun b u z => (empty z).elim, fun b u z => (empty z).elim, fun b u z => (empty z).elim⟩
      · rw [List.size_toArray, hi.length]
        exact hl
      · simpa using ivs
    | none =>
      have at_a : ∀ b u, (fun b => if b = a then some (HO.frz { cls := .type "list", data := .seq vs.toArray } (.lst (ns.map V.int))) else none : Hp) b = some u → b = a ∧ u = .frz { cls := .type "list", data := .seq vs.toArray } (.lst (ns.map V.int)) := by
        intro b u z
        by_cases e : b = a
        · have z := (if_pos e).symm.trans z
          exact ⟨e, (Option.some.inj z).symm⟩
        · exact nomatch (if_neg e).symm.trans z
      refine ⟨_, .inl (.inr ⟨_, if_pos rfl⟩), fun b u z => ?_, at_a, fun b u z => ?_⟩
      · obtain ⟨rfl, rfl⟩ := at_a b u z
        exact ⟨ha, by rw [List.length_map]; exact hl, vs, _, ivs, ha⟩
      · rw [(at_a b u z).1]
        exact look
  have stays : ∀ {b : Addr} {o : Obj}, s₁.heap.get? b = some o → (∀ u, H b ≠ some u) → (hidT s₁.heap H).get? b = some o := fun {b o} e no => hidT_get e (by
    cases z : H b with
    | none => rfl
    | some u => exact (no u z).elim)
  have spaces : ∀ {b : Addr} {m : Str → Option Value}, s₁.heap.Ns b m → (hidT s₁.heap H).Ns b m := by
    rintro b m ⟨o, es, ep, there, data, rest⟩
    refine ⟨o, es, ep, stays there fun u z => ?_, data, rest⟩
    rw [(only b u z).1, ha] at there
    injection there with there
    subst there
    exact nomatch data
  have inn : K.In (hidT s₁.heap H) := fun b o e => stays (KX b o e) fun u z => by
    rw [free b u z] at e
    exact nomatch e
  have mod : Mod K mg (hidT s₁.heap H) := by
    obtain ⟨mc, c1, c2⟩ := hlim
    exact ⟨inn, spaces hns, ⟨mb, spaces hb, hbb⟩, mc, spaces c1, c2⟩
  have e0 : Env0 P w K mg (hidT s₁.heap H) callerA [] s₁ H := by
    refine ⟨rfl, mod, fun b o e => of_hidT e, Nat.le_of_eq (hidT_size _ _), trivial, ?_, ok, .of_eq hg⟩
    intro b q
    exact absurd q (List.not_mem_nil (a := b))
  refine codeAny_mono ((F _ inn (spaces hns)).run callerA [] s₁ H ⟨[.ref a], []⟩ [.ref a] [.ref a] _ _ rfl hr e0 (hbind s₁ (.ref a)) (.cons rfl .nil) (hsp H seq)) ?_
  rintro (e | out) s' got
  · exact got.elim
  · match out, got with
    | .next, got => exact got.elim
    | .brk, got => exact got.elim
    | .cont, got => exact got.elim
    | .ret u, ⟨v, H', os, bare, un, ok', rel, q⟩ =>
      have q : v = V.bl true := q
      subst q
      have rel : u = Value.bool true := rel
      subst rel
      refine ⟨rfl, .of_keep fun b o e => ?_, os, bare⟩
      cases z : H b with
      | none => exact un.keep b o e z (List.not_mem_nil (a := b)) (List.not_mem_nil (a := b))
      | some u =>
        obtain ⟨rfl, rfl⟩ := only b u z
        have now := (ok' _ _ (un.frzs _ _ _ z)).1
        rw [ha] at e
        injection e with e
        rw [← e]
        exact now
theorem walk_at_law {l : PySem.W.OpenLaw} {k : Nat} {q : Program} {loose : List Str} {XP : (Str → Option Value) → Heap → Prop} {YP : World → Heap → Prop} {d : DefRec} {K : Params → PySem.W.Frag} {sp : PySem.W.Frag → Sp} {x : Str}
    (hn : l.most = some 63) (hdf : d.params.defaults = []) (hr : Room k callerA) (hY : ∀ (w : World) (h : Heap), YP w h → (K w.params).In h)
    (F : ∀ (w : World) (mg : Str → Option Value) (fa : Addr) (h : Heap), (K w.params).In h → h.Ns mainGlobals mg → mg d.name = some (.ref fa) →
      ∃ fd : FuncData, (∀ (s : Shared) (u : Value), BindsTo s fd ⟨[u], []⟩ [(x, u)]) ∧ ∀ base : Heap, (K w.params).In base → base.Ns mainGlobals mg → FnG l.prog w (K w.params) mg base k fa fd [x] (sp (K w.params)))
    (hsp : ∀ (K : PySem.W.Frag) (H : Hp) (a : Addr) (ns : List Int), ns.length ≤ 63 → SqL K H a (ns.map V.int) → sp K [.ref a] H (fun v _ => v = .bl true) E0) :
    PySem.W.WalkO q loose XP YP l.row.toRowW d [] (fun f vs => PySem.call f vs) := by
  refine Att.attach_call hn hdf ?_
  intro w s₀ s₁ mg mb fa o pm cd doc a vs ns G Y ho hd hcd hmg hobj hints hlen hg
  obtain ⟨fd, bind, each⟩ := F w mg fa _ (hY w _ Y) G.T.g hmg
  exact law_at (hY w _ Y) G.T.g G.T.b G.T.builtins G.T.nolimit hg hobj hints (Nat.le_trans hlen (by decide)) hr each bind fun H sq => hsp (K w.params) H a ns hlen sq
end Sm

set_option Elab.async false
set_option linter.all false
set_option maxRecDepth 100000
set_option maxHeartbeats 4000000
namespace Sm
open PySem PySem.Spec PyProof.Rows L2
section
variable {P : Program} {w : World} {K : PySem.W.Frag} {mg : Str → Option Value} {base : Heap}
def Df (K : PySem.W.Frag) (mg : Str → Option Value) (x : Str) (st : Stmt) (ps : List Str) : Prop :=
  ∃ (f : Addr) (fd : FuncData), Fun K x x st f fd ∧ mg x = some (.ref f) ∧ Binds K fd ps []
def Cal (P : Program) (w : World) (K : PySem.W.Frag) (mg : Str → Option Value) (base : Heap) (x : Str) (ps : List Str) (k : Nat) (sp : Sp) : Prop :=
  ∃ (f : Addr) (fd : FuncData), FnOk P w K mg base CX0 k f fd ps sp ∧ mg x = some (.ref f) ∧ PySem.W.keepIn K (.ref f) = true ∧ Binds K fd ps []
theorem Df.cal {x : Str} {st : Stmt} {N ps : List Str} {k : Nat} {sp : Sp} (D : Df K mg x st ps) (S : FnScope N ps (defScope st)) (len : ∀ vs H Q E, sp vs H Q E → vs.length = ps.length)
    (hbody : ∀ (f : Addr) (cdv : Value) (A : Around) (outer : List Env) (s : Shared) (H : Hp) (vs : List V) (Q : VK) (E : XK), Room k (A.deeper (envOfC x (defScope st) s.heap.objs.size f cdv)) → sp vs H Q E →
      ∃ t, PSs (cxOf CX0 P w K mg base N x (defScope st) f cdv A outer s H E).nox (defBody st) t ∧ t { nx := fun _ H' => Q .non H', rt := Q } (start N vs) H) : Cal P w K mg base x ps (k + 1) sp := by
  obtain ⟨f, fd, F, m, b⟩ := D
  exact ⟨f, fd, F.ok S len (fun cdv A outer s H vs Q E hr h => hbody f cdv A outer s H vs Q E hr h), m, F.kp, b⟩
theorem same_upd {H : Hp} {p : Addr} {o : HO} (h : H p = none) : Same H (upd H p o) := fun b x e => by
  rw [upd_ne (ne_of_none e h)]
  exact e
theorem iteP {p A B : Prop} [Decidable p] (h : p) (a : A) : if decide p = true then A else B := by
  rw [decide_eq_true h]
  exact iteT a
theorem iteN {p A B : Prop} [Decidable p] (h : ¬ p) (b : B) : if decide p = true then A else B := by
  rw [decide_eq_false h]
  exact iteF b
theorem iteNP {p A B : Prop} [Decidable p] (h : p) (b : B) : if (!decide p) = true then A else B := by
  rw [decide_eq_true h]
  exact iteF b
theorem iteNN {p A B : Prop} [Decidable p] (h : ¬ p) (a : A) : if (!decide p) = true then A else B := by
  rw [decide_eq_false h]
  exact iteT a
theorem ite3 {p A B : Prop} [Decidable p] (h1 : p → A) (h2 : ¬ p → B) : if decide p = true then A else B := by
  by_cases h : p
  · exact iteP h (h1 h)
  · exact iteN h (h2 h)
theorem fmod_pos {a b : Int} (h : 0 < b) : a.fmod b = a % b := Int.fmod_eq_emod_of_nonneg a (by omega)
end
/-! ### the deck -/
structure Deck (H : Hp) (p l : Addr) (n : Int) : Prop where
  hp : H p = some (.lst [.ref l, .int n])
  hl : ∃ cells : List Int, H l = some (.lst (cells.map V.int)) ∧ (∀ c ∈ cells, 0 ≤ c) ∧ cells.length ≤ 63
theorem deck_ne {l : Addr} {n : Int} {cells : List Int} : HO.lst [.ref l, .int n] ≠ HO.lst (cells.map V.int) := by
  intro q
  injection q with q
  cases cells with
  | nil => cases q
  | cons c r => cases (List.cons.inj q).1
/-- all but the deck is as it was -/
def Fr (p l : Addr) (H H' : Hp) : Prop := ∀ b o, b ≠ p → b ≠ l → H b = some o → H' b = some o
theorem Fr.trans {p l : Addr} {H H1 H2 : Hp} (a : Fr p l H H1) (b : Fr p l H1 H2) : Fr p l H H2 := fun c o h1 h2 h => b c o h1 h2 (a c o h1 h2 h)
theorem Same.fr {p l : Addr} {H H' : Hp} (s : Same H H') : Fr p l H H' := fun b o _ _ h => s b o h
theorem Deck.same {H H' : Hp} {p l : Addr} {n : Int} (D : Deck H p l n) (s : Same H H') : Deck H' p l n := by
  obtain ⟨cells, hl, hc⟩ := D.hl
  exact ⟨s _ _ D.hp, cells, s _ _ hl, hc⟩
theorem Fr.tup {H H' : Hp} {p l b : Addr} {n : Int} {xs : List V} (f : Fr p l H H') (D : Deck H p l n) (h : H b = some (.tup xs)) : H' b = some (.tup xs) := by
  obtain ⟨cells, hl, hc⟩ := D.hl
  exact f b _ (ne_of h D.hp (by intro q; cases q)) (ne_of h hl (by intro q; cases q)) h
def sp_l_deck (K : PySem.W.Frag) : Sp := fun vs H Q _ => ∃ (a : Addr) (ns : List Int), vs = [.ref a] ∧ SqL K H a (ns.map V.int) ∧ ns.length ≤ 63 ∧ ∀ H' p l, Same H H' → Deck H' p l 0 → Q (.ref p) H'
def sp_l_draw (K : PySem.W.Frag) : Sp := fun vs H Q _ => ∃ (p l : Addr) (n m : Int), vs = [.ref p, .int m] ∧ Deck H p l n ∧ 0 ≤ n ∧ n ≤ 1000000 ∧ 0 < m ∧ m ≤ 1000000000000000000000000000000000000000000000000000000000000 ∧
  ∀ r H', 0 ≤ r → r < m → Fr p l H H' → Deck H' p l (n + 1) → Q (.int r) H'
def sp_l_one (K : PySem.W.Frag) : Sp := fun vs H Q _ => ∃ (p l b : Addr) (n : Int) (xs : List V), vs = [.ref p, .ref b] ∧ Deck H p l n ∧ 0 ≤ n ∧ n ≤ 1000000 ∧ H b = some (.lst xs) ∧ b ≠ p ∧ b ≠ l ∧ 0 < xs.length ∧ xs.length ≤ 1000 ∧
  ∀ x H', x ∈ xs → Fr p l H H' → Deck H' p l (n + 1) → Q x H'
theorem cut63 {ns : List Int} (h : ns.length ≤ 63) : cutV (ns.map V.int) none (some 63) = ns.map V.int := by
  unfold cutV
  rw [HT.sIx_none, show HT.sIx (ns.map V.int).length (ns.map V.int).length (some 63) = min 63 (ns.map V.int).length from HT.sIx_nat _ _ 63]
  rw [List.length_map, Nat.min_eq_right h, List.drop_zero]
  exact List.take_of_length_le (by rw [List.length_map]; omega)
def absI (n : Int) : Int := if n < 0 then -n else n
theorem absI_pos (n : Int) : 0 ≤ absI n := by
  unfold absI
  split <;> omega
theorem div_draw {c m : Int} (h0 : 0 < m) (h : m ≤ 1000000000000000000000000000000000000000000000000000000000000) : CDivW c m :=
  wide_div (b := 300) h0 (by omega) (by decide) (by decide)
theorem cut_all {xs : List V} {n : Nat} : cutV xs none (some (n : Int)) = xs.take n := by
  unfold cutV
  rw [HT.sIx_none, HT.sIx_nat, List.drop_zero, Nat.sub_zero]
  rcases Nat.le_total n xs.length with h | h
  · rw [Nat.min_eq_left h]
  · rw [Nat.min_eq_right h, List.take_length, List.take_of_length_le h]
theorem ne_new {H : Hp} {p b : Addr} {o : HO} (h : H p = some o) (n : H b = none) : b ≠ p := (ne_of_none h n).symm
/-- what the deck's second list is not -/
theorem Deck.lne {H : Hp} {p l b : Addr} {n : Int} (D : Deck H p l n) (h : H b = none) : b ≠ p ∧ b ≠ l := by
  obtain ⟨cells, hl, hc⟩ := D.hl
  exact ⟨ne_new D.hp h, ne_new hl h⟩
section
variable {X : Cx}
/-- repr of an int or None -/
theorem call_repr_some : CallR X (.builtin "repr") (fun xs H Q => (∃ i, xs = [.int i] ∧ i.natAbs.log2 < 1920 ∧ Q (.str (toString i)) H) ∨ (xs = [.non] ∧ Q (.str "None") H)) := by
  intro pins s σ H xs us Q I r h
  rcases h with ⟨i, rfl, hz, q⟩ | ⟨rfl, q⟩
  · obtain ⟨u, rfl, t, rfl⟩ := vals1 r
    exact PySem.P.repr_of_int hz ⟨.str _, H, I.tok _, ⟨_, rfl⟩, q⟩
  · obtain ⟨u, rfl, rfl⟩ := vals1 r
    exact PySem.P.repr_of_none ⟨.str _, H, I.tok _, ⟨_, rfl⟩, q⟩
def dataI (ns : List Int) : PyData := .list (ns.map PyData.int)
theorem dp_ints {K : PySem.W.Frag} {H : Hp} : ∀ ns : List Int, DpAll K H (ns.map V.int) (ns.map PyData.int)
  | [] => .nil
  | n :: ns => .cons (.int n) (dp_ints ns)
theorem showable_ints : ∀ {ns : List Int}, (∀ n ∈ ns, n.natAbs.log2 < 1920) → PyData.showableAll (ns.map PyData.int) = true
  | [], _ => rfl
  | n :: ns, h => by
    have a := h n (List.mem_cons_self ..)
    have b := showable_ints (ns := ns) fun m hm => h m (List.mem_cons_of_mem _ hm)
    simp only [List.map_cons, PyData.showableAll, PyData.showable, decide_eq_true a, b, Bool.and_self]
theorem hasDict_ints : ∀ ns : List Int, PyData.hasDictAll (ns.map PyData.int) = false
  | [] => rfl
  | n :: ns => by
    simp only [List.map_cons, PyData.hasDictAll, PyData.hasDict, hasDict_ints ns, Bool.or_self]
theorem depth_ints : ∀ ns : List Int, PyData.depthAll (ns.map PyData.int) ≤ 1
  | [] => by simp [PyData.depthAll]
  | n :: ns => by
    have := depth_ints ns
    simp only [List.map_cons, PyData.depthAll, PyData.depth]
    omega
theorem shown_ints : ∀ {ns : List Int}, (∀ n ∈ ns, n.natAbs.log2 < 1920) → ((PyData.shownAll (ns.map PyData.int)).map (·.length)).sum ≤ 1921 * ns.length ∧ (PyData.shownAll (ns.map PyData.int)).length = ns.length
  | [], _ => by simp [PyData.shownAll]
  | n :: ns, h => by
    have a := PyProof.Rows.int_text_len_1921 (h n (List.mem_cons_self ..))
    obtain ⟨b, c⟩ := shown_ints (ns := ns) fun m hm => h m (List.mem_cons_of_mem _ hm)
    simp only [List.map_cons, PyData.shownAll, PyData.shown, List.sum_cons, List.length_cons]
    omega
/-- repr of a list of ints -/
theorem call_repr_ints (gu : X.A.guards = some []) (room : ∃ k, Room k X.A) : CallR X (.builtin "repr") (fun xs H Q => ∃ a ns, xs = [.ref a] ∧ SqL X.K H a (ns.map V.int) ∧ ns.length ≤ 5000 ∧ (∀ n ∈ ns, n.natAbs.log2 < 1920) ∧ Q (.str (dataI ns).shown) H) := by
  intro pins s σ H xs us Q I r h
  obtain ⟨a, ns, rfl, hS, len, small, q⟩ := h
  refine call_repr_data gu room pins s σ H _ us Q I r ⟨a, dataI ns, rfl, .lst hS (dp_ints ns), ?_, ?_, ?_, ?_, q⟩
  · unfold dataI
    simp only [PyData.showable, showable_ints small]
  · unfold dataI
    simp only [PyData.hasDict, hasDict_ints]
  · have := depth_ints ns
    unfold dataI
    simp only [PyData.depth]
    omega
  · obtain ⟨s1, s2⟩ := shown_ints small
    have := listText_len_le (PyData.shownAll (ns.map PyData.int))
    unfold dataI
    simp only [PyData.shown]
    rw [sizeLine_eq]
    omega
end
end Sm

set_option Elab.async false
set_option linter.all false
set_option maxRecDepth 100000
set_option maxHeartbeats 4000000
namespace Sm
open PySem PySem.Spec PyProof.Rows L2
/-- isinstance of the exception that the suite holds, with its dict: one class, or a tuple of classes just laid -/
def rIsX (K : PySem.W.Frag) (cls : Value) (d : Option Addr) (a : Addr) : List V → Hp → VK → Prop := fun xs H Q => ∃ (D dd : Addr) (fs : List (Str × V)), cls = .ref D ∧ d = some dd ∧ H dd = some (.xd fs) ∧ ExcC K D ∧
  ((∃ (c : V) (cv : Value) (b : Bool), xs = [.ref a, c] ∧ ClsV c cv ∧ PySem.W.kitOne K (.ref D) cv = some b ∧ Q (.bl b) H) ∨
   ∃ (tp : Addr) (cs : List V) (us : List Value) (b : Bool), xs = [.ref a, .ref tp] ∧ H tp = some (.tup cs) ∧ Paired ClsV cs us ∧ PySem.W.kitAny K (.ref D) us = some b ∧ Q (.bl b) H)
theorem call_isX {X : Cx} {a : Addr} {cls : Value} {d : Option Addr} {oe : Obj} {pn : List (Addr × Obj)} (hz : Zc cls d oe) (hf : ∃ vs, oe.data = .fields vs) : CallR (X.suite a ((a, oe) :: pn)) (.builtin "isinstance") (rIsX X.K cls d a) := by
  intro pins s σ H xs us Q I r h
  obtain ⟨D, dd, fs, rfl, rfl, ea, C, h⟩ := h
  obtain ⟨ha, _⟩ := I.pin (a, oe) (List.mem_append_left _ List.mem_cons_self)
  obtain ⟨vs, hd⟩ := hf
  have hx : ObjOk X.prog X.w H s.heap dd (.xd fs) := I.hok dd _ ea
  obtain ⟨mA, hns, hr⟩ := hx
  obtain ⟨od, ho, hl⟩ := lookIn_ns hns
  have J : PySem.W.InstAt s.heap a oe D (some od) := ⟨ha, hz.1, by unfold PySem.W.notCls; rw [hd] <;> rfl, by rw [hz.2]; exact ho⟩
  obtain ⟨cd, hc, _⟩ := PySem.W.any_some C.hd
  have Z := PySem.W.kitx_exc (x := a) (ox := oe) (od := some od) (by rw [hc]; rfl) C.hg C.hk C.hs C.ha C.hn C.ht C.hm
  rcases h with ⟨c, cv, b, rfl, k, e, q⟩ | ⟨tp, cs, ws, b, rfl, hT, k, e, q⟩
  · obtain ⟨u1, u2, rfl, r1, r2⟩ := vals2 r
    cases (show u1 = Value.ref a from r1)
    cases k.eq r2
    exact PySem.W.kia_one Z I.kIn J e (fun z => nomatch z) fun tk => ⟨.bl b, H, I.kept (t' := tk) fun _ _ z => z, rfl, q⟩
  · obtain ⟨u1, u2, rfl, r1, r2⟩ := vals2 r
    cases (show u1 = Value.ref a from r1)
    cases (show u2 = Value.ref tp from r2)
    obtain ⟨_, its, rv, o, h1, h2, n, h3⟩ := (show ObjOk X.prog X.w H s.heap tp (.tup cs) from I.hok tp _ hT)
    have e3 := ClsV.all k rv
    subst e3
    obtain ⟨oc, od', dt, sl⟩ := o
    simp only at h2 h3
    subst h2 h3
    exact PySem.W.kia_tup Z I.kIn J h1 e (fun z => nomatch z) fun tk => ⟨.bl b, H, I.kept (t' := tk) fun _ _ z => z, rfl, q⟩
theorem kit_own {K : PySem.W.Frag} {D C : Addr} {b : Bool} (h1 : PySem.W.isClsIn K C = true) (h2 : PySem.W.typeIn K (.ref C) = some (.type "type")) (h3 : PySem.W.subIn K (.ref D) (.ref C) = some b) (h4 : PySem.W.subIn K (.ref D) (.ref D) = some true) : PySem.W.kitOne K (.ref D) (.ref C) = some b := by
  unfold PySem.W.kitOne
  by_cases e : D = C
  · subst e
    rw [h4] at h3
    rw [if_pos (beq_self_eq_true _)]
    exact h3
  · rw [if_neg (fun q => e (Value.ref.inj (beq_iff_eq.mp q)))]
    have h1' : (PySem.W.clsIn K C).isSome = true := h1
    have z : ((PySem.W.clsIn K C).isSome && PySem.W.typeIn K (.ref C) == some (.type "type")) = true := by rw [h1', h2] <;> rfl
    show (if ((PySem.W.clsIn K C).isSome && PySem.W.typeIn K (.ref C) == some (.type "type")) = true then PySem.W.subIn K (.ref D) (.ref C) else none) = some b
    rw [if_pos z]
    exact h3
theorem kit_valerr {K : PySem.W.Frag} {D : Addr} {b : Bool} (h : PySem.W.subIn K (.ref D) (.type "ValueError") = some b) : PySem.W.kitOne K (.ref D) (.type "ValueError") = some b := by
  have q : ((Value.ref D) == (Value.type "ValueError")) = false := beq_eq_false_iff_ne.mpr fun z => nomatch z
  unfold PySem.W.kitOne
  rw [if_neg (by rw [q]; exact Bool.false_ne_true)]
  show (if PySem.W.kitMeta "ValueError" = true then PySem.W.subIn K (.ref D) (.type "ValueError") else none) = some b
  rw [if_pos (by decide +kernel)]
  exact h
theorem kit_cons_false {K : PySem.W.Frag} {t c : Value} {cs : List Value} {b : Bool} (h : PySem.W.kitOne K t c = some false) (hr : PySem.W.kitAny K t cs = some b) : PySem.W.kitAny K t (c :: cs) = some b := by
  unfold PySem.W.kitAny
  rw [h]
  exact hr
/-- an own exception class with one field, made by its own __init__ -/
structure XcTxt (K : PySem.W.Frag) (mg : Str → Option Value) (nm fl : Str) (C fI : Addr) : Prop where
  g : mg nm = some (.ref C)
  oex : OexC K C
  no : PySem.W.findIn K (.ref C) fl = some none
  iC : PySem.W.findIn K (.ref C) "__init__" = some (some (.ref fI))
  tI : PySem.W.typeIn K (.ref fI) = some (.type "function")
  xf : XfC K C
  ec : ExcC K C
/-- C(e), told plainly: the new exception's dict holds the field -/
def tMkF (C : Addr) (fl : Str) (ta : TA) : L2.St → Hp → XK → Prop := fun σ H Q => ta σ H fun vs H1 => ∃ v, vs = [v] ∧ ∀ d, H1 d = none → Q (.ref C) (some d) (upd H1 d (.xd [(fl, v)]))
def sp_init (K : PySem.W.Frag) (fl : Str) : Sp := fun vs H Q _ => ∃ (a C : Addr) (v : V), vs = [.ref a, v] ∧ OexC K C ∧ PySem.W.findIn K (.ref C) fl = some none ∧ H a = some (exo a C none) ∧ ∀ dx, H dx = none → dx ≠ a → Q .non (upd (upd H dx (exd dx [(fl, v)])) a (exo a C (some dx)))
theorem xc_mk {C : Addr} {fl : Str} {K : PySem.W.Frag} {ta : TA} {σ : L2.St} {H : Hp} {Q : XK} (T : OexC K C) (no : PySem.W.findIn K (.ref C) fl = some none)
    (h : ta σ H fun vs H1 => ∃ v, vs = [v] ∧ ∀ d H2, Same H1 H2 → H2 d = some (.xd [(fl, v)]) → Q (.ref C) (some d) H2) (mono : ∀ {A B : List V → Hp → Prop}, (∀ vs H1, A vs H1 → B vs H1) → ta σ H A → ta σ H B) : tMkO C (sp_init K fl) [] ta σ H Q := by
  refine mono ?_ h
  rintro vs H1 ⟨v, rfl, k⟩
  refine ⟨by show 1 ≤ 1000; decide, fun a na => ⟨a, C, v, rfl, T, no, upd_same, fun dx nd da => ⟨rfl, dx, [(fl, v)], upd_same, ?_, ?_, ?_⟩⟩⟩
  · rw [upd_ne da, upd_same]
  · rw [upd_ne da] at nd
    exact nd
  · have nd1 : H1 dx = none := by
      rw [upd_ne da] at nd
      exact nd
    refine k dx _ (fun b o hb => ?_) upd_same
    rw [upd_ne (ne_of_none hb nd1), del_ne (ne_of_none hb na), upd_ne (ne_of_none hb na), upd_ne (ne_of_none hb nd1), upd_ne (ne_of_none hb na)]
    exact hb
end Sm

set_option Elab.async false
set_option linter.all false
set_option maxRecDepth 100000
set_option maxHeartbeats 4000000
namespace Sm
open PySem PySem.Spec PyProof.Rows L2
/-! ### own exception classes over LookupError, whose __init__ stores one field -/
abbrev luTail : List Value := [.type "LookupError", .type "Exception", .type "BaseException", .type "object"]
/-- what the written part says of such a class -/
structure OexL (K : PySem.W.Frag) (C : Addr) : Prop where
  obj : ∃ nm q N bs bm sn sub ab col dd k0 k1 k2 k3 k5, K.lookup C = some (excClassObj nm q C N bs bm true sn sub ab col dd k0 k1 k2 k3 k5 "LookupError.__new__") ∧ PySem.W.excTail luTail bm = true
  facts : PySem.W.findIn K (.ref C) "__setattr__" = some (some (.builtin "object.__setattr__")) ∧ PySem.W.subIn K (.ref C) (.type "BaseException") = some true ∧ PySem.W.typeIn K (.ref C) = some (.type "type") ∧ PySem.W.keepIn K (.ref C) = true
section
open Builtin Builtin.ObjectAttr
variable {prog : Program} {w : World} {A : Around} {hp : Heap} {g : Array GenState} {dw : Drawn} {t : Nat} {os : OsState} {R : Result → Shared → Prop}
/-- object.__setattr__(x, name, v), x an exception without a dict whose class stands over a built-in one -/
theorem lu_store {K : PySem.W.Frag} {B : String} {bmB : List Value} {name : Str} {tk : Tok} {v : Value} {x C : Addr} {fv : Array Value} {cd : ClassData} (SF : StoreFacts B bmB "object.__setattr__" "object")
    (kin : K.In hp) (there : hp.get? x = some { cls := .ref C, data := .fields fv }) (known : PySem.W.clsIn K C = some cd) (over : PySem.W.excOver K C bmB = true) (dict : cd.hasDict = true) (no : PySem.W.findIn K (.ref C) name = some none)
    (told : ∀ h' tk' dx, (∀ b o, b ≠ x → hp.get? b = some o → h'.get? b = some o) → hp.objs.size ≤ dx → dx ≠ x → h'.get? x = some { cls := .ref C, dict := some dx, data := .fields fv } → h'.Ns1 dx (fun y => if y = name then some v else none) → R (.ok (.ret .none)) ⟨h', g, dw, tk', os⟩) :
    codeAny (model prog w) A (.call (.builtin "object.__setattr__") ⟨[.ref x, .str name tk, v], []⟩) R ⟨hp, g, dw, t, os⟩ := by
  have at_ : PySem.W.InstAt hp x { cls := .ref C, data := .fields fv } C none := ⟨there, rfl, rfl, trivial⟩
  have taker : PySem.W.takerIn K C name = some none := by unfold PySem.W.takerIn; rw [no]; rfl
  refine PySem.W.osa_openX (s := ⟨hp, g, dw, t, os⟩) SF kin at_ over taker fun b => ?_
  have apart : x ≠ hp.objs.size := Nat.ne_of_lt (Heap.lt_size there)
  have kls : PySem.W.Looks (model prog w) hp (classData C) cd := PySem.W.looks_clsIn kin known
  show wpAny _ _ (storeInOwnDict (.ref x) (.ref C) (.str name tk) name v b) _ _ _
  obtain ⟨n1, n2, n3, n4, n5, hd, n6, n7, n8, n9, n10⟩ := cd
  dsimp only at dict
  subst dict
  unfold storeInOwnDict ownDictForStores
  repeat (first | with_reducible refine PySem.HandSPX.store_in_new ?_ ?_ | with_reducible refine wpAny_loadPart_at there ?_ | with_reducible refine kls.at ?_ | wp_step)
  · exact ⟨_, #[], _, (Heap.get?_update_ne _ _ _ _ apart.symm).trans (Heap.get?_push_at rfl rfl), rfl, fun e he => absurd he (by simp), fun _ => rfl⟩
  · intro h' tk' names same
    have on : (hp.push { cls := .type "dict", data := .dict #[] }).get? x = some { cls := .ref C, data := .fields fv } := Heap.get?_push_of_some _ there
    refine told h' tk' hp.objs.size (fun b o hb ho => (same.2 b (Nat.ne_of_lt (Heap.lt_size ho))).trans ((Heap.get?_update_ne _ _ _ _ hb).trans (Heap.get?_push_of_some _ ho))) (Nat.le_refl _) apart.symm ((same.2 x apart).trans (Heap.get?_update_self _ on rfl)) names
end
/-- the abstract heap once the first field of the exception at a stands in its new dict at dx -/
theorem lu_un {fs : List Addr} {H : Hp} {hp h' : Heap} {a C dx : Addr} {f : Str} {y : V} (ea : H a = some (exo a C none)) (dn : hp.objs.size ≤ dx) (nd : H dx = none) (there : ∃ o, h'.get? a = some o)
    (keep : ∀ b o, b ≠ a → hp.get? b = some o → h'.get? b = some o) : Un fs [] H (upd (upd H dx (exd dx [(f, y)])) a (exo a C (some dx))) hp h' := by
  have other : ∀ {b : Addr}, H b = none → b ≠ a := fun {b} n z => by rw [z, ea] at n; cases n
  have young : ∀ {b : Addr} {o : Obj}, hp.get? b = some o → b ≠ dx := fun {b o} q => Nat.ne_of_lt (Nat.lt_of_lt_of_le (Heap.lt_size q) dn)
  constructor
  · intro b o q n _ _
    exact keep b o (other n) q
  · intro b o q n _ _
    exact ⟨o.slots, keep b o (other n) q⟩
  · intro b o q n _
    rw [upd_ne (other n), upd_ne (young q)]
    exact n
  · intro b o q _
    by_cases hb : b = a
    · subst hb; exact there
    · exact ⟨o, keep b o hb q⟩
  · intro b xs q
    rw [upd_ne (at_ne ea q exo_tup), upd_ne (ne_of_none q nd)]; exact q
  · intro b o v q
    rw [upd_ne (at_ne ea q exo_frz), upd_ne (ne_of_none q nd)]; exact q
  · intro b ps q
    exact ⟨#[], by rw [upd_ne (at_ne ea q exo_tbl), upd_ne (ne_of_none q nd), q]; simp⟩
section
variable {X : Cx} {pins : List (Addr × Obj)} {σ : L2.St} {H : Hp} {s : Shared} {a C : Addr} {f : Str} {y : V} {u : Value} {Q : Unit → Shared → Prop} {E : Value → Shared → Prop} {A : Around}
theorem lu_cls {K : PySem.W.Frag} {C : Addr} (T : OexL K C) : ∃ cd, PySem.W.clsIn K C = some cd ∧ cd.hasDict = true ∧ PySem.W.excOver K C luTail = true := by
  obtain ⟨nm, q, N, bs, bm, sn, sub, ab, col, dd, k0, k1, k2, k3, k5, hC, hbm⟩ := T.obj
  have known : PySem.W.clsIn K C = some { name := nm, bases := bs, mro := .ref C :: bm, ns := N, qualname := q, hasDict := true, slotNames := sn, subclasses := sub, abstract := ab, collection := col, hasDel := false } := by unfold PySem.W.clsIn; rw [hC] <;> rfl
  refine ⟨_, known, rfl, ?_⟩
  unfold PySem.W.excOver
  rw [known]
  show (C == C && PySem.W.excTail luTail bm) = true
  rw [hbm, beq_self_eq_true]
  rfl
/-- self.f = y in __init__ -/
theorem lu_ost (T : OexL X.K C) (I : Inv X pins σ H s) (e : H a = some (exo a C none)) (no : PySem.W.findIn X.K (.ref C) f = some none) (ry : RelV y u)
    (h : ∀ dx s', H dx = none → dx ≠ a → Inv X pins σ (upd (upd H dx (exd dx [(f, y)])) a (exo a C (some dx))) s' → Q () s') : wpAny (model X.prog X.w) A (setAttr (.ref a) f u) Q E s := by
  obtain ⟨cd, known, dict, over⟩ := lu_cls T
  obtain ⟨t1, ho⟩ := exo_at I.hok e
  obtain ⟨hp, g, d, t, os⟩ := s
  refine PySem.W.set_plain I.kIn (od := none) ⟨ho, rfl, rfl, trivial⟩ T.facts.1 (lu_store PySem.F.store_LookupError I.kIn ho known over dict no fun h' tk' dx k dn dne hx hn => ?_)
  have nd : H dx = none := I.hok.fresh dn
  refine h dx _ nd dne (I.un (t' := tk') (lu_un e dn nd ⟨_, hx⟩ k) fun b o q => ?_)
  by_cases hb : b = a
  · subst hb
    rw [upd_same] at q; cases q
    exact exo_ok hx
  rw [upd_ne hb] at q
  by_cases hd : b = dx
  · subst hd
    rw [upd_same] at q; cases q
    exact exd_ok hn (relO_put (fs := []) ry fun g => True.intro)
  rw [upd_ne hd] at q
  refine (I.hok b o q).stay (fun c v hc z => k c v ?_ z) (fun c hc => ?_) (fun c xs hc => ?_)
  · rcases hc with hc | hc
    · rw [hc]; exact hb
    · exact at_ne e hc exo_own
  · rw [upd_ne (at_ne e hc exo_own), upd_ne (ne_of_none hc nd)]; exact hc
  · rw [upd_ne (at_ne e hc exo_tup), upd_ne (ne_of_none hc nd)]; exact hc
end
/-- self.f = e -/
def tOsL (K : PySem.W.Frag) (f : Str) (to te : TE) : TS := fun D σ H => te σ H fun y H1 => to σ H1 fun x H2 => ∃ a C : Addr, x = .ref a ∧ OexL K C ∧ PySem.W.findIn K (.ref C) f = some none ∧ H2 a = some (exo a C none) ∧ ∀ dx, H2 dx = none → dx ≠ a → D.nx σ (upd (upd H2 dx (exd dx [(f, y)])) a (exo a C (some dx)))
section
variable {X : Cx} {o e : Expr} {es : List Expr} {to te : TE} {ta : TA} {f : Str} {p p' pos : Pos}
theorem ps_osL (ho : PE X o to) (he : PE X e te) (hs : swapsWith e (some (.Attribute o f p')) pos.line X.env = pure false := by rfl) : PS X (.Assign [.Attribute o f p'] e pos) (tOsL X.K f to te) := by
  refine ⟨fun pins s σ H D I h => plainObj_wpAny_Assign_Attribute (thn (he.run pins s σ H _ I h) ?_) hs⟩
  rintro v s1 ⟨y, H1, I1, r1, q1⟩
  refine thn (ho.run pins s1 σ H1 _ I1 q1) ?_
  rintro u s2 ⟨x, H2, I2, r2, a, C, rfl, T, no, ea, q⟩
  obtain rfl : u = Value.ref a := r2
  exact lu_ost T I2 ea no r1 fun dx s' n ne J => ⟨σ, _, J, q dx n ne⟩
/-- C(e) -/
theorem pmk_oexL {CX : CXT} {x : Str} {C fI : Addr} {k : Nat} {fd : FuncData} {ps : List Str} {sp : Sp} (T : OexL X.K C) (iC : PySem.W.findIn X.K (.ref C) "__init__" = some (some (.ref fI))) (tI : PySem.W.typeIn X.K (.ref fI) = some (.type "function"))
    (F1 : FnOk X.prog X.w X.K X.mg X.base CX k fI fd ps sp) (hr : Room (k + 1) X.A) (hb : Binds X.K fd ps []) (hx : Passes CX X (fun _ _ _ => False)) (hg : Gl X x) (hm : X.mg x = some (.ref C)) (ha : PA X (e :: es) ta)
    (hdb : (x == ("__debug__" : Str)) = false := by decide) (he : starEach (e :: es) X.env = (false, eval e X.env) :: starEach es X.env := by rfl) (hpl : (backTo pos (starEach es X.env)).any (·.1) = false := by rfl) :
    PMk X (.Call (.Name x p) (e :: es) [] pos) (tMkO C sp [] ta) := by
  intro pins s σ H Q I h
  obtain ⟨nm, q, N, bs, bm, sn, sub, ab, col, dd, k0, k1, k2, k3, k5, hC, hbm⟩ := T.obj
  obtain ⟨_, exc, typ, keep⟩ := T.facts
  refine wpAny_Call_Name_kw (ld_glob I hg hm (PySem.W.callWith_K (h₀ := X.base) I.ok.mod.kin keep (thn (ha.run pos pins s σ H _ I h) ?_) he hpl) hdb)
  rintro us s1 ⟨vs, H1, I1, r1, hz, q1⟩
  refine ⟨I1.kIn, ?_⟩
  show wpAny _ _ (call (.ref C) us) _ _ _
  obtain ⟨hp, g, dr, tk, os⟩ := s1
  generalize hn : hp.objs.size = n
  have old : hp.objs.size ≤ n + 1 := by omega
  have hq := q1 (n + 1) (I1.hok.fresh old)
  have kk : ∀ b o, hp.get? b = some o → ((hp.push (PySem.W.kdv_tup us)).push (PySem.HandSPX.excO C n)).get? b = some o := fun b o e => Heap.get?_push_of_some _ (Heap.get?_push_of_some _ e)
  have got : ((hp.push (PySem.W.kdv_tup us)).push (PySem.HandSPX.excO C n)).get? (n + 1) = some (PySem.HandSPX.excO C n) := by subst hn; heap_get
  have I2 : Inv X pins σ (upd H1 (n + 1) (exo (n + 1) C none)) ⟨(hp.push (PySem.W.kdv_tup us)).push (PySem.HandSPX.excO C n), g, dr, tk, os⟩ := I1.laid (t' := tk) (o := exo (n + 1) C none) kk old (exo_ok got)
  have r2 : Vals (V.ref (n + 1) :: (vs ++ [])) (Value.ref (n + 1) :: us) := .cons rfl (by rw [List.append_nil]; exact r1)
  have long : (Value.ref (n + 1) :: us).length = ps.length := r2.length.symm.trans (F1.len _ _ _ _ hq)
  have few : us.length ≤ sizeLine := by rw [← Paired.length r1, sizeLine_eq]; omega
  have ran := F1.run _ X.stack _ _ ⟨Value.ref (n + 1) :: us, []⟩ (Value.ref (n + 1) :: us) _ _ (fun _ _ _ => False) (hr.make C us []) (I2.env0.make C us []) (by have b := hb ⟨(hp.push (PySem.W.kdv_tup us)).push (PySem.HandSPX.excO C n), g, dr, tk, os⟩ (Value.ref (n + 1) :: us) I2.kIn (by rw [List.append_nil]; exact long); rw [List.append_nil] at b; exact b) r2 hq
  subst hn
  refine wpAny_call (PySem.HandSPX.call_own PySem.F.excBase_LookupError (fun Y => PySem.W.excTail_contains Y bm hbm) (I1.kIn _ _ hC) (PySem.W.looks_findIn I1.kIn iC) (fun self => PySem.W.bind_fn I1.kIn self tI) few (codeAny_mono ran ?_))
  rintro (er | fl) s' hq'
  · exact hx pins σ _ _ er s' I2 hq'
  match fl, hq' with
  | .next, z => exact False.elim z
  | .brk, z => exact False.elim z
  | .cont, z => exact False.elim z
  | .ret u, ⟨v, H2, os2, bare2, un2, hok2, rv, ev, d, fs, ea, ed, hd1, q2⟩ =>
    subst ev
    obtain ⟨h2, g2, d2, t2, os'⟩ := s'
    exact ⟨rv, mk_end (raises_own exc typ) I1 old kk un2 hok2 os2 bare2 ea ed hd1 q2⟩
end
/-- __init__(self, f): self.f = f -/
def sp_initL (K : PySem.W.Frag) (fl : Str) : Sp := fun vs H Q _ => ∃ (a C : Addr) (v : V), vs = [.ref a, v] ∧ OexL K C ∧ PySem.W.findIn K (.ref C) fl = some none ∧ H a = some (exo a C none) ∧ ∀ dx, H dx = none → dx ≠ a → Q .non (upd (upd H dx (exd dx [(fl, v)])) a (exo a C (some dx)))
theorem xc_mkL {C : Addr} {fl : Str} {K : PySem.W.Frag} {ta : TA} {σ : L2.St} {H : Hp} {Q : XK} (T : OexL K C) (no : PySem.W.findIn K (.ref C) fl = some none)
    (h : ta σ H fun vs H1 => ∃ v, vs = [v] ∧ ∀ d H2, Same H1 H2 → H2 d = some (.xd [(fl, v)]) → Q (.ref C) (some d) H2) (mono : ∀ {A B : List V → Hp → Prop}, (∀ vs H1, A vs H1 → B vs H1) → ta σ H A → ta σ H B) : tMkO C (sp_initL K fl) [] ta σ H Q := by
  refine mono ?_ h
  rintro vs H1 ⟨v, rfl, k⟩
  refine ⟨by show 1 ≤ 1000; decide, fun a na => ⟨a, C, v, rfl, T, no, upd_same, fun dx nd da => ⟨rfl, dx, [(fl, v)], upd_same, ?_, ?_, ?_⟩⟩⟩
  · rw [upd_ne da, upd_same]
  · rw [upd_ne da] at nd
    exact nd
  · have nd1 : H1 dx = none := by
      rw [upd_ne da] at nd
      exact nd
    refine k dx _ (fun b o hb => ?_) upd_same
    rw [upd_ne (ne_of_none hb nd1), del_ne (ne_of_none hb na), upd_ne (ne_of_none hb na), upd_ne (ne_of_none hb nd1), upd_ne (ne_of_none hb na)]
    exact hb
theorem kit_typ {K : PySem.W.Frag} {D : Addr} {b : Bool} {n : String} (hm : PySem.W.kitMeta n = true) (h : PySem.W.subIn K (.ref D) (.type n) = some b) : PySem.W.kitOne K (.ref D) (.type n) = some b := by
  have q : ((Value.ref D) == (Value.type n)) = false := beq_eq_false_iff_ne.mpr fun z => nomatch z
  unfold PySem.W.kitOne
  rw [if_neg (by rw [q]; exact Bool.false_ne_true)]
  show (if PySem.W.kitMeta n = true then PySem.W.subIn K (.ref D) (.type n) else none) = some b
  rw [if_pos hm]
  exact h
end Sm

set_option Elab.async false
set_option linter.all false
set_option maxRecDepth 100000
set_option maxHeartbeats 4000000
namespace Sm
open PySem PySem.Spec PyProof.Rows L2 LamX
/-- told: try: return a() / except e as n: a suite that is told by ts -/
def TAs (K : PySem.W.Frag) (CS : Addr) (Ng : List Str) (i : Nat) (ts : Addr → Value → Option Addr → TS) : (XK → Hp → VK → Prop) → Hp → VK → Prop := fun tl H Q =>
  tl (fun cls d H' => ∃ b, PySem.W.exmOne K cls (.ref CS) = some b ∧ (b = true → ∀ (σ : L2.St) (c : Addr), σ.length = Ng.length → H' c = none → ts c cls d { nx := fun _ H2 => Q .non H2, rt := Q } (σ.set i (some (.ref c))) H') ∧ (b = false → False)) H Q
theorem set_read {σ : L2.St} {N : List Str} {n : Str} {i : Nat} {v : V} (h : σ.length = N.length) (hi : N[i]? = some n) : (σ.set i (some v))[i]? = some (some v) := by
  have := (List.getElem?_eq_some_iff.mp hi).1
  rw [List.getElem?_set_self (by omega)]
/-- where an exception is taken, all slots are there -/
theorem takes_len {X : Cx} {W : WX} (t : Takes X W) : Takes X (fun cls d σ H => σ.length = X.N.length → W cls d σ H) := fun u s' z => by
  obtain ⟨a, B, sI, pins, σ, H, cls, d, e, I, nb, up, sky, na, os, ag, w⟩ := z
  exact t u s' ⟨a, B, sI, pins, σ, H, cls, d, e, I, nb, up, sky, na, os, ag, w I.len⟩
section
variable {X : Cx} {Ng : List Str} {x a e n q : Str} {sg : Scope} {g CS : Addr} {cdg : Value} {i : Nat} {b₀ : Stmt} {suite : List Stmt} {p1 p2 p3 p4 p5 p6 : Pos} {ts : Addr → Value → Option Addr → TS}
/-- the def that calls what it got and holds the exception in a suite of its own -/
theorem as_gives (hge : sg.names.lookup e = some .globalImplicit) (hme : X.mg e = some (.ref CS)) (hde : (e == ("__debug__" : Str)) = false) (h0 : ∀ f : Addr, (L2.start Ng [V.ref f])[0]? = some (some (V.ref f))) (nd : Ng.Nodup) (hi : Ng[i]? = some n)
    (hln : ∀ (s : Shared) (H : Hp), (cxOf C8.CX0 X.prog X.w X.K X.mg X.base Ng x sg g cdg X.A X.stack s H C8.E0).nox.env.kindOf n = some .local)
    (hsu : ∀ (s : Shared) (H : Hp) (c : Addr) (oe : Obj) (cls : Value) (d : Option Addr) (pn : List (Addr × Obj)), Zc cls d oe → (∃ vs, oe.data = .fields vs) → PSs ((cxOf C8.CX0 X.prog X.w X.K X.mg X.base Ng x sg g cdg X.A X.stack s H C8.E0).nox.suite c ((c, oe) :: pn)) (b₀ :: suite) (ts c cls d)) :
    GivesTo X Ng x sg g cdg [.Try [.Return (some (.Call (.Name a p1) [] [] p2)) p3] [.ExceptHandler (some (.Name e p4)) (some n) (b₀ :: suite) p5] [] [] p6] a q (TAs X.K CS Ng i ts) := by
  intro f c' s H Q tl act known told
  let Z := (cxOf C8.CX0 X.prog X.w X.K X.mg X.base Ng x sg g cdg X.A X.stack s H C8.E0).nox
  have glob : Gl Z e := hge
  let body : WX → TS := fun W D σ H1 => ∃ out : XK, (∀ cls d (σ' : L2.St) H', out cls d H' → σ'.length = Ng.length → W cls d σ' H') ∧ σ[0]? = some (some (.ref f)) ∧ H1 c' = some (CodeO c' q) ∧ tl out H1 D.rt
  have inner : ∀ (W : WX) (pn : List (Addr × Obj)) (xe : Value → Shared → Prop), Takes (Z.tr pn xe) W → PassesOwn (model Z.prog Z.w) Z.A Z.env xe → PSs (Z.tr pn xe) [.Return (some (.Call (.Name a p1) [] [] p2)) p3] (body W) := by
    intro W pn xe tk _
    refine ⟨fun pins s' σ H' D I told' => ?_⟩
    obtain ⟨out, hW, h1, h2, h3⟩ := told'
    exact (pss_one (ps_ret (pos := p3) (act _ pn xe out p1 p2 (takes_len tk) hW))).run pins s' σ H' D I ⟨h1, h2, h3⟩
  refine ⟨_, pss_one (ps_try_as (X := Z) (c := .ref CS) (i := i) (tb := body) (ts := ts) (Wout := fun _ _ _ _ => False) rfl rfl nd hi (hln s H) ⟨glob, hde, .inl hme⟩ L2.takes0 inner (fun c oe cls d pn hz hf => hsu s H c oe cls d pn hz hf)), ?_⟩
  exact ⟨_, fun cls d σ' H' w len => by
    obtain ⟨b, e1, e2, e3⟩ := w
    exact ⟨b, e1, fun hb c nc => e2 hb σ' c len nc, fun hb => e3 hb⟩, h0 f, known, told⟩
end
end Sm

set_option Elab.async false
set_option linter.all false
set_option maxRecDepth 100000
set_option maxHeartbeats 4000000
namespace Sm
open PySem PySem.Spec PyProof.Rows L2
/-! ### values of all kinds as data, dicts with text keys and ints too -/
def kD : Key → PyData
  | .inl i => .int i
  | .inr x => .str x
mutual
inductive Dq (K : PySem.W.Frag) (H : Hp) : V → PyData → Prop
  | non : Dq K H .non .none
  | bl (b : Bool) : Dq K H (.bl b) (.bool b)
  | int (i : Int) : Dq K H (.int i) (.int i)
  | str (x : Str) : Dq K H (.str x) (.str x)
  | lst {a : Addr} {xs : List V} {ds : List PyData} : H a = some (.lst xs) → (a == sysModules) = false → DqAll K H xs ds → Dq K H (.ref a) (.list ds)
  | tup {a : Addr} {xs : List V} {ds : List PyData} : H a = some (.tup xs) → DqAll K H xs ds → Dq K H (.ref a) (.tuple ds)
  | dic {a : Addr} (kvs : List (Key × Int)) : H a = some (.dK (kvs.map fun q => (q.1, V.int q.2))) → Dq K H (.ref a) (.dict (kvs.map fun q => (kD q.1, PyData.int q.2)))
inductive DqAll (K : PySem.W.Frag) (H : Hp) : List V → List PyData → Prop
  | nil : DqAll K H [] []
  | cons {v : V} {vs : List V} {d : PyData} {ds : List PyData} : Dq K H v d → DqAll K H vs ds → DqAll K H (v :: vs) (d :: ds)
end
mutual
theorem Dq.mono {K : PySem.W.Frag} {H H' : Hp} (e : ∀ b o, H b = some o → H' b = some o) : ∀ (d : PyData) (v : V), Dq K H v d → Dq K H' v d
  | .none, _, h => by cases h; exact .non
  | .bool b, _, h => by cases h; exact .bl b
  | .int i, _, h => by cases h; exact .int i
  | .str x, _, h => by cases h; exact .str x
  | .list ds, _, h => by
    cases h with
    | lst hs ne ha => exact .lst (e _ _ hs) ne (Dq.monoAll e ds _ ha)
  | .tuple ds, _, h => by
    cases h with
    | tup hs ha => exact .tup (e _ _ hs) (Dq.monoAll e ds _ ha)
  | .dict _, _, h => by
    cases h with
    | dic kvs hk => exact .dic kvs (e _ _ hk)
theorem Dq.monoAll {K : PySem.W.Frag} {H H' : Hp} (e : ∀ b o, H b = some o → H' b = some o) : ∀ (ds : List PyData) (vs : List V), DqAll K H vs ds → DqAll K H' vs ds
  | [], _, h => by cases h; exact .nil
  | d :: ds, _, h => by
    cases h with
    | cons h1 h2 => exact .cons (Dq.mono e d _ h1) (Dq.monoAll e ds _ h2)
end
theorem Dq.same {K : PySem.W.Frag} {H H' : Hp} {v : V} {d : PyData} (h : Dq K H v d) (s : Same H H') : Dq K H' v d := Dq.mono (fun b o => s b o) d v h
section
variable {X : Cx} {pins : List (Addr × Obj)} {σ : L2.St} {H : Hp} {s : Shared}
theorem dic_keys {h : Heap} {P : Program} {w : World} : ∀ {es : List DictEntry} {vs : List (Key × Value)} {kvs : List (Key × Int)}, Pairs (mixKind P w) es vs → KV (kvs.map fun q => (q.1, V.int q.2)) vs →
    ReadsAll h (es.map (·.key)) (kvs.map fun q => kD q.1) [] ∧ ReadsAll h (es.map (·.val)) (kvs.map fun q => PyData.int q.2) []
  | [], _, kvs, .nil, r => by
    cases kvs with
    | nil => exact ⟨.nil, .nil⟩
    | cons a b => exact nomatch r
  | e :: es, _, kvs, .cons h1 h2 h3, r => by
    cases kvs with
    | nil => exact nomatch r
    | cons a b =>
      cases r with
      | cons r1 r2 =>
        obtain ⟨q1, q2⟩ := dic_keys (h := h) h3 r2
        obtain ⟨g1, g2⟩ := r1
        have g1 : a.1 = _ := g1
        have g2 : RelV (V.int a.2) _ := g2
        obtain ⟨t, g2⟩ := g2
        refine ⟨?_, ?_⟩
        · have hk : Reads h e.key (kD a.1) [] := by
            rcases keyIs_shape h1 with ⟨i, t, e1, e2⟩ | ⟨x, t, e1, e2⟩
            · rw [g1, e2, e1]
              exact .int i t
            · rw [g1, e2, e1]
              exact .str x t
          exact .cons hk q1
        · have hv : Reads h e.val (.int a.2) [] := by
            rw [h2, g2]
            exact .int _ t
          exact .cons hv q2
mutual
theorem Dq.reads (I : Inv X pins σ H s) : ∀ (d : PyData) (v : V) (u : Value), Dq X.K H v d → RelV v u → ∃ as, Reads s.heap u d as ∧ sysModules ∉ as
  | .none, _, _, h, r => by
    cases h
    cases r
    exact ⟨_, Reads.none, List.not_mem_nil⟩
  | .bool b, _, _, h, r => by
    cases h
    cases r
    exact ⟨_, Reads.bool b, List.not_mem_nil⟩
  | .int i, _, _, h, r => by
    cases h
    obtain ⟨t, rfl⟩ := r
    exact ⟨_, Reads.int i t, List.not_mem_nil⟩
  | .str x, _, _, h, r => by
    cases h
    obtain ⟨t, rfl⟩ := r
    exact ⟨_, Reads.str x t, List.not_mem_nil⟩
  | .list ds, _, _, h, r => by
    cases h with
    | lst hs ne ha =>
      cases r
      obtain ⟨its, rv, ⟨o, n, ho, hc, _, hd⟩, _⟩ := I.list (SqL.of hs)
      obtain ⟨as, hr, hm⟩ := Dq.readsAll I ds _ its ha rv
      refine ⟨_, Reads.list ho hc hd hr, fun m => ?_⟩
      rcases List.mem_cons.mp m with e | e
      · rw [← e, beq_self_eq_true] at ne
        cases ne
      · exact hm e
  | .tuple ds, _, _, h, r => by
    cases h with
    | tup hs ha =>
      cases r
      obtain ⟨its, rv, ⟨o, ho, hc, n, hd⟩, _⟩ := I.tuple (SqT.of hs)
      obtain ⟨as, hr, hm⟩ := Dq.readsAll I ds _ its ha rv
      exact ⟨_, Reads.tuple ho hc hd hr, hm⟩
  | .dict _, _, _, h, r => by
    cases h with
    | dic kvs hk =>
      cases r
      obtain ⟨_, hd, vs, kv, o, es, ep, h1, h2, h3, _, h4, _⟩ := dk_of I.hok hk
      obtain ⟨q1, q2⟩ := dic_keys (h := s.heap) h4 kv
      have e1 : (kvs.map fun q => (kD q.1, PyData.int q.2)).map (·.1) = kvs.map fun q => kD q.1 := by rw [List.map_map]; rfl
      have e2 : (kvs.map fun q => (kD q.1, PyData.int q.2)).map (·.2) = kvs.map fun q => PyData.int q.2 := by rw [List.map_map]; rfl
      refine ⟨_, Reads.dict h1 h2.1 h3 (by rw [e1]; exact q1) (by rw [e2]; exact q2), fun m => ?_⟩
      rw [List.append_nil] at m
      rw [← List.mem_singleton.mp m, beq_self_eq_true] at hd
      cases hd
theorem Dq.readsAll (I : Inv X pins σ H s) : ∀ (ds : List PyData) (vs : List V) (us : List Value), DqAll X.K H vs ds → Vals vs us → ∃ as, ReadsAll s.heap us ds as ∧ sysModules ∉ as
  | [], _, _, h, r => by
    cases h
    cases r
    exact ⟨_, ReadsAll.nil, List.not_mem_nil⟩
  | d :: ds, _, _, h, r => by
    cases h with
    | cons h1 h2 =>
      cases r with
      | cons r1 r2 =>
        obtain ⟨as, q1, m1⟩ := Dq.reads I d _ _ h1 r1
        obtain ⟨bs, q2, m2⟩ := Dq.readsAll I ds _ _ h2 r2
        refine ⟨_, ReadsAll.cons q1 q2, fun m => ?_⟩
        rcases List.mem_append.mp m with e | e
        · exact m1 e
        · exact m2 e
end
/-- the built-in class of such a value -/
def tyN : PyData → String
  | .none => "NoneType"
  | .bool _ => "bool"
  | .int _ => "int"
  | .str _ => "str"
  | .list _ => "list"
  | .tuple _ => "tuple"
  | .dict _ => "dict"
theorem Dq.ty {K : PySem.W.Frag} {v : V} {d : PyData} (h : Dq K H v d) : TyX K H v (.type (tyN d)) := by
  cases h with
  | non => exact .base .non
  | bl b => exact .base (.bl b)
  | int i => exact .base (.int i)
  | str x => exact .base (.str x)
  | lst e _ _ => exact .base (.lst e)
  | tup e _ => exact .base (.tup e)
  | dic kvs e => exact .base (.dK e)
end
def isT (n m : String) : Bool := m == n || (n == "int" && m == "bool")
def isOf (n : String) (d : PyData) : Bool := isT n (tyN d)
theorem kit_q {K : PySem.W.Frag} {n : String} {d : PyData} (h : n = "int" ∨ n = "bool" ∨ n = "str" ∨ n = "tuple" ∨ n = "list") : PySem.W.kitOne K (.type (tyN d)) (.type n) = some (isOf n d) := by
  refine kit_ty ?_
  unfold isOf
  have m : tyN d = "NoneType" ∨ tyN d = "bool" ∨ tyN d = "int" ∨ tyN d = "str" ∨ tyN d = "list" ∨ tyN d = "tuple" ∨ tyN d = "dict" := by
    cases d <;> simp [tyN]
  generalize tyN d = m' at m
  rcases h with rfl | rfl | rfl | rfl | rfl <;> rcases m with rfl | rfl | rfl | rfl | rfl | rfl | rfl <;> decide +kernel
section
variable {X : Cx}
/-- isinstance(x, T), x of any kind, T built in -/
def rIsQ (K : PySem.W.Frag) : List V → Hp → VK → Prop := fun xs H Q => ∃ (x : V) (d : PyData) (n : String), xs = [x, .ty n] ∧ Dq K H x d ∧ (n = "int" ∨ n = "bool" ∨ n = "str" ∨ n = "tuple" ∨ n = "list") ∧ Q (.bl (isOf n d)) H
theorem call_isQ : CallR X (.builtin "isinstance") (rIsQ X.K) := by
  intro pins s σ H xs us Q I r h
  obtain ⟨x, d, n, rfl, hd, hn, q⟩ := h
  exact call_isi pins s σ H _ us Q I r ⟨x, .ty n, _, _, _, rfl, .ty n, hd.ty, kit_q hn, q⟩
/-- repr of a value of any kind -/
def rReprQ (K : PySem.W.Frag) : List V → Hp → VK → Prop := fun xs H Q => ∃ v d, xs = [v] ∧ Dq K H v d ∧ PyData.showable d = true ∧ d.depth ≤ 60 ∧ d.shown.length ≤ sizeLine ∧ Q (.str d.shown) H
theorem call_reprQ (gu : X.A.guards = some []) (room : ∃ k, Room k X.A) : CallR X (.builtin "repr") (rReprQ X.K) := by
  intro pins s σ H xs us Q I rel want
  obtain ⟨v, d, rfl, data, sh, dep, len, q⟩ := want
  obtain ⟨u, rfl, ru⟩ := vals1 rel
  obtain ⟨as, reads, ns⟩ := Dq.reads I d _ u data ru
  obtain ⟨k, room⟩ := room
  have un := room.un
  have done : ∀ h' (v : Value) tk, (∀ b o, s.heap.get? b = some o → h'.get? b = some o) → (∃ t, v = Value.str d.shown t) → ∃ y H2, Inv X pins σ H2 { s with heap := h', toks := tk } ∧ RelV y v ∧ Q y H2 := fun h' v tk keep e => ⟨.str d.shown, H, I.kept keep, e, q⟩
  have at_ : ∀ a, u = .ref a → _ := fun a e => repr_of_reads' (A := X.A) (s := s) (prog := X.prog) (w := X.w) (E := X.xe) (Q := fun y s' => ∃ z H2, Inv X pins σ H2 s' ∧ RelV z y ∧ Q z H2) (by rw [← e]; exact reads) sh (fun _ => ns) gu (by omega) (fun _ _ e => e) (fun h' v tk keep => ⟨.str d.shown, H, I.kept keep, ⟨_, rfl⟩, q⟩) len
  cases data with
  | non =>
    cases ru
    exact PySem.P.repr_of_none ⟨.str _, H, I.tok _, ⟨_, rfl⟩, q⟩
  | bl b =>
    cases ru
    refine PySem.P.repr_of_bool ⟨.str _, H, I.tok _, ⟨_, rfl⟩, ?_⟩
    cases b <;> exact q
  | int i =>
    obtain ⟨t, rfl⟩ := ru
    exact PySem.P.repr_of_int (of_decide_eq_true (by simpa [PyData.showable] using sh)) ⟨.str _, H, I.tok _, ⟨_, rfl⟩, q⟩
  | str x =>
    obtain ⟨t, rfl⟩ := ru
    exact PySem.P.repr_of_str ⟨.str _, H, I.tok _, ⟨_, rfl⟩, q⟩ len
  | lst e1 e2 e3 =>
    cases ru
    exact at_ _ rfl
  | tup e1 e2 =>
    cases ru
    exact at_ _ rfl
  | dic kvs e1 =>
    cases ru
    exact at_ _ rfl
/-- a list is made: it is not sys.modules -/
def tLstN (t : TA) : TE := fun σ H Q => t σ H fun xs H1 => xs.length ≤ sizeLine ∧ ∀ p, H1 p = none → (p == sysModules) = false → Q (.ref p) (upd H1 p (.lst xs))
theorem pe_lstN {es : List Expr} {pos : Pos} {t : TA} (h : PA X es t) : PE X (.List es pos) (tLstN t) := by
  refine ⟨fun pins s σ H Q I hq => ?_⟩
  refine wpAny_List_spliced (thn (h.run pos pins s σ H _ I hq) fun us s1 ⟨xs, H1, I1, r, z, q⟩ => ⟨by rw [← r.length]; exact z, ?_⟩)
  have hf : H1 s1.heap.objs.size = none := I1.hok.fresh (Nat.le_refl _)
  have hs : (s1.heap.objs.size == sysModules) = false := beq_eq_false_iff_ne.mpr (Ne.symm (Nat.ne_of_lt I1.big))
  refine ⟨.ref s1.heap.objs.size, upd H1 s1.heap.objs.size (.lst xs), I1.laid (t' := s1.toks) (fun b u e => Heap.get?_push_of_some _ e) (Nat.le_refl _) ?_, rfl, q _ hf hs⟩
  exact ⟨z, us, 0, r, Heap.get?_push_size _ rfl⟩
/-- list(t) of a tuple -/
theorem call_listN : CallR X (.type "list") (fun xs H Q => ∃ p ys, xs = [.ref p] ∧ H p = some (.tup ys) ∧ ∀ l, H l = none → (l == sysModules) = false → Q (.ref l) (upd H l (.lst ys))) := by
  intro pins s σ H xs us Q I r h
  obtain ⟨p, ys, rfl, hq, q⟩ := h
  have hs : (s.heap.objs.size == sysModules) = false := beq_eq_false_iff_ne.mpr (Ne.symm (Nat.ne_of_lt I.big))
  obtain ⟨u, rfl, rx⟩ := vals1 r
  cases rx
  obtain ⟨its, r', pl, hz⟩ := I.tuple (SqT.of hq)
  have hlen := r'.length
  obtain ⟨o, ho, hc, n, hd⟩ := pl
  exact call_list_seq p (.inr rfl) ho hc hd (fun h' c' kp e => ⟨.ref s.heap.objs.size, _, I.laid (t' := s.toks) kp (Nat.le_refl _) (show ObjOk X.prog X.w _ h' _ (.lst ys) from ⟨hz, its, c', r', e⟩), rfl, q _ (I.hok.fresh (Nat.le_refl _)) hs⟩) (by simp only [List.size_toArray] <;> omega)
end
end Sm

set_option Elab.async false
set_option linter.all false
set_option maxRecDepth 100000
set_option maxHeartbeats 4000000
namespace Sm
open PySem PySem.Spec PyProof.Rows L2 LamX
/-- repr of a value of any kind, in an except suite too -/
theorem call_reprU {X : Cx} (gu : X.A.guards = some []) (un : X.A.units + 100 < cLine) : CallR X (.builtin "repr") (rReprQ X.K) := by
  rintro pins s σ H xs us Q I rel ⟨v, d, rfl, data, sh, dep, len, q⟩
  obtain ⟨u, rfl, ru⟩ := vals1 rel
  obtain ⟨as, reads, ns⟩ := Dq.reads I d _ u data ru
  have at_ : ∀ a, u = .ref a → _ := fun a e => repr_of_reads' (A := X.A) (s := s) (prog := X.prog) (w := X.w) (E := X.xe) (Q := fun y s' => ∃ z H2, Inv X pins σ H2 s' ∧ RelV z y ∧ Q z H2) (by rw [← e]; exact reads) sh (fun _ => ns) gu (by omega) (fun _ _ e => e) (fun h' v tk keep => ⟨.str d.shown, H, I.kept keep, ⟨_, rfl⟩, q⟩) len
  cases data with
  | non => cases ru; exact PySem.P.repr_of_none ⟨.str _, H, I.tok _, ⟨_, rfl⟩, q⟩
  | bl b => cases ru; exact PySem.P.repr_of_bool ⟨.str _, H, I.tok _, ⟨_, rfl⟩, by cases b <;> exact q⟩
  | int i => obtain ⟨t, rfl⟩ := ru; exact PySem.P.repr_of_int (of_decide_eq_true (by simpa [PyData.showable] using sh)) ⟨.str _, H, I.tok _, ⟨_, rfl⟩, q⟩
  | str x => obtain ⟨t, rfl⟩ := ru; exact PySem.P.repr_of_str ⟨.str _, H, I.tok _, ⟨_, rfl⟩, q⟩ len
  | lst e1 e2 e3 => cases ru; exact at_ _ rfl
  | tup e1 e2 => cases ru; exact at_ _ rfl
  | dic kvs e1 => cases ru; exact at_ _ rfl
section
variable {X : Cx} {pins : List (Addr × Obj)} {σ : L2.St} {H : Hp} {s : Shared}
/-- a local name read, nothing else happens -/
theorem ld_var {E : Value → Shared → Prop} {Q : Value → Shared → Prop} {i : Nat} {x : Str} {pos : Pos} {v : V} (I : Inv X pins σ H s) (named : X.N[i]? = some x) (seen : Vis X.env.scope x) (e : σ[i]? = some (some v)) (h : ∀ u, RelV v u → Q u s)
    (hd : (x == ("__debug__" : Str)) = false := by decide) (hcd : (x == ("__classdict__" : Str)) = false := by decide) : wpAny (model X.prog X.w) X.A (eval (.Name x pos) X.env) Q E s := by
  obtain ⟨m, hn, hl⟩ := I.loc
  obtain ⟨u, r, l⟩ := hl i x v named e seen
  rcases l with ⟨hk, hm⟩ | ⟨hk | hk, c, hc, hcell⟩
  · exact wpAny_Name (wpAny_loadName_local I.ok.kind hk hn hm (h u r)) hd
  · exact wpAny_Name (wpAny_loadName_cell I.ok.kind hk hc hcell (h u r)) hd
  · exact wpAny_Name (wpAny_loadName_free I.ok.kind hk hc hcell (h u r) hcd) hd
/-- x() in the def that got the lambda: what is raised is taken at the very slots -/
theorem pe_actS {Ng : List Str} {qg : Str} {sg : Scope} {g f c' : Addr} {cdg pm ctv : Value} {params : Arguments} {body : Expr} {scope : Scope} {k i : Nat} {a : Str} {pn : List (Addr × Obj)} {xe : Value → Shared → Prop} {W : WX} {E : XK} {tb : TE} {p1 p2 : Pos} (σ0 : L2.St)
    (I : Inv X pins σ H s) (L : LamS X.env.scope scope) (hf : s.heap.get? f = some (PySem.W.kla_obj "<lambda>" (X.env.qual ++ "<lambda>") params body scope (cloFrom X.env.cells scope.names []) pm c' ctv)) (hfn : H f = none) (hfr : f ∉ frs X.stack)
    (hbind : bindArgs (PySem.W.kla_fn "<lambda>" (X.env.qual ++ "<lambda>") params body scope (cloFrom X.env.cells scope.names []) pm (.ref c') ctv) ⟨[], []⟩ = pure [])
    (tk : Takes ((cxOf C8.CX0 X.prog X.w X.K X.mg X.base Ng qg sg g cdg X.A X.stack s H C8.E0).tr pn xe) W) (hW : ∀ cls d H', E cls d H' → W cls d σ0 H') (hr : Room (k + 1) (X.A.deeper (envOfC qg sg s.heap.objs.size g cdg)))
    (hbody : ∀ (A : Around) (outer : List Env) (s : Shared) (H : Hp), Room k (A.deeper (lamEnv X scope s.heap.objs.size f c')) → PE (lamCx X A outer s H E scope f c') body tb)
    (hN : Ng[i]? = some a) (hv : Vis sg a) (hd : (a == ("__debug__" : Str)) = false := by decide) (hcd : (a == ("__classdict__" : Str)) = false := by decide) :
    PE ((cxOf C8.CX0 X.prog X.w X.K X.mg X.base Ng qg sg g cdg X.A X.stack s H C8.E0).tr pn xe) (.Call (.Name a p1) [] [] p2) (fun σZ HZ Q => σZ = σ0 ∧ σZ[i]? = some (some (.ref f)) ∧ HZ c' = some (CodeO c' (X.env.qual ++ "<lambda>")) ∧ tb σ HZ Q) := by
  refine ⟨fun pinsZ sZ σZ HZ Q IZ h => ?_⟩
  obtain ⟨rfl, hs, hc, ht⟩ := h
  refine wpAny_Call_Name_kw (ld_var IZ (pos := p1) (i := i) hN hv hs (fun u r1 => ?_) hd hcd)
  obtain rfl : u = Value.ref f := r1
  have of1 := IZ.base.keep f _ hf hfn hfr (fun z => nomatch (show f ∈ ([] : List Addr) from z))
  refine PySem.W.callWith_F0 ⟨_, _, _, _, of1⟩ ?_
  have un : Un (frs X.stack) [] H HZ s.heap sZ.heap := IZ.base
  obtain ⟨⟨oc, vs, t, hoc, hdc, hvc⟩, _, _⟩ := IZ.hok c' _ hc
  have ran : codeAny (model X.prog X.w) (X.A.deeper (envOfC qg sg s.heap.objs.size g cdg)) (.call (.ref f) ⟨[], []⟩) (CR (L2.CX X.prog X.w) (envOfC qg sg s.heap.objs.size g cdg :: X.stack) X.prog X.w HZ sZ Q E) sZ := by
    refine PySem.W.kla_callFunE hr.depth of1 rfl L.co L.gen rfl ⟨c', oc, vs, t, rfl, hoc, hdc, hvc⟩ ?_
    rw [hbind]
    refine wpAny_pure (wpAny_newFunctionEnv (fun y hy => (L.own y hy).2) (fun y hy => absurd hy (by simp)) (fun h₁ names same => ⟨IZ.nolimit.fresh _ same, ?_⟩) L.kind)
    have keep : ∀ b o, sZ.heap.get? b = some o → h₁.get? b = some o := fun b o e => same.extBut b o (Nat.ne_of_lt (Heap.lt_size e)) (Heap.get?_push_of_some _ e)
    refine PySem.W.kla_codeExpr (wpAny_mono ((hbody _ _ sZ HZ (hr.deeper _)).run [] _ _ HZ Q (lam_start2 I L IZ.env0 hr.hd un names keep) ht) ?_ fun e s' hq => hq)
    rintro v s' ⟨w', H', J', rv, q⟩
    exact ⟨w', H', J'.os, J'.bare, J'.base, J'.hok, rv, q⟩
  refine wpAny_call (codeAny_mono ran ?_)
  rintro (e | fl) s' hq
  · exact tk e s' (XE.of_call IZ (fun cls d H' h => hW cls d H' h) hq)
  match fl, hq with
  | .ret u, hq => exact IZ.after hq
  | .next, hq => exact False.elim hq
  | .brk, hq => exact False.elim hq
  | .cont, hq => exact False.elim hq
end
/-- the def that gets a lambda and a value: TT tells what it makes of both -/
def Gives2 (X : Cx) (Ng : List Str) (x : Str) (sg : Scope) (g : Addr) (cdg : Value) (bg : List Stmt) (a : Str) (q : Str) (TT : V → (XK → Hp → VK → Prop) → Hp → VK → Prop) : Prop :=
  ∀ (f c' : Addr) (s : Shared) (H : Hp) (v : V) (Q : VK) (tl : XK → Hp → VK → Prop),
    (∀ (W : WX) (pn : List (Addr × Obj)) (xe : Value → Shared → Prop) (E : XK) (p1 p2 : Pos) (σ0 : L2.St), Takes ((cxOf C8.CX0 X.prog X.w X.K X.mg X.base Ng x sg g cdg X.A X.stack s H C8.E0).tr pn xe) W → (∀ cls d H', E cls d H' → W cls d σ0 H') →
      PE ((cxOf C8.CX0 X.prog X.w X.K X.mg X.base Ng x sg g cdg X.A X.stack s H C8.E0).tr pn xe) (.Call (.Name a p1) [] [] p2) (fun σZ HZ Q => σZ = σ0 ∧ σZ[0]? = some (some (.ref f)) ∧ HZ c' = some (CodeO c' q) ∧ tl E HZ Q)) →
    H c' = some (CodeO c' q) → TT v tl H Q →
    ∃ t, PSs (cxOf C8.CX0 X.prog X.w X.K X.mg X.base Ng x sg g cdg X.A X.stack s H C8.E0).nox bg t ∧ t { nx := fun _ H' => Q .non H', rt := Q } (L2.start Ng [.ref f, v]) H
def tLam2 (T : List (Addr × Str)) (TT : V → (XK → Hp → VK → Prop) → Hp → VK → Prop) (t : XK → TE) (j : Nat) : TE := fun σ H Q => Tabs T H ∧ ∃ v, σ[j]? = some (some v) ∧ ∀ H1, ExtN H H1 → Tabs T H1 → TT v (fun E H' Q' => t E σ H' Q') H1 Q
section
variable {X : Cx}
/-- x(lambda: body, y) -/
theorem pe_lamcall2 {T : List (Addr × Str)} {TT : V → (XK → Hp → VK → Prop) → Hp → VK → Prop} {x a b y : Str} {g c P : Addr} {k j : Nat} {pg : Arguments} {bg : List Stmt} {sg : Scope} {dV kV doc pm cdv ct oc : Value} {an od : Option Addr} {osl : Array (Option Value)} {Ng : List Str}
    {params : Arguments} {body : Expr} {scope : Scope} {t : XK → TE} {p lpos pos py : Pos} (hg : Gl X x) (hm : X.mg x = some (.ref g)) (hk : PySem.W.keepIn X.K (.ref g) = true)
    (lk : X.K.lookup g = some ⟨oc, od, .func (PySem.W.fnOf x x pg bg sg dV kV doc pm an cdv ct), osl⟩) (hcg : PySem.W.codeIn X.K cdv x = true) (hb : L2.Binds X.K (PySem.W.fnOf x x pg bg sg dV kV doc pm an cdv ct) [a, b] []) (Sg : FnScope Ng [a, b] sg) (hNg : Ng[0]? = some a) (hva : Vis sg a)
    (hG : Gives2 X Ng x sg g cdv bg a (X.env.qual ++ "<lambda>") TT)
    (TB : TabB X.base X.mg c P) (hcode : X.env.code = .ref c) (hmT : (P, X.env.qual ++ "<lambda>") ∈ T) (hu : ∀ p ∈ T, p.1 = P → p.2 = X.env.qual ++ "<lambda>") (hr : Room (k + 2) X.A) (L : LamS X.env.scope scope) (hdef : defaultsOf params X.env = ([], []))
    (hbind : ∀ (q : Str) (cl : List (Str × Addr)) (pm cv ctv : Value), bindArgs (PySem.W.kla_fn "<lambda>" q params body scope cl pm cv ctv) ⟨[], []⟩ = pure [])
    (hbody : ∀ (A : Around) (outer : List Env) (s : Shared) (H : Hp) (E : XK) (f c' : Addr), Room k (A.deeper (lamEnv X scope s.heap.objs.size f c')) → PE (lamCx X A outer s H E scope f c') body (t E))
    (named : X.N[j]? = some y) (seen : Vis X.env.scope y)
    (hdb : (x == ("__debug__" : Str)) = false := by decide) (hd : (a == ("__debug__" : Str)) = false := by decide) (hcd : (a == ("__classdict__" : Str)) = false := by decide) (hyd : (y == ("__debug__" : Str)) = false := by decide) (hycd : (y == ("__classdict__" : Str)) = false := by decide) :
    PE X (.Call (.Name x p) [.Lambda params body scope lpos, .Name y py] [] pos) (tLam2 T TT t j) := by
  refine ⟨fun pins s σ H Q I h => ?_⟩
  obtain ⟨hT, v, hv, h⟩ := h
  refine wpAny_Call_Name_kw (ld_glob I hg hm (PySem.W.callWith_K (h₀ := X.base) I.ok.mod.kin hk ?_ (by rfl) (by rfl)) hdb)
  show wpAny _ _ (spliced ((false, eval (.Lambda params body scope lpos) X.env) :: backTo pos (starEach [.Name y py] X.env))) _ _ s
  refine Calls.spliced_cons (lam_make2 I TB hcode hmT hu hT hdef (L.has I.ok) ?_)
  intro f c' pm' ctv H1 s' I1 eN T1 hf hfn hfr hco
  show wpAny _ _ (spliced ((false, eval (.Name y py) X.env) :: backTo pos (starEach [] X.env))) _ _ s'
  refine Calls.spliced_cons (ld_var I1 named seen hv (fun u r1 => ?_) hyd hycd)
  refine Calls.spliced_nil ⟨I1.kIn, ?_⟩
  have ran : codeAny (model X.prog X.w) X.A (.call (.ref g) ⟨[.ref f, u], []⟩) (CR C8.CX0 X.stack X.prog X.w H1 s' Q C8.E0) s' := by
    refine run_ofS (N := Ng) (ps := [a, b]) (us := [.ref f, u]) (vs := [.ref f, v]) lk hcg Sg hr I1.env0 (hb s' [.ref f, u] I1.kIn rfl) (.cons rfl (.cons r1 .nil)) rfl fun room => ?_
    obtain ⟨t', got, fine⟩ := hG f c' s' H1 v Q (fun E H' Q' => t E σ H' Q') (fun W pn xe E p1 p2 σ0 tk hW => pe_actS (i := 0) σ0 I1 L hf hfn hfr (hbind _ _ _ _ _) tk hW room (fun A outer s H r2 => hbody A outer s H E f c' r2) hNg hva hd hcd) hco (h H1 eN T1)
    exact ⟨t', got.nox, fine⟩
  refine wpAny_call (codeAny_mono ran ?_)
  rintro (e | fl) s2 hq
  · exact (show False from hq).elim
  match fl, hq with
  | .ret u, hq => exact I1.after hq
  | .next, hq => exact False.elim hq
  | .brk, hq => exact False.elim hq
  | .cont, hq => exact False.elim hq
/-- try: a() / except e as n: a suite that is told by ts -/
def tActAs (K : PySem.W.Frag) (CS f c' : Addr) (q : Str) (i : Nat) (ts : Addr → Value → Option Addr → TS) (tl : XK → Hp → VK → Prop) : TS := fun D σ H => σ[0]? = some (some (.ref f)) ∧ H c' = some (CodeO c' q) ∧
  tl (fun cls d H' => wAs K (.ref CS) i ts (fun _ _ _ _ => False) D cls d σ H') H (fun _ H' => D.nx σ H')
theorem ps_act_as {Ng : List Str} {x a e n q : Str} {sg : Scope} {g CS f c' : Addr} {cdg : Value} {i : Nat} {b₀ : Stmt} {suite : List Stmt} {p1 p2 p3 p4 p5 p6 : Pos} {ts : Addr → Value → Option Addr → TS} {s : Shared} {H : Hp} {tl : XK → Hp → VK → Prop}
    (hge : sg.names.lookup e = some .globalImplicit) (hme : X.mg e = some (.ref CS)) (hde : (e == ("__debug__" : Str)) = false) (nd : Ng.Nodup) (hi : Ng[i]? = some n)
    (hln : (cxOf C8.CX0 X.prog X.w X.K X.mg X.base Ng x sg g cdg X.A X.stack s H C8.E0).nox.env.kindOf n = some .local)
    (act : ∀ (W : WX) (pn : List (Addr × Obj)) (xe : Value → Shared → Prop) (E : XK) (p1 p2 : Pos) (σ0 : L2.St), Takes ((cxOf C8.CX0 X.prog X.w X.K X.mg X.base Ng x sg g cdg X.A X.stack s H C8.E0).tr pn xe) W → (∀ cls d H', E cls d H' → W cls d σ0 H') →
      PE ((cxOf C8.CX0 X.prog X.w X.K X.mg X.base Ng x sg g cdg X.A X.stack s H C8.E0).tr pn xe) (.Call (.Name a p1) [] [] p2) (fun σZ HZ Q => σZ = σ0 ∧ σZ[0]? = some (some (.ref f)) ∧ HZ c' = some (CodeO c' q) ∧ tl E HZ Q))
    (hsu : ∀ (c : Addr) (oe : Obj) (cls : Value) (d : Option Addr) (pn : List (Addr × Obj)), Zc cls d oe → (∃ vs, oe.data = .fields vs) → PSs ((cxOf C8.CX0 X.prog X.w X.K X.mg X.base Ng x sg g cdg X.A X.stack s H C8.E0).nox.suite c ((c, oe) :: pn)) (b₀ :: suite) (ts c cls d)) :
    PS (cxOf C8.CX0 X.prog X.w X.K X.mg X.base Ng x sg g cdg X.A X.stack s H C8.E0).nox (.Try [.Expr (.Call (.Name a p1) [] [] p2) p3] [.ExceptHandler (some (.Name e p4)) (some n) (b₀ :: suite) p5] [] [] p6) (tActAs X.K CS f c' q i ts tl) := by
  let Z := (cxOf C8.CX0 X.prog X.w X.K X.mg X.base Ng x sg g cdg X.A X.stack s H C8.E0).nox
  have glob : Gl Z e := hge
  let tried : WX → TS := fun W D σ H1 => ∃ out : XK, (∀ cls d H', out cls d H' → W cls d σ H') ∧ σ[0]? = some (some (.ref f)) ∧ H1 c' = some (CodeO c' q) ∧ tl out H1 (fun _ H2 => D.nx σ H2)
  have inner : ∀ (W : WX) (pn : List (Addr × Obj)) (xe : Value → Shared → Prop), Takes (Z.tr pn xe) W → PassesOwn (model Z.prog Z.w) Z.A Z.env xe → PSs (Z.tr pn xe) [.Expr (.Call (.Name a p1) [] [] p2) p3] (tried W) := by
    intro W pn xe tk _
    refine ⟨fun pins s' σ H' D I told' => ?_⟩
    obtain ⟨out, hW, h1, h2, h3⟩ := told'
    exact (pss_one (ps_expr (pos := p3) (act _ pn xe out p1 p2 σ tk hW))).run pins s' σ H' D I ⟨rfl, h1, h2, h3⟩
  have whole := ps_try_as (X := Z) (c := .ref CS) (i := i) (tb := tried) (ts := ts) (Wout := fun _ _ _ _ => False) (pos := p6) (pos' := p5) (np := p4) rfl rfl nd hi hln ⟨glob, hde, .inl hme⟩ L2.takes0 inner (fun c oe cls d pn hz hf => hsu c oe cls d pn hz hf)
  refine ⟨fun pins s' σ H1 D I h => whole.run pins s' σ H1 D I ?_⟩
  obtain ⟨h1, h2, h3⟩ := h
  exact ⟨_, fun cls d H' h => h, h1, h2, h3⟩
end
end Sm

set_option Elab.async false
set_option linter.all false
set_option maxRecDepth 100000
set_option maxHeartbeats 4000000
namespace Sm
open PySem PySem.Spec PyProof.Rows L2
/-! ### try with several clauses `except C as n`, which together take all that the body raises -/
/-- behind a suite its name is gone -/
def offN (i : Nat) (D : Ends) : Ends := { nx := fun τ K => D.nx (τ.set i none) K, rt := D.rt, bk := fun τ K => D.bk (τ.set i none) K, ct := fun τ K => D.ct (τ.set i none) K }
def wNames (K : PySem.W.Frag) (D : Ends) : List (Value × Nat × (Addr → Value → Option Addr → TS)) → WX
  | [] => fun _ _ _ _ => False
  | (c, i, ts) :: more => fun cls d σ H => ∃ b, PySem.W.exmOne K cls c = some b ∧ (b = true → ∀ e, H e = none → ts e cls d (offN i D) (σ.set i (some (.ref e))) H) ∧ (b = false → wNames K D more cls d σ H)
inductive Clauses (X : Cx) : List ExceptHandler → List (Value × Nat × (Addr → Value → Option Addr → TS)) → Prop
  | nil : Clauses X [] []
  | cons {x n : Str} {c : Value} {i : Nat} {ts : Addr → Value → Option Addr → TS} {first : Stmt} {suite : List Stmt} {p q : Pos} {hds : List ExceptHandler} {more : List (Value × Nat × (Addr → Value → Option Addr → TS))}
      (known : Names X x c) (slot : X.N[i]? = some n) (own : X.env.kindOf n = some .local)
      (told : ∀ (e : Addr) (o : Obj) (cls : Value) (d : Option Addr) (pn : List (Addr × Obj)), Zc cls d o → (∃ vs, o.data = .fields vs) → PSs (X.suite e ((e, o) :: pn)) (first :: suite) (ts e cls d)) (rest : Clauses X hds more) :
      Clauses X (.ExceptHandler (some (.Name x p)) (some n) (first :: suite) q :: hds) ((c, i, ts) :: more)
section
variable {X : Cx} {body : List Stmt} {h₀ : ExceptHandler} {hds : List ExceptHandler} {cl : List (Value × Nat × (Addr → Value → Option Addr → TS))} {pos : Pos} {tb : WX → TS}
theorem ps_try_names (stk : X.stack = X.env :: X.outer) (frm : X.env.frame = some X.env.locals) (nd : X.N.Nodup)
    (inner : ∀ (W : WX) (pn : List (Addr × Obj)) (xe : Value → Shared → Prop), Takes (X.tr pn xe) W → PassesOwn (model X.prog X.w) X.A X.env xe → PSs (X.tr pn xe) body (tb W)) (cs : Clauses X (h₀ :: hds) cl) :
    PS X (.Try body (h₀ :: hds) [] [] pos) (fun D σ H => tb (wNames X.K D cl) D σ H) := by
  refine ⟨fun pins s σ H D I h => wpAny_Try_except ?_⟩
  have ok := I.ok
  refine wpAny_mono ((inner (wNames X.K D cl) (X.pn ++ pins) (fun e s₁ => wpAny (model X.prog X.w) X.A (noteFrame e X.env) (fun _ s₂ => wpAny (model X.prog X.w) X.A (setFlight e none) (fun _ s₃ => wpAny (model X.prog X.w) X.A (handleBy e X.env (h₀ :: hds)) (SP X pins D) X.xe s₃) X.xe s₂) X.xe s₁) ?_ PassesOwn.looking).run [] s σ H D (I.toTry _) h) ?_ (fun e s1 he => he)
  · rintro u s' ⟨a, B, sI, pins', τ, G, cls, d, rfl, J', bare, up, sky, fresh, os, ag, w⟩
    have J : Inv X pins τ G sI := J'.ofTry ok
    have sky2 : Sky B (X.env :: X.outer) a (Zc cls d) X.env.locals s'.heap := by rw [← stk]; exact sky
    show wpAny (model X.prog X.w) X.A (noteFrame (.ref a) X.env) _ _ _
    refine Sky.land Zc.steady (by rw [ok.frames, stk]) frm sky2 fun h3 fly up3 => ?_
    have landed : Inv X pins τ G { s' with heap := h3 } := J.landed bare fly.1 (up.trans up3) os ag
    obtain ⟨o3, vs3, there, kind, data⟩ := fly.there
    have outside : a ∉ frs (X.env :: X.outer) := fun m => by
      obtain ⟨_, o', e', no⟩ := fly.2.2.1.mem m
      rw [there] at e'; cases e'
      exact no _ data
    have nL : a ≠ X.env.locals := fun z => outside (List.mem_filterMap.mpr ⟨X.env, List.mem_cons_self, by rw [frm, z]⟩)
    have nF : a ∉ X.fs := fun m => by
      obtain ⟨e, he, q⟩ := List.mem_filterMap.mp m
      exact outside (List.mem_filterMap.mpr ⟨e, List.mem_cons_of_mem _ he, q⟩)
    have S3 := landed.suite there data fresh nL nF
    have typ : PySem.W.Looks (model X.prog X.w) h3 (typeOf (.ref a)) cls := fun A Q E s k q => wpAny_typeOf_ref (k _ _ there) (by rw [kind.1]; exact q)
    have each : ∀ {hs : List ExceptHandler} {ls : List (Value × Nat × (Addr → Value → Option Addr → TS))}, Clauses X hs ls → wNames X.K D ls cls d τ G → wpAny (model X.prog X.w) X.A (handleBy (.ref a) X.env hs) (SP X pins D) X.xe { s' with heap := h3 } := by
      intro hs ls cs
      induction cs with
      | nil => exact fun w => False.elim w
      | @cons x n c i ts first suite p q hds2 more known slot own told rest ih =>
        rintro ⟨b, asked, yes, no⟩
        refine wpAny_handleBy_cons (codeAny_handlers_test ?_) (by intro q; cases q)
        have match_ := PySem.W.exm_one (M := model X.prog X.w) landed.kIn typ asked
        have named : ∀ {Q : Value → Shared → Prop} {E : Value → Shared → Prop}, Q c { s' with heap := h3 } → wpAny (model X.prog X.w) (X.A.mark (some (.ref a))) (eval (.Name x p) X.env) Q E { s' with heap := h3 } := by
          intro Q E z
          obtain ⟨hg, hdbg, hm | ⟨hm, hv, hnn⟩⟩ := known
          · exact ld_glob (X := X.suite a ((a, o3) :: (X.pn ++ pins))) S3 hg hm z hdbg
          · exact ld_blt (X := X.suite a ((a, o3) :: (X.pn ++ pins))) S3 hg hm hv z hnn hdbg
        refine named (match_.here ?_)
        cases b with
        | false => exact ih (no rfl)
        | true =>
          refine codeAny_handlers_suite_as (HandSPX.lands_againZ fly fun h4 fly4 up4 => ?_)
          have J4 : Inv X pins τ G { s' with heap := h4 } := J.landed bare fly4.1 ((up.trans up3).trans up4) os ag
          obtain ⟨o4, vs4, there4, kind4, data4⟩ := fly4.there
          refine store_ok (X := X.suite a ((a, o4) :: (X.pn ++ pins))) (v := .ref a) (J4.suite there4 data4 fresh nL nF) nd slot (.inl own) rfl (fun s5 S5 => ?_) (.inr own)
          refine wpAny_mono ((told a o4 cls d (X.pn ++ pins) kind4 ⟨_, data4⟩).run [] s5 _ G _ S5 (yes rfl a fresh)) ?_ (fun _ _ z => False.elim z)
          intro fl s6 out
          have gone : ∀ {τ6 : L2.St} {H6 : Hp} {Q : Shared → Prop}, Inv (X.suite a ((a, o4) :: (X.pn ++ pins))) [] τ6 H6 s6 → (∀ s7, Inv X pins (τ6.set i none) H6 s7 → Q s7) → wpAny (model X.prog X.w) X.A (do bindName X.env n .none; unbindBehindTheSuite X.env n q) (fun _ s7 => Q s7) X.xe s6 :=
            fun {τ6 H6 Q} S6 z => gone_ok (S6.unsuite ok) nd slot own z
          match fl, out with
          | .next, ⟨τ6, H6, S6, z⟩ => exact gone S6 fun s7 J7 => ⟨_, _, J7, z⟩
          | .brk, ⟨τ6, H6, S6, z⟩ => exact gone S6 fun s7 J7 => ⟨_, _, J7, z⟩
          | .cont, ⟨τ6, H6, S6, z⟩ => exact gone S6 fun s7 J7 => ⟨_, _, J7, z⟩
          | .ret u, ⟨v6, τ6, H6, S6, r6, z⟩ => exact gone S6 fun s7 J7 => ⟨_, _, _, J7, r6, z⟩
    exact each cs w
  · intro fl s1 out
    match fl, out with
    | .next, ⟨τ, G, J', z⟩ => exact wpAny_execs_nil ⟨τ, G, J'.ofTry ok, z⟩
    | .brk, ⟨τ, G, J', z⟩ => exact ⟨τ, G, J'.ofTry ok, z⟩
    | .cont, ⟨τ, G, J', z⟩ => exact ⟨τ, G, J'.ofTry ok, z⟩
    | .ret u, ⟨v, τ, G, J', r, z⟩ => exact ⟨v, τ, G, J'.ofTry ok, r, z⟩
end
end Sm

set_option Elab.async false
set_option linter.all false
set_option maxRecDepth 100000
set_option maxHeartbeats 4000000
namespace Sm
open PySem PySem.Spec PyProof.Rows L2
/-! ### own exception classes with one field, over ValueError (XVal) and LookupError (XLook): what the written part says of them -/
structure XVal (K : PySem.W.Frag) (mg : Str → Option Value) (nm fl : Str) (C fI : Addr) : Prop where
  g : mg nm = some (.ref C)
  oex : OexC K C
  no : PySem.W.findIn K (.ref C) fl = some none
  iC : PySem.W.findIn K (.ref C) "__init__" = some (some (.ref fI))
  tI : PySem.W.typeIn K (.ref fI) = some (.type "function")
  xf : XfC K C
  ec : ExcC K C
  te : PySem.W.exmOne K (.ref C) (.ref C) = some true
structure XLook (K : PySem.W.Frag) (mg : Str → Option Value) (nm fl : Str) (C fI : Addr) : Prop where
  g : mg nm = some (.ref C)
  oex : OexL K C
  no : PySem.W.findIn K (.ref C) fl = some none
  iC : PySem.W.findIn K (.ref C) "__init__" = some (some (.ref fI))
  tI : PySem.W.typeIn K (.ref fI) = some (.type "function")
  xf : XfC K C
  ec : ExcC K C
  te : PySem.W.exmOne K (.ref C) (.ref C) = some true
/-- the def __init__ of such a class -/
def IniF (K : PySem.W.Frag) (q fl : Str) (st : Stmt) (fI : Addr) : Prop := ∃ fd, Fun K "__init__" q st fI fd ∧ Binds K fd ["self", fl] []
def CalX (P : Program) (w : World) (K : PySem.W.Frag) (mg : Str → Option Value) (base : Heap) (x : Str) (ps : List Str) (k : Nat) (sp : Sp) : Prop :=
  ∃ (f : Addr) (fd : FuncData), FnOk P w K mg base (L2.CX P w) k f fd ps sp ∧ mg x = some (.ref f) ∧ PySem.W.keepIn K (.ref f) = true ∧ Binds K fd ps []
/-- what is raised may be wished for at any slots that are there -/
theorem passL {X : Cx} {W : WX} {P : Program} {w : World} {n : Nat} (tk : Takes X W) (hp : X.prog = P := by rfl) (hw : X.w = w := by rfl) (hn : X.N.length = n := by rfl) : Passes (L2.CX P w) X (fun cls d H => ∀ σ : L2.St, σ.length = n → W cls d σ H) := by
  subst hp hw hn
  exact passes_call (takes_len tk) fun cls d σ H h => h σ
theorem un_mk {k : Nat} {A : Around} {h : Option Value} (r : Room k A) : (A.mark h).units + 100 < cLine := by
  have := r.un
  show A.units + 100 < cLine
  omega
theorem un_of {k : Nat} {A : Around} (r : Room k A) : A.units + 100 < cLine := by have := r.un; omega
/-- isinstance of an own instance -/
structure InsC (K : PySem.W.Frag) (C : Addr) : Prop where
  cl : Cls K C
  ha : PySem.W.findIn K (.ref C) "__class__" = some (some (.builtin "object.__class__"))
  hn : PySem.W.specialIn K (.builtin "object.__class__") "__get__" = some (some (.builtin "getset_descriptor.__get__"))
  ht : PySem.W.takesIn K (.builtin "object.__class__") = some true
  hm : PySem.W.mroIn K C (.type "object") = some true
theorem InsC.ty {K : PySem.W.Frag} {C a dx : Addr} {H : Hp} {fs : List (Str × V)} (c : InsC K C) (e : H a = some (.ins C dx fs)) : TyX K H (.ref a) (.ref C) := .base (.ins e c.cl c.ha c.hn c.ht c.hm)
/-! ### texts of texts -/
theorem ofString_small (s : String) : ∀ c ∈ (Str.ofString s).cps.toList, c < 16 ^ 8 := by
  intro c hc
  rw [signs_ofString] at hc
  obtain ⟨x, _, rfl⟩ := List.mem_map.mp hc
  have h : x.toNat < 1114112 := by
    have := x.valid
    rcases this with h | h
    · exact Nat.lt_trans h (by decide)
    · exact h.2
  exact Nat.lt_trans h (by decide)
end Sm

set_option Elab.async false
set_option linter.all false
set_option maxRecDepth 100000
set_option maxHeartbeats 4000000
namespace Sm
open PySem PySem.Spec PyProof.Rows L2
/-! ### a tuple taken once, or no times -/
theorem tuple_once (l : Addr) (items : Array Value) (n : Nat) (dd : Option Addr) (sl : Array (Option Value)) (u : Tok) :
    Meets (Builtin.«tuple.__mul__» ⟨[.ref l, .int 1 u], []⟩) (fun _ R s => s.heap.get? l = some { cls := .type "tuple", dict := dd, data := .seq items n, slots := sl } ∧ R (.ok (.ret (Value.ref l))) s) :=
  .of_wp fun prog w A R s h => by
    obtain ⟨hp, g, d, tk, os⟩ := s
    obtain ⟨hl, h⟩ := h
    have f1 := AutoSeq1.idx_int
    have c0 : (decide ((1 : Int) < -(2 ^ 63)) || decide ((1 : Int) ≥ 2 ^ 63)) = false := by decide
    wp_walk using wpAny_loadPart' hl
    exact ⟨_, rfl, h⟩
theorem tuple_zero (l : Addr) (items : Array Value) (n : Nat) (dd : Option Addr) (sl : Array (Option Value)) (u : Tok) (hi : items.isEmpty = false) :
    Meets (Builtin.«tuple.__mul__» ⟨[.ref l, .int 0 u], []⟩) (fun _ R s => s.heap.get? l = some { cls := .type "tuple", dict := dd, data := .seq items n, slots := sl } ∧ R (.ok (.ret (Value.ref s.heap.objs.size))) { s with heap := s.heap.push { cls := Value.type "tuple", data := Data.seq #[] } }) :=
  .of_wp fun prog w A R s h => by
    obtain ⟨hp, g, d, tk, os⟩ := s
    obtain ⟨hl, h⟩ := h
    have f1 := AutoSeq1.idx_int
    wp_walk using wpAny_loadPart' hl
    exact ⟨_, rfl, h⟩
section
variable {X : Cx}
/-- tuple * int, the int from 0 on -/
theorem op_rep0 : OpR X (binaryOp .Mult) (fun x y H Q => ∃ (l : Addr) (k : Int) (xs : List V), x = .ref l ∧ y = .int k ∧ H l = some (.tup xs) ∧ xs ≠ [] ∧ 0 ≤ k ∧ k ≤ 1000 ∧ xs.length ≤ 1000 ∧
    ∀ H' q, Same H H' → H' q = some (.tup (List.replicate k.toNat xs).flatten) → Q (.ref q) H') := by
  intro pins s σ H x y v u Q I rx ry want
  obtain ⟨l, k, xs, rfl, rfl, hT, hne, h0, h1, hz, q⟩ := want
  by_cases big : 2 ≤ k
  · exact op_repT pins s σ H _ _ v u Q I rx ry ⟨l, k, xs, rfl, rfl, SqT.of hT, hne, big, h1, hz, fun p np => q _ p (fun b o e => by rw [upd_ne (ne_of_none e np)]; exact e) upd_same⟩
  cases rx
  obtain ⟨t, rfl⟩ := ry
  obtain ⟨its, r, ⟨⟨cls, dd, data, sl⟩, ho, hc, n, hd⟩, hs⟩ := I.tuple (SqT.of hT)
  simp only at hc hd
  subst hc hd
  have hi : its.toArray.isEmpty = false := by
    cases its with
    | nil =>
      have := r.length
      exact absurd (List.eq_nil_of_length_eq_zero this) hne
    | cons a b => rfl
  by_cases one : k = 1
  · subst one
    refine wpAny_binaryOp_repeat_ref (T := "tuple") (U := "int") (by decide) ⟨_, ho, rfl⟩ (fun s' => typeIs_int s' 1 t) noFill_tuple_mul F.fills_int_mul F.slot_int_rmul repeat_tuple F.slot_int_index.lookup
      (call_meets F.slot_int_rmul (typeIs_int s 1 t) F.entry_int_rmul (F.args_int_rmul_2 _ _) (int_rmul_tuple 1 t l its.toArray n dd sl) ⟨ho, rfl, ⟨_, ho, rfl⟩, ?_⟩)
    refine call_meets F.slot_tuple_mul ⟨_, ho, rfl⟩ F.entry_tuple_mul (F.args_tuple_mul_2 _ _) (tuple_once l its.toArray n dd sl t) ⟨ho, ?_⟩
    refine ⟨.ref l, H, I, rfl, q H l (Same.refl H) ?_⟩
    rw [hT]
    simp
  · have zero : k = 0 := by omega
    subst zero
    refine wpAny_binaryOp_repeat_ref (T := "tuple") (U := "int") (by decide) ⟨_, ho, rfl⟩ (fun s' => typeIs_int s' 0 t) noFill_tuple_mul F.fills_int_mul F.slot_int_rmul repeat_tuple F.slot_int_index.lookup
      (call_meets F.slot_int_rmul (typeIs_int s 0 t) F.entry_int_rmul (F.args_int_rmul_2 _ _) (int_rmul_tuple 0 t l its.toArray n dd sl) ⟨ho, rfl, ⟨_, ho, rfl⟩, ?_⟩)
    refine call_meets F.slot_tuple_mul ⟨_, ho, rfl⟩ F.entry_tuple_mul (F.args_tuple_mul_2 _ _) (tuple_zero l its.toArray n dd sl t hi) ⟨ho, ?_⟩
    have fresh := I.hok.fresh (Nat.le_refl s.heap.objs.size)
    refine ⟨.ref s.heap.objs.size, upd H s.heap.objs.size (.tup []), I.laid (t' := s.toks) (fun b ob e => Heap.get?_push_of_some _ e) (Nat.le_refl _) ?_, rfl, q _ _ (fun b o e => by rw [upd_ne (ne_of_none e fresh)]; exact e) upd_same⟩
    exact ⟨Nat.zero_le _, [], .nil, IsTup.new _ _⟩
end
end Sm

set_option Elab.async false
set_option linter.all false
set_option maxRecDepth 100000
set_option maxHeartbeats 8000000
namespace Sm
open PySem PySem.Spec PyProof.Rows L2
open C8 (pss_cut tCut)
def topS (i : Nat) : Stmt := PySem.Challenge.pw_smallchange_k89_reserves.main.body.getD i (.Pass ⟨0, 0, 0, 0⟩)
structure Txt (mg : Str → Option Value) : Prop where
  n_abs : mg "abs" = none
  n_bool : mg "bool" = none
  n_int : mg "int" = none
  n_isinstance : mg "isinstance" = none
  n_len : mg "len" = none
  n_range : mg "range" = none
  n_repr : mg "repr" = none
  c_MAX_KINDS : ∃ t, mg "MAX_KINDS" = some (.int 4 t)
  c_MAX_PURSE : ∃ t, mg "MAX_PURSE" = some (.int 1000000 t)
  c_MAX_SPARE : ∃ t, mg "MAX_SPARE" = some (.int 1000000000000000000000000000000 t)
section
variable {P : Program} {w : World} {K : PySem.W.Frag} {mg : Str → Option Value} {base : Heap}
abbrev s_l_deck : Stmt := topS 14
abbrev N_l_deck : List Str := ["_law_script", "_law_cell"]
theorem sc_l_deck : FnScope N_l_deck ["_law_script"] (defScope s_l_deck) := ⟨rfl, rfl, rfl, by decide +kernel, rfl, by decide +kernel, by decide +kernel⟩
theorem ok_l_deck (T : Txt mg) (D : Df K mg "_law_deck" s_l_deck ["_law_script"]) : Cal P w K mg base "_law_deck" ["_law_script"] 1 (sp_l_deck K) := by
  refine D.cal sc_l_deck (fun vs H Q E h => ?_) (fun f cdv A outer s H vs Q E hr h => ?_)
  · obtain ⟨a, ns, rfl, _⟩ := h
    rfl
  obtain ⟨a, ns, rfl, hS, hlen, k⟩ := h
  refine ⟨_, (pss_one (ps_ret (pe_lst (pa_cons (pe_lc (own := [("_law_cell", 1)]) (g := gName 1) (tt := tYes) rfl sc_l_deck.nd (pi_list (pe_slice sl_list (pv 0) po_none (po_some pe_int))) (blkOk_by (own := [("_law_cell", 1)]) (N := N_l_deck) (sc := defScope s_l_deck) (by decide +kernel)) (fun _ _ _ _ _ => pg_name (i := 1) sc_l_deck.nd rfl (Or.inl rfl)) (fun _ _ _ _ _ => pts_nil) (fun _ _ _ _ _ => (pe_callB call_abs (by rfl) T.n_abs (by decide +kernel) (pa_cons (pv 1) pa_nil)))) (pa_cons pe_int pa_nil))))), ?_⟩
  refine ⟨_, rfl, _, rfl, a, _, rfl, hS, fun c nc => ?_⟩
  rw [cut63 hlen]
  have s1 := same_upd (o := .lst (ns.map V.int)) nc
  refine ⟨c, rfl, ⟨_, SqL.of upd_same⟩, fun D nD => ?_⟩
  have s2 := s1.trans (same_upd (o := .lst []) nD)
  have hc2 : upd (upd H c (.lst (ns.map V.int))) D (.lst []) c = some (.lst (ns.map V.int)) := same_upd nD _ _ upd_same
  refine lc_list (K := K) (a := c) (xs := ns.map V.int) (fun i H' => Same H H' ∧ H' c = some (.lst (ns.map V.int)) ∧ c ≠ D ∧ H D = none ∧ H' D = some (.lst (((ns.take i).map absI).map V.int)))
    ⟨s2, hc2, ne_of_none upd_same nD, s1.free nD, upd_same⟩ (fun i H' _ h => SqL.of h.2.1) ?_ ?_
  · rintro i x H' hx ⟨sm, hc, ncD, nD0, hD⟩
    rw [List.getElem?_map] at hx
    cases e : ns[i]? with
    | none => rw [e] at hx; cases hx
    | some y =>
      rw [e] at hx
      have ex : x = .int y := (Option.some.inj hx).symm
      subst ex
      refine ⟨rfl, ?_⟩
      unfold tYes
      refine iteT ?_
      refine ⟨_, rfl, _, rfl, _, hD, ?_, ?_⟩
      · rw [List.length_map, List.length_map, List.length_take]
        exact Nat.lt_of_le_of_lt (Nat.min_le_right _ _) (small1000 (by omega))
      · refine ⟨fun b o e => ?_, ?_, ncD, nD0, ?_⟩
        · rw [upd_ne (ne_of_none e nD0)]
          exact sm _ _ e
        · rw [upd_ne ncD]
          exact hc
        · rw [upd_same, List.take_add_one, e, List.map_append, List.map_append]
          rfl
  · rintro H' ⟨sm, hc, ncD, nD0, hD⟩
    refine ⟨(by show 2 ≤ sizeLine; decide), fun p np => ?_⟩
    have s3 := sm.trans (same_upd (o := .lst [.ref D, .int 0]) np)
    refine k _ p D s3 ⟨upd_same, _, (same_upd np) _ _ hD, fun c hc => ?_, ?_⟩
    · obtain ⟨y, _, rfl⟩ := List.mem_map.mp hc
      exact absI_pos y
    · rw [List.length_map, List.length_take]
      omega
abbrev s_l_draw : Stmt := topS 15
abbrev N_l_draw : List Str := ["_law_deck_here", "_law_many", "_law_cell", "_law_place", "_law_mixed"]
theorem sc_l_draw : FnScope N_l_draw ["_law_deck_here", "_law_many"] (defScope s_l_draw) := ⟨rfl, rfl, rfl, by decide +kernel, rfl, by decide +kernel, by decide +kernel⟩
theorem ok_l_draw (T : Txt mg) (D : Df K mg "_law_draw" s_l_draw ["_law_deck_here", "_law_many"]) : Cal P w K mg base "_law_draw" ["_law_deck_here", "_law_many"] 1 (sp_l_draw K) := by
  refine D.cal sc_l_draw (fun vs H Q E h => ?_) (fun f cdv A outer s H vs Q E hr h => ?_)
  · obtain ⟨p, l, n, m, rfl, _⟩ := h
    rfl
  obtain ⟨p, l, n, m, rfl, D, n0, n1, m0, m1, k⟩ := h
  obtain ⟨cells, hl, hc, h63⟩ := D.hl
  have npl : p ≠ l := ne_of D.hp hl deck_ne
  refine ⟨_, (pss_cons (ps_asg (pe_op op_add (pe_ix ix_list (pv 0) pe_int (fun _ _ => rfl)) pe_int) (pg_sub (pv 0) pe_int set_list))
    (pss_cons (ps_asg (pe_tup (pa_cons pe_int (pa_cons (pe_un un_neg pe_int) pa_nil))) (pg_tup (by rfl) (pgs_cons (pg_name (i := 2) sc_l_draw.nd rfl (Or.inl rfl)) (pgs_cons (pg_name (i := 3) sc_l_draw.nd rfl (Or.inl rfl)) pgs_nil))))
    (pss_cut (ps_if (pt_cmpR op_gt (pe_callB call_len_seq (by rfl) T.n_len (by decide +kernel) (pa_cons (pe_ix ix_list (pv 0) pe_int (fun _ _ => rfl)) pa_nil)) pe_int (nomark _)) (pss_cons (ps_set (i := 3) sc_l_draw.nd rfl (Or.inl rfl) (pe_op op_modN (pe_callTy call_int1 (by rfl) T.n_int (by decide +kernel) (pa_cons (pe_ix ix_list (pv 0) pe_int (fun _ _ => rfl)) pa_nil)) (pe_callB call_len_seq (by rfl) T.n_len (by decide +kernel) (pa_cons (pe_ix ix_list (pv 0) pe_int (fun _ _ => rfl)) pa_nil))))
    (pss_one (ps_set (i := 2) sc_l_draw.nd rfl (Or.inl rfl) (pe_ix ix_list (pe_ix ix_list (pv 0) pe_int (fun _ _ => rfl)) (pv 3) (fun _ _ => rfl))))) pss_nil)
    (pss_cons (ps_if (pt_cmpR op_ge (pv 2) (pe_op op_pow pe_int pe_int) (nomark _)) (pss_cons (ps_asg (pe_op op_fdivW (pe_callTy call_int1 (by rfl) T.n_int (by decide +kernel) (pa_cons (pv 2) pa_nil)) (pv 1)) (pg_sub (pe_ix ix_list (pv 0) pe_int (fun _ _ => rfl)) (pv 3) set_list))
    (pss_one (ps_ret (pe_op op_modN (pe_callTy call_int1 (by rfl) T.n_int (by decide +kernel) (pa_cons (pv 2) pa_nil)) (pv 1))))) pss_nil)
    (pss_cons (ps_set (i := 4) sc_l_draw.nd rfl (Or.inl rfl) (pe_op op_add (pe_op op_add (pe_op op_modN (pe_callTy call_int1 (by rfl) T.n_int (by decide +kernel) (pa_cons (pv 2) pa_nil)) pe_int) (pe_op op_mul pe_int (pe_ix ix_list (pv 0) pe_int (fun _ _ => rfl)))) pe_int))
    (pss_one (ps_ret (pe_op op_modN (pe_callTy call_int1 (by rfl) T.n_int (by decide +kernel) (pa_cons (pe_op op_modN (pe_callTy call_int1 (by rfl) T.n_int (by decide +kernel) (pa_cons (pe_op op_pow (pv 4) pe_int) pa_nil)) pe_int) pa_nil)) (pv 1))))))))), ?_⟩
  refine ⟨_, rfl, _, _, _, _, rfl, rfl, SqL.of D.hp, atI_nat (j := 1) rfl, _, _, rfl, rfl, _, rfl, _, _, _, _, rfl, rfl, D.hp, rfl, ?_⟩
  generalize hH0 : upd H p (HO.lst (List.set [V.ref l, V.int n] (Int.toNat 1) ((fun i j => V.int (i + j)) n 1))) = H0
  have hH0 : upd H p (.lst [.ref l, .int (n + 1)]) = H0 := hH0
  have f0 : Fr p l H H0 := fun b o h1 _ h => by rw [← hH0, upd_ne h1]; exact h
  have hl0 : H0 l = some (.lst (cells.map V.int)) := by rw [← hH0, upd_ne npl.symm]; exact hl
  have hp0 : H0 p = some (.lst [.ref l, .int (n + 1)]) := by rw [← hH0, upd_same]
  refine ⟨_, rfl, (by show 2 ≤ sizeLine; decide), fun t nt => ?_⟩
  refine ⟨_, _, rfl, SqT.of upd_same, rfl, _, _, rfl, _, _, rfl, rfl, ?_⟩
  have st := same_upd (o := .tup [.int 0, .int (-1)]) nt
  have hp1 := st _ _ hp0
  have hl1 := st _ _ hl0
  have f1 := f0.trans (Same.fr (p := p) (l := l) st)
  generalize upd H0 t (HO.tup [V.int 0, V.int (-1)]) = H1 at hp1 hl1 f1 ⊢
  refine ⟨fun σ H' => ∃ c pl : Int, σ = [some (.ref p), some (.int m), some (.int c), some (.int pl), none] ∧ H' = H1 ∧ 0 ≤ c ∧ (1000000000000000000 ≤ c → 0 ≤ pl ∧ pl.toNat < cells.length ∧ pl < cells.length), ?_, ?_⟩
  · refine ⟨_, rfl, _, _, _, _, rfl, rfl, SqL.of hp1, atI_nat (j := 0) rfl, _, _, rfl, .inl (SqL.of hl1), _, _, rfl, rfl, _, rfl, ite3 (fun e => ?_) (fun e => ?_)⟩
    · rw [List.length_map] at e
      have fm : (n + 1).fmod cells.length = (n + 1) % cells.length := fmod_pos (by omega)
      have q0 : 0 ≤ (n + 1).fmod cells.length := by rw [fm]; exact Int.emod_nonneg _ (by omega)
      have q1 : (n + 1).fmod cells.length < cells.length := by rw [fm]; exact Int.emod_lt_of_pos _ (by omega)
      have q2 : ((n + 1).fmod cells.length).toNat < cells.length := by omega
      have q3 : (n + 1).fmod cells.length = (((n + 1).fmod cells.length).toNat : Int) := by omega
      have q4 : (cells.map V.int)[((n + 1).fmod cells.length).toNat]? = some (.int cells[((n + 1).fmod cells.length).toNat]) := by
        rw [List.getElem?_map, List.getElem?_eq_getElem q2]
        rfl
      have ln : ((cells.map V.int).length : Int) = cells.length := by rw [List.length_map]
      refine ⟨_, rfl, _, _, _, _, rfl, rfl, SqL.of hp1, atI_nat (j := 1) rfl, .inl ⟨_, rfl, _, rfl, _, _, _, _, rfl, rfl, SqL.of hp1, atI_nat (j := 0) rfl, _, _, rfl, .inl (SqL.of hl1), _, _, rfl, rfl, (by rw [ln]; omega), ?_⟩⟩
      have z : ∀ B : Int → Prop, B ((n + 1).fmod cells.length) → B ((n + 1).fmod ((cells.map V.int).length : Int)) := fun B h => by rw [ln]; exact h
      refine z (fun y => gName 3 (.int y) _ _ _) ?_
      refine ⟨_, rfl, _, _, _, _, rfl, rfl, SqL.of hp1, atI_nat (j := 0) rfl, _, rfl, _, _, _, _, rfl, rfl, SqL.of hl1, at_of q3 q4, ?_⟩
      exact ⟨_, _, rfl, rfl, hc _ (List.getElem_mem q2), fun _ => ⟨q0, q2, q1⟩⟩
    · exact ⟨0, -1, rfl, rfl, Int.le_refl _, fun h => absurd h (by decide)⟩
  · rintro σ H' ⟨c, pl, rfl, rfl, c0, hpl⟩
    refine ⟨_, rfl, _, _, rfl, rfl, ⟨by decide, by decide, by decide⟩, _, _, rfl, rfl, _, rfl, ite3 (fun e => ?_) (fun e => ?_)⟩
    · have e : 1000000000000000000 ≤ c := e
      obtain ⟨p0, p1, p2⟩ := hpl e
      have ix : ixN (cells.map V.int).length pl = some pl.toNat := by
        unfold ixN
        rw [if_pos p0, if_pos (by rw [List.length_map]; exact p2)]
      refine ⟨_, rfl, .inl ⟨_, rfl, _, rfl, _, _, rfl, rfl, div_draw m0 m1, _, rfl, _, _, _, _, rfl, rfl, SqL.of hp1, atI_nat (j := 0) rfl, _, rfl, _, _, _, _, rfl, rfl, hl1, ix, ?_⟩⟩
      refine ⟨_, rfl, .inl ⟨_, rfl, _, rfl, _, _, rfl, rfl, (by omega), ?_⟩⟩
      have fm : c.fmod m = c % m := fmod_pos m0
      refine k _ _ (by rw [fm]; exact Int.emod_nonneg _ (by omega)) (by rw [fm]; exact Int.emod_lt_of_pos _ m0) (f1.trans fun b o _ h2 h => by rw [upd_ne h2]; exact h) ⟨by rw [upd_ne npl]; exact hp1, cells.set pl.toNat (c / m), by rw [upd_same, List.map_set], fun y hy => ?_, by rw [List.length_set]; exact h63⟩
      rcases List.mem_or_eq_of_mem_set hy with q | q
      · exact hc y q
      · rw [q]; exact Int.ediv_nonneg c0 (by omega)
    · refine ⟨_, rfl, .inl ⟨_, rfl, _, _, rfl, rfl, (show (2147483587 : Int) ≠ 0 by decide), _, rfl, _, _, _, _, rfl, rfl, SqL.of hp1, atI_nat (j := 1) rfl, _, _, rfl, rfl, .inl ⟨by decide, by decide⟩, _, _, rfl, rfl, _, _, rfl, rfl, ?_⟩⟩
      have fm : c.fmod 2147483587 = c % 2147483587 := fmod_pos (by decide)
      have h0 := Int.emod_nonneg c (show (2147483587 : Int) ≠ 0 by decide)
      have h1 := Int.emod_lt_of_pos c (show (0 : Int) < 2147483587 by decide)
      refine ⟨_, rfl, _, _, rfl, rfl, ⟨by decide, by decide, by rw [fm]; omega⟩, .inl ⟨_, rfl, _, _, rfl, rfl, (show (2147483647 : Int) ≠ 0 by decide), .inl ⟨_, rfl, _, rfl, _, _, rfl, rfl, (by omega), ?_⟩⟩⟩
      refine k _ _ ?_ ?_ f1 ⟨hp1, cells, hl1, hc, h63⟩
      · rw [fmod_pos m0]; exact Int.emod_nonneg _ (by omega)
      · rw [fmod_pos m0]; exact Int.emod_lt_of_pos _ m0
abbrev s_l_one : Stmt := topS 16
abbrev N_l_one : List Str := ["_law_deck_here", "_law_items"]
theorem sc_l_one : FnScope N_l_one ["_law_deck_here", "_law_items"] (defScope s_l_one) := ⟨rfl, rfl, rfl, by decide +kernel, rfl, by decide +kernel, by decide +kernel⟩
theorem ok_l_one (T : Txt mg) (D : Df K mg "_law_one" s_l_one ["_law_deck_here", "_law_items"]) (C_l_draw : Cal P w K mg base "_law_draw" ["_law_deck_here", "_law_many"] 1 (sp_l_draw K)) : Cal P w K mg base "_law_one" ["_law_deck_here", "_law_items"] 2 (sp_l_one K) := by
  obtain ⟨f_l_draw, fd_l_draw, G_l_draw, m_l_draw, k_l_draw, b_l_draw⟩ := C_l_draw
  refine D.cal sc_l_one (fun vs H Q E h => ?_) (fun f cdv A outer s H vs Q E hr h => ?_)
  · obtain ⟨p, l, b, n, xs, rfl, _⟩ := h
    rfl
  obtain ⟨p, l, b, n, xs, rfl, D, n0, n1, hb, bp, bl, x0, x1, k⟩ := h
  refine ⟨_, (pss_one (ps_ret (pe_ix ix_list (pv 1) (pe_call G_l_draw (hr.mono (by decide)) (by rfl) m_l_draw k_l_draw b_l_draw .nil pass0 (pa_cons (pv 0) (pa_cons (pe_callB call_len_seq (by rfl) T.n_len (by decide +kernel) (pa_cons (pv 1) pa_nil)) pa_nil))) (fun _ _ => rfl)))), ?_⟩
  refine ⟨_, rfl, _, rfl, _, rfl, _, _, rfl, .inl (SqL.of hb), p, l, n, _, rfl, D, n0, n1, (by omega), (by omega), fun r H' r0 r1 f D' => ?_⟩
  have q : r.toNat < xs.length := by omega
  refine ⟨_, _, _, _, rfl, rfl, SqL.of (f b _ bp bl hb), at_of (j := r.toNat) (by omega) (List.getElem?_eq_getElem q), ?_⟩
  exact k _ H' (List.getElem_mem q) f D'
end
end Sm

set_option Elab.async false
set_option linter.all false
set_option maxRecDepth 100000
set_option maxHeartbeats 8000000
namespace Sm
open PySem PySem.Spec PyProof.Rows L2
open C8 (pss_cut tCut)
def inI : PyData → Int → Int → Bool
  | .int i, lo, hi => decide (lo ≤ i) && decide (i ≤ hi)
  | _, _, _ => false
def isW : PyData → Bool
  | .int _ => true
  | _ => false
theorem of_int (d : PyData) : isOf "int" d = (match d with | .int _ => true | .bool _ => true | _ => false) := by
  cases d <;> simp [isOf, isT, tyN]
theorem of_bool (d : PyData) : isOf "bool" d = (match d with | .bool _ => true | _ => false) := by
  cases d <;> simp [isOf, isT, tyN]
theorem chain_in {i lo hi : Int} {σ : L2.St} {H : Hp} {Q : VK} (h0 : σ[0]? = some (some (.int i))) (h1 : σ[1]? = some (some (.int lo))) (h2 : σ[2]? = some (some (.int hi))) (h : Q (.bl (decide (lo ≤ i) && decide (i ≤ hi))) H) :
    tChain (rI0 fun i j => V.bl (decide (i ≤ j))) (rI0 fun i j => V.bl (decide (i ≤ j))) (tVar 1) (tVar 0) (tVar 2) σ H Q := by
  refine ⟨_, h1, _, h0, _, _, rfl, rfl, _, rfl, ?_⟩
  by_cases c : lo ≤ i
  · rw [decide_eq_true c] at h ⊢
    exact iteT ⟨_, h2, _, _, rfl, rfl, h⟩
  · rw [decide_eq_false c] at h ⊢
    exact iteF h
def sp_is_whole (K : PySem.W.Frag) : Sp := fun vs H Q _ => ∃ (v : V) (d : PyData), vs = [v] ∧ Dq K H v d ∧ Q (.bl (isW d)) H
def sp_is_within (K : PySem.W.Frag) : Sp := fun vs H Q _ => ∃ (v : V) (d : PyData) (lo hi : Int), vs = [v, .int lo, .int hi] ∧ Dq K H v d ∧ Q (.bl (inI d lo hi)) H
abbrev sp_l_is_between := sp_is_within
/-- data that is soon shown -/
structure Sml (k n : Nat) (d : PyData) : Prop where
  sh : PyData.showable d = true
  dep : d.depth ≤ k
  len : d.shown.length ≤ n
/-- and whose text is soon shown too -/
structure Smt (d : PyData) : Prop where
  sml : Sml 3 300 d
  sg : ∀ c ∈ d.shown.cps.toList, c < 16 ^ 8
theorem smt_int {i : Int} (h : -1000000000000000000000000000000000000000000 ≤ i ∧ i ≤ 1000000000000000000000000000000000000000000) : Smt (.int i) := by
  have b : i.natAbs < 2 ^ 143 := by omega
  have lg : i.natAbs.log2 < 143 := by
    rcases Nat.eq_zero_or_pos i.natAbs with z | z
    · rw [z]; decide
    · exact (Nat.log2_lt (by omega)).mpr b
  have lg2 : i.natAbs.log2 < 1920 := by omega
  refine ⟨⟨by simp only [PyData.showable, decide_eq_true lg2], by show 0 ≤ 3; decide, ?_⟩, ?_⟩
  · simp only [PyData.shown]
    rw [PySem.ofString_length]
    have := PySem.int_text_length_le (a := i) (k := 143) (by decide) lg
    omega
  · simp only [PyData.shown]
    exact ofString_small _
/-- a value that stands on what is new since H -/
def DqN (K : PySem.W.Frag) (H H' : Hp) (x : V) (d : PyData) : Prop := ∀ H'' : Hp, (∀ b o, H b = none → H' b = some o → H'' b = some o) → Dq K H'' x d
theorem same_upd2 {H : Hp} {p : Addr} {o o' : HO} (h : H p = none) : Same H (upd (upd H p o) p o') := fun b x e => by
  rw [upd_ne (ne_of_none e h), upd_ne (ne_of_none e h)]
  exact e
def sp_l_odd (K : PySem.W.Frag) : Sp := fun vs H Q _ => ∃ (p l : Addr) (n : Int), vs = [.ref p] ∧ Deck H p l n ∧ 0 ≤ n ∧ n ≤ 900000 ∧
  ∀ H' x d, Fr p l H H' → Deck H' p l (n + 1) → DqN K H H' x d → Smt d → Q x H'
section
variable {P : Program} {w : World} {K : PySem.W.Frag} {mg : Str → Option Value} {base : Heap}
abbrev s_is_whole : Stmt := topS 3
abbrev N_is_whole : List Str := ["value"]
theorem sc_is_whole : FnScope N_is_whole ["value"] (defScope s_is_whole) := ⟨rfl, rfl, rfl, by decide +kernel, rfl, by decide +kernel, by decide +kernel⟩
theorem ok_is_whole (T : Txt mg) (D : Df K mg "is_whole" s_is_whole ["value"]) : Cal P w K mg base "is_whole" ["value"] 1 (sp_is_whole K) := by
  refine D.cal sc_is_whole (fun vs H Q E h => ?_) (fun f cdv A outer s H vs Q E hr h => ?_)
  · obtain ⟨v, d, rfl, _⟩ := h
    rfl
  obtain ⟨v, d, rfl, hd, k⟩ := h
  refine ⟨_, (pss_one (ps_ret (pe_and (pe_callB call_isQ (by rfl) T.n_isinstance (by decide +kernel) (pa_cons (pv 0) (pa_cons (pe_bltn (v := .ty "int") (by rfl) T.n_int (by decide +kernel) rfl) pa_nil))) (pe_one (pe_not (pe_callB call_isQ (by rfl) T.n_isinstance (by decide +kernel) (pa_cons (pv 0) (pa_cons (pe_bltn (v := .ty "bool") (by rfl) T.n_bool (by decide +kernel) rfl) pa_nil)))))))), ?_⟩
  refine ⟨_, rfl, v, d, "int", rfl, hd, .inl rfl, _, rfl, ?_⟩
  rw [of_int]
  cases hd with
  | non => exact iteF k
  | bl b => exact iteT ⟨_, rfl, _, .bool b, "bool", rfl, .bl b, .inr (.inl rfl), _, rfl, by rw [of_bool]; exact k⟩
  | int i => exact iteT ⟨_, rfl, _, .int i, "bool", rfl, .int i, .inr (.inl rfl), _, rfl, by rw [of_bool]; exact k⟩
  | str x => exact iteF k
  | lst e1 e2 e3 => exact iteF k
  | tup e1 e2 => exact iteF k
  | dic kvs e1 => exact iteF k
abbrev s_is_within : Stmt := topS 4
abbrev N_is_within : List Str := ["value", "low", "high"]
theorem sc_is_within : FnScope N_is_within ["value", "low", "high"] (defScope s_is_within) := ⟨rfl, rfl, rfl, by decide +kernel, rfl, by decide +kernel, by decide +kernel⟩
theorem ok_is_within (T : Txt mg) (D : Df K mg "is_within" s_is_within ["value", "low", "high"]) (C_is_whole : Cal P w K mg base "is_whole" ["value"] 1 (sp_is_whole K)) : Cal P w K mg base "is_within" ["value", "low", "high"] 2 (sp_is_within K) := by
  obtain ⟨f_is_whole, fd_is_whole, G_is_whole, m_is_whole, k_is_whole, b_is_whole⟩ := C_is_whole
  refine D.cal sc_is_within (fun vs H Q E h => ?_) (fun f cdv A outer s H vs Q E hr h => ?_)
  · obtain ⟨v, d, lo, hi, rfl, _⟩ := h
    rfl
  obtain ⟨v, d, lo, hi, rfl, hd, k⟩ := h
  refine ⟨_, (pss_one (ps_ret (pe_and (pe_call G_is_whole (hr.mono (by decide)) (by rfl) m_is_whole k_is_whole b_is_whole .nil pass0 (pa_cons (pv 0) pa_nil)) (pe_one (pe_chain op_le op_le (pv 1) (pv 0) (pv 2)))))), ?_⟩
  refine ⟨_, rfl, v, d, rfl, hd, _, rfl, ?_⟩
  cases hd with
  | int i => exact iteT (chain_in rfl rfl rfl k)
  | non => exact iteF k
  | bl b => exact iteF k
  | str x => exact iteF k
  | lst e1 e2 e3 => exact iteF k
  | tup e1 e2 => exact iteF k
  | dic kvs e1 => exact iteF k
abbrev s_l_is_between : Stmt := topS 17
abbrev N_l_is_between : List Str := ["_law_value", "_law_low", "_law_high"]
theorem sc_l_is_between : FnScope N_l_is_between ["_law_value", "_law_low", "_law_high"] (defScope s_l_is_between) := ⟨rfl, rfl, rfl, by decide +kernel, rfl, by decide +kernel, by decide +kernel⟩
theorem ok_l_is_between (T : Txt mg) (D : Df K mg "_law_is_between" s_l_is_between ["_law_value", "_law_low", "_law_high"]) : Cal P w K mg base "_law_is_between" ["_law_value", "_law_low", "_law_high"] 1 (sp_l_is_between K) := by
  refine D.cal sc_l_is_between (fun vs H Q E h => ?_) (fun f cdv A outer s H vs Q E hr h => ?_)
  · obtain ⟨v, d, lo, hi, rfl, _⟩ := h
    rfl
  obtain ⟨v, d, lo, hi, rfl, hd, k⟩ := h
  refine ⟨_, (pss_one (ps_ret (pe_and (pe_callB call_isQ (by rfl) T.n_isinstance (by decide +kernel) (pa_cons (pv 0) (pa_cons (pe_bltn (v := .ty "int") (by rfl) T.n_int (by decide +kernel) rfl) pa_nil))) (pe_and (pe_not (pe_callB call_isQ (by rfl) T.n_isinstance (by decide +kernel) (pa_cons (pv 0) (pa_cons (pe_bltn (v := .ty "bool") (by rfl) T.n_bool (by decide +kernel) rfl) pa_nil)))) (pe_one (pe_chain op_le op_le (pv 1) (pv 0) (pv 2))))))), ?_⟩
  refine ⟨_, rfl, v, d, "int", rfl, hd, .inl rfl, _, rfl, ?_⟩
  rw [of_int]
  cases hd with
  | int i => exact iteT ⟨_, rfl, _, .int i, "bool", rfl, .int i, .inr (.inl rfl), _, rfl, _, rfl, by rw [of_bool]; exact iteT (chain_in rfl rfl rfl k)⟩
  | bl b => exact iteT ⟨_, rfl, _, .bool b, "bool", rfl, .bl b, .inr (.inl rfl), _, rfl, _, rfl, by rw [of_bool]; exact iteF k⟩
  | non => exact iteF k
  | str x => exact iteF k
  | lst e1 e2 e3 => exact iteF k
  | tup e1 e2 => exact iteF k
  | dic kvs e1 => exact iteF k
abbrev s_l_odd : Stmt := topS 18
abbrev N_l_odd : List Str := ["_law_deck_here", "_law_some"]
theorem sc_l_odd : FnScope N_l_odd ["_law_deck_here"] (defScope s_l_odd) := ⟨rfl, rfl, rfl, by decide +kernel, rfl, by decide +kernel, by decide +kernel⟩
theorem ok_l_odd (T : Txt mg) (D : Df K mg "_law_odd" s_l_odd ["_law_deck_here"]) (C_l_one : Cal P w K mg base "_law_one" ["_law_deck_here", "_law_items"] 2 (sp_l_one K)) : Cal P w K mg base "_law_odd" ["_law_deck_here"] 3 (sp_l_odd K) := by
  obtain ⟨f_l_one, fd_l_one, G_l_one, m_l_one, k_l_one, b_l_one⟩ := C_l_one
  refine D.cal sc_l_odd (fun vs H Q E h => ?_) (fun f cdv A outer s H vs Q E hr h => ?_)
  · obtain ⟨p, l, n, rfl, _⟩ := h
    rfl
  obtain ⟨p, l, n, rfl, D, n0, n1, k⟩ := h
  refine ⟨_, (pss_cons (ps_set (i := 1) sc_l_odd.nd rfl (Or.inl rfl) (pe_lstN (pa_cons pe_non (pa_cons pe_bl (pa_cons pe_bl (pa_cons (pe_un un_neg pe_int) (pa_cons pe_int (pa_cons (pe_op op_add (pe_op op_pow pe_int pe_int) pe_int) (pa_cons (pe_op op_add (pe_op op_pow pe_int pe_int) pe_int) (pa_cons pe_str (pa_cons pe_str (pa_cons (pe_tup pa_nil) (pa_cons (pe_lstN pa_nil) (pa_cons pe_dnewK (pa_cons (pe_tup (pa_cons pe_int pa_nil)) (pa_cons (pe_lstN (pa_cons pe_int pa_nil)) (pa_cons (pe_disp (pps_cons pe_str pe_int pps_nil) rfl rfl (fun z => nomatch z) (by decide)) (pa_cons (pe_op op_pow pe_int pe_int) pa_nil))))))))))))))))))
    (pss_one (ps_ret (pe_call G_l_one (hr.mono (by decide)) (by rfl) m_l_one k_l_one b_l_one .nil pass0 (pa_cons (pv 0) (pa_cons (pv 1) pa_nil)))))), ?_⟩
  refine ⟨_, rfl, _, _, rfl, rfl, ⟨by decide, by decide, by decide⟩, _, _, rfl, rfl, _, _, rfl, rfl, ⟨by decide, by decide, by decide⟩, _, _, rfl, rfl, (by show 0 ≤ sizeLine; decide), fun o1 no1 => ⟨(by show 0 ≤ sizeLine; decide), fun o2 no2 eo2 => fun o3 no3 => ⟨(by show 1 ≤ sizeLine; decide), fun o4 no4 => ⟨(by show 1 ≤ sizeLine; decide), fun o5 no5 eo5 => fun o6 no6 => ⟨upd_same, [(.inr "a", .int 1)], rfl, by decide, _, _, rfl, rfl, ⟨by decide, by decide, by decide⟩, (by show 16 ≤ sizeLine; decide), fun L0 nL0 eL0 => ?_⟩⟩⟩⟩⟩
  have wo1 := same_upd (o := .tup []) no1
  have wo2 := same_upd (o := .lst []) no2
  have wo3 := same_upd (o := .dK []) no3
  have wo4 := same_upd (o := .tup [.int 0]) no4
  have wo5 := same_upd (o := .lst [.int 1]) no5
  have wo6 := same_upd2 (o := .dK []) (o' := .dK (mergeK [] [(.inr "a", .int 1)])) no6
  have wL0 := same_upd (o := .lst [.non, .bl true, .bl false, .int (-1), .int 4, .int ((10 ^ Int.toNat 6) + 1), .int ((10 ^ Int.toNat 30) + 1), .str "", .str "1", .ref o1, .ref o2, .ref o3, .ref o4, .ref o5, .ref o6, .int (10 ^ Int.toNat 40)]) nL0
  have y6 := wL0
  have y5 := wo6.trans y6
  have y4 := wo5.trans y5
  have y3 := wo4.trans y4
  have y2 := wo3.trans y3
  have y1 := wo2.trans y2
  have y0 := wo1.trans y1
  have yy := y0
  have lne := (D.same (wo1.trans (wo2.trans (wo3.trans (wo4.trans (wo5.trans wo6)))))).lne nL0
  have D1 := D.same yy
  refine ⟨_, rfl, _, rfl, p, l, L0, n, _, rfl, D1, n0, by omega, upd_same, lne.1, lne.2, (by show 0 < 16; decide), (by show 16 ≤ 1000; decide), fun x H' hx f D' => ?_⟩
  have co1 := y1 o1 (.tup []) upd_same
  have mo1 : H o1 = none := no1
  have do1 := f _ _ (D.lne mo1).1 (D.lne mo1).2 co1
  have co2 := y2 o2 (.lst []) upd_same
  have mo2 : H o2 = none := Same.free wo1 no2
  have do2 := f _ _ (D.lne mo2).1 (D.lne mo2).2 co2
  have co3 := y3 o3 (.dK []) upd_same
  have mo3 : H o3 = none := Same.free (wo1.trans wo2) no3
  have do3 := f _ _ (D.lne mo3).1 (D.lne mo3).2 co3
  have co4 := y4 o4 (.tup [.int 0]) upd_same
  have mo4 : H o4 = none := Same.free (wo1.trans (wo2.trans wo3)) no4
  have do4 := f _ _ (D.lne mo4).1 (D.lne mo4).2 co4
  have co5 := y5 o5 (.lst [.int 1]) upd_same
  have mo5 : H o5 = none := Same.free (wo1.trans (wo2.trans (wo3.trans wo4))) no5
  have do5 := f _ _ (D.lne mo5).1 (D.lne mo5).2 co5
  have co6 := y6 o6 (.dK (mergeK [] [(.inr "a", .int 1)])) upd_same
  have mo6 : H o6 = none := Same.free (wo1.trans (wo2.trans (wo3.trans (wo4.trans wo5)))) no6
  have do6 := f _ _ (D.lne mo6).1 (D.lne mo6).2 co6
  have k := fun x d => k H' x d ((Same.fr (p := p) (l := l) yy).trans f) D'
  clear co1 co2 co3 co4 co5 co6 y0 y1 y2 y3 y4 y5 y6 yy wo1 wo2 wo3 wo4 wo5 wo6 wL0 f D' D1
  simp only [List.mem_append, List.mem_cons, List.not_mem_nil, or_false] at hx
  rcases hx with rfl | rfl | rfl | rfl | rfl | rfl | rfl | rfl | rfl | rfl | rfl | rfl | rfl | rfl | rfl | rfl
  · exact k _ _ (fun _ _ => .non) ⟨⟨by decide +kernel, by decide +kernel, by decide +kernel⟩, by decide +kernel⟩
  · exact k _ _ (fun _ _ => .bl _) ⟨⟨by decide +kernel, by decide +kernel, by decide +kernel⟩, by decide +kernel⟩
  · exact k _ _ (fun _ _ => .bl _) ⟨⟨by decide +kernel, by decide +kernel, by decide +kernel⟩, by decide +kernel⟩
  · exact k _ _ (fun _ _ => .int _) ⟨⟨by decide +kernel, by decide +kernel, by decide +kernel⟩, by decide +kernel⟩
  · exact k _ _ (fun _ _ => .int _) ⟨⟨by decide +kernel, by decide +kernel, by decide +kernel⟩, by decide +kernel⟩
  · exact k _ _ (fun _ _ => .int _) ⟨⟨by decide +kernel, by decide +kernel, by decide +kernel⟩, by decide +kernel⟩
  · exact k _ _ (fun _ _ => .int _) ⟨⟨by decide +kernel, by decide +kernel, by decide +kernel⟩, by decide +kernel⟩
  · exact k _ _ (fun _ _ => .str _) ⟨⟨by decide +kernel, by decide +kernel, by decide +kernel⟩, by decide +kernel⟩
  · exact k _ _ (fun _ _ => .str _) ⟨⟨by decide +kernel, by decide +kernel, by decide +kernel⟩, by decide +kernel⟩
  · exact k _ _ (fun H2 h => .tup (h _ _ mo1 do1) .nil) ⟨⟨by decide +kernel, by decide +kernel, by decide +kernel⟩, by decide +kernel⟩
  · exact k _ _ (fun H2 h => .lst (h _ _ mo2 do2) eo2 .nil) ⟨⟨by decide +kernel, by decide +kernel, by decide +kernel⟩, by decide +kernel⟩
  · exact k _ _ (fun H2 h => .dic [] (h _ _ mo3 do3)) ⟨⟨by decide +kernel, by decide +kernel, by decide +kernel⟩, by decide +kernel⟩
  · exact k _ _ (fun H2 h => .tup (h _ _ mo4 do4) (.cons (.int _) .nil)) ⟨⟨by decide +kernel, by decide +kernel, by decide +kernel⟩, by decide +kernel⟩
  · exact k _ _ (fun H2 h => .lst (h _ _ mo5 do5) eo5 (.cons (.int _) .nil)) ⟨⟨by decide +kernel, by decide +kernel, by decide +kernel⟩, by decide +kernel⟩
  · exact k _ _ (fun H2 h => .dic [(.inr "a", 1)] (h _ _ mo6 do6)) ⟨⟨by decide +kernel, by decide +kernel, by decide +kernel⟩, by decide +kernel⟩
  · exact k _ _ (fun _ _ => .int _) ⟨⟨by decide +kernel, by decide +kernel, by decide +kernel⟩, by decide +kernel⟩
end
end Sm

set_option Elab.async false
set_option linter.all false
set_option maxRecDepth 100000
set_option maxHeartbeats 8000000
namespace Sm
open PySem PySem.Spec PyProof.Rows L2
open C8 (pss_cut tCut)
abbrev s_NoKind_init : Stmt := inClass (topS 9) 0
abbrev N_NoKind_init : List Str := ["self", "kind"]
theorem sc_NoKind_init : FnScope N_NoKind_init ["self", "kind"] (defScope s_NoKind_init) := ⟨rfl, rfl, rfl, by decide +kernel, rfl, by decide +kernel, by decide +kernel⟩
abbrev s_BadAmount_init : Stmt := inClass (topS 7) 0
abbrev N_BadAmount_init : List Str := ["self", "value"]
theorem sc_BadAmount_init : FnScope N_BadAmount_init ["self", "value"] (defScope s_BadAmount_init) := ⟨rfl, rfl, rfl, by decide +kernel, rfl, by decide +kernel, by decide +kernel⟩
abbrev s_TooLittle_init : Stmt := inClass (topS 8) 0
abbrev N_TooLittle_init : List Str := ["self", "amount"]
theorem sc_TooLittle_init : FnScope N_TooLittle_init ["self", "amount"] (defScope s_TooLittle_init) := ⟨rfl, rfl, rfl, by decide +kernel, rfl, by decide +kernel, by decide +kernel⟩
abbrev s_Reserve_init : Stmt := inClass (topS 12) 0
abbrev N_Reserve_init : List Str := ["self", "kind", "least"]
theorem sc_Reserve_init : FnScope N_Reserve_init ["self", "kind", "least"] (defScope s_Reserve_init) := ⟨rfl, rfl, rfl, by decide +kernel, rfl, by decide +kernel, by decide +kernel⟩
abbrev s_Reserve_spare : Stmt := inClass (topS 12) 1
abbrev N_Reserve_spare : List Str := ["self", "amount"]
theorem sc_Reserve_spare : FnScope N_Reserve_spare ["self", "amount"] (defScope s_Reserve_spare) := ⟨rfl, rfl, rfl, by decide +kernel, rfl, by decide +kernel, by decide +kernel⟩
/-- what the written part says of the class Reserve -/
structure TxR (K : PySem.W.Frag) (mg : Str → Option Value) (cReserve fR fS : Addr) : Prop where
  g : mg "Reserve" = some (.ref cReserve)
  ins : InsC K cReserve
  mak : Mk K cReserve fR
  meS : Meth K cReserve "spare" fS
  naK : NoAttr K cReserve "kind"
  naL : NoAttr K cReserve "least"
  fI : ∃ fd, Fun K "__init__" "Reserve.__init__" s_Reserve_init fR fd ∧ Binds K fd ["self", "kind", "least"] []
  fSp : ∃ fd, Fun K "spare" "Reserve.spare" s_Reserve_spare fS fd ∧ Binds K fd ["self", "amount"] []
  is : PySem.W.kitOne K (.ref cReserve) (.ref cReserve) = some true
def sp_Rinit (K : PySem.W.Frag) (cReserve cNoKind cBadAmount : Addr) : Sp := fun vs H Q E => ∃ (a dx : Addr) (v1 v2 : V) (d1 d2 : PyData), vs = [.ref a, v1, v2] ∧ H a = some (.ins cReserve dx []) ∧ Dq K H v1 d1 ∧ Dq K H v2 d2 ∧
  (inI d1 0 3 = false → ∀ H' x, Same H H' → H' x = some (.xd [(("kind" : Str), v1)]) → E (.ref cNoKind) (some x) H') ∧
  (inI d1 0 3 = true → inI d2 0 1000000 = false → ∀ H' x, Same H H' → H' x = some (.xd [(("value" : Str), v2)]) → E (.ref cBadAmount) (some x) H') ∧
  (inI d1 0 3 = true → inI d2 0 1000000 = true → ∀ H', (∀ b o, b ≠ a → H b = some o → H' b = some o) → H' a = some (.ins cReserve dx [(("kind" : Str), v1), (("least" : Str), v2)]) → Q .non H')
def sp_Rspare (K : PySem.W.Frag) (cReserve cBadAmount cTooLittle : Addr) : Sp := fun vs H Q E => ∃ (a dx : Addr) (fs : List (Str × V)) (v : V) (d : PyData) (le : Int), vs = [.ref a, v] ∧ H a = some (.ins cReserve dx fs) ∧ fs.lookup ("least" : Str) = some (.int le) ∧ Dq K H v d ∧
  (inI d 0 1000000000000000000000000000000 = false → ∀ H' x, Same H H' → H' x = some (.xd [(("value" : Str), v)]) → E (.ref cBadAmount) (some x) H') ∧
  (∀ i, d = .int i → inI d 0 1000000000000000000000000000000 = true → i < le → ∀ H' x, Same H H' → H' x = some (.xd [(("amount" : Str), v)]) → E (.ref cTooLittle) (some x) H') ∧
  (∀ i, d = .int i → inI d 0 1000000000000000000000000000000 = true → le ≤ i → Q (.int (i - le)) H)
theorem inI_int {d : PyData} {lo hi : Int} (h : inI d lo hi = true) : ∃ i, d = .int i ∧ lo ≤ i ∧ i ≤ hi := by
  cases d with
  | int i =>
    have h : (decide (lo ≤ i) && decide (i ≤ hi)) = true := h
    rw [Bool.and_eq_true, decide_eq_true_iff, decide_eq_true_iff] at h
    exact ⟨i, rfl, h⟩
  | _ => cases h
section
variable {P : Program} {w : World} {K : PySem.W.Frag} {mg : Str → Option Value} {base : Heap} {cNoKind cBadAmount cTooLittle cReserve fNoKind fBadAmount fTooLittle fR fS : Addr}
theorem ok_NoKind_init {fd : FuncData} (F : Fun K "__init__" "NoKind.__init__" s_NoKind_init fNoKind fd) : FnOk P w K mg base CX0 1 fNoKind fd ["self", "kind"] (sp_initL K "kind") := by
  refine F.ok sc_NoKind_init (fun vs H Q E h => ?_) (fun cdv A outer s H vs Q E hr h => ?_)
  · obtain ⟨a, C, v, rfl, _⟩ := h
    rfl
  obtain ⟨a, C, v, rfl, T, no, ha, k⟩ := h
  exact ⟨_, pss_one (ps_osL (pv 0) (pv 1)), _, rfl, _, rfl, a, C, rfl, T, no, ha, k⟩
theorem ok_BadAmount_init {fd : FuncData} (F : Fun K "__init__" "BadAmount.__init__" s_BadAmount_init fBadAmount fd) : FnOk P w K mg base CX0 1 fBadAmount fd ["self", "value"] (sp_init K "value") := by
  refine F.ok sc_BadAmount_init (fun vs H Q E h => ?_) (fun cdv A outer s H vs Q E hr h => ?_)
  · obtain ⟨a, C, v, rfl, _⟩ := h
    rfl
  obtain ⟨a, C, v, rfl, T, no, ha, k⟩ := h
  exact ⟨_, pss_one (ps_ost (pv 0) (pv 1)), _, rfl, _, rfl, a, C, rfl, T, no, .inl ⟨ha, k⟩⟩
theorem ok_TooLittle_init {fd : FuncData} (F : Fun K "__init__" "TooLittle.__init__" s_TooLittle_init fTooLittle fd) : FnOk P w K mg base CX0 1 fTooLittle fd ["self", "amount"] (sp_init K "amount") := by
  refine F.ok sc_TooLittle_init (fun vs H Q E h => ?_) (fun cdv A outer s H vs Q E hr h => ?_)
  · obtain ⟨a, C, v, rfl, _⟩ := h
    rfl
  obtain ⟨a, C, v, rfl, T, no, ha, k⟩ := h
  exact ⟨_, pss_one (ps_ost (pv 0) (pv 1)), _, rfl, _, rfl, a, C, rfl, T, no, .inl ⟨ha, k⟩⟩
theorem ok_Rinit {fd : FuncData} (T : Txt mg) (XNoKind : XLook K mg "NoKind" "kind" cNoKind fNoKind) (iNoKind : IniF K "NoKind.__init__" "kind" s_NoKind_init fNoKind) (XBadAmount : XVal K mg "BadAmount" "value" cBadAmount fBadAmount) (iBadAmount : IniF K "BadAmount.__init__" "value" s_BadAmount_init fBadAmount) (R : TxR K mg cReserve fR fS)
    (C_is_within : Cal P w K mg base "is_within" ["value", "low", "high"] 2 (sp_is_within K)) (F : Fun K "__init__" "Reserve.__init__" s_Reserve_init fR fd) : FnOk P w K mg base (L2.CX P w) 3 fR fd ["self", "kind", "least"] (sp_Rinit K cReserve cNoKind cBadAmount) := by
  obtain ⟨f_is_within, fd_is_within, G_is_within, m_is_within, k_is_within, b_is_within⟩ := C_is_within
  obtain ⟨fd1, F1, b_NoKind_init⟩ := iNoKind
  obtain ⟨fd2, F2, b_BadAmount_init⟩ := iBadAmount
  have G_NoKind_init : FnOk P w K mg base CX0 1 fNoKind fd1 ["self", "kind"] (sp_initL K "kind") := ok_NoKind_init F1
  have G_BadAmount_init : FnOk P w K mg base CX0 1 fBadAmount fd2 ["self", "value"] (sp_init K "value") := ok_BadAmount_init F2
  obtain ⟨_, hMAX_KINDS⟩ := T.c_MAX_KINDS
  obtain ⟨_, hMAX_PURSE⟩ := T.c_MAX_PURSE
  refine F.okX sc_Reserve_init (fun vs H Q E h => ?_) (fun cdv A outer s H vs Q E hr h => ?_)
  · obtain ⟨a, dx, v1, v2, d1, d2, rfl, _⟩ := h
    rfl
  obtain ⟨a, dx, v1, v2, d1, d2, rfl, ha, q1, q2, e1, e2, kk⟩ := h
  refine ⟨_, (pss_cons (ps_if (pt_not (pt_val (pe_call G_is_within (hr.mono (by decide)) (by rfl) m_is_within k_is_within b_is_within .nil pass0 (pa_cons (pv 1) (pa_cons pe_int (pa_cons (pe_op op_sub (pe_glob (v := .int 4) rfl hMAX_KINDS ⟨_, rfl⟩) pe_int) pa_nil)))))) (pss_one (ps_raise rfl (takes_of rfl rfl rfl rfl) (pmk_oexL XNoKind.oex XNoKind.iC XNoKind.tI G_NoKind_init (hr.mono (by decide)) b_NoKind_init pass0 (by rfl) XNoKind.g (pa_cons (pv 1) pa_nil)))) pss_nil)
    (pss_cons (ps_if (pt_not (pt_val (pe_call G_is_within (hr.mono (by decide)) (by rfl) m_is_within k_is_within b_is_within .nil pass0 (pa_cons (pv 2) (pa_cons pe_int (pa_cons (pe_glob (v := .int 1000000) rfl hMAX_PURSE ⟨_, rfl⟩) pa_nil)))))) (pss_one (ps_raise rfl (takes_of rfl rfl rfl rfl) (pmk_oex XBadAmount.oex XBadAmount.iC XBadAmount.tI G_BadAmount_init (hr.mono (by decide)) b_BadAmount_init .nil pass0 (by rfl) XBadAmount.g (pa_cons (pv 2) pa_nil)))) pss_nil)
    (pss_cons (ps_fld (pv 0) (pv 1) rfl)
    (pss_one (ps_fld (pv 0) (pv 2) rfl))))), ?_⟩
  refine ⟨_, rfl, _, _, rfl, rfl, v1, d1, 0, 3, rfl, q1, ?_⟩
  cases e : inI d1 0 3 with
  | false =>
    refine ⟨_, rfl, iteT ?_⟩
    refine xc_mkL XNoKind.oex XNoKind.no ⟨_, rfl, v1, rfl, fun y H7 s7 hy => e1 e H7 y s7 hy⟩ (fun h z => ?_)
    obtain ⟨v, e, q⟩ := z
    exact ⟨v, e, h _ _ q⟩
  | true =>
    refine ⟨_, rfl, iteF ⟨_, rfl, v2, d2, 0, 1000000, rfl, q2, ?_⟩⟩
    cases e' : inI d2 0 1000000 with
    | false =>
      refine ⟨_, rfl, iteT ?_⟩
      refine xc_mk XBadAmount.oex XBadAmount.no ⟨_, rfl, v2, rfl, fun y H7 s7 hy => e2 e e' H7 y s7 hy⟩ (fun h z => ?_)
      obtain ⟨v, e, q⟩ := z
      exact ⟨v, e, h _ _ q⟩
    | true =>
      refine ⟨_, rfl, iteF ⟨_, rfl, _, rfl, a, cReserve, dx, _, rfl, ha, R.ins.cl, R.naK, by decide, _, rfl, _, rfl, a, cReserve, dx, _, rfl, upd_same, R.ins.cl, R.naL, by show 1 < 1000; decide, ?_⟩⟩
      refine kk e e' _ (fun b o nb hb => ?_) upd_same
      rw [upd_ne nb, upd_ne nb]
      exact hb
theorem ok_Rspare {fd : FuncData} (T : Txt mg) (XBadAmount : XVal K mg "BadAmount" "value" cBadAmount fBadAmount) (iBadAmount : IniF K "BadAmount.__init__" "value" s_BadAmount_init fBadAmount) (XTooLittle : XVal K mg "TooLittle" "amount" cTooLittle fTooLittle) (iTooLittle : IniF K "TooLittle.__init__" "amount" s_TooLittle_init fTooLittle) (R : TxR K mg cReserve fR fS)
    (C_is_within : Cal P w K mg base "is_within" ["value", "low", "high"] 2 (sp_is_within K)) (F : Fun K "spare" "Reserve.spare" s_Reserve_spare fS fd) : FnOk P w K mg base (L2.CX P w) 3 fS fd ["self", "amount"] (sp_Rspare K cReserve cBadAmount cTooLittle) := by
  obtain ⟨f_is_within, fd_is_within, G_is_within, m_is_within, k_is_within, b_is_within⟩ := C_is_within
  obtain ⟨fd1, F1, b_TooLittle_init⟩ := iTooLittle
  obtain ⟨fd2, F2, b_BadAmount_init⟩ := iBadAmount
  have G_TooLittle_init : FnOk P w K mg base CX0 1 fTooLittle fd1 ["self", "amount"] (sp_init K "amount") := ok_TooLittle_init F1
  have G_BadAmount_init : FnOk P w K mg base CX0 1 fBadAmount fd2 ["self", "value"] (sp_init K "value") := ok_BadAmount_init F2
  obtain ⟨_, hMAX_SPARE⟩ := T.c_MAX_SPARE
  refine F.okX sc_Reserve_spare (fun vs H Q E h => ?_) (fun cdv A outer s H vs Q E hr h => ?_)
  · obtain ⟨a, dx, fs, v, d, le, rfl, _⟩ := h
    rfl
  obtain ⟨a, dx, fs, v, d, le, rfl, ha, hl, q, e1, e2, kk⟩ := h
  refine ⟨_, (pss_cons (ps_if (pt_not (pt_val (pe_call G_is_within (hr.mono (by decide)) (by rfl) m_is_within k_is_within b_is_within .nil pass0 (pa_cons (pv 1) (pa_cons pe_int (pa_cons (pe_glob (v := .int 1000000000000000000000000000000) rfl hMAX_SPARE ⟨_, rfl⟩) pa_nil)))))) (pss_one (ps_raise rfl (takes_of rfl rfl rfl rfl) (pmk_oex XBadAmount.oex XBadAmount.iC XBadAmount.tI G_BadAmount_init (hr.mono (by decide)) b_BadAmount_init .nil pass0 (by rfl) XBadAmount.g (pa_cons (pv 1) pa_nil)))) pss_nil)
    (pss_cons (ps_if (pt_cmpR op_lt (pv 1) (pe_fld (pv 0) rfl) (nomark _)) (pss_one (ps_raise rfl (takes_of rfl rfl rfl rfl) (pmk_oex XTooLittle.oex XTooLittle.iC XTooLittle.tI G_TooLittle_init (hr.mono (by decide)) b_TooLittle_init .nil pass0 (by rfl) XTooLittle.g (pa_cons (pv 1) pa_nil)))) pss_nil)
    (pss_one (ps_ret (pe_op op_sub (pv 1) (pe_fld (pv 0) rfl)))))), ?_⟩
  refine ⟨_, rfl, v, d, 0, 1000000000000000000000000000000, rfl, q, ?_⟩
  cases e : inI d 0 1000000000000000000000000000000 with
  | false =>
    refine ⟨_, rfl, iteT ?_⟩
    refine xc_mk XBadAmount.oex XBadAmount.no ⟨_, rfl, v, rfl, fun y H7 s7 hy => e1 e H7 y s7 hy⟩ (fun h z => ?_)
    obtain ⟨v, e, q⟩ := z
    exact ⟨v, e, h _ _ q⟩
  | true =>
    obtain ⟨i, rfl, i0, i1⟩ := inI_int e
    cases q
    refine ⟨_, rfl, iteF ⟨_, rfl, _, rfl, a, cReserve, dx, fs, _, rfl, ha, R.ins.cl, R.naL, hl, _, _, rfl, rfl, _, rfl, ite3 (fun c => ?_) (fun c => ?_)⟩⟩
    · refine xc_mk XTooLittle.oex XTooLittle.no ⟨_, rfl, .int i, rfl, fun y H7 s7 hy => e2 i rfl e c H7 y s7 hy⟩ (fun h z => ?_)
      obtain ⟨v, e, q⟩ := z
      exact ⟨v, e, h _ _ q⟩
    · exact ⟨_, rfl, _, rfl, a, cReserve, dx, fs, _, rfl, ha, R.ins.cl, R.naL, hl, _, _, rfl, rfl, kk i rfl e (Int.not_lt.mp c)⟩
end
end Sm

set_option Elab.async false
set_option linter.all false
set_option maxRecDepth 100000
set_option maxHeartbeats 8000000
namespace Sm
open PySem PySem.Spec PyProof.Rows L2
open C8 (pss_cut tCut)
/-- what an error is told as -/
def wd (x : Str) (d : PyData) : PyData := .list [.str x, .str d.shown]
def dM (d1 d2 : PyData) : PyData := if inI d1 0 3 = true then wd "amount" d2 else wd "kind" d1
def dS (le : Int) (d : PyData) : PyData := if inI d 0 1000000000000000000000000000000 = true then match d with | .int i => if i < le then wd "little" d else .int (i - le) | _ => .none else wd "amount" d
def sp_l_made (K : PySem.W.Frag) (cReserve : Addr) : Sp := fun vs H Q _ => ∃ (v1 v2 : V) (d1 d2 : PyData), vs = [v1, v2] ∧ Dq K H v1 d1 ∧ Dq K H v2 d2 ∧ Smt d1 ∧ Smt d2 ∧
  (inI d1 0 3 = false ∨ inI d2 0 1000000 = false → ∀ H' x, Same H H' → Dq K H' x (dM d1 d2) → Q x H') ∧
  (inI d1 0 3 = true → inI d2 0 1000000 = true → ∀ H' q dx, Same H H' → H' q = some (.ins cReserve dx [(("kind" : Str), v1), (("least" : Str), v2)]) → Q (.ref q) H')
def sp_l_spare (K : PySem.W.Frag) (cReserve : Addr) : Sp := fun vs H Q _ => ∃ (a dx : Addr) (fs : List (Str × V)) (v : V) (d : PyData) (le : Int), vs = [.ref a, v] ∧ H a = some (.ins cReserve dx fs) ∧ fs.lookup ("least" : Str) = some (.int le) ∧ fs.lookup ("spare" : Str) = none ∧ Dq K H v d ∧ Smt d ∧ ∀ H' x, Same H H' → Dq K H' x (dS le d) → Q x H'
def sp_l_spare_due (K : PySem.W.Frag) : Sp := fun vs H Q _ => ∃ (v : V) (d : PyData) (le : Int), vs = [.int le, v] ∧ Dq K H v d ∧ Smt d ∧ ∀ H' x, Same H H' → Dq K H' x (dS le d) → Q x H'
theorem smt_dep {d : PyData} (s : Smt d) : d.depth ≤ 60 ∧ d.shown.length ≤ sizeLine := by
  have := s.sml.dep
  have := s.sml.len
  exact ⟨by omega, by rw [sizeLine_eq]; omega⟩
section
variable {P : Program} {w : World} {K : PySem.W.Frag} {mg : Str → Option Value} {base : Heap} {cNoKind cBadAmount cTooLittle cReserve fNoKind fBadAmount fTooLittle fR fS : Addr}
abbrev s_l_made : Stmt := topS 19
abbrev N_l_made : List Str := ["_law_kind", "_law_least", "e"]
theorem sc_l_made : FnScope N_l_made ["_law_kind", "_law_least"] (defScope s_l_made) := ⟨rfl, rfl, rfl, by decide +kernel, rfl, by decide +kernel, by decide +kernel⟩
theorem ok_l_made {f : Addr} {fd : FuncData} (T : Txt mg) (XNoKind : XLook K mg "NoKind" "kind" cNoKind fNoKind) (iNoKind : IniF K "NoKind.__init__" "kind" s_NoKind_init fNoKind) (XBadAmount : XVal K mg "BadAmount" "value" cBadAmount fBadAmount) (iBadAmount : IniF K "BadAmount.__init__" "value" s_BadAmount_init fBadAmount) (nBN : PySem.W.exmOne K (.ref cBadAmount) (.ref cNoKind) = some false) (R : TxR K mg cReserve fR fS)
    (C_is_within : Cal P w K mg base "is_within" ["value", "low", "high"] 2 (sp_is_within K)) (F : Fun K "_law_made" "_law_made" s_l_made f fd) : FnG P w K mg base 5 f fd ["_law_kind", "_law_least"] (sp_l_made K cReserve) := by
  obtain ⟨fdR, FR, b_Reserve_init⟩ := R.fI
  have G_Reserve_init := ok_Rinit (P := P) (w := w) (base := base) T XNoKind iNoKind XBadAmount iBadAmount R C_is_within FR
  have g_Reserve := R.g
  have Mk_Reserve := R.mak
  refine FnG.body F sc_l_made (fun vs H Q E h => ?_) (fun cdv A outer s H vs Q E gu hr h => ?_)
  · obtain ⟨v1, v2, d1, d2, rfl, _⟩ := h
    rfl
  obtain ⟨v1, v2, d1, d2, rfl, q1, q2, m1, m2, kb, kg⟩ := h
  refine ⟨_, (pss_one (ps_try_names rfl rfl sc_l_made.nd
      (fun W pn xe tk _ => (pss_one (ps_ret (pe_make Mk_Reserve G_Reserve_init (hr.mono (by decide)) (by rfl) g_Reserve b_Reserve_init .nil (passL (n := 3) tk) (pa_cons (pv 0) (pa_cons (pv 1) pa_nil))))))
      (.cons (i := 2) ⟨rfl, by decide, .inl XNoKind.g⟩ rfl rfl (fun a oe cls d pn hz hf => (pss_one (ps_ret (pe_lstN (pa_cons pe_str (pa_cons (pe_callB (show CallR _ (.builtin "repr") (rReprQ K) from call_reprU gu (un_mk hr)) (by rfl) T.n_repr (by decide +kernel) (pa_cons (pe_xf XNoKind.xf XNoKind.no hz hf (pv 2)) pa_nil)) pa_nil))))))
      (.cons (i := 2) ⟨rfl, by decide, .inl XBadAmount.g⟩ rfl rfl (fun a oe cls d pn hz hf => (pss_one (ps_ret (pe_lstN (pa_cons pe_str (pa_cons (pe_callB (show CallR _ (.builtin "repr") (rReprQ K) from call_reprU gu (un_mk hr)) (by rfl) T.n_repr (by decide +kernel) (pa_cons (pe_xf XBadAmount.xf XBadAmount.no hz hf (pv 2)) pa_nil)) pa_nil))))))
      .nil)))), ?_⟩
  refine ⟨_, rfl, _, rfl, fun x dx nx ndx ne => ?_⟩
  have sx : Same H (upd (upd H dx (.own x)) x (.ins cReserve dx [])) := fun b o hb => by
    rw [upd_ne (ne_of_none hb nx), upd_ne (ne_of_none hb ndx)]
    exact hb
  obtain ⟨dp1, ln1⟩ := smt_dep m1
  obtain ⟨dp2, ln2⟩ := smt_dep m2
  refine ⟨x, dx, v1, v2, d1, d2, rfl, upd_same, q1.same sx, q2.same sx, fun e H' y s' hy σ' len => ?_, fun e1 e2 H' y s' hy σ' len => ?_, fun e1 e2 H' keep hx => ?_⟩
  · obtain ⟨x0, x1, x2, rfl⟩ : ∃ x0 x1 x2, σ' = [x0, x1, x2] := by
      match σ', len with
      | [x0, x1, x2], _ => exact ⟨x0, x1, x2, rfl⟩
    refine ⟨true, XNoKind.te, fun _ ea nea => ?_, fun z => nomatch z⟩
    refine ⟨_, rfl, rfl, rfl, y, _, v1, rfl, hy, rfl, v1, d1, rfl, (q1.same sx).same s', m1.sml.sh, dp1, ln1, (by show 2 ≤ sizeLine; decide), fun r nr er => ?_⟩
    refine kb (.inl e) _ _ (sx.trans (s'.trans (same_upd nr))) ?_
    unfold dM
    rw [if_neg (by rw [e]; exact Bool.false_ne_true)]
    exact .lst upd_same er (.cons (.str _) (.cons (.str _) .nil))
  · obtain ⟨x0, x1, x2, rfl⟩ : ∃ x0 x1 x2, σ' = [x0, x1, x2] := by
      match σ', len with
      | [x0, x1, x2], _ => exact ⟨x0, x1, x2, rfl⟩
    refine ⟨false, nBN, fun z => (nomatch z), fun _ => ⟨true, XBadAmount.te, fun _ ea nea => ?_, fun z => nomatch z⟩⟩
    refine ⟨_, rfl, rfl, rfl, y, _, v2, rfl, hy, rfl, v2, d2, rfl, (q2.same sx).same s', m2.sml.sh, dp2, ln2, (by show 2 ≤ sizeLine; decide), fun r nr er => ?_⟩
    refine kb (.inr e2) _ _ (sx.trans (s'.trans (same_upd nr))) ?_
    unfold dM
    rw [if_pos e1]
    exact .lst upd_same er (.cons (.str _) (.cons (.str _) .nil))
  · exact ⟨rfl, kg e1 e2 H' x dx (fun b o hb => keep b o (ne_of_none hb nx) (sx b o hb)) hx⟩
abbrev s_l_spare : Stmt := topS 20
abbrev N_l_spare : List Str := ["_law_held", "_law_amount", "e"]
theorem sc_l_spare : FnScope N_l_spare ["_law_held", "_law_amount"] (defScope s_l_spare) := ⟨rfl, rfl, rfl, by decide +kernel, rfl, by decide +kernel, by decide +kernel⟩
theorem ok_l_spare {f : Addr} {fd : FuncData} (T : Txt mg) (XBadAmount : XVal K mg "BadAmount" "value" cBadAmount fBadAmount) (iBadAmount : IniF K "BadAmount.__init__" "value" s_BadAmount_init fBadAmount) (XTooLittle : XVal K mg "TooLittle" "amount" cTooLittle fTooLittle) (iTooLittle : IniF K "TooLittle.__init__" "amount" s_TooLittle_init fTooLittle) (nTB : PySem.W.exmOne K (.ref cTooLittle) (.ref cBadAmount) = some false) (R : TxR K mg cReserve fR fS)
    (C_is_within : Cal P w K mg base "is_within" ["value", "low", "high"] 2 (sp_is_within K)) (F : Fun K "_law_spare" "_law_spare" s_l_spare f fd) : FnG P w K mg base 5 f fd ["_law_held", "_law_amount"] (sp_l_spare K cReserve) := by
  obtain ⟨fdS, FS, b_Reserve_spare⟩ := R.fSp
  have G_Reserve_spare := ok_Rspare (P := P) (w := w) (base := base) T XBadAmount iBadAmount XTooLittle iTooLittle R C_is_within FS
  have Cl_Reserve := R.ins.cl
  have Me_Reserve_spare := R.meS
  refine FnG.body F sc_l_spare (fun vs H Q E h => ?_) (fun cdv A outer s H vs Q E gu hr h => ?_)
  · obtain ⟨a, dx, fs, v, d, le, rfl, _⟩ := h
    rfl
  obtain ⟨a, dx, fs, v, d, le, rfl, ha, hl, hno, q, m, kk⟩ := h
  refine ⟨_, (pss_one (ps_try_names rfl rfl sc_l_spare.nd
      (fun W pn xe tk _ => (pss_one (ps_ret (pe_meth (pv 0) Cl_Reserve Me_Reserve_spare G_Reserve_spare (hr.mono (by decide)) b_Reserve_spare .nil (passL (n := 3) tk) (pa_cons (pv 1) pa_nil)))))
      (.cons (i := 2) ⟨rfl, by decide, .inl XBadAmount.g⟩ rfl rfl (fun a oe cls d pn hz hf => (pss_one (ps_ret (pe_lstN (pa_cons pe_str (pa_cons (pe_callB (show CallR _ (.builtin "repr") (rReprQ K) from call_reprU gu (un_mk hr)) (by rfl) T.n_repr (by decide +kernel) (pa_cons (pe_xf XBadAmount.xf XBadAmount.no hz hf (pv 2)) pa_nil)) pa_nil))))))
      (.cons (i := 2) ⟨rfl, by decide, .inl XTooLittle.g⟩ rfl rfl (fun a oe cls d pn hz hf => (pss_one (ps_ret (pe_lstN (pa_cons pe_str (pa_cons (pe_callB (show CallR _ (.builtin "repr") (rReprQ K) from call_reprU gu (un_mk hr)) (by rfl) T.n_repr (by decide +kernel) (pa_cons (pe_xf XTooLittle.xf XTooLittle.no hz hf (pv 2)) pa_nil)) pa_nil))))))
      .nil)))), ?_⟩
  obtain ⟨dp, ln⟩ := smt_dep m
  refine ⟨_, rfl, a, dx, fs, rfl, ha, hno, _, rfl, a, dx, fs, v, d, le, rfl, ha, hl, q, fun e H' y s' hy σ' len => ?_, fun i ei e c H' y s' hy σ' len => ?_, fun i ei e c => ?_⟩
  · obtain ⟨x0, x1, x2, rfl⟩ : ∃ x0 x1 x2, σ' = [x0, x1, x2] := by
      match σ', len with
      | [x0, x1, x2], _ => exact ⟨x0, x1, x2, rfl⟩
    refine ⟨true, XBadAmount.te, fun _ ea nea => ?_, fun z => nomatch z⟩
    refine ⟨_, rfl, rfl, rfl, y, _, v, rfl, hy, rfl, v, d, rfl, q.same s', m.sml.sh, dp, ln, (by show 2 ≤ sizeLine; decide), fun r nr er => ?_⟩
    refine kk _ _ (s'.trans (same_upd nr)) ?_
    unfold dS
    rw [if_neg (by rw [e]; exact Bool.false_ne_true)]
    exact .lst upd_same er (.cons (.str _) (.cons (.str _) .nil))
  · obtain ⟨x0, x1, x2, rfl⟩ : ∃ x0 x1 x2, σ' = [x0, x1, x2] := by
      match σ', len with
      | [x0, x1, x2], _ => exact ⟨x0, x1, x2, rfl⟩
    refine ⟨false, nTB, fun z => (nomatch z), fun _ => ⟨true, XTooLittle.te, fun _ ea nea => ?_, fun z => nomatch z⟩⟩
    refine ⟨_, rfl, rfl, rfl, y, _, v, rfl, hy, rfl, v, d, rfl, q.same s', m.sml.sh, dp, ln, (by show 2 ≤ sizeLine; decide), fun r nr er => ?_⟩
    refine kk _ _ (s'.trans (same_upd nr)) ?_
    subst ei
    unfold dS
    rw [if_pos e]
    show Dq K _ _ (if i < le then _ else _)
    rw [if_pos c]
    exact .lst upd_same er (.cons (.str _) (.cons (.str _) .nil))
  · subst ei
    refine kk H _ (Same.refl _) ?_
    unfold dS
    rw [if_pos e]
    show Dq K _ _ (if i < le then _ else _)
    rw [if_neg (by omega)]
    exact .int _
abbrev s_l_spare_due : Stmt := topS 21
abbrev N_l_spare_due : List Str := ["_law_least", "_law_amount"]
theorem sc_l_spare_due : FnScope N_l_spare_due ["_law_least", "_law_amount"] (defScope s_l_spare_due) := ⟨rfl, rfl, rfl, by decide +kernel, rfl, by decide +kernel, by decide +kernel⟩
theorem ok_l_spare_due {f : Addr} {fd : FuncData} (T : Txt mg) (C_l_is_between : Cal P w K mg base "_law_is_between" ["_law_value", "_law_low", "_law_high"] 1 (sp_l_is_between K)) (F : Fun K "_law_spare_due" "_law_spare_due" s_l_spare_due f fd) : FnG P w K mg base 5 f fd ["_law_least", "_law_amount"] (sp_l_spare_due K) := by
  obtain ⟨f_l_is_between, fd_l_is_between, G_l_is_between, m_l_is_between, k_l_is_between, b_l_is_between⟩ := C_l_is_between
  refine FnG.body F sc_l_spare_due (fun vs H Q E h => ?_) (fun cdv A outer s H vs Q E gu hr h => ?_)
  · obtain ⟨v, d, le, rfl, _⟩ := h
    rfl
  obtain ⟨v, d, le, rfl, q, m, kk⟩ := h
  refine ⟨_, (pss_cons (ps_if (pt_not (pt_val (pe_call G_l_is_between (hr.mono (by decide)) (by rfl) m_l_is_between k_l_is_between b_l_is_between .nil pass0 (pa_cons (pv 1) (pa_cons pe_int (pa_cons (pe_op op_pow pe_int pe_int) pa_nil)))))) (pss_one (ps_ret (pe_lstN (pa_cons pe_str (pa_cons (pe_callB (call_reprU gu (un_of hr)) (by rfl) T.n_repr (by decide +kernel) (pa_cons (pv 1) pa_nil)) pa_nil))))) pss_nil)
    (pss_one (ps_ret (pe_ifExp (pt_cmpR op_lt (pv 1) (pv 0) (nomark _)) (pe_lstN (pa_cons pe_str (pa_cons (pe_callB (call_reprU gu (un_of hr)) (by rfl) T.n_repr (by decide +kernel) (pa_cons (pv 1) pa_nil)) pa_nil))) (pe_op op_sub (pv 1) (pv 0)))))), ?_⟩
  obtain ⟨dp, ln⟩ := smt_dep m
  refine ⟨_, rfl, _, _, rfl, rfl, ⟨by decide, by decide, by decide⟩, v, d, 0, 10 ^ Int.toNat 30, rfl, q, ?_⟩
  have tn : (10 : Int) ^ Int.toNat 30 = 1000000000000000000000000000000 := by decide +kernel
  rw [tn]
  cases e : inI d 0 1000000000000000000000000000000 with
  | false =>
    refine ⟨_, rfl, iteT ⟨_, rfl, v, d, rfl, q, m.sml.sh, dp, ln, (by show 2 ≤ sizeLine; decide), fun r nr er => ?_⟩⟩
    refine kk _ _ (same_upd nr) ?_
    unfold dS
    rw [if_neg (by rw [e]; exact Bool.false_ne_true)]
    exact .lst upd_same er (.cons (.str _) (.cons (.str _) .nil))
  | true =>
    obtain ⟨i, rfl, i0, i1⟩ := inI_int e
    cases q
    refine ⟨_, rfl, iteF ⟨_, rfl, _, rfl, _, _, rfl, rfl, _, rfl, ite3 (fun c => ?_) (fun c => ?_)⟩⟩
    · refine ⟨_, rfl, _, _, rfl, .int i, m.sml.sh, dp, ln, (by show 2 ≤ sizeLine; decide), fun r nr er => ?_⟩
      refine kk _ _ (same_upd nr) ?_
      unfold dS
      rw [if_pos e]
      show Dq K _ _ (if i < le then _ else _)
      rw [if_pos c]
      exact .lst upd_same er (.cons (.str _) (.cons (.str _) .nil))
    · refine ⟨_, rfl, _, rfl, _, _, rfl, rfl, kk H _ (Same.refl _) ?_⟩
      unfold dS
      rw [if_pos e]
      show Dq K _ _ (if i < le then _ else _)
      rw [if_neg c]
      exact .int _
end
end Sm

set_option Elab.async false
set_option linter.all false
set_option maxRecDepth 100000
set_option maxHeartbeats 8000000
namespace Sm
open PySem PySem.Spec PyProof.Rows L2
open C8 (pss_cut tCut)
def sp_law (K : PySem.W.Frag) : Sp := fun vs H Q _ => ∃ (a : Addr) (ns : List Int), vs = [.ref a] ∧ SqL K H a (ns.map V.int) ∧ ns.length ≤ 63 ∧ ∀ H', Q (.bl true) H'
/-- a value of any kind that does not stand on the deck -/
def DqF (K : PySem.W.Frag) (p l : Addr) (H : Hp) (x : V) (d : PyData) : Prop := ∀ H'', Fr p l H H'' → Dq K H'' x d
theorem DqF.at {K : PySem.W.Frag} {p l : Addr} {H : Hp} {x : V} {d : PyData} (q : DqF K p l H x d) : Dq K H x d := q H fun _ _ _ _ h => h
theorem DqF.fr {K : PySem.W.Frag} {p l : Addr} {H H' : Hp} {x : V} {d : PyData} (q : DqF K p l H x d) (f : Fr p l H H') : DqF K p l H' x d := fun H'' g => q H'' (f.trans g)
theorem DqF.same {K : PySem.W.Frag} {p l : Addr} {H H' : Hp} {x : V} {d : PyData} (q : DqF K p l H x d) (s : Same H H') : DqF K p l H' x d := q.fr (Same.fr s)
theorem DqF.new {K : PySem.W.Frag} {p l : Addr} {n : Int} {H H' : Hp} {x : V} {d : PyData} (q : DqN K H H' x d) (D : Deck H p l n) : DqF K p l H' x d := fun H'' f => q H'' fun b o h1 h2 => f b o (D.lne h1).1 (D.lne h1).2 h2
theorem DqF.int {K : PySem.W.Frag} {p l : Addr} {H : Hp} {i : Int} : DqF K p l H (.int i) (.int i) := fun _ _ => .int i
/-- an item of a list that is asked -/
def Asked (K : PySem.W.Frag) (p l : Addr) (H : Hp) (x : V) : Prop := ∃ d, DqF K p l H x d ∧ Smt d
theorem wd_shw {x : Str} {d : PyData} (s : Smt d) (hx : (PyData.shown (.str x)).length ≤ 100) : PyData.showable (wd x d) = true ∧ (wd x d).depth ≤ 60 ∧ (wd x d).shown.length ≤ sizeLine := by
  refine ⟨by unfold wd; simp only [PyData.showable, PyData.showableAll, Bool.and_self], Nat.le_of_ble_eq_true rfl, ?_⟩
  unfold wd
  simp only [PyData.shown, PyData.shownAll]
  have t := listText_len_le [PyData.shown (.str x), PyData.shown (.str d.shown)]
  have r := StrLaws.reprText_len d.shown s.sg
  have l := s.sml.len
  simp only [List.map_cons, List.map_nil, List.sum_cons, List.sum_nil, List.length_cons, List.length_nil, PyData.shown] at t hx
  rw [sizeLine_eq]
  omega
theorem dS_shw {d : PyData} {le : Int} (s : Smt d) (l0 : 0 ≤ le) (l1 : le ≤ 1000000) : PyData.showable (dS le d) = true ∧ (dS le d).depth ≤ 60 ∧ (dS le d).shown.length ≤ sizeLine := by
  unfold dS
  cases e : inI d 0 1000000000000000000000000000000 with
  | false =>
    rw [if_neg Bool.false_ne_true]
    exact wd_shw s (by decide +kernel)
  | true =>
    rw [if_pos rfl]
    obtain ⟨i, rfl, i0, i1⟩ := inI_int e
    show PyData.showable (if i < le then _ else _) = true ∧ (if i < le then _ else _ : PyData).depth ≤ 60 ∧ (if i < le then _ else _ : PyData).shown.length ≤ sizeLine
    by_cases c : i < le
    · rw [if_pos c]
      exact wd_shw s (by decide +kernel)
    · rw [if_neg c]
      have m := smt_int (i := i - le) (by omega)
      exact ⟨m.sml.sh, smt_dep m⟩
theorem pr_shw {d : PyData} {le : Int} (s : Smt d) (l0 : 0 ≤ le) (l1 : le ≤ 1000000) : PyData.showable (.list [d, .int le]) = true ∧ (PyData.list [d, .int le]).depth ≤ 60 ∧ (PyData.list [d, .int le]).shown.length ≤ sizeLine := by
  have m := smt_int (i := le) (by omega)
  have h1 := s.sml.sh
  have h2 := m.sml.sh
  have a1 := s.sml.dep
  have a2 := m.sml.dep
  have b1 := s.sml.len
  have b2 := m.sml.len
  refine ⟨by simp only [PyData.showable, PyData.showableAll] at h2 ⊢; rw [h1, h2]; rfl, ?_, ?_⟩
  · simp only [PyData.depth, PyData.depthAll] at a2 ⊢
    omega
  · simp only [PyData.shown, PyData.shownAll] at b2 ⊢
    have t := listText_len_le [d.shown, Str.ofString (toString le)]
    simp only [List.map_cons, List.map_nil, List.sum_cons, List.sum_nil, List.length_cons, List.length_nil] at t
    rw [sizeLine_eq]
    omega
section
variable {P : Program} {w : World} {K : PySem.W.Frag} {mg : Str → Option Value} {base : Heap} {cReserve fR fS : Addr}
abbrev s_law : Stmt := topS 22
abbrev N_law : List Str := ["_law_script", "_law_deck_here", "_law_turn", "_law_kind", "_law_least", "_law_held", "_law_due", "_law_some", "_law_amount"]
theorem sc_law : FnScope N_law ["_law_script"] (defScope s_law) := ⟨rfl, rfl, rfl, by decide +kernel, rfl, by decide +kernel, by decide +kernel⟩
theorem ok_lawC {f f_l_made f_l_spare f_l_spare_due : Addr} {fd fd_l_made fd_l_spare fd_l_spare_due : FuncData} (T : Txt mg) (R : TxR K mg cReserve fR fS) (F : Fun K "law" "law" s_law f fd) (C_l_deck : Cal P w K mg base "_law_deck" ["_law_script"] 1 (sp_l_deck K)) (C_l_draw : Cal P w K mg base "_law_draw" ["_law_deck_here", "_law_many"] 1 (sp_l_draw K)) (C_l_one : Cal P w K mg base "_law_one" ["_law_deck_here", "_law_items"] 2 (sp_l_one K)) (C_l_odd : Cal P w K mg base "_law_odd" ["_law_deck_here"] 3 (sp_l_odd K)) (C_l_is_between : Cal P w K mg base "_law_is_between" ["_law_value", "_law_low", "_law_high"] 1 (sp_l_is_between K))
    (G_l_made : FnG P w K mg base 5 f_l_made fd_l_made ["_law_kind", "_law_least"] (sp_l_made K cReserve)) (m_l_made : mg "_law_made" = some (.ref f_l_made)) (k_l_made : PySem.W.keepIn K (.ref f_l_made) = true) (b_l_made : L2.Binds K fd_l_made ["_law_kind", "_law_least"] [])
    (G_l_spare : FnG P w K mg base 5 f_l_spare fd_l_spare ["_law_held", "_law_amount"] (sp_l_spare K cReserve)) (m_l_spare : mg "_law_spare" = some (.ref f_l_spare)) (k_l_spare : PySem.W.keepIn K (.ref f_l_spare) = true) (b_l_spare : L2.Binds K fd_l_spare ["_law_held", "_law_amount"] [])
    (G_l_spare_due : FnG P w K mg base 5 f_l_spare_due fd_l_spare_due ["_law_least", "_law_amount"] (sp_l_spare_due K)) (m_l_spare_due : mg "_law_spare_due" = some (.ref f_l_spare_due)) (k_l_spare_due : PySem.W.keepIn K (.ref f_l_spare_due) = true) (b_l_spare_due : L2.Binds K fd_l_spare_due ["_law_least", "_law_amount"] []) : FnG P w K mg base 6 f fd ["_law_script"] (sp_law K) := by
  obtain ⟨f_l_deck, fd_l_deck, G_l_deck, m_l_deck, k_l_deck, b_l_deck⟩ := C_l_deck
  obtain ⟨f_l_draw, fd_l_draw, G_l_draw, m_l_draw, k_l_draw, b_l_draw⟩ := C_l_draw
  obtain ⟨f_l_one, fd_l_one, G_l_one, m_l_one, k_l_one, b_l_one⟩ := C_l_one
  obtain ⟨f_l_odd, fd_l_odd, G_l_odd, m_l_odd, k_l_odd, b_l_odd⟩ := C_l_odd
  obtain ⟨f_l_is_between, fd_l_is_between, G_l_is_between, m_l_is_between, k_l_is_between, b_l_is_between⟩ := C_l_is_between
  have g_Reserve := R.g
  refine FnG.body F sc_law (fun vs H Q E h => ?_) (fun cdv A outer s H vs Q E gu hr h => ?_)
  · obtain ⟨a, ns, rfl, _⟩ := h
    rfl
  obtain ⟨a, ns, rfl, hS, hlen, kk⟩ := h
  refine ⟨_, (pss_cons (ps_set (i := 1) sc_law.nd rfl (Or.inl rfl) (pe_call G_l_deck (hr.mono (by decide)) (by rfl) m_l_deck k_l_deck b_l_deck .nil pass0 (pa_cons (pv 0) pa_nil)))
    (pss_cons (ps_for PassesOwn.never rfl (pi_range1 (by rfl) T.n_range (pa_cons pe_int pa_nil)) (pg_name (i := 2) sc_law.nd rfl (Or.inl rfl))
      (pss_cons (ps_set (i := 3) sc_law.nd rfl (Or.inl rfl) (pe_call G_l_one (hr.mono (by decide)) (by rfl) m_l_one k_l_one b_l_one .nil pass0 (pa_cons (pv 1) (pa_cons (pe_lstN (pa_cons (pe_call G_l_draw (hr.mono (by decide)) (by rfl) m_l_draw k_l_draw b_l_draw .nil pass0 (pa_cons (pv 1) (pa_cons pe_int pa_nil))) (pa_cons (pe_call G_l_draw (hr.mono (by decide)) (by rfl) m_l_draw k_l_draw b_l_draw .nil pass0 (pa_cons (pv 1) (pa_cons pe_int pa_nil))) (pa_cons (pe_call G_l_odd (hr.mono (by decide)) (by rfl) m_l_odd k_l_odd b_l_odd .nil pass0 (pa_cons (pv 1) pa_nil)) pa_nil)))) pa_nil))))
    (pss_cons (ps_set (i := 4) sc_law.nd rfl (Or.inl rfl) (pe_call G_l_one (hr.mono (by decide)) (by rfl) m_l_one k_l_one b_l_one .nil pass0 (pa_cons (pv 1) (pa_cons (pe_lstN (pa_cons pe_int (pa_cons (pe_op op_pow pe_int pe_int) (pa_cons (pe_call G_l_draw (hr.mono (by decide)) (by rfl) m_l_draw k_l_draw b_l_draw .nil pass0 (pa_cons (pv 1) (pa_cons pe_int pa_nil))) (pa_cons (pe_call G_l_draw (hr.mono (by decide)) (by rfl) m_l_draw k_l_draw b_l_draw .nil pass0 (pa_cons (pv 1) (pa_cons (pe_op op_add (pe_op op_pow pe_int pe_int) pe_int) pa_nil))) (pa_cons (pe_call G_l_odd (hr.mono (by decide)) (by rfl) m_l_odd k_l_odd b_l_odd .nil pass0 (pa_cons (pv 1) pa_nil)) pa_nil)))))) pa_nil))))
    (pss_cons (ps_par (i := 5) (j := 6) (by rfl) sc_law.nd rfl rfl (by decide) rfl rfl (pa_cons (pe_callG G_l_made gu (hr.mono (by decide)) (by rfl) m_l_made k_l_made b_l_made (pa_cons (pv 3) (pa_cons (pv 4) pa_nil))) (pa_cons pe_non pa_nil)) (by rfl))
    (pss_cut (ps_if (pt_not (pt_val (pe_call G_l_is_between (hr.mono (by decide)) (by rfl) m_l_is_between k_l_is_between b_l_is_between .nil pass0 (pa_cons (pv 3) (pa_cons pe_int (pa_cons pe_int pa_nil)))))) (pss_one (ps_set (i := 6) sc_law.nd rfl (Or.inl rfl) (pe_lstN (pa_cons pe_str (pa_cons (pe_callB (call_reprQ gu ⟨_, hr⟩) (by rfl) T.n_repr (by decide +kernel) (pa_cons (pv 3) pa_nil)) pa_nil))))) (pss_one (ps_if (pt_not (pt_val (pe_call G_l_is_between (hr.mono (by decide)) (by rfl) m_l_is_between k_l_is_between b_l_is_between .nil pass0 (pa_cons (pv 4) (pa_cons pe_int (pa_cons (pe_op op_pow pe_int pe_int) pa_nil)))))) (pss_one (ps_set (i := 6) sc_law.nd rfl (Or.inl rfl) (pe_lstN (pa_cons pe_str (pa_cons (pe_callB (call_reprQ gu ⟨_, hr⟩) (by rfl) T.n_repr (by decide +kernel) (pa_cons (pv 4) pa_nil)) pa_nil))))) pss_nil)))
    (pss_cons (ps_if (pt_cmpR op_notN (pv 6) pe_non (nomark _)) (pss_cons (ps_if (pt_cmpR op_ne (pe_callB (call_reprQ gu ⟨_, hr⟩) (by rfl) T.n_repr (by decide +kernel) (pa_cons (pv 5) pa_nil)) (pe_callB (call_reprQ gu ⟨_, hr⟩) (by rfl) T.n_repr (by decide +kernel) (pa_cons (pv 6) pa_nil)) (nomark _)) (pss_one (ps_ret pe_bl)) pss_nil)
    (pss_one ps_continue)) pss_nil)
    (pss_cons (ps_set (i := 7) sc_law.nd rfl (Or.inl rfl) (pe_lstN (pa_cons (pe_op op_sub (pv 4) pe_int) (pa_cons (pv 4) (pa_cons (pe_op op_add (pv 4) pe_int) (pa_cons pe_int (pa_cons (pe_op op_pow pe_int pe_int) (pa_cons (pe_call G_l_draw (hr.mono (by decide)) (by rfl) m_l_draw k_l_draw b_l_draw .nil pass0 (pa_cons (pv 1) (pa_cons (pe_op op_pow pe_int pe_int) pa_nil))) (pa_cons (pe_call G_l_odd (hr.mono (by decide)) (by rfl) m_l_odd k_l_odd b_l_odd .nil pass0 (pa_cons (pv 1) pa_nil)) (pa_cons (pe_call G_l_odd (hr.mono (by decide)) (by rfl) m_l_odd k_l_odd b_l_odd .nil pass0 (pa_cons (pv 1) pa_nil)) pa_nil))))))))))
    (pss_cons (ps_for PassesOwn.never rfl (pi_list (pe_op op_cat (pv 7) (pe_slice sl_list (pv 7) po_none (po_some pe_int)))) (pg_name (i := 8) sc_law.nd rfl (Or.inl rfl))
      (pss_one (ps_if (pt_cmpR op_ne (pe_callB (call_reprQ gu ⟨_, hr⟩) (by rfl) T.n_repr (by decide +kernel) (pa_cons (pe_callG G_l_spare gu (hr.mono (by decide)) (by rfl) m_l_spare k_l_spare b_l_spare (pa_cons (pv 5) (pa_cons (pv 8) pa_nil))) pa_nil)) (pe_callB (call_reprQ gu ⟨_, hr⟩) (by rfl) T.n_repr (by decide +kernel) (pa_cons (pe_callG G_l_spare_due gu (hr.mono (by decide)) (by rfl) m_l_spare_due k_l_spare_due b_l_spare_due (pa_cons (pv 4) (pa_cons (pv 8) pa_nil))) pa_nil)) (nomark _)) (pss_one (ps_ret pe_bl)) pss_nil)))
    (pss_one (ps_if (PW.pt (pw_or (pt_cmpR op_ne (pe_callB (call_reprQ gu ⟨_, hr⟩) (by rfl) T.n_repr (by decide +kernel) (pa_cons (pe_lstN (pa_cons (pe_fld (pv 5) rfl) (pa_cons (pe_fld (pv 5) rfl) pa_nil))) pa_nil)) (pe_callB (call_reprQ gu ⟨_, hr⟩) (by rfl) T.n_repr (by decide +kernel) (pa_cons (pe_lstN (pa_cons (pv 3) (pa_cons (pv 4) pa_nil))) pa_nil)) (nomark _)) (pw_or1 (pt_not (pt_val (pe_callB call_isi (by rfl) T.n_isinstance (by decide +kernel) (pa_cons (pv 5) (pa_cons (pe_glob (v := .ref cReserve) rfl g_Reserve rfl) pa_nil)))))))) (pss_one (ps_ret pe_bl)) pss_nil))))))))))
    (pss_one (ps_ret pe_bl)))), ?_⟩
  refine ⟨_, rfl, a, ns, rfl, hS, hlen, fun H1 p l s1 D1 => ?_⟩
  refine ⟨_, rfl, (by decide), (by decide), ?_⟩
  refine for_range (lo := 0) (n := _) (fun i σ H' => ∃ (n' : Int) (v2 v3 v4 v5 v6 v7 v8 : Option V), σ = [some (.ref a), some (.ref p), v2, v3, v4, v5, v6, v7, v8] ∧ Deck H' p l n' ∧ 0 ≤ n' ∧ n' ≤ 20 * (i : Int)) ⟨0, none, none, none, none, none, none, none, rfl, D1, Int.le_refl _, by omega⟩ ?_ ?_
  · rintro i σ H2 hi ⟨n', v2, v3, v4, v5, v6, v7, v8, rfl, D2, n0, n1⟩
    have hi : i < 40 := hi
    -- the kind
    refine ⟨_, rfl, _, rfl, p, l, n', 4, rfl, D2, n0, by omega, by decide, by decide, fun r1 H3 a0 a1 f3 D3 => ?_⟩
    refine ⟨_, rfl, p, l, n' + 1, 4, rfl, D3, by omega, by omega, by decide, by decide, fun r2 H4 b0 b1 f4 D4 => ?_⟩
    refine ⟨_, rfl, p, l, n' + 1 + 1, rfl, D4, by omega, by omega, fun H5 x1 e1 f5 D5 q1 m1 => ?_⟩
    refine ⟨(by show 3 ≤ sizeLine; decide), fun B nB eB => ?_⟩
    have sB := same_upd (o := .lst [.int r1, .int r2, x1]) nB
    have lB := D5.lne nB
    refine ⟨p, l, B, n' + 1 + 1 + 1, _, rfl, D5.same sB, by omega, by omega, upd_same, lB.1, lB.2, (by show 0 < 3; decide), (by show 3 ≤ 1000; decide), fun y1 H6 hy1 f6 D6 => ?_⟩
    obtain ⟨d1, F1, S1⟩ : Asked K p l H6 y1 := by
      simp only [List.mem_cons, List.not_mem_nil, or_false] at hy1
      rcases hy1 with rfl | rfl | rfl
      · exact ⟨_, DqF.int, smt_int (by omega)⟩
      · exact ⟨_, DqF.int, smt_int (by omega)⟩
      · exact ⟨_, ((DqF.new q1 D4).same sB).fr f6, m1⟩
    clear q1 m1 hy1 sB lB eB nB f3 f4 f5 f6 D3 D4 D5
    -- the least amount
    refine ⟨_, rfl, _, _, rfl, rfl, ⟨by decide, by decide, by decide⟩, _, rfl, p, l, n' + 1 + 1 + 1 + 1, 100, rfl, D6, by omega, by omega, by decide, by decide, fun r3 H7 a2 a3 f7 D7 => ?_⟩
    refine ⟨_, rfl, _, _, rfl, rfl, ⟨by decide, by decide, by decide⟩, _, _, rfl, rfl, p, l, n' + 1 + 1 + 1 + 1 + 1, _, rfl, D7, by omega, by omega, by decide, by decide, fun r4 H8 b2 b3 f8 D8 => ?_⟩
    have b3 : r4 < 1000001 := b3
    refine ⟨_, rfl, p, l, n' + 1 + 1 + 1 + 1 + 1 + 1, rfl, D8, by omega, by omega, fun H9 x2 e2 f9 D9 q2 m2 => ?_⟩
    refine ⟨(by show 5 ≤ sizeLine; decide), fun C nC eC => ?_⟩
    have sC := same_upd (o := .lst [.int 0, .int (10 ^ Int.toNat 6), .int r3, .int r4, x2]) nC
    have lC := D9.lne nC
    refine ⟨p, l, C, n' + 1 + 1 + 1 + 1 + 1 + 1 + 1, _, rfl, D9.same sC, by omega, by omega, upd_same, lC.1, lC.2, (by show 0 < 5; decide), (by show 5 ≤ 1000; decide), fun y2 H10 hy2 f10 D10 => ?_⟩
    have F1 := (((F1.fr f7).fr f8).fr f9).same sC |>.fr f10
    obtain ⟨d2, F2, S2⟩ : Asked K p l H10 y2 := by
      simp only [List.mem_cons, List.not_mem_nil, or_false] at hy2
      rcases hy2 with rfl | rfl | rfl | rfl | rfl
      · exact ⟨_, DqF.int, smt_int (by omega)⟩
      · exact ⟨_, DqF.int, ⟨⟨by decide +kernel, by decide +kernel, by decide +kernel⟩, by decide +kernel⟩⟩
      · exact ⟨_, DqF.int, smt_int (by omega)⟩
      · exact ⟨_, DqF.int, smt_int (by omega)⟩
      · exact ⟨_, ((DqF.new q2 D8).same sC).fr f10, m2⟩
    clear q2 m2 hy2 sC lC eC nC f7 f8 f9 f10 D7 D8 D9
    obtain ⟨N, hN⟩ : ∃ N, N = n' + 1 + 1 + 1 + 1 + 1 + 1 + 1 + 1 := ⟨_, rfl⟩
    rw [← hN] at D10
    obtain ⟨dp1, ln1⟩ := smt_dep S1
    obtain ⟨dp2, ln2⟩ := smt_dep S2
    refine ⟨_, rfl, _, rfl, y1, y2, d1, d2, rfl, F1.at, F2.at, S1, S2, fun bad H11 z s11 qz => ?_, fun g1 g2 H11 z dz s11 hz => ?_⟩
    · have D11 := D10.same s11
      refine ⟨_, _, rfl, ?_⟩
      refine ⟨fun σ H' => ∃ r, σ = [some (.ref a), some (.ref p), some (.int (0 + (i : Int))), some y1, some y2, some z, some (.ref r), v7, v8] ∧ Same H11 H' ∧ Dq K H' (.ref r) (dM d1 d2), ?_, ?_⟩
      · have q1 := (F1.same s11).at
        have q2 := (F2.same s11).at
        refine ⟨_, rfl, y1, d1, 0, 3, rfl, q1, ?_⟩
        cases e1 : inI d1 0 3 with
        | false =>
          refine ⟨_, rfl, iteT ⟨_, rfl, y1, d1, rfl, q1, S1.sml.sh, dp1, ln1, (by show 2 ≤ sizeLine; decide), fun r nr er => ⟨r, rfl, same_upd nr, ?_⟩⟩⟩
          unfold dM
          rw [if_neg (by rw [e1]; exact Bool.false_ne_true)]
          exact .lst upd_same er (.cons (.str _) (.cons (.str _) .nil))
        | true =>
          have e2 : inI d2 0 1000000 = false := bad.resolve_left (by rw [e1]; exact Bool.noConfusion)
          refine ⟨_, rfl, iteF ⟨_, rfl, _, _, rfl, rfl, ⟨by decide, by decide, by decide⟩, y2, d2, 0, 10 ^ Int.toNat 6, rfl, q2, ?_⟩⟩
          rw [show (10 : Int) ^ Int.toNat 6 = 1000000 by decide, e2]
          refine ⟨_, rfl, iteT ⟨_, rfl, y2, d2, rfl, q2, S2.sml.sh, dp2, ln2, (by show 2 ≤ sizeLine; decide), fun r nr er => ⟨r, rfl, same_upd nr, ?_⟩⟩⟩
          unfold dM
          rw [if_pos e1]
          exact .lst upd_same er (.cons (.str _) (.cons (.str _) .nil))
      · rintro σ H12 ⟨r, rfl, s12, qr⟩
        have shw : PyData.showable (dM d1 d2) = true ∧ (dM d1 d2).depth ≤ 60 ∧ (dM d1 d2).shown.length ≤ sizeLine := by
          unfold dM
          split
          · exact wd_shw S2 (by decide +kernel)
          · exact wd_shw S1 (by decide +kernel)
        have qz12 := qz.same s12
        refine ⟨_, rfl, rfl, ?_⟩
        refine ⟨_, rfl, iteT ?_⟩
        refine ⟨_, rfl, z, dM d1 d2, rfl, qz12, shw.1, shw.2.1, shw.2.2, _, rfl, _, dM d1 d2, rfl, qr, shw.1, shw.2.1, shw.2.2, rfl, ?_⟩
        rw [decide_eq_true rfl]
        refine ⟨_, rfl, iteF ?_⟩
        exact ⟨N, _, _, _, _, _, _, _, rfl, D11.same s12, by omega, by omega⟩
    · have D11 := D10.same s11
      obtain ⟨le, rfl, l0, l1⟩ := inI_int g2
      have ey2 : y2 = .int le := by
        have := F2.at
        cases this
        rfl
      subst ey2
      have F1 := F1.same s11
      refine ⟨_, _, rfl, ?_⟩
      refine ⟨fun σ H' => H' = H11 ∧ σ = [some (.ref a), some (.ref p), some (.int (0 + (i : Int))), some y1, some (.int le), some (.ref z), some .non, v7, v8], ?_, ?_⟩
      · refine ⟨_, rfl, y1, d1, 0, 3, rfl, F1.at, ?_⟩
        rw [g1]
        refine ⟨_, rfl, iteF ⟨_, rfl, _, _, rfl, rfl, ⟨by decide, by decide, by decide⟩, .int le, .int le, 0, 10 ^ Int.toNat 6, rfl, .int _, ?_⟩⟩
        rw [show (10 : Int) ^ Int.toNat 6 = 1000000 by decide, g2]
        exact ⟨_, rfl, iteF ⟨rfl, rfl⟩⟩
      rintro σ H12 ⟨rfl, rfl⟩
      refine ⟨_, rfl, rfl, _, rfl, iteF ?_⟩
      -- the amounts that are asked
      refine ⟨_, rfl, _, _, rfl, rfl, _, rfl, _, rfl, _, _, rfl, rfl, _, _, rfl, rfl, ⟨by decide, by decide, by decide⟩, ?_⟩
      have zp : z ≠ p := ne_of hz D11.hp (fun q => by cases q)
      have zl : z ≠ l := by
        obtain ⟨cells, hl, _⟩ := D11.hl
        exact ne_of hz hl (fun q => by cases q)
      refine ⟨_, rfl, _, _, rfl, rfl, ⟨by decide, by decide, by decide⟩, p, l, N, _, rfl, D11, by omega, by omega, by decide, by decide, fun r5 H13 c0 c1 f13 D13 => ?_⟩
      have c1 : r5 < 1000000000 := c1
      refine ⟨_, rfl, p, l, N + 1, rfl, D13, by omega, by omega, fun H14 x3 e3 f14 D14 q3 m3 => ?_⟩
      refine ⟨_, rfl, p, l, N + 1 + 1, rfl, D14, by omega, by omega, fun H15 x4 e4 f15 D15 q4 m4 => ?_⟩
      refine ⟨(by show 8 ≤ sizeLine; decide), fun U nU eU => ?_⟩
      have sU := same_upd (o := .lst [.int (le - 1), .int le, .int (le + 1), .int 0, .int (10 ^ Int.toNat 30), .int r5, x3, x4]) nU
      have D16 := D15.same sU
      have hz16 := sU _ _ (f15 _ _ zp zl (f14 _ _ zp zl (f13 _ _ zp zl hz)))
      have F16 := (((F1.fr f13).fr f14).fr f15).same sU
      have items : ∀ x ∈ [V.int (le - 1), V.int le, V.int (le + 1), V.int 0, V.int (10 ^ Int.toNat 30), V.int r5, x3, x4], Asked K p l (upd H15 U (.lst [.int (le - 1), .int le, .int (le + 1), .int 0, .int (10 ^ Int.toNat 30), .int r5, x3, x4])) x := fun x hx => by
        simp only [List.mem_cons, List.not_mem_nil, or_false] at hx
        rcases hx with rfl | rfl | rfl | rfl | rfl | rfl | rfl | rfl
        · exact ⟨_, DqF.int, smt_int (by omega)⟩
        · exact ⟨_, DqF.int, smt_int (by omega)⟩
        · exact ⟨_, DqF.int, smt_int (by omega)⟩
        · exact ⟨_, DqF.int, smt_int (by omega)⟩
        · exact ⟨_, DqF.int, ⟨⟨by decide +kernel, by decide +kernel, by decide +kernel⟩, by decide +kernel⟩⟩
        · exact ⟨_, DqF.int, smt_int (by omega)⟩
        · exact ⟨_, ((DqF.new q3 D13).fr f15).same sU, m3⟩
        · exact ⟨_, (DqF.new q4 D14).same sU, m4⟩
      have hU : upd H15 U (.lst [.int (le - 1), .int le, .int (le + 1), .int 0, .int (10 ^ Int.toNat 30), .int r5, x3, x4]) U = some (.lst [.int (le - 1), .int le, .int (le + 1), .int 0, .int (10 ^ Int.toNat 30), .int r5, x3, x4]) := upd_same
      generalize upd H15 U (.lst [.int (le - 1), .int le, .int (le + 1), .int 0, .int (10 ^ Int.toNat 30), .int r5, x3, x4]) = H16 at sU D16 hz16 F16 items hU ⊢
      refine ⟨_, rfl, _, rfl, _, rfl, U, _, rfl, SqL.of hU, fun W nW => ?_⟩
      refine ⟨U, W, _, _, rfl, rfl, (same_upd nW) _ _ hU, upd_same, (by show 8 + 2 ≤ sizeLine; decide), fun V9 nV => ?_⟩
      have s18 := (same_upd (o := .lst [.int (le - 1), .int le]) nW).trans (same_upd (o := .lst ([.int (le - 1), .int le, .int (le + 1), .int 0, .int (10 ^ Int.toNat 30), .int r5, x3, x4] ++ [.int (le - 1), .int le])) nV)
      obtain ⟨ys, hys⟩ : ∃ ys, ys = [V.int (le - 1), .int le, .int (le + 1), .int 0, .int (10 ^ Int.toNat 30), .int r5, x3, x4] ++ [.int (le - 1), .int le] := ⟨_, rfl⟩
      have hV : upd (upd H16 W (.lst [.int (le - 1), .int le])) V9 (.lst ([.int (le - 1), .int le, .int (le + 1), .int 0, .int (10 ^ Int.toNat 30), .int r5, x3, x4] ++ [.int (le - 1), .int le])) V9 = some (.lst ys) := by rw [hys]; exact upd_same
      have items : ∀ x ∈ ys, Asked K p l H16 x := fun x hx => by
        rw [hys] at hx
        rcases List.mem_append.mp hx with h | h
        · exact items x h
        · refine items x ?_
          simp only [List.mem_cons, List.not_mem_nil, or_false] at h ⊢
          rcases h with h | h
          · exact .inl h
          · exact .inr (.inl h)
      refine ⟨V9, rfl, ⟨_, SqL.of hV⟩, ?_⟩
      have s18 : Same H16 (upd (upd H16 W (.lst [.int (le - 1), .int le])) V9 (.lst ([.int (le - 1), .int le, .int (le + 1), .int 0, .int (10 ^ Int.toNat 30), .int r5, x3, x4] ++ [.int (le - 1), .int le]))) := s18
      refine for_list (K := K) (a := V9) (xs := ys) (fun j σ H' => ∃ v8', σ = [some (.ref a), some (.ref p), some (.int (0 + (i : Int))), some y1, some (.int le), some (.ref z), some .non, some (.ref U), v8'] ∧ Same H16 H' ∧ H' V9 = some (.lst ys))
        ⟨v8, rfl, s18, hV⟩ (fun j σ H' _ h => by obtain ⟨_, _, _, h⟩ := h; exact SqL.of h) ?_ ?_
      · rintro j x σ H19 hx ⟨v8', rfl, s19, hV9⟩
        obtain ⟨d, Fd, Sd⟩ := items x (List.mem_of_getElem? hx)
        have sh := dS_shw Sd l0 l1
        refine ⟨_, rfl, _, rfl, z, dz, _, x, d, le, rfl, s19 _ _ hz16, rfl, rfl, (Fd.same s19).at, Sd, fun H20 v s20 qv => ?_⟩
        refine ⟨v, dS le d, rfl, qv, sh.1, sh.2.1, sh.2.2, _, rfl, _, rfl, x, d, le, rfl, (Fd.same (s19.trans s20)).at, Sd, fun H21 v' s21 qv' => ?_⟩
        refine ⟨v', dS le d, rfl, qv', sh.1, sh.2.1, sh.2.2, rfl, ?_⟩
        rw [decide_eq_true rfl]
        exact ⟨_, rfl, iteF ⟨_, rfl, s19.trans (s20.trans s21), s21 _ _ (s20 _ _ hV9)⟩⟩
      · rintro σ H19 ⟨v8', rfl, s19, hV9⟩
        have hz19 := s19 _ _ hz16
        have F19 := F16.same s19
        have sh := pr_shw S1 l0 l1
        refine ⟨_, rfl, z, cReserve, dz, _, _, rfl, hz19, R.ins.cl, R.naK, rfl, _, rfl, z, cReserve, dz, _, _, rfl, hz19, R.ins.cl, R.naL, rfl, (by show 2 ≤ sizeLine; decide), fun r nr er => ?_⟩
        have sr := same_upd (o := .lst [y1, .int le]) nr
        refine ⟨_, .list [d1, .int le], rfl, .lst upd_same er (.cons (F19.same sr).at (.cons (.int _) .nil)), sh.1, sh.2.1, sh.2.2, _, rfl, _, rfl, (by show 2 ≤ sizeLine; decide), fun r' nr' er' => ?_⟩
        have sr' := same_upd (o := .lst [y1, .int le]) nr'
        refine ⟨_, .list [d1, .int le], rfl, .lst upd_same er' (.cons (F19.same (sr.trans sr')).at (.cons (.int _) .nil)), sh.1, sh.2.1, sh.2.2, rfl, ?_⟩
        rw [decide_eq_true rfl]
        refine ⟨_, rfl, iteF ⟨_, rfl, _, _, _, _, true, rfl, .own _, R.ins.ty (sr' _ _ (sr _ _ hz19)), R.is, _, rfl, iteF ?_⟩⟩
        exact ⟨N + 1 + 1 + 1, _, _, _, _, _, _, _, rfl, ((D16.same s19).same sr).same sr', by omega, by omega⟩
  · rintro σ H2 ⟨n', v2, v3, v4, v5, v6, v7, v8, rfl, D2, n0, n1⟩
    exact kk H2
end
end Sm

set_option Elab.async false
set_option linter.all false
set_option maxRecDepth 100000
set_option maxHeartbeats 16000000
namespace Sm
open PySem PySem.Spec PyProof.Rows L2
theorem all_mk {l : PySem.W.OpenLaw} {w : World} {K : PySem.W.Frag} {h : Heap} {mg : Str → Option Value} {fa : Addr} (X : K.In h) (G : h.Ns mainGlobals mg) (hfa : mg "law" = some (.ref fa))
    {F_is_whole : Addr} {od_is_whole an_is_whole : Option Addr} {sl_is_whole : Array (Option Value)} {oc_is_whole kV_is_whole dc_is_whole pm_is_whole cd_is_whole ct_is_whole : Value} (a_is_whole : PySem.W.nsIn K mainGlobals "is_whole" = some (some (.ref F_is_whole))) (l_is_whole : K.lookup F_is_whole = some ⟨oc_is_whole, od_is_whole, .func (PySem.W.fnOf "is_whole" "is_whole" (defArgs s_is_whole) (defBody s_is_whole) (defScope s_is_whole) .none kV_is_whole dc_is_whole pm_is_whole an_is_whole cd_is_whole ct_is_whole), sl_is_whole⟩) (c_is_whole : PySem.W.codeIn K cd_is_whole "is_whole" = true) (k_is_whole : PySem.W.keepIn K (.ref F_is_whole) = true)
    {F_is_within : Addr} {od_is_within an_is_within : Option Addr} {sl_is_within : Array (Option Value)} {oc_is_within kV_is_within dc_is_within pm_is_within cd_is_within ct_is_within : Value} (a_is_within : PySem.W.nsIn K mainGlobals "is_within" = some (some (.ref F_is_within))) (l_is_within : K.lookup F_is_within = some ⟨oc_is_within, od_is_within, .func (PySem.W.fnOf "is_within" "is_within" (defArgs s_is_within) (defBody s_is_within) (defScope s_is_within) .none kV_is_within dc_is_within pm_is_within an_is_within cd_is_within ct_is_within), sl_is_within⟩) (c_is_within : PySem.W.codeIn K cd_is_within "is_within" = true) (k_is_within : PySem.W.keepIn K (.ref F_is_within) = true)
    {F_l_deck : Addr} {od_l_deck an_l_deck : Option Addr} {sl_l_deck : Array (Option Value)} {oc_l_deck kV_l_deck dc_l_deck pm_l_deck cd_l_deck ct_l_deck : Value} (a_l_deck : PySem.W.nsIn K mainGlobals "_law_deck" = some (some (.ref F_l_deck))) (l_l_deck : K.lookup F_l_deck = some ⟨oc_l_deck, od_l_deck, .func (PySem.W.fnOf "_law_deck" "_law_deck" (defArgs s_l_deck) (defBody s_l_deck) (defScope s_l_deck) .none kV_l_deck dc_l_deck pm_l_deck an_l_deck cd_l_deck ct_l_deck), sl_l_deck⟩) (c_l_deck : PySem.W.codeIn K cd_l_deck "_law_deck" = true) (k_l_deck : PySem.W.keepIn K (.ref F_l_deck) = true)
    {F_l_draw : Addr} {od_l_draw an_l_draw : Option Addr} {sl_l_draw : Array (Option Value)} {oc_l_draw kV_l_draw dc_l_draw pm_l_draw cd_l_draw ct_l_draw : Value} (a_l_draw : PySem.W.nsIn K mainGlobals "_law_draw" = some (some (.ref F_l_draw))) (l_l_draw : K.lookup F_l_draw = some ⟨oc_l_draw, od_l_draw, .func (PySem.W.fnOf "_law_draw" "_law_draw" (defArgs s_l_draw) (defBody s_l_draw) (defScope s_l_draw) .none kV_l_draw dc_l_draw pm_l_draw an_l_draw cd_l_draw ct_l_draw), sl_l_draw⟩) (c_l_draw : PySem.W.codeIn K cd_l_draw "_law_draw" = true) (k_l_draw : PySem.W.keepIn K (.ref F_l_draw) = true)
    {F_l_one : Addr} {od_l_one an_l_one : Option Addr} {sl_l_one : Array (Option Value)} {oc_l_one kV_l_one dc_l_one pm_l_one cd_l_one ct_l_one : Value} (a_l_one : PySem.W.nsIn K mainGlobals "_law_one" = some (some (.ref F_l_one))) (l_l_one : K.lookup F_l_one = some ⟨oc_l_one, od_l_one, .func (PySem.W.fnOf "_law_one" "_law_one" (defArgs s_l_one) (defBody s_l_one) (defScope s_l_one) .none kV_l_one dc_l_one pm_l_one an_l_one cd_l_one ct_l_one), sl_l_one⟩) (c_l_one : PySem.W.codeIn K cd_l_one "_law_one" = true) (k_l_one : PySem.W.keepIn K (.ref F_l_one) = true)
    {F_l_is_between : Addr} {od_l_is_between an_l_is_between : Option Addr} {sl_l_is_between : Array (Option Value)} {oc_l_is_between kV_l_is_between dc_l_is_between pm_l_is_between cd_l_is_between ct_l_is_between : Value} (a_l_is_between : PySem.W.nsIn K mainGlobals "_law_is_between" = some (some (.ref F_l_is_between))) (l_l_is_between : K.lookup F_l_is_between = some ⟨oc_l_is_between, od_l_is_between, .func (PySem.W.fnOf "_law_is_between" "_law_is_between" (defArgs s_l_is_between) (defBody s_l_is_between) (defScope s_l_is_between) .none kV_l_is_between dc_l_is_between pm_l_is_between an_l_is_between cd_l_is_between ct_l_is_between), sl_l_is_between⟩) (c_l_is_between : PySem.W.codeIn K cd_l_is_between "_law_is_between" = true) (k_l_is_between : PySem.W.keepIn K (.ref F_l_is_between) = true)
    {F_l_odd : Addr} {od_l_odd an_l_odd : Option Addr} {sl_l_odd : Array (Option Value)} {oc_l_odd kV_l_odd dc_l_odd pm_l_odd cd_l_odd ct_l_odd : Value} (a_l_odd : PySem.W.nsIn K mainGlobals "_law_odd" = some (some (.ref F_l_odd))) (l_l_odd : K.lookup F_l_odd = some ⟨oc_l_odd, od_l_odd, .func (PySem.W.fnOf "_law_odd" "_law_odd" (defArgs s_l_odd) (defBody s_l_odd) (defScope s_l_odd) .none kV_l_odd dc_l_odd pm_l_odd an_l_odd cd_l_odd ct_l_odd), sl_l_odd⟩) (c_l_odd : PySem.W.codeIn K cd_l_odd "_law_odd" = true) (k_l_odd : PySem.W.keepIn K (.ref F_l_odd) = true)
    {F_l_made : Addr} {od_l_made an_l_made : Option Addr} {sl_l_made : Array (Option Value)} {oc_l_made kV_l_made dc_l_made pm_l_made cd_l_made ct_l_made : Value} (a_l_made : PySem.W.nsIn K mainGlobals "_law_made" = some (some (.ref F_l_made))) (l_l_made : K.lookup F_l_made = some ⟨oc_l_made, od_l_made, .func (PySem.W.fnOf "_law_made" "_law_made" (defArgs s_l_made) (defBody s_l_made) (defScope s_l_made) .none kV_l_made dc_l_made pm_l_made an_l_made cd_l_made ct_l_made), sl_l_made⟩) (c_l_made : PySem.W.codeIn K cd_l_made "_law_made" = true) (k_l_made : PySem.W.keepIn K (.ref F_l_made) = true)
    {F_l_spare : Addr} {od_l_spare an_l_spare : Option Addr} {sl_l_spare : Array (Option Value)} {oc_l_spare kV_l_spare dc_l_spare pm_l_spare cd_l_spare ct_l_spare : Value} (a_l_spare : PySem.W.nsIn K mainGlobals "_law_spare" = some (some (.ref F_l_spare))) (l_l_spare : K.lookup F_l_spare = some ⟨oc_l_spare, od_l_spare, .func (PySem.W.fnOf "_law_spare" "_law_spare" (defArgs s_l_spare) (defBody s_l_spare) (defScope s_l_spare) .none kV_l_spare dc_l_spare pm_l_spare an_l_spare cd_l_spare ct_l_spare), sl_l_spare⟩) (c_l_spare : PySem.W.codeIn K cd_l_spare "_law_spare" = true) (k_l_spare : PySem.W.keepIn K (.ref F_l_spare) = true)
    {F_l_spare_due : Addr} {od_l_spare_due an_l_spare_due : Option Addr} {sl_l_spare_due : Array (Option Value)} {oc_l_spare_due kV_l_spare_due dc_l_spare_due pm_l_spare_due cd_l_spare_due ct_l_spare_due : Value} (a_l_spare_due : PySem.W.nsIn K mainGlobals "_law_spare_due" = some (some (.ref F_l_spare_due))) (l_l_spare_due : K.lookup F_l_spare_due = some ⟨oc_l_spare_due, od_l_spare_due, .func (PySem.W.fnOf "_law_spare_due" "_law_spare_due" (defArgs s_l_spare_due) (defBody s_l_spare_due) (defScope s_l_spare_due) .none kV_l_spare_due dc_l_spare_due pm_l_spare_due an_l_spare_due cd_l_spare_due ct_l_spare_due), sl_l_spare_due⟩) (c_l_spare_due : PySem.W.codeIn K cd_l_spare_due "_law_spare_due" = true) (k_l_spare_due : PySem.W.keepIn K (.ref F_l_spare_due) = true)
    {F_law : Addr} {od_law an_law : Option Addr} {sl_law : Array (Option Value)} {oc_law kV_law dc_law pm_law cd_law ct_law : Value} (a_law : PySem.W.nsIn K mainGlobals "law" = some (some (.ref F_law))) (l_law : K.lookup F_law = some ⟨oc_law, od_law, .func (PySem.W.fnOf "law" "law" (defArgs s_law) (defBody s_law) (defScope s_law) .none kV_law dc_law pm_law an_law cd_law ct_law), sl_law⟩) (c_law : PySem.W.codeIn K cd_law "law" = true) (k_law : PySem.W.keepIn K (.ref F_law) = true)
    {cChangeError : Addr}
    {cNoKind fNoKind NnNoKind : Addr} {nmNoKind qnNoKind : Str} {bsNoKind : List Value} {snNoKind : List Str} {subNoKind : List Value} {abNoKind : Bool} {colNoKind : Option Bool} {ddNoKind : Option Addr} {m0NoKind m1NoKind m2NoKind m3NoKind m5NoKind : Option Value} {odINoKind anINoKind : Option Addr} {slINoKind : Array (Option Value)} {ocINoKind kVINoKind dcINoKind pmINoKind cdINoKind ctINoKind : Value}
    {cBadAmount fBadAmount NnBadAmount : Addr} {nmBadAmount qnBadAmount : Str} {bsBadAmount : List Value} {snBadAmount : List Str} {subBadAmount : List Value} {abBadAmount : Bool} {colBadAmount : Option Bool} {ddBadAmount : Option Addr} {m0BadAmount m1BadAmount m2BadAmount m3BadAmount m5BadAmount : Option Value} {odIBadAmount anIBadAmount : Option Addr} {slIBadAmount : Array (Option Value)} {ocIBadAmount kVIBadAmount dcIBadAmount pmIBadAmount cdIBadAmount ctIBadAmount : Value}
    {cTooLittle fTooLittle NnTooLittle : Addr} {nmTooLittle qnTooLittle : Str} {bsTooLittle : List Value} {snTooLittle : List Str} {subTooLittle : List Value} {abTooLittle : Bool} {colTooLittle : Option Bool} {ddTooLittle : Option Addr} {m0TooLittle m1TooLittle m2TooLittle m3TooLittle m5TooLittle : Option Value} {odITooLittle anITooLittle : Option Addr} {slITooLittle : Array (Option Value)} {ocITooLittle kVITooLittle dcITooLittle pmITooLittle cdITooLittle ctITooLittle : Value}
    {cReserve : Addr}
    {fReserve_init : Addr} {odReserve_init anReserve_init : Option Addr} {slReserve_init : Array (Option Value)} {ocReserve_init kVReserve_init dcReserve_init pmReserve_init cdReserve_init ctReserve_init : Value}
    {fReserve_spare : Addr} {odReserve_spare anReserve_spare : Option Addr} {slReserve_spare : Array (Option Value)} {ocReserve_spare kVReserve_spare dcReserve_spare pmReserve_spare cdReserve_spare ctReserve_spare : Value}
    (a_ChangeError : PySem.W.nsIn K mainGlobals "ChangeError" = some (some (.ref cChangeError)))
    (g_cl : PySem.W.specialIn K (.builtin "object.__class__") "__get__" = some (some (.builtin "getset_descriptor.__get__")))
    (t_cl : PySem.W.takesIn K (.builtin "object.__class__") = some true)
    (a_NoKind : PySem.W.nsIn K mainGlobals "NoKind" = some (some (.ref cNoKind)))
    (x_NoKind : K.lookup cNoKind = some (excClassObj nmNoKind qnNoKind cNoKind NnNoKind bsNoKind [.type "LookupError", .type "Exception", .type "BaseException", .type "object"] true snNoKind subNoKind abNoKind colNoKind ddNoKind m0NoKind m1NoKind m2NoKind m3NoKind m5NoKind "LookupError.__new__"))
    (fsa_NoKind : PySem.W.findIn K (.ref cNoKind) "__setattr__" = some (some (.builtin "object.__setattr__")))
    (fga_NoKind : PySem.W.findIn K (.ref cNoKind) "__getattribute__" = some (some (.builtin "BaseException.__getattribute__")))
    (fgg_NoKind : PySem.W.findIn K (.ref cNoKind) "__getattr__" = some none)
    (fno_NoKind : PySem.W.findIn K (.ref cNoKind) "kind" = some none)
    (fiC_NoKind : PySem.W.findIn K (.ref cNoKind) "__init__" = some (some (.ref fNoKind)))
    (fcl_NoKind : PySem.W.findIn K (.ref cNoKind) "__class__" = some (some (.builtin "object.__class__")))
    (tf_NoKind : PySem.W.typeIn K (.ref fNoKind) = some (.type "function"))
    (t_NoKind : PySem.W.typeIn K (.ref cNoKind) = some (.type "type"))
    (k_NoKind : PySem.W.keepIn K (.ref cNoKind) = true)
    (e_NoKind : PySem.W.subIn K (.ref cNoKind) (.type "BaseException") = some true)
    (s_NoKind : PySem.W.subIn K (.ref cNoKind) (.ref cNoKind) = some true)
    (h_NoKind : PySem.W.hasDictIn K cNoKind = true)
    (m_NoKind : PySem.W.mroIn K cNoKind (.type "object") = some true)
    (lf_NoKind : K.lookup fNoKind = some ⟨ocINoKind, odINoKind, .func (PySem.W.fnOf "__init__" "NoKind.__init__" (defArgs s_NoKind_init) (defBody s_NoKind_init) (defScope s_NoKind_init) .none kVINoKind dcINoKind pmINoKind anINoKind cdINoKind ctINoKind), slINoKind⟩)
    (cf_NoKind : PySem.W.codeIn K cdINoKind "NoKind.__init__" = true)
    (kf_NoKind : PySem.W.keepIn K (.ref fNoKind) = true)
    (a_BadAmount : PySem.W.nsIn K mainGlobals "BadAmount" = some (some (.ref cBadAmount)))
    (x_BadAmount : K.lookup cBadAmount = some (excClassObj nmBadAmount qnBadAmount cBadAmount NnBadAmount bsBadAmount [.ref cChangeError, .type "ValueError", .type "Exception", .type "BaseException", .type "object"] true snBadAmount subBadAmount abBadAmount colBadAmount ddBadAmount m0BadAmount m1BadAmount m2BadAmount m3BadAmount m5BadAmount "ValueError.__new__"))
    (fsa_BadAmount : PySem.W.findIn K (.ref cBadAmount) "__setattr__" = some (some (.builtin "object.__setattr__")))
    (fga_BadAmount : PySem.W.findIn K (.ref cBadAmount) "__getattribute__" = some (some (.builtin "BaseException.__getattribute__")))
    (fgg_BadAmount : PySem.W.findIn K (.ref cBadAmount) "__getattr__" = some none)
    (fno_BadAmount : PySem.W.findIn K (.ref cBadAmount) "value" = some none)
    (fiC_BadAmount : PySem.W.findIn K (.ref cBadAmount) "__init__" = some (some (.ref fBadAmount)))
    (fcl_BadAmount : PySem.W.findIn K (.ref cBadAmount) "__class__" = some (some (.builtin "object.__class__")))
    (tf_BadAmount : PySem.W.typeIn K (.ref fBadAmount) = some (.type "function"))
    (t_BadAmount : PySem.W.typeIn K (.ref cBadAmount) = some (.type "type"))
    (k_BadAmount : PySem.W.keepIn K (.ref cBadAmount) = true)
    (e_BadAmount : PySem.W.subIn K (.ref cBadAmount) (.type "BaseException") = some true)
    (s_BadAmount : PySem.W.subIn K (.ref cBadAmount) (.ref cBadAmount) = some true)
    (h_BadAmount : PySem.W.hasDictIn K cBadAmount = true)
    (m_BadAmount : PySem.W.mroIn K cBadAmount (.type "object") = some true)
    (lf_BadAmount : K.lookup fBadAmount = some ⟨ocIBadAmount, odIBadAmount, .func (PySem.W.fnOf "__init__" "BadAmount.__init__" (defArgs s_BadAmount_init) (defBody s_BadAmount_init) (defScope s_BadAmount_init) .none kVIBadAmount dcIBadAmount pmIBadAmount anIBadAmount cdIBadAmount ctIBadAmount), slIBadAmount⟩)
    (cf_BadAmount : PySem.W.codeIn K cdIBadAmount "BadAmount.__init__" = true)
    (kf_BadAmount : PySem.W.keepIn K (.ref fBadAmount) = true)
    (a_TooLittle : PySem.W.nsIn K mainGlobals "TooLittle" = some (some (.ref cTooLittle)))
    (x_TooLittle : K.lookup cTooLittle = some (excClassObj nmTooLittle qnTooLittle cTooLittle NnTooLittle bsTooLittle [.ref cChangeError, .type "ValueError", .type "Exception", .type "BaseException", .type "object"] true snTooLittle subTooLittle abTooLittle colTooLittle ddTooLittle m0TooLittle m1TooLittle m2TooLittle m3TooLittle m5TooLittle "ValueError.__new__"))
    (fsa_TooLittle : PySem.W.findIn K (.ref cTooLittle) "__setattr__" = some (some (.builtin "object.__setattr__")))
    (fga_TooLittle : PySem.W.findIn K (.ref cTooLittle) "__getattribute__" = some (some (.builtin "BaseException.__getattribute__")))
    (fgg_TooLittle : PySem.W.findIn K (.ref cTooLittle) "__getattr__" = some none)
    (fno_TooLittle : PySem.W.findIn K (.ref cTooLittle) "amount" = some none)
    (fiC_TooLittle : PySem.W.findIn K (.ref cTooLittle) "__init__" = some (some (.ref fTooLittle)))
    (fcl_TooLittle : PySem.W.findIn K (.ref cTooLittle) "__class__" = some (some (.builtin "object.__class__")))
    (tf_TooLittle : PySem.W.typeIn K (.ref fTooLittle) = some (.type "function"))
    (t_TooLittle : PySem.W.typeIn K (.ref cTooLittle) = some (.type "type"))
    (k_TooLittle : PySem.W.keepIn K (.ref cTooLittle) = true)
    (e_TooLittle : PySem.W.subIn K (.ref cTooLittle) (.type "BaseException") = some true)
    (s_TooLittle : PySem.W.subIn K (.ref cTooLittle) (.ref cTooLittle) = some true)
    (h_TooLittle : PySem.W.hasDictIn K cTooLittle = true)
    (m_TooLittle : PySem.W.mroIn K cTooLittle (.type "object") = some true)
    (lf_TooLittle : K.lookup fTooLittle = some ⟨ocITooLittle, odITooLittle, .func (PySem.W.fnOf "__init__" "TooLittle.__init__" (defArgs s_TooLittle_init) (defBody s_TooLittle_init) (defScope s_TooLittle_init) .none kVITooLittle dcITooLittle pmITooLittle anITooLittle cdITooLittle ctITooLittle), slITooLittle⟩)
    (cf_TooLittle : PySem.W.codeIn K cdITooLittle "TooLittle.__init__" = true)
    (kf_TooLittle : PySem.W.keepIn K (.ref fTooLittle) = true)
    (sub_BadAmount_NoKind : PySem.W.subIn K (.ref cBadAmount) (.ref cNoKind) = some false)
    (sub_TooLittle_BadAmount : PySem.W.subIn K (.ref cTooLittle) (.ref cBadAmount) = some false)
    (a_Reserve : PySem.W.nsIn K mainGlobals "Reserve" = some (some (.ref cReserve)))
    (pg_Reserve : PySem.W.plainGet K cReserve Str.empty = true)
    (hd_Reserve : PySem.W.hasDictIn K cReserve = true)
    (po_Reserve : PySem.W.plainOver K cReserve = true)
    (sa_Reserve : PySem.W.findIn K (.ref cReserve) "__setattr__" = some (some (.builtin "object.__setattr__")))
    (mk_Reserve : PySem.W.makesIn K cReserve = true)
    (kp_Reserve : PySem.W.keepIn K (.ref cReserve) = true)
    (ha_Reserve : PySem.W.findIn K (.ref cReserve) "__class__" = some (some (.builtin "object.__class__")))
    (hm_Reserve : PySem.W.mroIn K cReserve (.type "object") = some true)
    (na_Reserve_kind : PySem.W.findIn K (.ref cReserve) "kind" = some none)
    (na_Reserve_least : PySem.W.findIn K (.ref cReserve) "least" = some none)
    (at_Reserve_init : PySem.W.findIn K (.ref cReserve) "__init__" = some (some (.ref fReserve_init)))
    (fn_Reserve_init : PySem.W.isFn K (.ref fReserve_init) = true)
    (kf_Reserve_init : PySem.W.keepIn K (.ref fReserve_init) = true)
    (lf_Reserve_init : K.lookup fReserve_init = some ⟨ocReserve_init, odReserve_init, .func (PySem.W.fnOf "__init__" "Reserve.__init__" (defArgs s_Reserve_init) (defBody s_Reserve_init) (defScope s_Reserve_init) .none kVReserve_init dcReserve_init pmReserve_init anReserve_init cdReserve_init ctReserve_init), slReserve_init⟩)
    (cf_Reserve_init : PySem.W.codeIn K cdReserve_init "Reserve.__init__" = true)
    (at_Reserve_spare : PySem.W.findIn K (.ref cReserve) "spare" = some (some (.ref fReserve_spare)))
    (fn_Reserve_spare : PySem.W.isFn K (.ref fReserve_spare) = true)
    (kf_Reserve_spare : PySem.W.keepIn K (.ref fReserve_spare) = true)
    (lf_Reserve_spare : K.lookup fReserve_spare = some ⟨ocReserve_spare, odReserve_spare, .func (PySem.W.fnOf "spare" "Reserve.spare" (defArgs s_Reserve_spare) (defBody s_Reserve_spare) (defScope s_Reserve_spare) .none kVReserve_spare dcReserve_spare pmReserve_spare anReserve_spare cdReserve_spare ctReserve_spare), slReserve_spare⟩)
    (cf_Reserve_spare : PySem.W.codeIn K cdReserve_spare "Reserve.spare" = true)
    (z_abs : PySem.W.nsIn K mainGlobals "abs" = some none)
    (z_bool : PySem.W.nsIn K mainGlobals "bool" = some none)
    (z_int : PySem.W.nsIn K mainGlobals "int" = some none)
    (z_isinstance : PySem.W.nsIn K mainGlobals "isinstance" = some none)
    (z_len : PySem.W.nsIn K mainGlobals "len" = some none)
    (z_range : PySem.W.nsIn K mainGlobals "range" = some none)
    (z_repr : PySem.W.nsIn K mainGlobals "repr" = some none)
    {t_MAX_KINDS : Tok} (g_MAX_KINDS : PySem.W.nsIn K mainGlobals "MAX_KINDS" = some (some (.int 4 t_MAX_KINDS)))
    {t_MAX_PURSE : Tok} (g_MAX_PURSE : PySem.W.nsIn K mainGlobals "MAX_PURSE" = some (some (.int 1000000 t_MAX_PURSE)))
    {t_MAX_SPARE : Tok} (g_MAX_SPARE : PySem.W.nsIn K mainGlobals "MAX_SPARE" = some (some (.int 1000000000000000000000000000000 t_MAX_SPARE))) :
    ∃ fd : FuncData, (∀ (s : Shared) (v : Value), BindsTo s fd ⟨[v], []⟩ [("_law_script", v)]) ∧ ∀ base : Heap, K.In base → base.Ns mainGlobals mg → FnG l.prog w K mg base 6 fa fd ["_law_script"] (sp_law K) := by
  have e := hfa.symm.trans (PySem.W.mg_of X G a_law)
  cases e
  have T : Txt mg := ⟨PySem.W.mg_none_of X G z_abs, PySem.W.mg_none_of X G z_bool, PySem.W.mg_none_of X G z_int, PySem.W.mg_none_of X G z_isinstance, PySem.W.mg_none_of X G z_len, PySem.W.mg_none_of X G z_range, PySem.W.mg_none_of X G z_repr, ⟨_, PySem.W.mg_of X G g_MAX_KINDS⟩, ⟨_, PySem.W.mg_of X G g_MAX_PURSE⟩, ⟨_, PySem.W.mg_of X G g_MAX_SPARE⟩⟩
  have XNoKind : XLook K mg "NoKind" "kind" cNoKind fNoKind :=
    { g := PySem.W.mg_of X G a_NoKind, oex := ⟨⟨nmNoKind, qnNoKind, NnNoKind, bsNoKind, _, snNoKind, subNoKind, abNoKind, colNoKind, ddNoKind, m0NoKind, m1NoKind, m2NoKind, m3NoKind, m5NoKind, x_NoKind, by rfl⟩, fsa_NoKind, e_NoKind, t_NoKind, k_NoKind⟩, no := fno_NoKind, iC := fiC_NoKind, tI := tf_NoKind, xf := ⟨fga_NoKind, fgg_NoKind, e_NoKind, h_NoKind⟩,
      ec := ⟨fga_NoKind, fgg_NoKind, e_NoKind, h_NoKind, fcl_NoKind, g_cl, t_cl, m_NoKind⟩, te := PySem.W.exm_ref e_NoKind h_NoKind t_NoKind s_NoKind }
  have iNoKind : IniF K "NoKind.__init__" "kind" s_NoKind_init fNoKind := ⟨_, fun_mk (st := s_NoKind_init) lf_NoKind cf_NoKind kf_NoKind, (fun_mk (st := s_NoKind_init) lf_NoKind cf_NoKind kf_NoKind).binds (ps := ["self", "kind"]) fun _ _ _ _ _ _ us hl => match us, hl with | [_, _], _ => rfl⟩
  have XBadAmount : XVal K mg "BadAmount" "value" cBadAmount fBadAmount :=
    { g := PySem.W.mg_of X G a_BadAmount, oex := ⟨⟨nmBadAmount, qnBadAmount, NnBadAmount, bsBadAmount, _, snBadAmount, subBadAmount, abBadAmount, colBadAmount, ddBadAmount, m0BadAmount, m1BadAmount, m2BadAmount, m3BadAmount, m5BadAmount, x_BadAmount, by rfl⟩, fsa_BadAmount, e_BadAmount, t_BadAmount, k_BadAmount⟩, no := fno_BadAmount, iC := fiC_BadAmount, tI := tf_BadAmount, xf := ⟨fga_BadAmount, fgg_BadAmount, e_BadAmount, h_BadAmount⟩,
      ec := ⟨fga_BadAmount, fgg_BadAmount, e_BadAmount, h_BadAmount, fcl_BadAmount, g_cl, t_cl, m_BadAmount⟩, te := PySem.W.exm_ref e_BadAmount h_BadAmount t_BadAmount s_BadAmount }
  have iBadAmount : IniF K "BadAmount.__init__" "value" s_BadAmount_init fBadAmount := ⟨_, fun_mk (st := s_BadAmount_init) lf_BadAmount cf_BadAmount kf_BadAmount, (fun_mk (st := s_BadAmount_init) lf_BadAmount cf_BadAmount kf_BadAmount).binds (ps := ["self", "value"]) fun _ _ _ _ _ _ us hl => match us, hl with | [_, _], _ => rfl⟩
  have XTooLittle : XVal K mg "TooLittle" "amount" cTooLittle fTooLittle :=
    { g := PySem.W.mg_of X G a_TooLittle, oex := ⟨⟨nmTooLittle, qnTooLittle, NnTooLittle, bsTooLittle, _, snTooLittle, subTooLittle, abTooLittle, colTooLittle, ddTooLittle, m0TooLittle, m1TooLittle, m2TooLittle, m3TooLittle, m5TooLittle, x_TooLittle, by rfl⟩, fsa_TooLittle, e_TooLittle, t_TooLittle, k_TooLittle⟩, no := fno_TooLittle, iC := fiC_TooLittle, tI := tf_TooLittle, xf := ⟨fga_TooLittle, fgg_TooLittle, e_TooLittle, h_TooLittle⟩,
      ec := ⟨fga_TooLittle, fgg_TooLittle, e_TooLittle, h_TooLittle, fcl_TooLittle, g_cl, t_cl, m_TooLittle⟩, te := PySem.W.exm_ref e_TooLittle h_TooLittle t_TooLittle s_TooLittle }
  have iTooLittle : IniF K "TooLittle.__init__" "amount" s_TooLittle_init fTooLittle := ⟨_, fun_mk (st := s_TooLittle_init) lf_TooLittle cf_TooLittle kf_TooLittle, (fun_mk (st := s_TooLittle_init) lf_TooLittle cf_TooLittle kf_TooLittle).binds (ps := ["self", "amount"]) fun _ _ _ _ _ _ us hl => match us, hl with | [_, _], _ => rfl⟩
  have n_BadAmount_NoKind : PySem.W.exmOne K (.ref cBadAmount) (.ref cNoKind) = some false := PySem.W.exm_ref e_NoKind h_NoKind t_NoKind sub_BadAmount_NoKind
  have n_TooLittle_BadAmount : PySem.W.exmOne K (.ref cTooLittle) (.ref cBadAmount) = some false := PySem.W.exm_ref e_BadAmount h_BadAmount t_BadAmount sub_TooLittle_BadAmount
  have IReserve : InsC K cReserve := ⟨⟨pg_Reserve, hd_Reserve, po_Reserve, sa_Reserve⟩, ha_Reserve, g_cl, t_cl, hm_Reserve⟩
  have fun_Reserve_init := fun_mk (st := s_Reserve_init) lf_Reserve_init cf_Reserve_init kf_Reserve_init
  have bin_Reserve_init := fun_Reserve_init.binds (ps := ["self", "kind", "least"]) fun _ _ _ _ _ _ us hl => match us, hl with | [_, _, _], _ => rfl
  have mak_Reserve : Mk K cReserve fReserve_init := ⟨mk_Reserve, at_Reserve_init, fn_Reserve_init, kp_Reserve⟩
  have fun_Reserve_spare := fun_mk (st := s_Reserve_spare) lf_Reserve_spare cf_Reserve_spare kf_Reserve_spare
  have bin_Reserve_spare := fun_Reserve_spare.binds (ps := ["self", "amount"]) fun _ _ _ _ _ _ us hl => match us, hl with | [_, _], _ => rfl
  have met_Reserve_spare : Meth K cReserve "spare" fReserve_spare := ⟨at_Reserve_spare, fn_Reserve_spare, kf_Reserve_spare⟩
  have R : TxR K mg cReserve fReserve_init fReserve_spare := ⟨PySem.W.mg_of X G a_Reserve, IReserve, mak_Reserve, met_Reserve_spare, na_Reserve_kind, na_Reserve_least, ⟨_, fun_Reserve_init, bin_Reserve_init⟩, ⟨_, fun_Reserve_spare, bin_Reserve_spare⟩, if_pos (beq_self_eq_true _)⟩
  have D_is_whole : Df K mg "is_whole" s_is_whole ["value"] := ⟨_, _, fun_mk (st := s_is_whole) l_is_whole c_is_whole k_is_whole, PySem.W.mg_of X G a_is_whole, (fun_mk (st := s_is_whole) l_is_whole c_is_whole k_is_whole).binds (ps := ["value"]) fun _ _ _ _ _ _ us hl => match us, hl with | [_], _ => rfl⟩
  have D_is_within : Df K mg "is_within" s_is_within ["value", "low", "high"] := ⟨_, _, fun_mk (st := s_is_within) l_is_within c_is_within k_is_within, PySem.W.mg_of X G a_is_within, (fun_mk (st := s_is_within) l_is_within c_is_within k_is_within).binds (ps := ["value", "low", "high"]) fun _ _ _ _ _ _ us hl => match us, hl with | [_, _, _], _ => rfl⟩
  have D_l_deck : Df K mg "_law_deck" s_l_deck ["_law_script"] := ⟨_, _, fun_mk (st := s_l_deck) l_l_deck c_l_deck k_l_deck, PySem.W.mg_of X G a_l_deck, (fun_mk (st := s_l_deck) l_l_deck c_l_deck k_l_deck).binds (ps := ["_law_script"]) fun _ _ _ _ _ _ us hl => match us, hl with | [_], _ => rfl⟩
  have D_l_draw : Df K mg "_law_draw" s_l_draw ["_law_deck_here", "_law_many"] := ⟨_, _, fun_mk (st := s_l_draw) l_l_draw c_l_draw k_l_draw, PySem.W.mg_of X G a_l_draw, (fun_mk (st := s_l_draw) l_l_draw c_l_draw k_l_draw).binds (ps := ["_law_deck_here", "_law_many"]) fun _ _ _ _ _ _ us hl => match us, hl with | [_, _], _ => rfl⟩
  have D_l_one : Df K mg "_law_one" s_l_one ["_law_deck_here", "_law_items"] := ⟨_, _, fun_mk (st := s_l_one) l_l_one c_l_one k_l_one, PySem.W.mg_of X G a_l_one, (fun_mk (st := s_l_one) l_l_one c_l_one k_l_one).binds (ps := ["_law_deck_here", "_law_items"]) fun _ _ _ _ _ _ us hl => match us, hl with | [_, _], _ => rfl⟩
  have D_l_is_between : Df K mg "_law_is_between" s_l_is_between ["_law_value", "_law_low", "_law_high"] := ⟨_, _, fun_mk (st := s_l_is_between) l_l_is_between c_l_is_between k_l_is_between, PySem.W.mg_of X G a_l_is_between, (fun_mk (st := s_l_is_between) l_l_is_between c_l_is_between k_l_is_between).binds (ps := ["_law_value", "_law_low", "_law_high"]) fun _ _ _ _ _ _ us hl => match us, hl with | [_, _, _], _ => rfl⟩
  have D_l_odd : Df K mg "_law_odd" s_l_odd ["_law_deck_here"] := ⟨_, _, fun_mk (st := s_l_odd) l_l_odd c_l_odd k_l_odd, PySem.W.mg_of X G a_l_odd, (fun_mk (st := s_l_odd) l_l_odd c_l_odd k_l_odd).binds (ps := ["_law_deck_here"]) fun _ _ _ _ _ _ us hl => match us, hl with | [_], _ => rfl⟩
  have D_l_made : Df K mg "_law_made" s_l_made ["_law_kind", "_law_least"] := ⟨_, _, fun_mk (st := s_l_made) l_l_made c_l_made k_l_made, PySem.W.mg_of X G a_l_made, (fun_mk (st := s_l_made) l_l_made c_l_made k_l_made).binds (ps := ["_law_kind", "_law_least"]) fun _ _ _ _ _ _ us hl => match us, hl with | [_, _], _ => rfl⟩
  have D_l_spare : Df K mg "_law_spare" s_l_spare ["_law_held", "_law_amount"] := ⟨_, _, fun_mk (st := s_l_spare) l_l_spare c_l_spare k_l_spare, PySem.W.mg_of X G a_l_spare, (fun_mk (st := s_l_spare) l_l_spare c_l_spare k_l_spare).binds (ps := ["_law_held", "_law_amount"]) fun _ _ _ _ _ _ us hl => match us, hl with | [_, _], _ => rfl⟩
  have D_l_spare_due : Df K mg "_law_spare_due" s_l_spare_due ["_law_least", "_law_amount"] := ⟨_, _, fun_mk (st := s_l_spare_due) l_l_spare_due c_l_spare_due k_l_spare_due, PySem.W.mg_of X G a_l_spare_due, (fun_mk (st := s_l_spare_due) l_l_spare_due c_l_spare_due k_l_spare_due).binds (ps := ["_law_least", "_law_amount"]) fun _ _ _ _ _ _ us hl => match us, hl with | [_, _], _ => rfl⟩
  have D_law : Df K mg "law" s_law ["_law_script"] := ⟨_, _, fun_mk (st := s_law) l_law c_law k_law, PySem.W.mg_of X G a_law, (fun_mk (st := s_law) l_law c_law k_law).binds (ps := ["_law_script"]) fun _ _ _ _ _ _ us hl => match us, hl with | [_], _ => rfl⟩
  refine ⟨PySem.W.fnOf "law" "law" (defArgs s_law) (defBody s_law) (defScope s_law) .none kV_law dc_law pm_law an_law cd_law ct_law, fun s v => .of_eq rfl, fun base _ _ => ?_⟩
  have C_is_whole : Cal l.prog w K mg base "is_whole" ["value"] 1 (sp_is_whole K) := ok_is_whole T D_is_whole
  have C_l_deck : Cal l.prog w K mg base "_law_deck" ["_law_script"] 1 (sp_l_deck K) := ok_l_deck T D_l_deck
  have C_l_draw : Cal l.prog w K mg base "_law_draw" ["_law_deck_here", "_law_many"] 1 (sp_l_draw K) := ok_l_draw T D_l_draw
  have C_l_is_between : Cal l.prog w K mg base "_law_is_between" ["_law_value", "_law_low", "_law_high"] 1 (sp_l_is_between K) := ok_l_is_between T D_l_is_between
  have C_is_within : Cal l.prog w K mg base "is_within" ["value", "low", "high"] 2 (sp_is_within K) := ok_is_within T D_is_within C_is_whole
  have C_l_one : Cal l.prog w K mg base "_law_one" ["_law_deck_here", "_law_items"] 2 (sp_l_one K) := ok_l_one T D_l_one C_l_draw
  have C_l_odd : Cal l.prog w K mg base "_law_odd" ["_law_deck_here"] 3 (sp_l_odd K) := ok_l_odd T D_l_odd C_l_one
  have G_made := ok_l_made (P := l.prog) (w := w) (base := base) T XNoKind iNoKind XBadAmount iBadAmount n_BadAmount_NoKind R C_is_within (fun_mk (st := s_l_made) l_l_made c_l_made k_l_made)
  have b_made := (fun_mk (st := s_l_made) l_l_made c_l_made k_l_made).binds (ps := ["_law_kind", "_law_least"]) fun _ _ _ _ _ _ us hl => match us, hl with | [_, _], _ => rfl
  have G_spare := ok_l_spare (P := l.prog) (w := w) (base := base) T XBadAmount iBadAmount XTooLittle iTooLittle n_TooLittle_BadAmount R C_is_within (fun_mk (st := s_l_spare) l_l_spare c_l_spare k_l_spare)
  have b_spare := (fun_mk (st := s_l_spare) l_l_spare c_l_spare k_l_spare).binds (ps := ["_law_held", "_law_amount"]) fun _ _ _ _ _ _ us hl => match us, hl with | [_, _], _ => rfl
  have G_due := ok_l_spare_due (P := l.prog) (w := w) (base := base) T C_l_is_between (fun_mk (st := s_l_spare_due) l_l_spare_due c_l_spare_due k_l_spare_due)
  have b_due := (fun_mk (st := s_l_spare_due) l_l_spare_due c_l_spare_due k_l_spare_due).binds (ps := ["_law_least", "_law_amount"]) fun _ _ _ _ _ _ us hl => match us, hl with | [_, _], _ => rfl
  exact ok_lawC T R (fun_mk (st := s_law) l_law c_law k_law) C_l_deck C_l_draw C_l_one C_l_odd C_l_is_between G_made (PySem.W.mg_of X G a_l_made) k_l_made b_made G_spare (PySem.W.mg_of X G a_l_spare) k_l_spare b_spare G_due (PySem.W.mg_of X G a_l_spare_due) k_l_spare_due b_due

end Sm
open PySem PySem.W PyProof.Rows in
set_option maxRecDepth 100000 in
set_option maxHeartbeats 0 in
theorem PySem.Challenge.cw_smallchange_k89_reserves_holds : PySem.Challenge.rw_smallchange_k89_reserves.Holds := by
  w_on; o_law; k_head; (case hw => w_witness2)
  k_fill
  refine Sm.walk_at_law (l := PySem.Challenge.rw_smallchange_k89_reserves) (k := 6) (x := "_law_script") (sp := Sm.sp_law) rfl rfl ⟨rfl, by decide, by decide⟩ (fun w h Y => PySem.W.kIn_of Y) ?F (fun _ _ a ns hl hS => ⟨a, ns, rfl, hS, hl, fun _ => rfl⟩)
  case F =>
    intro w mg fa h KX G hmg
    refine' Sm.all_mk KX G hmg ?a_is_whole ?l_is_whole ?c_is_whole ?k_is_whole ?a_is_within ?l_is_within ?c_is_within ?k_is_within ?a_l_deck ?l_l_deck ?c_l_deck ?k_l_deck ?a_l_draw ?l_l_draw ?c_l_draw ?k_l_draw ?a_l_one ?l_l_one ?c_l_one ?k_l_one ?a_l_is_between ?l_l_is_between ?c_l_is_between ?k_l_is_between ?a_l_odd ?l_l_odd ?c_l_odd ?k_l_odd ?a_l_made ?l_l_made ?c_l_made ?k_l_made ?a_l_spare ?l_l_spare ?c_l_spare ?k_l_spare ?a_l_spare_due ?l_l_spare_due ?c_l_spare_due ?k_l_spare_due ?a_law ?l_law ?c_law ?k_law ?a_ChangeError ?g_cl ?t_cl ?a_NoKind ?x_NoKind ?fsa_NoKind ?fga_NoKind ?fgg_NoKind ?fno_NoKind ?fiC_NoKind ?fcl_NoKind ?tf_NoKind ?t_NoKind ?k_NoKind ?e_NoKind ?s_NoKind ?h_NoKind ?m_NoKind ?lf_NoKind ?cf_NoKind ?kf_NoKind ?a_BadAmount ?x_BadAmount ?fsa_BadAmount ?fga_BadAmount ?fgg_BadAmount ?fno_BadAmount ?fiC_BadAmount ?fcl_BadAmount ?tf_BadAmount ?t_BadAmount ?k_BadAmount ?e_BadAmount ?s_BadAmount ?h_BadAmount ?m_BadAmount ?lf_BadAmount ?cf_BadAmount ?kf_BadAmount ?a_TooLittle ?x_TooLittle ?fsa_TooLittle ?fga_TooLittle ?fgg_TooLittle ?fno_TooLittle ?fiC_TooLittle ?fcl_TooLittle ?tf_TooLittle ?t_TooLittle ?k_TooLittle ?e_TooLittle ?s_TooLittle ?h_TooLittle ?m_TooLittle ?lf_TooLittle ?cf_TooLittle ?kf_TooLittle ?sub_BadAmount_NoKind ?sub_TooLittle_BadAmount ?a_Reserve ?pg_Reserve ?hd_Reserve ?po_Reserve ?sa_Reserve ?mk_Reserve ?kp_Reserve ?ha_Reserve ?hm_Reserve ?na_Reserve_kind ?na_Reserve_least ?at_Reserve_init ?fn_Reserve_init ?kf_Reserve_init ?lf_Reserve_init ?cf_Reserve_init ?at_Reserve_spare ?fn_Reserve_spare ?kf_Reserve_spare ?lf_Reserve_spare ?cf_Reserve_spare ?z_abs ?z_bool ?z_int ?z_isinstance ?z_len ?z_range ?z_repr ?g_MAX_KINDS ?g_MAX_PURSE ?g_MAX_SPARE
    (case a_is_whole => k_is)
    (case l_is_whole => k_is)
    (case c_is_whole => k_is)
    (case k_is_whole => k_is)
    (case a_is_within => k_is)
    (case l_is_within => k_is)
    (case c_is_within => k_is)
    (case k_is_within => k_is)
    (case a_l_deck => k_is)
    (case l_l_deck => k_is)
    (case c_l_deck => k_is)
    (case k_l_deck => k_is)
    (case a_l_draw => k_is)
    (case l_l_draw => k_is)
    (case c_l_draw => k_is)
    (case k_l_draw => k_is)
    (case a_l_one => k_is)
    (case l_l_one => k_is)
    (case c_l_one => k_is)
    (case k_l_one => k_is)
    (case a_l_is_between => k_is)
    (case l_l_is_between => k_is)
    (case c_l_is_between => k_is)
    (case k_l_is_between => k_is)
    (case a_l_odd => k_is)
    (case l_l_odd => k_is)
    (case c_l_odd => k_is)
    (case k_l_odd => k_is)
    (case a_l_made => k_is)
    (case l_l_made => k_is)
    (case c_l_made => k_is)
    (case k_l_made => k_is)
    (case a_l_spare => k_is)
    (case l_l_spare => k_is)
    (case c_l_spare => k_is)
    (case k_l_spare => k_is)
    (case a_l_spare_due => k_is)
    (case l_l_spare_due => k_is)
    (case c_l_spare_due => k_is)
    (case k_l_spare_due => k_is)
    (case a_law => k_is)
    (case l_law => k_is)
    (case c_law => k_is)
    (case k_law => k_is)
    (case a_ChangeError => first | k_is | rfl | decide +kernel)
    (case g_cl => first | k_is | rfl | decide +kernel)
    (case t_cl => first | k_is | rfl | decide +kernel)
    (case a_NoKind => first | k_is | rfl | decide +kernel)
    (case x_NoKind => first | k_is | rfl | decide +kernel)
    (case fsa_NoKind => first | k_is | rfl | decide +kernel)
    (case fga_NoKind => first | k_is | rfl | decide +kernel)
    (case fgg_NoKind => first | k_is | rfl | decide +kernel)
    (case fno_NoKind => first | k_is | rfl | decide +kernel)
    (case fiC_NoKind => first | k_is | rfl | decide +kernel)
    (case fcl_NoKind => first | k_is | rfl | decide +kernel)
    (case tf_NoKind => first | k_is | rfl | decide +kernel)
    (case t_NoKind => first | k_is | rfl | decide +kernel)
    (case k_NoKind => first | k_is | rfl | decide +kernel)
    (case e_NoKind => first | k_is | rfl | decide +kernel)
    (case s_NoKind => first | k_is | rfl | decide +kernel)
    (case h_NoKind => first | k_is | rfl | decide +kernel)
    (case m_NoKind => first | k_is | rfl | decide +kernel)
    (case lf_NoKind => first | k_is | rfl | decide +kernel)
    (case cf_NoKind => first | k_is | rfl | decide +kernel)
    (case kf_NoKind => first | k_is | rfl | decide +kernel)
    (case a_BadAmount => first | k_is | rfl | decide +kernel)
    (case x_BadAmount => first | k_is | rfl | decide +kernel)
    (case fsa_BadAmount => first | k_is | rfl | decide +kernel)
    (case fga_BadAmount => first | k_is | rfl | decide +kernel)
    (case fgg_BadAmount => first | k_is | rfl | decide +kernel)
    (case fno_BadAmount => first | k_is | rfl | decide +kernel)
    (case fiC_BadAmount => first | k_is | rfl | decide +kernel)
    (case fcl_BadAmount => first | k_is | rfl | decide +kernel)
    (case tf_BadAmount => first | k_is | rfl | decide +kernel)
    (case t_BadAmount => first | k_is | rfl | decide +kernel)
    (case k_BadAmount => first | k_is | rfl | decide +kernel)
    (case e_BadAmount => first | k_is | rfl | decide +kernel)
    (case s_BadAmount => first | k_is | rfl | decide +kernel)
    (case h_BadAmount => first | k_is | rfl | decide +kernel)
    (case m_BadAmount => first | k_is | rfl | decide +kernel)
    (case lf_BadAmount => first | k_is | rfl | decide +kernel)
    (case cf_BadAmount => first | k_is | rfl | decide +kernel)
    (case kf_BadAmount => first | k_is | rfl | decide +kernel)
    (case a_TooLittle => first | k_is | rfl | decide +kernel)
    (case x_TooLittle => first | k_is | rfl | decide +kernel)
    (case fsa_TooLittle => first | k_is | rfl | decide +kernel)
    (case fga_TooLittle => first | k_is | rfl | decide +kernel)
    (case fgg_TooLittle => first | k_is | rfl | decide +kernel)
    (case fno_TooLittle => first | k_is | rfl | decide +kernel)
    (case fiC_TooLittle => first | k_is | rfl | decide +kernel)
    (case fcl_TooLittle => first | k_is | rfl | decide +kernel)
    (case tf_TooLittle => first | k_is | rfl | decide +kernel)
    (case t_TooLittle => first | k_is | rfl | decide +kernel)
    (case k_TooLittle => first | k_is | rfl | decide +kernel)
    (case e_TooLittle => first | k_is | rfl | decide +kernel)
    (case s_TooLittle => first | k_is | rfl | decide +kernel)
    (case h_TooLittle => first | k_is | rfl | decide +kernel)
    (case m_TooLittle => first | k_is | rfl | decide +kernel)
    (case lf_TooLittle => first | k_is | rfl | decide +kernel)
    (case cf_TooLittle => first | k_is | rfl | decide +kernel)
    (case kf_TooLittle => first | k_is | rfl | decide +kernel)
    (case sub_BadAmount_NoKind => first | k_is | rfl | decide +kernel)
    (case sub_TooLittle_BadAmount => first | k_is | rfl | decide +kernel)
    (case a_Reserve => first | k_is | rfl | decide +kernel)
    (case pg_Reserve => first | k_is | rfl | decide +kernel)
    (case hd_Reserve => first | k_is | rfl | decide +kernel)
    (case po_Reserve => first | k_is | rfl | decide +kernel)
    (case sa_Reserve => first | k_is | rfl | decide +kernel)
    (case mk_Reserve => first | k_is | rfl | decide +kernel)
    (case kp_Reserve => first | k_is | rfl | decide +kernel)
    (case ha_Reserve => first | k_is | rfl | decide +kernel)
    (case hm_Reserve => first | k_is | rfl | decide +kernel)
    (case na_Reserve_kind => first | k_is | rfl | decide +kernel)
    (case na_Reserve_least => first | k_is | rfl | decide +kernel)
    (case at_Reserve_init => first | k_is | rfl | decide +kernel)
    (case fn_Reserve_init => first | k_is | rfl | decide +kernel)
    (case kf_Reserve_init => first | k_is | rfl | decide +kernel)
    (case lf_Reserve_init => first | k_is | rfl | decide +kernel)
    (case cf_Reserve_init => first | k_is | rfl | decide +kernel)
    (case at_Reserve_spare => first | k_is | rfl | decide +kernel)
    (case fn_Reserve_spare => first | k_is | rfl | decide +kernel)
    (case kf_Reserve_spare => first | k_is | rfl | decide +kernel)
    (case lf_Reserve_spare => first | k_is | rfl | decide +kernel)
    (case cf_Reserve_spare => first | k_is | rfl | decide +kernel)
    (case z_abs => k_is)
    (case z_bool => k_is)
    (case z_int => k_is)
    (case z_isinstance => k_is)
    (case z_len => k_is)
    (case z_range => k_is)
    (case z_repr => k_is)
    (case g_MAX_KINDS => k_is)
    (case g_MAX_PURSE => k_is)
    (case g_MAX_SPARE => k_is)


import PyProof.Rows.All
import Wide.All
import OpenK.AllK
import Wide.FinOn
import HandS.ForMost
import HandS.Wide
import HandS.Codes
import PyProof.ReprRoads
import HandS.TupAny
import HandS.Gcd
import KE.KMathGC
import HandS.TupMul
import HandS.Conv
import HandS.IsInst
import HandS.Style
import PySem.Challenge.RW_smallchange_k79_rules_of_one_use
set_option Elab.async false
set_option linter.all false
set_option maxRecDepth 100000
set_option maxHeartbeats 4000000
namespace Sm
open PySem PySem.Spec PyProof.Rows L2
/-! ### promises of defs where no repr is under way: as FnOk, with A's guards empty -/
structure FnG (P : Program) (w : World) (K : PySem.W.Frag) (mg : Str → Option Value) (base : Heap) (k : Nat) (f : Addr) (fd : FuncData) (ps : List Str) (sp : Sp) : Prop where
  len : ∀ vs H Q E, sp vs H Q E → vs.length = ps.length
  run : ∀ (A : Around) (outer : List Env) (s : Shared) (H : Hp) (args : Args) (us : List Value) (vs : List V) (Q : VK) (E : XK), A.guards = some [] → Room k A →
    Env0 P w K mg base A outer s H → BindsTo s fd args (ps.zip us) → Vals vs us → sp vs H Q E → codeAny (model P w) A (.call (.ref f) args) (CR CX0 outer P w H s Q E) s
section
variable {P : Program} {w : World} {K : PySem.W.Frag} {mg : Str → Option Value} {base : Heap} {k : Nat} {f : Addr} {fd : FuncData} {ps : List Str} {sp : Sp}
theorem FnG.of (F : FnOk P w K mg base CX0 k f fd ps sp) : FnG P w K mg base k f fd ps sp :=
  ⟨F.len, fun A outer s H args us vs Q E _ hr e b v h => F.run A outer s H args us vs Q E hr e b v h⟩
theorem FnG.body {x : Str} {st : Stmt} {N : List Str} (F : Fun K x x st f fd) (S : FnScope N ps (defScope st)) (len : ∀ vs H Q E, sp vs H Q E → vs.length = ps.length)
    (hb : ∀ (cdv : Value) (A : Around) (outer : List Env) (s : Shared) (H : Hp) (vs : List V) (Q : VK) (E : XK), A.guards = some [] → Room k (A.deeper (envOfC x (defScope st) s.heap.objs.size f cdv)) → sp vs H Q E →
      ∃ t, PSs (cxOf CX0 P w K mg base N x (defScope st) f cdv A outer s H E).nox (defBody st) t ∧ t { nx := fun _ H' => Q .non H', rt := Q } (start N vs) H) : FnG P w K mg base (k + 1) f fd ps sp := by
  obtain ⟨oc, od, kV, doc, pm, an, cdv, ct, osl, efd, look, code⟩ := F.ex
  subst efd
  constructor
  · exact len
  intro A outer s H args us vs Q E guard room e0 bind rel want
  have inn : K.In s.heap := e0.mod.kin.keeps fun b o e => (e0.bs b o e).1
  have nolim : s.heap.NoLimit := e0.mod.nolimit.keeps fun b o e => (e0.bs b o e).1
  refine codeAny_call_function room.depth (inn _ _ look) rfl S.co S.gen rfl (PySem.W.codeRec_of inn code) (bind _ _ _ _ ?_)
  refine wpAny_newFunctionEnv_cells S.kind ?_ ?_
  · rintro ⟨n, v⟩ there
    have := S.par n (List.of_mem_zip there).1
    cases this with
    | inl q => exact .inl q
    | inr q => exact .inr ⟨q, PySem.W.cellsFrom_some _ _ _ (.inl q)⟩
  · intro env eenv s1 laid
    subst eenv
    refine ⟨nolim.keeps laid.toInCall.keep, codeAny_func ?_⟩
    obtain ⟨t, der, goal⟩ := hb cdv A outer s H vs Q E guard (room.deeper _) want
    have I := inv_start (CX := CX0) (E := E) S room.hd e0 (len _ _ _ _ want) rel laid
    refine wpAny_mono (der.nox.run [] s1 (start N vs) H _ I goal) (fun out s' got => ?_) fun e s' got => got
    match out, got with
    | .ret u, ⟨v, σ', H', J, rv, q⟩ => exact ⟨v, H', J.os, J.bare, J.base, J.hok, rv, q⟩
    | .next, ⟨σ', H', J, q⟩ => exact ⟨V.non, H', J.os, J.bare, J.base, J.hok, rfl, q⟩
    | .brk, ⟨_, _, _, q⟩ => exact q.elim
    | .cont, ⟨_, _, _, q⟩ => exact q.elim
end
section
variable {X : Cx} {k : Nat} {f : Addr} {fd : FuncData} {ps : List Str} {sp : Sp} {x : Str} {p pos : Pos} {e : Expr} {es : List Expr} {t : TA}
theorem pe_callG (F : FnG X.prog X.w X.K X.mg X.base k f fd ps sp) (gu : X.A.guards = some []) (hr : Room k X.A) (hg : Gl X x) (hm : X.mg x = some (.ref f)) (hk : PySem.W.keepIn X.K (.ref f) = true) (hb : Binds X.K fd ps [])
    (ha : PA X (e :: es) t) (hdb : (x == ("__debug__" : Str)) = false := by decide) (he : starEach (e :: es) X.env = (false, eval e X.env) :: starEach es X.env := by rfl) (hpl : (backTo pos (starEach es X.env)).any (·.1) = false := by rfl) :
    PE X (.Call (.Name x p) (e :: es) [] pos) (tCall sp [] E0 t) := by
  constructor
  intro pins s σ H Q I want
  refine wpAny_Call_Name_kw (ld_glob I hg hm ?_ hdb)
  refine PySem.W.callWith_K (h₀ := X.base) I.ok.mod.kin hk (thn (ha.run pos pins s σ H _ I want) ?_) he hpl
  rintro us s1 ⟨vs, H1, I1, rel, q⟩
  refine ⟨I1.kIn, ?_⟩
  have q : sp vs H1 Q E0 := by
    have q : sp (vs ++ []) H1 Q E0 := q
    rw [List.append_nil] at q
    exact q
  have b := hb s1 us I1.kIn (by rw [List.append_nil, ← rel.length]; exact F.len _ _ _ _ q)
  rw [List.append_nil] at b
  refine wpAny_call (codeAny_mono (F.run X.A X.stack s1 H1 ⟨us, []⟩ us vs Q E0 gu hr I1.env0 b rel q) ?_)
  rintro (e | out) s' got
  · exact got.elim
  · match out, got with
    | .ret u, got => exact I1.after got
    | .next, got => exact got.elim
    | .brk, got => exact got.elim
    | .cont, got => exact got.elim
/-- repr of data at any depth -/
theorem call_repr_data (gu : X.A.guards = some []) (room : ∃ k, Room k X.A) : CallR X (.builtin "repr") (fun xs H Q => ∃ a d, xs = [.ref a] ∧ Dp X.K H (.ref a) d ∧ PyData.showable d = true ∧ PyData.hasDict d = false ∧ d.depth ≤ 60 ∧ d.shown.length ≤ sizeLine ∧ Q (.str d.shown) H) := by
  intro pins s σ H xs us Q I rel want
  obtain ⟨a, d, rfl, data, sh, nd, dep, len, q⟩ := want
  obtain ⟨u, rfl, ru⟩ := vals1 rel
  obtain ⟨as, reads⟩ := Dp.reads I d _ u data ru
  cases ru
  obtain ⟨k, room⟩ := room
  have un := room.un
  exact repr_of_reads' reads sh (PyData.noDict_hsm nd) gu (by omega) (fun _ _ e => e) (fun h' v tk keep => ⟨.str d.shown, H, I.kept keep, ⟨_, rfl⟩, q⟩) len
end
/-! ### the law's own call, at the caller's place -/
theorem law_at {P : Program} {w : World} {K : PySem.W.Frag} {mg mb : Str → Option Value} {k : Nat} {fa a : Addr} {fd : FuncData} {x : Str} {sp : Sp} {s₁ : Shared} {vs : List Value} {ns : List Int}
    (KX : K.In s₁.heap) (hns : s₁.heap.Ns mainGlobals mg) (hb : s₁.heap.Ns builtinsNs mb) (hbb : ∀ x : Str, x ≠ "__name__" → mb x = bootBuiltins x) (hlim : s₁.heap.NoLimit) (hg : s₁.gens = #[])
    (ha : s₁.heap.get? a = some { cls := .type "list", data := .seq vs.toArray }) (hi : IntsAre vs ns) (hl : ns.length ≤ sizeLine) (hr : Room k callerA)
    (F : ∀ base : Heap, K.In base → base.Ns mainGlobals mg → FnG P w K mg base k fa fd [x] sp) (hbind : ∀ (s : Shared) (u : Value), BindsTo s fd ⟨[u], []⟩ [(x, u)])
    (hsp : ∀ H : Hp, SqL K H a (ns.map V.int) → sp [.ref a] H (fun v _ => v = .bl true) E0) :
    codeAny (model P w) callerA (.call (.ref fa) ⟨[.ref a], []⟩) (fun r s' => r = .ok (.ret (.bool true)) ∧ OldK s₁.heap s'.heap ∧ s'.os = s₁.os ∧ AllBare s'.gens) s₁ := by
  have ivs := vals_ints hi
  -- what is tracked: the script, if the module does not hold it itself
  obtain ⟨H, seq, ok, only, free⟩ : ∃ H : Hp, SqL K H a (ns.map V.int) ∧ HOk P w H s₁.heap ∧ (∀ b u, H b = some u → b = a ∧ u = .frz { cls := .type "list", data := .seq vs.toArray } (.lst (ns.map V.int))) ∧ ∀ b u, H b = some u → K.lookup b = none := by
    cases look : K.lookup a with
    | some o =>
      have same := KX a o look
      rw [ha] at same
      injection same with same
      subst same
      have empty : ∀ {u : HO}, (none : Option HO) = some u → False := fun z => nomatch z
      refine ⟨fun _ => none, .inr ⟨_, vs.toArray, _, look, rfl, rfl, rfl, ?_, ?_⟩, fun b u z => (empty z).elim, fun b u z => (empty z).elim, fun b u z => (empty z).elim⟩
      · rw [List.size_toArray, hi.length]
        exact hl
      · simpa using ivs
    | none =>
      have at_a : ∀ b u, (fun b => if b = a then some (HO.frz { cls := .type "list", data := .seq vs.toArray } (.lst (ns.map V.int))) else none : Hp) b = some u → b = a ∧ u = .frz { cls := .type "list", data := .seq vs.toArray } (.lst (ns.map V.int)) := by
        intro b u z
        by_cases e : b = a
        · have z := (if_pos e).symm.trans z
          exact ⟨e, (Option.some.inj z).symm⟩
        · exact nomatch (if_neg e).symm.trans z
      refine ⟨_, .inl (.inr ⟨_, if_pos rfl⟩), fun b u z => ?_, at_a, fun b u z => ?_⟩
      · obtain ⟨rfl, rfl⟩ := at_a b u z
        exact ⟨ha, by rw [List.length_map]; exact hl, vs, _, ivs, ha⟩
      · rw [(at_a b u z).1]
        exact look
  have stays : ∀ {b : Addr} {o : Obj}, s₁.heap.get? b = some o → (∀ u, H b ≠ some u) → (hidT s₁.heap H).get? b = some o := fun {b o} e no => hidT_get e (by
    cases z : H b with
    | none => rfl
    | some u => exact (no u z).elim)
  have spaces : ∀ {b : Addr} {m : Str → Option Value}, s₁.heap.Ns b m → (hidT s₁.heap H).Ns b m := by
    rintro b m ⟨o, es, ep, there, data, rest⟩
    refine ⟨o, es, ep, stays there fun u z => ?_, data, rest⟩
    rw [(only b u z).1, ha] at there
    injection there with there
    subst there
    exact nomatch data
  have inn : K.In (hidT s₁.heap H) := fun b o e => stays (KX b o e) fun u z => by
    rw [free b u z] at e
    exact nomatch e
  have mod : Mod K mg (hidT s₁.heap H) := by
    obtain ⟨mc, c1, c2⟩ := hlim
    exact ⟨inn, spaces hns, ⟨mb, spaces hb, hbb⟩, mc, spaces c1, c2⟩
  have e0 : Env0 P w K mg (hidT s₁.heap H) callerA [] s₁ H := by
    refine ⟨rfl, mod, fun b o e => of_hidT e, Nat.le_of_eq (hidT_size _ _), trivial, ?_, ok, .of_eq hg⟩
    intro b q
    exact absurd q (List.not_mem_nil (a := b))
  refine codeAny_mono ((F _ inn (spaces hns)).run callerA [] s₁ H ⟨[.ref a], []⟩ [.ref a] [.ref a] _ _ rfl hr e0 (hbind s₁ (.ref a)) (.cons rfl .nil) (hsp H seq)) ?_
  rintro (e | out) s' got
  · exact got.elim
  · match out, got with
    | .next, got => exact got.elim
    | .brk, got => exact got.elim
    | .cont, got => exact got.elim
    | .ret u, ⟨v, H', os, bare, un, ok', rel, q⟩ =>
      have q : v = V.bl true := q
      subst q
      have rel : u = Value.bool true := rel
      subst rel
      refine ⟨rfl, .of_keep fun b o e => ?_, os, bare⟩
      cases z : H b with
      | none => exact un.keep b o e z (List.not_mem_nil (a := b)) (List.not_mem_nil (a := b))
      | some u =>
        obtain ⟨rfl, rfl⟩ := only b u z
        have now := (ok' _ _ (un.frzs _ _ _ z)).1
        rw [ha] at e
        injection e with e
        rw [← e]
        exact now
theorem walk_at_law {l : PySem.W.OpenLaw} {k : Nat} {q : Program} {loose : List Str} {XP : (Str → Option Value) → Heap → Prop} {YP : World → Heap → Prop} {d : DefRec} {K : Params → PySem.W.Frag} {sp : PySem.W.Frag → Sp} {x : Str}
    (hn : l.most = some 63) (hdf : d.params.defaults = []) (hr : Room k callerA) (hY : ∀ (w : World) (h : Heap), YP w h → (K w.params).In h)
    (F : ∀ (w : World) (mg : Str → Option Value) (fa : Addr) (h : Heap), (K w.params).In h → h.Ns mainGlobals mg → mg d.name = some (.ref fa) →
      ∃ fd : FuncData, (∀ (s : Shared) (u : Value), BindsTo s fd ⟨[u], []⟩ [(x, u)]) ∧ ∀ base : Heap, (K w.params).In base → base.Ns mainGlobals mg → FnG l.prog w (K w.params) mg base k fa fd [x] (sp (K w.params)))
    (hsp : ∀ (K : PySem.W.Frag) (H : Hp) (a : Addr) (ns : List Int), ns.length ≤ 63 → SqL K H a (ns.map V.int) → sp K [.ref a] H (fun v _ => v = .bl true) E0) :
    PySem.W.WalkO q loose XP YP l.row.toRowW d [] (fun f vs => PySem.call f vs) := by
  refine Att.attach_call hn hdf ?_
  intro w s₀ s₁ mg mb fa o pm cd doc a vs ns G Y ho hd hcd hmg hobj hints hlen hg
  obtain ⟨fd, bind, each⟩ := F w mg fa _ (hY w _ Y) G.T.g hmg
  exact law_at (hY w _ Y) G.T.g G.T.b G.T.builtins G.T.nolimit hg hobj hints (Nat.le_trans hlen (by decide)) hr each bind fun H sq => hsp (K w.params) H a ns hlen sq
end Sm

set_option Elab.async false
set_option linter.all false
set_option maxRecDepth 100000
set_option maxHeartbeats 4000000
namespace Sm
open PySem PySem.Spec PyProof.Rows L2
section
variable {P : Program} {w : World} {K : PySem.W.Frag} {mg : Str → Option Value} {base : Heap}
def Df (K : PySem.W.Frag) (mg : Str → Option Value) (x : Str) (st : Stmt) (ps : List Str) : Prop :=
  ∃ (f : Addr) (fd : FuncData), Fun K x x st f fd ∧ mg x = some (.ref f) ∧ Binds K fd ps []
def Cal (P : Program) (w : World) (K : PySem.W.Frag) (mg : Str → Option Value) (base : Heap) (x : Str) (ps : List Str) (k : Nat) (sp : Sp) : Prop :=
  ∃ (f : Addr) (fd : FuncData), FnOk P w K mg base CX0 k f fd ps sp ∧ mg x = some (.ref f) ∧ PySem.W.keepIn K (.ref f) = true ∧ Binds K fd ps []
theorem Df.cal {x : Str} {st : Stmt} {N ps : List Str} {k : Nat} {sp : Sp} (D : Df K mg x st ps) (S : FnScope N ps (defScope st)) (len : ∀ vs H Q E, sp vs H Q E → vs.length = ps.length)
    (hbody : ∀ (f : Addr) (cdv : Value) (A : Around) (outer : List Env) (s : Shared) (H : Hp) (vs : List V) (Q : VK) (E : XK), Room k (A.deeper (envOfC x (defScope st) s.heap.objs.size f cdv)) → sp vs H Q E →
      ∃ t, PSs (cxOf CX0 P w K mg base N x (defScope st) f cdv A outer s H E).nox (defBody st) t ∧ t { nx := fun _ H' => Q .non H', rt := Q } (start N vs) H) : Cal P w K mg base x ps (k + 1) sp := by
  obtain ⟨f, fd, F, m, b⟩ := D
  exact ⟨f, fd, F.ok S len (fun cdv A outer s H vs Q E hr h => hbody f cdv A outer s H vs Q E hr h), m, F.kp, b⟩
theorem same_upd {H : Hp} {p : Addr} {o : HO} (h : H p = none) : Same H (upd H p o) := fun b x e => by
  rw [upd_ne (ne_of_none e h)]
  exact e
theorem iteP {p A B : Prop} [Decidable p] (h : p) (a : A) : if decide p = true then A else B := by
  rw [decide_eq_true h]
  exact iteT a
theorem iteN {p A B : Prop} [Decidable p] (h : ¬ p) (b : B) : if decide p = true then A else B := by
  rw [decide_eq_false h]
  exact iteF b
theorem iteNP {p A B : Prop} [Decidable p] (h : p) (b : B) : if (!decide p) = true then A else B := by
  rw [decide_eq_true h]
  exact iteF b
theorem iteNN {p A B : Prop} [Decidable p] (h : ¬ p) (a : A) : if (!decide p) = true then A else B := by
  rw [decide_eq_false h]
  exact iteT a
theorem ite3 {p A B : Prop} [Decidable p] (h1 : p → A) (h2 : ¬ p → B) : if decide p = true then A else B := by
  by_cases h : p
  · exact iteP h (h1 h)
  · exact iteN h (h2 h)
theorem fmod_pos {a b : Int} (h : 0 < b) : a.fmod b = a % b := Int.fmod_eq_emod_of_nonneg a (by omega)
end
/-! ### the deck -/
structure Deck (H : Hp) (p l : Addr) (n : Int) : Prop where
  hp : H p = some (.lst [.ref l, .int n])
  hl : ∃ cells : List Int, H l = some (.lst (cells.map V.int)) ∧ (∀ c ∈ cells, 0 ≤ c) ∧ cells.length ≤ 63
theorem deck_ne {l : Addr} {n : Int} {cells : List Int} : HO.lst [.ref l, .int n] ≠ HO.lst (cells.map V.int) := by
  intro q
  injection q with q
  cases cells with
  | nil => cases q
  | cons c r => cases (List.cons.inj q).1
/-- all but the deck is as it was -/
def Fr (p l : Addr) (H H' : Hp) : Prop := ∀ b o, b ≠ p → b ≠ l → H b = some o → H' b = some o
theorem Fr.trans {p l : Addr} {H H1 H2 : Hp} (a : Fr p l H H1) (b : Fr p l H1 H2) : Fr p l H H2 := fun c o h1 h2 h => b c o h1 h2 (a c o h1 h2 h)
theorem Same.fr {p l : Addr} {H H' : Hp} (s : Same H H') : Fr p l H H' := fun b o _ _ h => s b o h
theorem Deck.same {H H' : Hp} {p l : Addr} {n : Int} (D : Deck H p l n) (s : Same H H') : Deck H' p l n := by
  obtain ⟨cells, hl, hc⟩ := D.hl
  exact ⟨s _ _ D.hp, cells, s _ _ hl, hc⟩
theorem Fr.tup {H H' : Hp} {p l b : Addr} {n : Int} {xs : List V} (f : Fr p l H H') (D : Deck H p l n) (h : H b = some (.tup xs)) : H' b = some (.tup xs) := by
  obtain ⟨cells, hl, hc⟩ := D.hl
  exact f b _ (ne_of h D.hp (by intro q; cases q)) (ne_of h hl (by intro q; cases q)) h
def sp_l_deck (K : PySem.W.Frag) : Sp := fun vs H Q _ => ∃ (a : Addr) (ns : List Int), vs = [.ref a] ∧ SqL K H a (ns.map V.int) ∧ ns.length ≤ 63 ∧ ∀ H' p l, Same H H' → Deck H' p l 0 → Q (.ref p) H'
def sp_l_draw (K : PySem.W.Frag) : Sp := fun vs H Q _ => ∃ (p l : Addr) (n m : Int), vs = [.ref p, .int m] ∧ Deck H p l n ∧ 0 ≤ n ∧ n ≤ 1000000 ∧ 0 < m ∧ m ≤ 1000000000000000000000000000000000000000000000000000000000000 ∧
  ∀ r H', 0 ≤ r → r < m → Fr p l H H' → Deck H' p l (n + 1) → Q (.int r) H'
def sp_l_one (K : PySem.W.Frag) : Sp := fun vs H Q _ => ∃ (p l b : Addr) (n : Int) (xs : List V), vs = [.ref p, .ref b] ∧ Deck H p l n ∧ 0 ≤ n ∧ n ≤ 1000000 ∧ H b = some (.lst xs) ∧ b ≠ p ∧ b ≠ l ∧ 0 < xs.length ∧ xs.length ≤ 1000 ∧
  ∀ x H', x ∈ xs → Fr p l H H' → Deck H' p l (n + 1) → Q x H'
theorem cut63 {ns : List Int} (h : ns.length ≤ 63) : cutV (ns.map V.int) none (some 63) = ns.map V.int := by
  unfold cutV
  rw [HT.sIx_none, show HT.sIx (ns.map V.int).length (ns.map V.int).length (some 63) = min 63 (ns.map V.int).length from HT.sIx_nat _ _ 63]
  rw [List.length_map, Nat.min_eq_right h, List.drop_zero]
  exact List.take_of_length_le (by rw [List.length_map]; omega)
def absI (n : Int) : Int := if n < 0 then -n else n
theorem absI_pos (n : Int) : 0 ≤ absI n := by
  unfold absI
  split <;> omega
theorem div_draw {c m : Int} (h0 : 0 < m) (h : m ≤ 1000000000000000000000000000000000000000000000000000000000000) : CDivW c m :=
  wide_div (b := 300) h0 (by omega) (by decide) (by decide)
theorem cut_all {xs : List V} {n : Nat} : cutV xs none (some (n : Int)) = xs.take n := by
  unfold cutV
  rw [HT.sIx_none, HT.sIx_nat, List.drop_zero, Nat.sub_zero]
  rcases Nat.le_total n xs.length with h | h
  · rw [Nat.min_eq_left h]
  · rw [Nat.min_eq_right h, List.take_length, List.take_of_length_le h]
theorem ne_new {H : Hp} {p b : Addr} {o : HO} (h : H p = some o) (n : H b = none) : b ≠ p := (ne_of_none h n).symm
/-- what the deck's second list is not -/
theorem Deck.lne {H : Hp} {p l b : Addr} {n : Int} (D : Deck H p l n) (h : H b = none) : b ≠ p ∧ b ≠ l := by
  obtain ⟨cells, hl, hc⟩ := D.hl
  exact ⟨ne_new D.hp h, ne_new hl h⟩
section
variable {X : Cx}
/-- repr of an int or None -/
theorem call_repr_some : CallR X (.builtin "repr") (fun xs H Q => (∃ i, xs = [.int i] ∧ i.natAbs.log2 < 1920 ∧ Q (.str (toString i)) H) ∨ (xs = [.non] ∧ Q (.str "None") H)) := by
  intro pins s σ H xs us Q I r h
  rcases h with ⟨i, rfl, hz, q⟩ | ⟨rfl, q⟩
  · obtain ⟨u, rfl, t, rfl⟩ := vals1 r
    exact PySem.P.repr_of_int hz ⟨.str _, H, I.tok _, ⟨_, rfl⟩, q⟩
  · obtain ⟨u, rfl, rfl⟩ := vals1 r
    exact PySem.P.repr_of_none ⟨.str _, H, I.tok _, ⟨_, rfl⟩, q⟩
def dataI (ns : List Int) : PyData := .list (ns.map PyData.int)
theorem dp_ints {K : PySem.W.Frag} {H : Hp} : ∀ ns : List Int, DpAll K H (ns.map V.int) (ns.map PyData.int)
  | [] => .nil
  | n :: ns => .cons (.int n) (dp_ints ns)
theorem showable_ints : ∀ {ns : List Int}, (∀ n ∈ ns, n.natAbs.log2 < 1920) → PyData.showableAll (ns.map PyData.int) = true
  | [], _ => rfl
  | n :: ns, h => by
    have a := h n (List.mem_cons_self ..)
    have b := showable_ints (ns := ns) fun m hm => h m (List.mem_cons_of_mem _ hm)
    simp only [List.map_cons, PyData.showableAll, PyData.showable, decide_eq_true a, b, Bool.and_self]
theorem hasDict_ints : ∀ ns : List Int, PyData.hasDictAll (ns.map PyData.int) = false
  | [] => rfl
  | n :: ns => by
    simp only [List.map_cons, PyData.hasDictAll, PyData.hasDict, hasDict_ints ns, Bool.or_self]
theorem depth_ints : ∀ ns : List Int, PyData.depthAll (ns.map PyData.int) ≤ 1
  | [] => by simp [PyData.depthAll]
  | n :: ns => by
    have := depth_ints ns
    simp only [List.map_cons, PyData.depthAll, PyData.depth]
    omega
theorem shown_ints : ∀ {ns : List Int}, (∀ n ∈ ns, n.natAbs.log2 < 1920) → ((PyData.shownAll (ns.map PyData.int)).map (·.length)).sum ≤ 1921 * ns.length ∧ (PyData.shownAll (ns.map PyData.int)).length = ns.length
  | [], _ => by simp [PyData.shownAll]
  | n :: ns, h => by
    have a := PyProof.Rows.int_text_len_1921 (h n (List.mem_cons_self ..))
    obtain ⟨b, c⟩ := shown_ints (ns := ns) fun m hm => h m (List.mem_cons_of_mem _ hm)
    simp only [List.map_cons, PyData.shownAll, PyData.shown, List.sum_cons, List.length_cons]
    omega
/-- repr of a list of ints -/
theorem call_repr_ints (gu : X.A.guards = some []) (room : ∃ k, Room k X.A) : CallR X (.builtin "repr") (fun xs H Q => ∃ a ns, xs = [.ref a] ∧ SqL X.K H a (ns.map V.int) ∧ ns.length ≤ 5000 ∧ (∀ n ∈ ns, n.natAbs.log2 < 1920) ∧ Q (.str (dataI ns).shown) H) := by
  intro pins s σ H xs us Q I r h
  obtain ⟨a, ns, rfl, hS, len, small, q⟩ := h
  refine call_repr_data gu room pins s σ H _ us Q I r ⟨a, dataI ns, rfl, .lst hS (dp_ints ns), ?_, ?_, ?_, ?_, q⟩
  · unfold dataI
    simp only [PyData.showable, showable_ints small]
  · unfold dataI
    simp only [PyData.hasDict, hasDict_ints]
  · have := depth_ints ns
    unfold dataI
    simp only [PyData.depth]
    omega
  · obtain ⟨s1, s2⟩ := shown_ints small
    have := listText_len_le (PyData.shownAll (ns.map PyData.int))
    unfold dataI
    simp only [PyData.shown]
    rw [sizeLine_eq]
    omega
end
end Sm

set_option maxHeartbeats 4000000
namespace Sm
/-! rules: a table that repeats -/
def vl (T : List Int) (p : Nat) (r : Int) (x : Nat) : Int :=
  if x < T.length then T.getD x 0 else T.getD (x - ((x - T.length) / p + 1) * p) 0 + (((x - T.length) / p + 1 : Nat) : Int) * r
structure RuleOk (T : List Int) (p : Nat) (r : Int) : Prop where
  p0 : 0 < p
  p1 : p ≤ T.length
  r0 : 0 ≤ r
  nn : ∀ i, i < T.length → 0 ≤ T.getD i 0
  mono : ∀ i, i + 1 < T.length → T.getD i 0 ≤ T.getD (i + 1) 0
  wrap : T.getD (T.length - 1) 0 ≤ T.getD (T.length - p) 0 + r
theorem place {n p x : Nat} (hp : 0 < p) (hpn : p ≤ n) (h : n ≤ x) : ((x - n) / p + 1) * p ≤ x ∧ n - p ≤ x - ((x - n) / p + 1) * p ∧ x - ((x - n) / p + 1) * p < n := by
  have a := Nat.div_add_mod (x - n) p
  have b := Nat.mod_lt (x - n) hp
  have c : ((x - n) / p + 1) * p = p * ((x - n) / p) + p := by rw [Nat.add_mul, Nat.one_mul, Nat.mul_comm]
  omega
theorem vl_lt {T : List Int} {p : Nat} {r : Int} {x : Nat} (h : x < T.length) : vl T p r x = T.getD x 0 := if_pos h
theorem vl_step {T : List Int} {p : Nat} {r : Int} {x : Nat} (hp : 0 < p) (hpn : p ≤ T.length) (h : T.length ≤ x) : vl T p r x = vl T p r (x - p) + r := by
  by_cases q : x - p < T.length
  · have e : (x - T.length) / p = 0 := Nat.div_eq_of_lt (by omega)
    rw [vl_lt q]
    unfold vl
    rw [if_neg (by omega), e]
    simp
  · have e : (x - T.length) / p = (x - p - T.length) / p + 1 := by
      rw [Nat.div_eq_sub_div hp (by omega), show x - T.length - p = x - p - T.length by omega]
    unfold vl
    rw [if_neg (by omega), if_neg q, e]
    have i : x - ((x - p - T.length) / p + 1 + 1) * p = x - p - ((x - p - T.length) / p + 1) * p := by
      rw [Nat.add_mul ((x - p - T.length) / p + 1) 1 p, Nat.one_mul]
      omega
    rw [i]
    have k : (((x - p - T.length) / p + 1 + 1 : Nat) : Int) * r = (((x - p - T.length) / p + 1 : Nat) : Int) * r + r := by
      rw [Int.natCast_add ((x - p - T.length) / p + 1) 1, Int.add_mul]
      simp
    rw [k, Int.add_assoc]
theorem vl_add {T : List Int} {p : Nat} {r : Int} {x : Nat} (hp : 0 < p) (hpn : p ≤ T.length) (h : T.length - p ≤ x) : vl T p r (x + p) = vl T p r x + r := by
  rw [vl_step hp hpn (by omega), Nat.add_sub_cancel]
theorem vl_addk {T : List Int} {p : Nat} {r : Int} {x : Nat} (hp : 0 < p) (hpn : p ≤ T.length) (h : T.length - p ≤ x) : ∀ k : Nat, vl T p r (x + k * p) = vl T p r x + (k : Int) * r
  | 0 => by simp
  | k + 1 => by
    have ih := vl_addk (r := r) hp hpn h k
    rw [show x + (k + 1) * p = x + k * p + p by rw [Nat.add_mul, Nat.one_mul, Nat.add_assoc], vl_add hp hpn (by omega), ih]
    rw [Int.natCast_add, Int.add_mul]
    simp
    omega
section
variable {T : List Int} {p : Nat} {r : Int}
theorem RuleOk.up (o : RuleOk T p r) : ∀ x, vl T p r x ≤ vl T p r (x + 1) := by
  intro x
  induction x using Nat.strongRecOn with
  | _ x ih =>
    have p0 := o.p0
    have p1 := o.p1
    by_cases a : x + 1 < T.length
    · rw [vl_lt a, vl_lt (by omega)]
      exact o.mono x a
    · by_cases b : x < T.length
      · rw [vl_lt b, vl_step p0 p1 (by omega), vl_lt (by omega)]
        have w := o.wrap
        rw [show x = T.length - 1 by omega]
        rw [show T.length - 1 + 1 - p = T.length - p by omega]
        exact w
      · rw [vl_step p0 p1 (by omega), vl_step (x := x + 1) p0 p1 (by omega)]
        have := ih (x - p) (by omega)
        rw [show x - p + 1 = x + 1 - p by omega] at this
        omega
theorem RuleOk.le (o : RuleOk T p r) {x y : Nat} (h : x ≤ y) : vl T p r x ≤ vl T p r y := by
  obtain ⟨k, rfl⟩ := Nat.le.dest h
  induction k with
  | zero => exact Int.le_refl _
  | succ k ih => exact Int.le_trans (ih (by omega)) (o.up _)
theorem RuleOk.pos (o : RuleOk T p r) (x : Nat) : 0 ≤ vl T p r x := by
  have a := o.le (Nat.zero_le x)
  have p0 := o.p0
  have p1 := o.p1
  rw [vl_lt (x := 0) (by omega)] at a
  have := o.nn 0 (by omega)
  omega
theorem RuleOk.row (o : RuleOk T p r) {i j : Nat} (h : i ≤ j) (hj : j < T.length) : T.getD i 0 ≤ T.getD j 0 := by
  have a := o.le h
  rw [vl_lt hj, vl_lt (by omega)] at a
  exact a
/-- the values of the last period repeat by s, increased by c -/
def Rep (T : List Int) (p : Nat) (r : Int) (s : Nat) (c : Int) : Prop := ∀ i, T.length - p ≤ i → i < T.length → vl T p r (i + s) = T.getD i 0 + c
theorem rep_all {s : Nat} {c : Int} (o : RuleOk T p r) (h : Rep T p r s c) : ∀ y, T.length - p ≤ y → vl T p r (y + s) = vl T p r y + c := by
  intro y
  induction y using Nat.strongRecOn with
  | _ y ih =>
    intro hy
    have p0 := o.p0
    have p1 := o.p1
    by_cases a : y < T.length
    · rw [vl_lt a]
      exact h y hy a
    · have e := ih (y - p) (by omega) (by omega)
      rw [vl_step (x := y) p0 p1 (by omega), vl_step (x := y + s) p0 p1 (by omega), show y + s - p = y - p + s by omega, e]
      omega
theorem rep_self (o : RuleOk T p r) : Rep T p r p r := fun i h1 h2 => by
  rw [vl_add o.p0 o.p1 h1, vl_lt h2]
theorem getD_take {n i : Nat} (h : i < n) : (T.take n).getD i 0 = T.getD i 0 := by
  rw [List.getD_eq_getElem?_getD, List.getD_eq_getElem?_getD, List.getElem?_take_of_lt h]
/-- the table cut: still a rule, with the same values -/
theorem cut_ok {a s : Nat} {c : Int} (o : RuleOk T p r) (hs : 0 < s) (ha : a + s ≤ T.length) (c0 : 0 ≤ c) (h : ∀ y, a ≤ y → vl T p r (y + s) = vl T p r y + c) : RuleOk (T.take (a + s)) s c := by
  have len : (T.take (a + s)).length = a + s := by rw [List.length_take]; omega
  refine ⟨hs, by omega, c0, fun i hi => ?_, fun i hi => ?_, ?_⟩
  · rw [getD_take (by omega)]
    exact o.nn i (by omega)
  · rw [getD_take (by omega), getD_take (by omega)]
    exact o.mono i (by omega)
  · rw [len, getD_take (by omega), getD_take (by omega), show a + s - s = a by omega]
    have e := h a (Nat.le_refl _)
    have u := o.up (a + s - 1)
    rw [show a + s - 1 + 1 = a + s by omega, e, vl_lt (by omega), vl_lt (by omega)] at u
    exact u
theorem cut_vl {a s : Nat} {c : Int} (hs : 0 < s) (ha : a + s ≤ T.length) (h : ∀ y, a ≤ y → vl T p r (y + s) = vl T p r y + c) : ∀ x, vl (T.take (a + s)) s c x = vl T p r x := by
  have len : (T.take (a + s)).length = a + s := by rw [List.length_take]; omega
  intro x
  induction x using Nat.strongRecOn with
  | _ x ih =>
    by_cases q : x < a + s
    · rw [vl_lt (by omega), vl_lt (by omega), getD_take q]
    · rw [vl_step hs (by omega) (by omega), ih (x - s) (by omega), ← h (x - s) (by omega), show x - s + s = x by omega]
/-- the least amount, or none -/
def IsLf (T : List Int) (p : Nat) (r : Int) (y : Int) : Option Nat → Prop
  | none => r = 0 ∧ T.getD (T.length - 1) 0 < y
  | some x => y ≤ vl T p r x ∧ ∀ z, z < x → vl T p r z < y
theorem lf_near {y : Int} {i : Nat} (hi : i < T.length) (h1 : y ≤ T.getD i 0) (h2 : ∀ j, j < i → T.getD j 0 < y) : IsLf T p r y (some i) :=
  ⟨by rw [vl_lt hi]; exact h1, fun z hz => by rw [vl_lt (by omega)]; exact h2 z hz⟩
theorem lf_far {y : Int} {i k : Nat} (o : RuleOk T p r) (k0 : 0 < k) (hk : T.getD (T.length - 1) 0 + ((k : Int) - 1) * r < y) (h0 : T.length - p ≤ i) (hi : i < T.length) (h1 : y - (k : Int) * r ≤ T.getD i 0)
    (h2 : ∀ j, T.length - p ≤ j → j < i → T.getD j 0 < y - (k : Int) * r) : IsLf T p r y (some (i + k * p)) := by
  have p0 := o.p0
  have p1 := o.p1
  refine ⟨?_, fun z hz => ?_⟩
  · rw [vl_addk p0 p1 h0, vl_lt hi]
    omega
  · have kp : p ≤ k * p := Nat.le_mul_of_pos_left p k0
    refine Int.lt_of_le_of_lt (o.le (show z ≤ i + k * p - 1 by omega)) ?_
    by_cases q : i = T.length - p
    · obtain ⟨k, rfl⟩ : ∃ j, k = j + 1 := ⟨k - 1, by omega⟩
      have e : i + (k + 1) * p - 1 = T.length - 1 + k * p := by
        rw [Nat.add_mul, Nat.one_mul] at kp ⊢
        omega
      rw [e, vl_addk p0 p1 (by omega), vl_lt (by omega)]
      have c : ((k + 1 : Nat) : Int) - 1 = (k : Int) := by omega
      rw [c] at hk
      exact hk
    · rw [show i + k * p - 1 = i - 1 + k * p by omega, vl_addk p0 p1 (by omega), vl_lt (by omega)]
      have := h2 (i - 1) (by omega) (by omega)
      omega
theorem lf_one {y : Int} {a b : Option Nat} (o : RuleOk T p r) (ha : IsLf T p r y a) (hb : IsLf T p r y b) : a = b := by
  have no : ∀ {x : Nat}, IsLf T p r y none → IsLf T p r y (some x) → False := by
    rintro x ⟨h1, h2⟩ ⟨h3, _⟩
    have p0 := o.p0
    have p1 := o.p1
    have all : ∀ x, vl T p r x ≤ T.getD (T.length - 1) 0 := by
      intro x
      induction x using Nat.strongRecOn with
      | _ x ih =>
        by_cases q : x < T.length
        · rw [vl_lt q]
          exact o.row (by omega) (by omega)
        · rw [vl_step p0 p1 (by omega)]
          have := ih (x - p) (by omega)
          omega
    have := all x
    omega
  match a, b, ha, hb with
  | none, none, _, _ => rfl
  | none, some x, ha, hb => exact (no ha hb).elim
  | some x, none, ha, hb => exact (no hb ha).elim
  | some x, some z, ⟨h1, h2⟩, ⟨h3, h4⟩ =>
    rcases Nat.lt_trichotomy x z with q | q | q
    · have := h4 x q
      omega
    · rw [q]
    · have := h2 z q
      omega
end
theorem div_cast {x n p : Nat} (h : n ≤ x) : ((x : Int) - (n : Int)) / (p : Int) + 1 = (((x - n) / p + 1 : Nat) : Int) := by
  rw [← Int.natCast_sub h]
  rfl
theorem ceil_lo {a r : Int} (hr : 0 < r) : a ≤ (a + r - 1) / r * r ∧ ((a + r - 1) / r - 1) * r < a := by
  have h1 := Int.mul_ediv_add_emod (a + r - 1) r
  have h2 := Int.emod_nonneg (a + r - 1) (show r ≠ 0 by omega)
  have h3 := Int.emod_lt_of_pos (a + r - 1) hr
  have e : (a + r - 1) / r * r = r * ((a + r - 1) / r) := Int.mul_comm _ _
  have e2 : ((a + r - 1) / r - 1) * r = r * ((a + r - 1) / r) - r := by rw [Int.sub_mul, Int.mul_comm]; omega
  omega
end Sm

set_option maxHeartbeats 4000000
namespace Sm
structure RuleW (T : List Int) (p : Nat) (r : Int) : Prop where
  p0 : 0 < p
  p1 : p ≤ T.length
  r0 : 0 ≤ r
theorem RuleOk.w {T : List Int} {p : Nat} {r : Int} (o : RuleOk T p r) : RuleW T p r := ⟨o.p0, o.p1, o.r0⟩
section
variable {T : List Int} {p : Nat} {r : Int}
theorem rep_allW {s : Nat} {c : Int} (o : RuleW T p r) (h : Rep T p r s c) : ∀ y, T.length - p ≤ y → vl T p r (y + s) = vl T p r y + c := by
  intro y
  induction y using Nat.strongRecOn with
  | _ y ih =>
    intro hy
    have p0 := o.p0
    have p1 := o.p1
    by_cases a : y < T.length
    · rw [vl_lt a]
      exact h y hy a
    · have e := ih (y - p) (by omega) (by omega)
      rw [vl_step (x := y) p0 p1 (by omega), vl_step (x := y + s) p0 p1 (by omega), show y + s - p = y - p + s by omega, e]
      omega
theorem rep_selfW (o : RuleW T p r) : Rep T p r p r := fun i h1 h2 => by
  rw [vl_add o.p0 o.p1 h1, vl_lt h2]
/-- a weak rule that does not fall within its table and behind it is a rule -/
theorem W_ok (o : RuleW T p r) (nn : ∀ i, i < T.length → 0 ≤ T.getD i 0) (h : ∀ x, x < T.length → T.getD x 0 ≤ vl T p r (x + 1)) : RuleOk T p r := by
  have p0 := o.p0
  have p1 := o.p1
  refine ⟨p0, p1, o.r0, nn, fun i hi => ?_, ?_⟩
  · have := h i (by omega)
    rw [vl_lt hi] at this
    exact this
  · have := h (T.length - 1) (by omega)
    rw [vl_step p0 p1 (by omega), show T.length - 1 + 1 - p = T.length - p by omega, vl_lt (by omega)] at this
    exact this
end
section
variable {T1 T2 : List Int} {p1 p2 : Nat} {r1 r2 : Int}
def gp (T1 : List Int) (p1 : Nat) (r1 : Int) (T2 : List Int) (p2 : Nat) (r2 : Int) (x : Nat) : Int := vl T1 p1 r1 x - vl T2 p2 r2 x
/-- the first amount at which the one is above, or none -/
def IsFst (T1 : List Int) (p1 : Nat) (r1 : Int) (T2 : List Int) (p2 : Nat) (r2 : Int) : Option Nat → Prop
  | none => ∀ x, gp T1 p1 r1 T2 p2 r2 x ≤ 0
  | some x => 0 < gp T1 p1 r1 T2 p2 r2 x ∧ ∀ z, z < x → gp T1 p1 r1 T2 p2 r2 z ≤ 0
theorem fst_one {a b : Option Nat} (ha : IsFst T1 p1 r1 T2 p2 r2 a) (hb : IsFst T1 p1 r1 T2 p2 r2 b) : a = b := by
  match a, b, ha, hb with
  | none, none, _, _ => rfl
  | none, some x, ha, hb =>
    have := ha x
    have := hb.1
    omega
  | some x, none, ha, hb =>
    have := hb x
    have := ha.1
    omega
  | some x, some z, ⟨h1, h2⟩, ⟨h3, h4⟩ =>
    rcases Nat.lt_trichotomy x z with q | q | q
    · have := h4 x q
      omega
    · rw [q]
    · have := h2 z q
      omega
/-- by a common turn t = a p1 = b p2 the gap grows by g, from a start of both on -/
theorem gp_turn {B a b : Nat} (w1 : RuleW T1 p1 r1) (w2 : RuleW T2 p2 r2) (hB1 : T1.length - p1 ≤ B) (hB2 : T2.length - p2 ≤ B) (e : a * p1 = b * p2) {x : Nat} (hx : B ≤ x) :
    gp T1 p1 r1 T2 p2 r2 (x + a * p1) = gp T1 p1 r1 T2 p2 r2 x + ((a : Int) * r1 - (b : Int) * r2) := by
  unfold gp
  rw [vl_addk w1.p0 w1.p1 (by omega) a, e, vl_addk w2.p0 w2.p1 (by omega) b]
  omega
theorem gp_turns {B t : Nat} {g : Int} (h : ∀ x, B ≤ x → gp T1 p1 r1 T2 p2 r2 (x + t) = gp T1 p1 r1 T2 p2 r2 x + g) {x : Nat} (hx : B ≤ x) : ∀ k : Nat, gp T1 p1 r1 T2 p2 r2 (x + k * t) = gp T1 p1 r1 T2 p2 r2 x + (k : Int) * g
  | 0 => by simp
  | k + 1 => by
    have ih := gp_turns h hx k
    rw [show x + (k + 1) * t = x + k * t + t by rw [Nat.add_mul, Nat.one_mul, Nat.add_assoc], h _ (by omega), ih, Int.natCast_add, Int.add_mul]
    simp
    omega
theorem split_turn {B t z : Nat} (t0 : 0 < t) (hz : B ≤ z) : ∃ x k, B ≤ x ∧ x < B + t ∧ z = x + k * t := by
  have a := Nat.div_add_mod (z - B) t
  have b := Nat.mod_lt (z - B) t0
  refine ⟨B + (z - B) % t, (z - B) / t, by omega, by omega, ?_⟩
  rw [Nat.mul_comm]
  omega
theorem none_of {B t : Nat} {g : Int} (t0 : 0 < t) (h : ∀ x, B ≤ x → gp T1 p1 r1 T2 p2 r2 (x + t) = gp T1 p1 r1 T2 p2 r2 x + g) (hg : g ≤ 0) (early : ∀ x, x < B + t → gp T1 p1 r1 T2 p2 r2 x ≤ 0) : IsFst T1 p1 r1 T2 p2 r2 none := by
  intro z
  by_cases q : z < B
  · exact early z (by omega)
  · obtain ⟨x, k, h1, h2, rfl⟩ := split_turn t0 (show B ≤ z by omega)
    rw [gp_turns h h1 k]
    have := early x h2
    have : (k : Int) * g ≤ 0 := Int.mul_nonpos_of_nonneg_of_nonpos (by omega) hg
    omega
/-- the least of the first amounts of all rests -/
theorem some_of {B t m : Nat} {g : Int} (t0 : 0 < t) (h : ∀ x, B ≤ x → gp T1 p1 r1 T2 p2 r2 (x + t) = gp T1 p1 r1 T2 p2 r2 x + g) (hg : 0 < g) (early : ∀ x, x < B + t → gp T1 p1 r1 T2 p2 r2 x ≤ 0)
    (hm : ∃ x, B ≤ x ∧ x < B + t ∧ (m : Int) = (x : Int) + (t : Int) * ((-gp T1 p1 r1 T2 p2 r2 x) / g + 1)) (least : ∀ x, B ≤ x → x < B + t → (m : Int) ≤ (x : Int) + (t : Int) * ((-gp T1 p1 r1 T2 p2 r2 x) / g + 1)) : IsFst T1 p1 r1 T2 p2 r2 (some m) := by
  constructor
  · obtain ⟨x, h1, h2, e⟩ := hm
    have ex := early x h2
    have q0 : 0 ≤ (-gp T1 p1 r1 T2 p2 r2 x) / g := Int.ediv_nonneg (by omega) (by omega)
    obtain ⟨k, hk⟩ : ∃ k : Nat, (-gp T1 p1 r1 T2 p2 r2 x) / g = (k : Int) := ⟨_, (Int.toNat_of_nonneg q0).symm⟩
    have e2 : m = x + (k + 1) * t := by
      rw [hk] at e
      have : ((x + (k + 1) * t : Nat) : Int) = (x : Int) + (t : Int) * ((k : Int) + 1) := by
        rw [Int.natCast_add, Int.natCast_mul, Int.mul_comm]
        rfl
      omega
    rw [e2, gp_turns h h1]
    have d1 := Int.mul_ediv_add_emod (-gp T1 p1 r1 T2 p2 r2 x) g
    have d2 := Int.emod_lt_of_pos (-gp T1 p1 r1 T2 p2 r2 x) hg
    rw [hk] at d1
    have e3 : ((k + 1 : Nat) : Int) * g = g * (k : Int) + g := by rw [Int.natCast_add, Int.add_mul, Int.mul_comm]; simp
    omega
  · intro z hz
    by_cases q : z < B
    · exact early z (by omega)
    · obtain ⟨x, k, h1, h2, rfl⟩ := split_turn t0 (show B ≤ z by omega)
      rcases Int.lt_or_le 0 (gp T1 p1 r1 T2 p2 r2 (x + k * t)) with w | w
      · exfalso
        have l := least x h1 h2
        rw [gp_turns h h1 k] at w
        have d1 := Int.mul_ediv_add_emod (-gp T1 p1 r1 T2 p2 r2 x) g
        have d2 := Int.emod_nonneg (-gp T1 p1 r1 T2 p2 r2 x) (show g ≠ 0 by omega)
        have lt : (-gp T1 p1 r1 T2 p2 r2 x) / g < (k : Int) := by
          rcases Int.lt_or_le ((-gp T1 p1 r1 T2 p2 r2 x) / g) (k : Int) with c | c
          · exact c
          · have := Int.mul_le_mul_of_nonneg_left c (show 0 ≤ g by omega)
            rw [Int.mul_comm g (k : Int)] at this
            omega
        have le := Int.mul_le_mul_of_nonneg_left (show (-gp T1 p1 r1 T2 p2 r2 x) / g + 1 ≤ (k : Int) by omega) (show 0 ≤ (t : Int) by omega)
        have c1 : ((k * t : Nat) : Int) = (t : Int) * (k : Int) := by rw [Int.natCast_mul, Int.mul_comm]
        omega
      · exact w
end
end Sm

set_option maxHeartbeats 4000000
namespace Sm
/-! just one shortest tuple has given values -/
structure Short (T : List Int) (p : Nat) (r : Int) : Prop where
  ok : RuleOk T p r
  turn : ∀ s c, 0 < s → s < p → s ∣ p → ¬ Rep T p r s c
  start : p = T.length ∨ vl T p r (T.length - 1) ≠ T.getD (T.length - p - 1) 0 + r
theorem vl_ge_turn {T : List Int} {p : Nat} {r : Int} (o : RuleOk T p r) {x : Nat} (h : T.length - p ≤ x) (k : Nat) : vl T p r (x + k * p) = vl T p r x + (k : Int) * r := vl_addk o.p0 o.p1 h k
/-- what holds far off holds from the start of the turns on -/
theorem rep_down {T : List Int} {p s A : Nat} {r c : Int} (o : RuleOk T p r) (h : ∀ x, A ≤ x → vl T p r (x + s) = vl T p r x + c) {x : Nat} (hx : T.length - p ≤ x) : vl T p r (x + s) = vl T p r x + c := by
  have p0 := o.p0
  have e1 := vl_ge_turn o (x := x) hx A
  have e2 := vl_ge_turn o (x := x + s) (by omega) A
  have far : A ≤ x + A * p := by
    have : A * 1 ≤ A * p := Nat.mul_le_mul_left A p0
    omega
  have e3 := h _ far
  rw [show x + A * p + s = x + s + A * p by omega] at e3
  omega
/-- two turns have a turn as long as their greatest common divisor -/
theorem gcd_turn {f : Nat → Int} {A : Nat} : ∀ (n p q : Nat), p + q ≤ n → 0 < p → 0 < q → (∃ r, ∀ x, A ≤ x → f (x + p) = f x + r) → (∃ t, ∀ x, A ≤ x → f (x + q) = f x + t) → ∃ c, ∀ x, A ≤ x → f (x + Nat.gcd p q) = f x + c
  | 0, p, q, h, p0, q0, _, _ => by omega
  | n + 1, p, q, h, p0, q0, ⟨r, hr⟩, ⟨t, ht⟩ => by
    rcases Nat.lt_trichotomy p q with l | l | l
    · have g : Nat.gcd p (q - p) = Nat.gcd p q := Nat.gcd_sub_self_right (Nat.le_of_lt l)
      rw [← g]
      refine gcd_turn n p (q - p) (by omega) p0 (by omega) ⟨r, hr⟩ ⟨t - r, fun x hx => ?_⟩
      have e1 := ht x hx
      have e2 := hr (x + (q - p)) (by omega)
      rw [show x + (q - p) + p = x + q by omega] at e2
      omega
    · subst l
      rw [Nat.gcd_self]
      exact ⟨r, hr⟩
    · have g : Nat.gcd (p - q) q = Nat.gcd p q := Nat.gcd_sub_self_left (Nat.le_of_lt l)
      rw [← g]
      refine gcd_turn n (p - q) q (by omega) (by omega) q0 ⟨r - t, fun x hx => ?_⟩ ⟨t, ht⟩
      have e1 := hr x hx
      have e2 := ht (x + (p - q)) (by omega)
      rw [show x + (p - q) + q = x + p by omega] at e2
      omega
theorem short_le {T1 T2 : List Int} {p1 p2 : Nat} {r1 r2 : Int} (s1 : Short T1 p1 r1) (o2 : RuleOk T2 p2 r2) (h : ∀ x, vl T1 p1 r1 x = vl T2 p2 r2 x) : Nat.gcd p1 p2 = p1 := by
  have o1 := s1.ok
  obtain ⟨c, hc⟩ := gcd_turn (f := vl T1 p1 r1) (A := max (T1.length - p1) (T2.length - p2)) _ p1 p2 (Nat.le_refl _) o1.p0 o2.p0 ⟨r1, fun x hx => vl_add o1.p0 o1.p1 (by omega)⟩ ⟨r2, fun x hx => by rw [h, h]; exact vl_add o2.p0 o2.p1 (by omega)⟩
  have g0 : 0 < Nat.gcd p1 p2 := Nat.gcd_pos_of_pos_left _ o1.p0
  have gl : Nat.gcd p1 p2 ≤ p1 := Nat.le_of_dvd o1.p0 (Nat.gcd_dvd_left ..)
  by_cases q : Nat.gcd p1 p2 = p1
  · exact q
  · exact absurd (fun i h1 h2 => by rw [← vl_lt (p := p1) (r := r1) h2]; exact rep_down o1 hc h1) (s1.turn _ c g0 (by omega) (Nat.gcd_dvd_left ..))
theorem short_start {T1 T2 : List Int} {p : Nat} {r : Int} (s1 : Short T1 p r) (s2 : Short T2 p r) (h : ∀ x, vl T1 p r x = vl T2 p r x) : T2.length ≤ T1.length := by
  have o1 := s1.ok
  have o2 := s2.ok
  have p0 := o1.p0
  have l1 := o1.p1
  have l2 := o2.p1
  rcases Nat.lt_or_ge T1.length T2.length with q | q
  · exfalso
    rcases s2.start with e | e
    · omega
    · apply e
      have := vl_add (T := T1) (p := p) (r := r) p0 l1 (x := T2.length - p - 1) (by omega)
      rw [show T2.length - p - 1 + p = T2.length - 1 by omega, h, h, vl_lt (T := T2) (x := T2.length - p - 1) (by omega)] at this
      exact this
  · exact q
/-- just one shortest tuple has given values -/
theorem short_one {T1 T2 : List Int} {p1 p2 : Nat} {r1 r2 : Int} (s1 : Short T1 p1 r1) (s2 : Short T2 p2 r2) (h : ∀ x, vl T1 p1 r1 x = vl T2 p2 r2 x) : T1 = T2 ∧ p1 = p2 ∧ r1 = r2 := by
  have a := short_le s1 s2.ok h
  have b := short_le s2 s1.ok fun x => (h x).symm
  rw [Nat.gcd_comm] at b
  obtain rfl : p1 = p2 := a.symm.trans b
  have o1 := s1.ok
  have o2 := s2.ok
  have e1 := vl_add o1.p0 o1.p1 (r := r1) (x := max (T1.length - p1) (T2.length - p1)) (by omega)
  have e2 := vl_add o2.p0 o2.p1 (r := r2) (x := max (T1.length - p1) (T2.length - p1)) (by omega)
  rw [h, h] at e1
  obtain rfl : r1 = r2 := by omega
  have l : T1.length = T2.length := Nat.le_antisymm (short_start s2 s1 fun x => (h x).symm) (short_start s1 s2 h)
  refine ⟨List.ext_getElem l fun i h1 h2 => ?_, rfl, rfl⟩
  have e := h i
  rw [vl_lt h1, vl_lt h2, List.getD_eq_getElem?_getD, List.getD_eq_getElem?_getD, List.getElem?_eq_getElem h1, List.getElem?_eq_getElem h2] at e
  exact e
theorem rep_slope {T : List Int} {p s : Nat} {r c : Int} (o : RuleOk T p r) (sd : s ∣ p) (h : Rep T p r s c) : r * (s : Int) = c * (p : Int) := by
  obtain ⟨k, rfl⟩ := sd
  have all := rep_all o h
  have up : ∀ n : Nat, vl T (s * k) r (T.length - s * k + n * s) = vl T (s * k) r (T.length - s * k) + (n : Int) * c := by
    intro n
    induction n with
    | zero => simp
    | succ n ih =>
      rw [show T.length - s * k + (n + 1) * s = T.length - s * k + n * s + s by rw [Nat.add_mul]; omega, all _ (by omega), ih, Int.natCast_add, Int.add_mul]
      simp
      omega
  have e1 := up k
  have e2 := vl_add o.p0 o.p1 (r := r) (x := T.length - s * k) (Nat.le_refl _)
  rw [Nat.mul_comm k s, e2] at e1
  have e3 : r = (k : Int) * c := by omega
  rw [e3, Int.natCast_mul, Int.mul_comm (k : Int) c, Int.mul_assoc, Int.mul_comm (k : Int)]
theorem rep_quot {T : List Int} {p s : Nat} {r c : Int} (o : RuleOk T p r) (sd : s ∣ p) (h : Rep T p r s c) : r * (s : Int) / (p : Int) = c ∧ r * (s : Int) % (p : Int) = 0 := by
  have p0 := o.p0
  rw [rep_slope o sd h]
  exact ⟨Int.mul_ediv_cancel _ (by omega), Int.mul_emod_left _ _⟩
theorem cut_short {T : List Int} {p a s : Nat} {r c : Int} (o : RuleOk T p r) (hs : 0 < s) (sd : s ∣ p) (ha : a ≤ T.length - p) (c0 : 0 ≤ c) (h : ∀ y, a ≤ y → vl T p r (y + s) = vl T p r y + c)
    (hm : ∀ s' c', 0 < s' → s' < s → s' ∣ p → ¬ Rep T p r s' c') (st : a = 0 ∨ vl T p r (a - 1 + s) ≠ T.getD (a - 1) 0 + c) : Short (T.take (a + s)) s c := by
  have p1 := o.p1
  have sp : s ≤ p := Nat.le_of_dvd o.p0 sd
  have ok := cut_ok o hs (by omega) c0 h
  have eq := cut_vl (T := T) (p := p) (r := r) hs (show a + s ≤ T.length by omega) h
  have len : (T.take (a + s)).length = a + s := by rw [List.length_take]; omega
  refine ⟨ok, fun s' c' h1 h2 h3 rep => hm s' c' h1 h2 (Nat.dvd_trans h3 sd) fun i g1 g2 => ?_, ?_⟩
  · have all := rep_all ok rep i (by rw [len]; omega)
    rw [eq, eq, vl_lt (T := T) g2] at all
    exact all
  · by_cases z : a = 0
    · left
      rw [len, z, Nat.zero_add]
    · right
      rw [len, eq, show a + s - 1 = a - 1 + s by omega, show a + s - s - 1 = a - 1 by omega, getD_take (by omega)]
      rcases st with q | q
      · exact absurd q z
      · exact q
theorem dvd_of {p i : Nat} (h : (p : Int).fmod (1 + (i : Int)) = 0) : 1 + i ∣ p := by
  rw [Int.fmod_eq_emod_of_nonneg _ (by omega)] at h
  exact Int.natCast_dvd_natCast.mp (Int.dvd_of_emod_eq_zero (b := (p : Int)) (a := ((1 + i : Nat) : Int)) h)
theorem of_dvd {p i : Nat} (h : 1 + i ∣ p) : (p : Int).fmod (1 + (i : Int)) = 0 := by
  rw [Int.fmod_eq_emod_of_nonneg _ (by omega)]
  exact Int.emod_eq_zero_of_dvd (a := ((1 + i : Nat) : Int)) (Int.natCast_dvd_natCast.mpr h)
end Sm

set_option maxHeartbeats 4000000
namespace Sm
/-! a list that comes back when it is turned; the steps of the last period -/
def Rot (I : List Int) (s : Nat) : Prop := I = I.drop s ++ I.take s
structure Cyc (I : List Int) (s : Nat) : Prop where
  s0 : 0 < s
  s1 : s ≤ I.length
  dv : s ∣ I.length
  rot : s < I.length → Rot I s
  least : ∀ t, 0 < t → t < s → t ∣ I.length → ¬ Rot I t
def stepsOf (T : List Int) (p : Nat) (r : Int) : List Int := (List.range p).map fun i => vl T p r (T.length - p + i + 1) - vl T p r (T.length - p + i)
theorem stepsOf_len (T : List Int) (p : Nat) (r : Int) : (stepsOf T p r).length = p := by
  unfold stepsOf
  rw [List.length_map, List.length_range]
theorem stepsOf_get {T : List Int} {p : Nat} {r : Int} {i : Nat} (h : i < p) : (stepsOf T p r)[i]? = some (vl T p r (T.length - p + i + 1) - vl T p r (T.length - p + i)) := by
  unfold stepsOf
  rw [List.getElem?_map, List.getElem?_range h]
  rfl
theorem rot_get {I : List Int} {s i : Nat} (h : Rot I s) (hs : s ≤ I.length) (hi : i < I.length) : I[i]? = if i + s < I.length then I[i + s]? else I[i + s - I.length]? := by
  have e : I[i]? = (I.drop s ++ I.take s)[i]? := congrArg (fun l => l[i]?) h
  rw [e, List.getElem?_append, List.length_drop]
  by_cases q : i < I.length - s
  · rw [if_pos q, if_pos (by omega), List.getElem?_drop, Nat.add_comm]
  · rw [if_neg q, if_neg (by omega), List.getElem?_take_of_lt (by omega), show i - (I.length - s) = i + s - I.length by omega]
theorem of_rot {I : List Int} {s : Nat} (hs : s ≤ I.length) (h : ∀ i, i < I.length → I[i]? = if i + s < I.length then I[i + s]? else I[i + s - I.length]?) : Rot I s := by
  refine List.ext_getElem? fun i => ?_
  by_cases hi : i < I.length
  · rw [h i hi, List.getElem?_append, List.length_drop]
    by_cases q : i < I.length - s
    · rw [if_pos q, if_pos (by omega), List.getElem?_drop, Nat.add_comm]
    · rw [if_neg q, if_neg (by omega), List.getElem?_take_of_lt (by omega), show i - (I.length - s) = i + s - I.length by omega]
  · rw [List.getElem?_eq_none (by omega), List.getElem?_eq_none (by rw [List.length_append, List.length_drop, List.length_take]; omega)]
theorem rot_rep {T : List Int} {p s : Nat} {r : Int} (o : RuleW T p r) (sp : s < p) (h : Rot (stepsOf T p r) s) : Rep T p r s (vl T p r (T.length - p + s) - vl T p r (T.length - p)) := by
  have p0 := o.p0
  have p1 := o.p1
  have ln := stepsOf_len T p r
  have d : ∀ j, j < p → vl T p r (T.length - p + (j + s) + 1) - vl T p r (T.length - p + (j + s)) = vl T p r (T.length - p + j + 1) - vl T p r (T.length - p + j) := by
    intro j hj
    have e := rot_get h (by omega) (i := j) (by omega)
    rw [ln, stepsOf_get hj] at e
    by_cases q : j + s < p
    · rw [if_pos q, stepsOf_get q] at e
      exact (Option.some.inj e).symm
    · rw [if_neg q, stepsOf_get (by omega)] at e
      have e := Option.some.inj e
      have e1 := vl_add p0 p1 (r := r) (x := T.length - p + (j + s - p) + 1) (by omega)
      have e2 := vl_add p0 p1 (r := r) (x := T.length - p + (j + s - p)) (by omega)
      rw [show T.length - p + (j + s - p) + 1 + p = T.length - p + (j + s) + 1 by omega] at e1
      rw [show T.length - p + (j + s - p) + p = T.length - p + (j + s) by omega] at e2
      omega
  have all : ∀ j, j ≤ p → vl T p r (T.length - p + j + s) = vl T p r (T.length - p + j) + (vl T p r (T.length - p + s) - vl T p r (T.length - p)) := by
    intro j
    induction j with
    | zero => intro _; simp; omega
    | succ j ih =>
      intro hj
      have a := ih (by omega)
      have b := d j (by omega)
      rw [show T.length - p + (j + s) + 1 = T.length - p + (j + 1) + s by omega, show T.length - p + (j + s) = T.length - p + j + s by omega] at b
      rw [show T.length - p + (j + 1) = T.length - p + j + 1 by omega] at b ⊢
      omega
  intro i h1 h2
  have := all (i - (T.length - p)) (by omega)
  rw [show T.length - p + (i - (T.length - p)) = i by omega] at this
  rw [this, vl_lt h2]
theorem rep_rot {T : List Int} {p s : Nat} {r c : Int} (o : RuleW T p r) (sp : s ≤ p) (h : Rep T p r s c) : Rot (stepsOf T p r) s := by
  have p0 := o.p0
  have p1 := o.p1
  have ln := stepsOf_len T p r
  have all := rep_allW o h
  refine of_rot (by omega) fun i hi => ?_
  rw [ln] at hi ⊢
  rw [stepsOf_get hi]
  have a := all (T.length - p + i) (by omega)
  have b := all (T.length - p + i + 1) (by omega)
  by_cases q : i + s < p
  · rw [if_pos q, stepsOf_get q]
    rw [show T.length - p + i + s = T.length - p + (i + s) by omega] at a
    rw [show T.length - p + i + 1 + s = T.length - p + (i + s) + 1 by omega] at b
    congr 1
    omega
  · rw [if_neg q, stepsOf_get (by omega)]
    have e1 := vl_add p0 p1 (r := r) (x := T.length - p + (i + s - p) + 1) (by omega)
    have e2 := vl_add p0 p1 (r := r) (x := T.length - p + (i + s - p)) (by omega)
    rw [show T.length - p + (i + s - p) + 1 + p = T.length - p + i + 1 + s by omega] at e1
    rw [show T.length - p + (i + s - p) + p = T.length - p + i + s by omega] at e2
    congr 1
    omega
/-- the least turn of the steps is the rule's least turn -/
theorem cyc_rule {T : List Int} {p s : Nat} {r : Int} (o : RuleOk T p r) (h : Cyc (stepsOf T p r) s) : 0 < s ∧ s ≤ p ∧ s ∣ p ∧ Rep T p r s (r * (s : Int) / (p : Int)) ∧ ∀ s' c', 0 < s' → s' < s → s' ∣ p → ¬ Rep T p r s' c' := by
  obtain ⟨s0, s1, dv, rot, least⟩ := h
  rw [stepsOf_len] at s1 dv rot least
  have p0 := o.p0
  refine ⟨s0, s1, dv, ?_, fun s' c' h1 h2 h3 rep => least s' h1 h2 h3 (rep_rot o.w (by omega) rep)⟩
  by_cases q : s < p
  · have rep := rot_rep o.w q (rot q)
    rw [(rep_quot o dv rep).1]
    exact rep
  · obtain rfl : s = p := by omega
    rw [Int.mul_ediv_cancel _ (by omega)]
    exact rep_self o
/-! values told by a function, as a rule -/
theorem tab_getD {f : Nat → Int} {n i : Nat} (h : i < n) : ((List.range n).map f).getD i 0 = f i := by
  rw [List.getD_eq_getElem?_getD, List.getElem?_map, List.getElem?_range h]
  rfl
theorem tab_len {f : Nat → Int} {n : Nat} : ((List.range n).map f).length = n := by rw [List.length_map, List.length_range]
theorem tab_vl {f : Nat → Int} {B t : Nat} {R : Int} (t0 : 0 < t) (h : ∀ x, B ≤ x → f (x + t) = f x + R) : ∀ x, vl ((List.range (B + t)).map f) t R x = f x := by
  intro x
  induction x using Nat.strongRecOn with
  | _ x ih =>
    by_cases q : x < B + t
    · rw [vl_lt (by rw [tab_len]; exact q), tab_getD q]
    · rw [vl_step t0 (by rw [tab_len]; omega) (by rw [tab_len]; omega), ih (x - t) (by omega)]
      have := h (x - t) (by omega)
      rw [show x - t + t = x by omega] at this
      omega
theorem tab_ok {f : Nat → Int} {B t : Nat} {R : Int} (t0 : 0 < t) (R0 : 0 ≤ R) (h : ∀ x, B ≤ x → f (x + t) = f x + R) (f0 : ∀ x, 0 ≤ f x) (up : ∀ x, f x ≤ f (x + 1)) : RuleOk ((List.range (B + t)).map f) t R := by
  refine ⟨t0, by rw [tab_len]; omega, R0, fun i hi => ?_, fun i hi => ?_, ?_⟩
  · rw [tab_len] at hi
    rw [tab_getD hi]
    exact f0 i
  · rw [tab_len] at hi
    rw [tab_getD hi, tab_getD (by omega)]
    exact up i
  · rw [tab_len, tab_getD (by omega), tab_getD (by omega), show B + t - t = B by omega]
    have a := h B (Nat.le_refl _)
    have b := up (B + t - 1)
    rw [show B + t - 1 + 1 = B + t by omega] at b
    omega
end Sm

set_option maxHeartbeats 4000000
namespace Sm
/-! the arithmetic -/
theorem lt_of_dm {d a b : Int} (hd : 0 < d) (h : d * a < d * b + d) : a ≤ b := by
  have h2 : d * a < d * (b + 1) := by rw [Int.mul_add, Int.mul_one]; exact h
  have := Int.lt_of_mul_lt_mul_left h2 (Int.le_of_lt hd)
  omega
theorem div_lo {a d : Int} (hd : 0 < d) : d * (a / d) ≤ a := by
  have := Int.mul_ediv_add_emod a d
  have := Int.emod_nonneg a (show d ≠ 0 by omega)
  omega
theorem div_hi {a d : Int} (hd : 0 < d) : a < d * (a / d) + d := by
  have := Int.mul_ediv_add_emod a d
  have := Int.emod_lt_of_pos a hd
  omega
theorem div_uniq {a d q : Int} (hd : 0 < d) (h1 : d * q ≤ a) (h2 : a < d * q + d) : a / d = q := by
  have l := div_lo (a := a) hd
  have u := div_hi (a := a) hd
  have x : a / d ≤ q := lt_of_dm hd (by omega)
  have y : q ≤ a / d := lt_of_dm hd (by omega)
  omega
/-- what is given, rounded by the mode m (0 down, 1 up, 2 near), for e = num * x -/
def Gm (m : Nat) (e d : Int) : Int := if m = 0 then e / d else if m = 1 then (e + d - 1) / d else (2 * e + d) / (2 * d)
theorem g_lo {d e : Int} : Gm 0 e d = e / d := rfl
theorem g_up {d e : Int} : Gm 1 e d = (e + d - 1) / d := rfl
theorem g_ne {d e : Int} : Gm 2 e d = (2 * e + d) / (2 * d) := rfl
theorem G0 {d e : Int} (hd : 0 < d) : d * Gm 0 e d ≤ e ∧ e < d * Gm 0 e d + d := ⟨div_lo hd, div_hi hd⟩
theorem G1 {d e : Int} (hd : 0 < d) : e ≤ d * Gm 1 e d ∧ d * Gm 1 e d < e + d := by
  have a := div_lo (a := e + d - 1) hd
  have b := div_hi (a := e + d - 1) hd
  rw [g_up]
  omega
theorem G2 {d e : Int} (hd : 0 < d) : 2 * (d * Gm 2 e d) ≤ 2 * e + d ∧ 2 * e + d < 2 * (d * Gm 2 e d) + 2 * d := by
  have a := div_lo (a := 2 * e + d) (d := 2 * d) (by omega)
  have b := div_hi (a := 2 * e + d) (d := 2 * d) (by omega)
  rw [g_ne]
  rw [Int.mul_assoc] at a b
  omega
theorem G0u {d e q : Int} (hd : 0 < d) (h1 : d * q ≤ e) (h2 : e < d * q + d) : Gm 0 e d = q := div_uniq hd h1 h2
theorem G1u {d e q : Int} (hd : 0 < d) (h1 : e ≤ d * q) (h2 : d * q < e + d) : Gm 1 e d = q := by
  rw [g_up]; exact div_uniq hd (by omega) (by omega)
theorem G2u {d e q : Int} (hd : 0 < d) (h1 : 2 * (d * q) ≤ 2 * e + d) (h2 : 2 * e + d < 2 * (d * q) + 2 * d) : Gm 2 e d = q := by
  rw [g_ne]; exact div_uniq (by omega) (by rw [Int.mul_assoc]; omega) (by rw [Int.mul_assoc]; omega)
/-- a turn more -/
theorem G_turn {m : Nat} {d e k : Int} (hm : m ≤ 2) (hd : 0 < d) : Gm m (e + d * k) d = Gm m e d + k := by
  have z : d * (Gm m e d + k) = d * Gm m e d + d * k := Int.mul_add _ _ _
  obtain rfl | rfl | rfl : m = 0 ∨ m = 1 ∨ m = 2 := by omega
  · have := G0 (e := e) hd
    exact G0u hd (by omega) (by omega)
  · have := G1 (e := e) hd
    exact G1u hd (by omega) (by omega)
  · have := G2 (e := e) hd
    exact G2u hd (by omega) (by omega)
/-- the law's own way -/
def LG (m : Nat) (e d : Int) : Int := if m = 0 then e / d else if m = 1 then e / d + (if 0 < e % d then 1 else 0) else e / d + (if d ≤ 2 * (e % d) then 1 else 0)
theorem LG_eq {m : Nat} {d e : Int} (hm : m ≤ 2) (hd : 0 < d) : Gm m e d = LG m e d := by
  have h := Int.mul_ediv_add_emod e d
  have h0 := Int.emod_nonneg e (show d ≠ 0 by omega)
  have h1 := Int.emod_lt_of_pos e hd
  obtain rfl | rfl | rfl : m = 0 ∨ m = 1 ∨ m = 2 := by omega
  · rfl
  · show _ = e / d + (if 0 < e % d then 1 else 0)
    have z : d * (e / d + 1) = d * (e / d) + d := by rw [Int.mul_add, Int.mul_one]
    split
    · exact G1u hd (by omega) (by omega)
    · rw [Int.add_zero]; exact G1u hd (by omega) (by omega)
  · show _ = e / d + (if d ≤ 2 * (e % d) then 1 else 0)
    have z : d * (e / d + 1) = d * (e / d) + d := by rw [Int.mul_add, Int.mul_one]
    split
    · exact G2u hd (by omega) (by omega)
    · rw [Int.add_zero]; exact G2u hd (by omega) (by omega)
theorem G_order {d e : Int} (hd : 0 < d) : d * Gm 0 e d ≤ e ∧ e ≤ d * Gm 1 e d ∧ Gm 0 e d ≤ Gm 2 e d ∧ Gm 2 e d ≤ Gm 1 e d ∧ Gm 1 e d - Gm 0 e d ≤ 1 ∧ 2 * (d * Gm 2 e d - e) ≤ d ∧ -d ≤ 2 * (d * Gm 2 e d - e) := by
  have a := G0 (e := e) hd
  have b := G1 (e := e) hd
  have c := G2 (e := e) hd
  have z : d * (Gm 0 e d + 1) = d * Gm 0 e d + d := by rw [Int.mul_add, Int.mul_one]
  refine ⟨a.1, b.1, lt_of_dm hd (by omega), lt_of_dm hd (by omega), ?_, by omega, by omega⟩
  have : Gm 1 e d ≤ Gm 0 e d + 1 := lt_of_dm hd (by omega)
  omega
theorem G_both {m : Nat} {d e f : Int} (hm : m ≤ 2) (hd : 0 < d) : (m = 0 → Gm m e d + Gm m f d ≤ Gm m (e + f) d) ∧ (m = 1 → Gm m (e + f) d ≤ Gm m e d + Gm m f d) ∧
    Gm m (e + f) d - (Gm m e d + Gm m f d) ≤ 1 ∧ -1 ≤ Gm m (e + f) d - (Gm m e d + Gm m f d) := by
  have z : d * (Gm m e d + Gm m f d) = d * Gm m e d + d * Gm m f d := Int.mul_add _ _ _
  have z1 : d * (Gm m e d + Gm m f d + 1) = d * Gm m e d + d * Gm m f d + d := by rw [Int.mul_add, Int.mul_one, z]
  have z2 : d * (Gm m (e + f) d + 1) = d * Gm m (e + f) d + d := by rw [Int.mul_add, Int.mul_one]
  obtain rfl | rfl | rfl : m = 0 ∨ m = 1 ∨ m = 2 := by omega
  · have a := G0 (e := e) hd
    have b := G0 (e := f) hd
    have c := G0 (e := e + f) hd
    have h1 : Gm 0 e d + Gm 0 f d ≤ Gm 0 (e + f) d := lt_of_dm hd (by omega)
    have h2 : Gm 0 (e + f) d ≤ Gm 0 e d + Gm 0 f d + 1 := lt_of_dm hd (by omega)
    refine ⟨fun _ => h1, fun q => by omega, by omega, by omega⟩
  · have a := G1 (e := e) hd
    have b := G1 (e := f) hd
    have c := G1 (e := e + f) hd
    have h1 : Gm 1 (e + f) d ≤ Gm 1 e d + Gm 1 f d := lt_of_dm hd (by omega)
    have h2 : Gm 1 e d + Gm 1 f d ≤ Gm 1 (e + f) d + 1 := lt_of_dm hd (by omega)
    refine ⟨fun q => by omega, fun _ => h1, by omega, by omega⟩
  · have a := G2 (e := e) hd
    have b := G2 (e := f) hd
    have c := G2 (e := e + f) hd
    have h1 : Gm 2 (e + f) d ≤ Gm 2 e d + Gm 2 f d + 1 := lt_of_dm hd (by omega)
    have h2 : Gm 2 e d + Gm 2 f d ≤ Gm 2 (e + f) d + 1 := lt_of_dm hd (by omega)
    refine ⟨fun q => by omega, fun q => by omega, by omega, by omega⟩
/-- the least common multiple, by steps -/
theorem mult_end {a b k : Int} (hb : 0 < b) (h : ∀ j : Int, 0 < j → j < k → ¬ (j * a) % b = 0) (h0 : 0 < k) : k ≤ b := by
  rcases Int.lt_or_le b k with q | q
  · exact absurd (Int.mul_emod_right b a) (h b hb q)
  · exact q
end Sm

set_option maxHeartbeats 4000000
namespace Sm
/-! ### the most that one use gives -/
def lim (u : Option Int) (x : Int) : Int := match u with | none => x | some v => if v < x then v else x
def lastT (s : Int) (u : Option Int) (x : Int) : Int := lim u x / s * s
def Fv (m : Nat) (num den least s : Int) (u : Option Int) (x : Int) : Int := if least ≤ lastT s u x then Gm m (num * lastT s u x) den else 0
structure Dk (m : Nat) (num den least step : Int) (u : Option Int) : Prop where
  hm : m ≤ 2
  n0 : 0 ≤ num
  n1 : num ≤ 30
  d0 : 1 ≤ den
  d1 : den ≤ 30
  l0 : 1 ≤ least
  l1 : least ≤ 30
  s0 : 1 ≤ step
  s1 : step ≤ 30
  u0 : ∀ v, u = some v → least ≤ v
  u1 : ∀ v, u = some v → v ≤ 1000
def Tk (least s : Int) (u : Option Int) (x : Int) : Prop := least ≤ x ∧ x % s = 0 ∧ ∀ v, u = some v → x ≤ v
theorem lim_le {u : Option Int} {x : Int} : lim u x ≤ x := by
  unfold lim
  split
  · omega
  · split <;> omega
theorem lim_up {u : Option Int} {x : Int} : lim u x ≤ lim u (x + 1) := by
  unfold lim
  split
  · omega
  · split <;> split <;> omega
theorem lim_in {u : Option Int} {x : Int} (h : ∀ v, u = some v → x ≤ v) : lim u x = x := by
  unfold lim
  split
  · rfl
  · have := h _ rfl
    rw [if_neg (by omega)]
theorem lim_pos {m : Nat} {num den least s x : Int} {u : Option Int} (o : Dk m num den least s u) (h : 0 ≤ x) : 0 ≤ lim u x := by
  have l0 := o.l0
  unfold lim
  split
  · exact h
  · have := o.u0 _ rfl
    split <;> omega
theorem mul_div_self {x s : Int} (h : x % s = 0) : x / s * s = x := Int.ediv_mul_cancel (Int.dvd_of_emod_eq_zero h)
theorem last_le {s x : Int} {u : Option Int} (s0 : 1 ≤ s) : lastT s u x ≤ lim u x := by
  unfold lastT
  have := div_lo (a := lim u x) (d := s) (by omega)
  rw [Int.mul_comm] at this
  exact this
theorem last_up {s x : Int} {u : Option Int} (s0 : 1 ≤ s) : lastT s u x ≤ lastT s u (x + 1) := by
  unfold lastT
  exact Int.mul_le_mul_of_nonneg_right (Int.ediv_le_ediv (by omega) lim_up) (by omega)
theorem last_mod {s x : Int} {u : Option Int} : lastT s u x % s = 0 := by
  unfold lastT
  exact Int.mul_emod_left _ _
theorem last_tk {least s x : Int} {u : Option Int} (h : Tk least s u x) : lastT s u x = x := by
  unfold lastT
  rw [lim_in h.2.2, mul_div_self h.2.1]
theorem G_mono {m : Nat} {d e f : Int} (hd : 0 < d) (h : e ≤ f) : Gm m e d ≤ Gm m f d := by
  unfold Gm
  split
  · exact Int.ediv_le_ediv hd h
  · split
    · exact Int.ediv_le_ediv hd (by omega)
    · exact Int.ediv_le_ediv (by omega) (by omega)
theorem G_nn {m : Nat} {d e : Int} (hd : 0 < d) (h : 0 ≤ e) : 0 ≤ Gm m e d := by
  unfold Gm
  split
  · exact Int.ediv_nonneg h (by omega)
  · split
    · exact Int.ediv_nonneg (by omega) (by omega)
    · exact Int.ediv_nonneg (by omega) (by omega)
theorem G_le {m : Nat} {d e : Int} (hd : 1 ≤ d) (h : 0 ≤ e) : Gm m e d ≤ e + 1 := by
  unfold Gm
  split
  · have := Int.ediv_le_self d h
    omega
  · split
    · have hh := div_lo (a := e + d - 1) (d := d) (by omega)
      refine lt_of_dm (d := d) (by omega) ?_
      have : d * (e + 1) = d * e + d := by rw [Int.mul_add, Int.mul_one]
      have : 1 * e ≤ d * e := Int.mul_le_mul_of_nonneg_right hd h
      omega
    · have hh := div_lo (a := 2 * e + d) (d := 2 * d) (by omega)
      refine lt_of_dm (d := 2 * d) (by omega) ?_
      have : 2 * d * (e + 1) = 2 * (d * e) + 2 * d := by rw [Int.mul_add, Int.mul_one, Int.mul_assoc]
      have : 1 * e ≤ d * e := Int.mul_le_mul_of_nonneg_right hd h
      omega
section
variable {m : Nat} {num den least s : Int} {u : Option Int}
theorem Fv_tk {x : Int} (h : Tk least s u x) : Fv m num den least s u x = Gm m (num * x) den := by
  unfold Fv
  rw [last_tk h, if_pos h.1]
theorem Fv_not (o : Dk m num den least s u) {x : Int} (h : ¬ Tk least s u x) : Fv m num den least s u x = Fv m num den least s u (x - 1) := by
  have s0 := o.s0
  by_cases c : ∃ v, u = some v ∧ v < x
  · obtain ⟨v, rfl, hv⟩ := c
    have e1 : lim (some v) x = v := by show (if v < x then v else x) = v; rw [if_pos hv]
    have e2 : lim (some v) (x - 1) = v := by
      show (if v < x - 1 then v else x - 1) = v
      split <;> omega
    unfold Fv lastT
    rw [e1, e2]
  · have c1 : ∀ v, u = some v → x ≤ v := fun v hv => by
      rcases Int.lt_or_le v x with q | q
      · exact absurd ⟨v, hv, q⟩ c
      · exact q
    have e1 := lim_in c1
    have e2 : lim u (x - 1) = x - 1 := lim_in fun v hv => by have := c1 v hv; omega
    by_cases q : x % s = 0
    · have lx : ¬ least ≤ x := fun l => h ⟨l, q, c1⟩
      have a : lastT s u x ≤ x := by have := last_le (u := u) (x := x) s0; omega
      have b : lastT s u (x - 1) ≤ x - 1 := by have := last_le (u := u) (x := x - 1) s0; omega
      unfold Fv
      rw [if_neg (by omega), if_neg (by omega)]
    · have e : x / s = (x - 1) / s := by
        have d1 := Int.mul_ediv_add_emod x s
        have d2 := Int.emod_nonneg x (show s ≠ 0 by omega)
        have d3 := Int.emod_lt_of_pos x (show 0 < s by omega)
        exact (div_uniq (by omega) (by omega) (by omega)).symm
      unfold Fv lastT
      rw [e1, e2, e]
theorem Fv_nn (o : Dk m num den least s u) (x : Int) : 0 ≤ Fv m num den least s u x := by
  have l0 := o.l0
  unfold Fv
  split
  · exact G_nn (by have := o.d0; omega) (Int.mul_nonneg o.n0 (by omega))
  · omega
theorem Fv_up (o : Dk m num den least s u) (x : Int) : Fv m num den least s u x ≤ Fv m num den least s u (x + 1) := by
  have a := last_up (u := u) (x := x) o.s0
  by_cases c : least ≤ lastT s u x
  · unfold Fv
    rw [if_pos c, if_pos (by omega)]
    exact G_mono (by have := o.d0; omega) (Int.mul_le_mul_of_nonneg_left a o.n0)
  · have := Fv_nn o (x + 1)
    unfold Fv at this ⊢
    rw [if_neg c]
    exact this
theorem Fv_le (o : Dk m num den least s u) {x : Int} (h : 0 ≤ x) : Fv m num den least s u x ≤ 30 * x + 1 := by
  have l0 := o.l0
  have a := last_le (u := u) (x := x) o.s0
  have b := lim_le (u := u) (x := x)
  have n0 := o.n0
  unfold Fv
  split
  · have c : num * lastT s u x ≤ 30 * x := Int.mul_le_mul o.n1 (by omega) (by omega) (by decide)
    have := G_le (m := m) o.d0 (Int.mul_nonneg n0 (show 0 ≤ lastT s u x by omega))
    omega
  · omega
def fst (least s : Int) : Int := (least + s - 1) / s * s
theorem fst_ge (l0 : 1 ≤ least) (s0 : 1 ≤ s) : least ≤ fst least s := by
  have := div_hi (a := least + s - 1) (d := s) (by omega)
  unfold fst
  rw [Int.mul_comm] at this
  omega
theorem fst_le (l0 : 1 ≤ least) (s0 : 1 ≤ s) : fst least s ≤ least + s - 1 := by
  have := div_lo (a := least + s - 1) (d := s) (by omega)
  unfold fst
  rw [Int.mul_comm] at this
  omega
theorem Fv_turn (o : Dk m num den least s none) {x t : Int} (hx : fst least s ≤ x) (t0 : 0 ≤ t) (d1 : s ∣ t) (d2 : den ∣ t) : Fv m num den least s none (x + t) = Fv m num den least s none x + num * t / den := by
  have s0 := o.s0
  obtain ⟨k, rfl⟩ := d2
  obtain ⟨j, hj⟩ := d1
  have e : lastT s none (x + den * k) = lastT s none x + den * k := by
    show (x + den * k) / s * s = x / s * s + den * k
    rw [hj, Int.add_mul_ediv_left _ _ (by omega), Int.add_mul, Int.mul_comm j s]
  have c : least ≤ lastT s none x := by
    have a := fst_ge o.l0 s0
    have b : fst least s / s * s ≤ x / s * s := Int.mul_le_mul_of_nonneg_right (Int.ediv_le_ediv (by omega) hx) (by omega)
    have d : fst least s / s * s = fst least s := by unfold fst; rw [Int.mul_ediv_cancel _ (by omega)]
    show least ≤ x / s * s
    omega
  have kk : num * (den * k) = den * (num * k) := by rw [← Int.mul_assoc, ← Int.mul_assoc, Int.mul_comm num den]
  by_cases c2 : least ≤ lastT s none (x + den * k)
  · unfold Fv
    rw [if_pos c, if_pos c2, e, Int.mul_add, kk, G_turn o.hm (by have := o.d0; omega), Int.mul_ediv_cancel_left _ (by have := o.d0; omega)]
  · rw [e] at c2
    omega
theorem Fv_flat (o : Dk m num den least s u) {v x : Int} (hu : u = some v) (hx : v ≤ x) : Fv m num den least s u (x + 1) = Fv m num den least s u x := by
  subst hu
  have e1 : lim (some v) x = v := by
    show (if v < x then v else x) = v
    split <;> omega
  have e2 : lim (some v) (x + 1) = v := by
    show (if v < x + 1 then v else x + 1) = v
    rw [if_pos (by omega)]
  unfold Fv lastT
  rw [e1, e2]
/-- the rule of one use: begin, turn and rise -/
theorem use_rule_ok (o : Dk m num den least s u) {B t : Nat} {R : Int} (t0 : 0 < t) (R0 : 0 ≤ R) (hB : B + t ≤ 1100) (hR : R ≤ 30000) (turn : ∀ x : Nat, B ≤ x → Fv m num den least s u ((x : Int) + (t : Int)) = Fv m num den least s u (x : Int) + R) :
    RuleOk ((List.range (B + t)).map fun x : Nat => Fv m num den least s u (x : Int)) t R ∧ (∀ x : Nat, vl ((List.range (B + t)).map fun x : Nat => Fv m num den least s u (x : Int)) t R x = Fv m num den least s u (x : Int)) ∧
      ∀ i, i < B + t → ((List.range (B + t)).map fun x : Nat => Fv m num den least s u (x : Int)).getD i 0 ≤ 100000 := by
  have tt : ∀ x : Nat, B ≤ x → (fun x : Nat => Fv m num den least s u (x : Int)) (x + t) = (fun x : Nat => Fv m num den least s u (x : Int)) x + R := by
    intro x hx
    have := turn x hx
    show Fv m num den least s u ((x + t : Nat) : Int) = _
    rw [Int.natCast_add]
    exact this
  refine ⟨tab_ok t0 R0 tt (fun x => Fv_nn o _) (fun x => ?_), tab_vl t0 tt, fun i hi => ?_⟩
  · show Fv m num den least s u (x : Int) ≤ Fv m num den least s u ((x + 1 : Nat) : Int)
    rw [Int.natCast_add]
    exact Fv_up o _
  · rw [tab_getD hi]
    have := Fv_le o (x := (i : Int)) (by omega)
    omega
end
end Sm

set_option Elab.async false
set_option linter.all false
set_option maxRecDepth 100000
set_option maxHeartbeats 4000000
namespace Sm
open PySem PySem.Spec PyProof.Rows L2
theorem getD_map1 {T : List Int} {i : Nat} (h : i < T.length) : (T.map (· + 1)).getD i 0 = T.getD i 0 + 1 := by
  rw [List.getD_eq_getElem?_getD, List.getD_eq_getElem?_getD, List.getElem?_map, List.getElem?_eq_getElem h]
  rfl
theorem plus_ok {T : List Int} {p : Nat} {r : Int} (o : RuleOk T p r) : RuleOk (T.map (· + 1)) p r := by
  have p0 := o.p0
  have p1 := o.p1
  refine ⟨p0, by rw [List.length_map]; exact p1, o.r0, fun i hi => ?_, fun i hi => ?_, ?_⟩
  · rw [List.length_map] at hi
    rw [getD_map1 hi]
    have := o.nn i hi
    omega
  · rw [List.length_map] at hi
    rw [getD_map1 hi, getD_map1 (by omega)]
    have := o.mono i hi
    omega
  · rw [List.length_map, getD_map1 (by omega), getD_map1 (by omega)]
    have := o.wrap
    omega
theorem late_len {T : List Int} {a : Nat} (h : a ≤ T.length) : (T.take a ++ (T.drop a).map (· + 1)).length = T.length := by
  rw [List.length_append, List.length_map, List.length_take, List.length_drop]
  omega
theorem late_get {T : List Int} {a i : Nat} (h : a ≤ T.length) (hi : i < T.length) : (T.take a ++ (T.drop a).map (· + 1)).getD i 0 = T.getD i 0 + (if i < a then 0 else 1) := by
  rw [List.getD_eq_getElem?_getD, List.getElem?_append]
  have lt : (T.take a).length = a := by rw [List.length_take]; omega
  by_cases q : i < a
  · rw [if_pos (by omega), if_pos q, List.getElem?_take_of_lt q, List.getD_eq_getElem?_getD]
    omega
  · rw [if_neg (by omega), if_neg q, lt, List.getElem?_map, List.getElem?_drop, show a + (i - a) = i by omega, List.getD_eq_getElem?_getD, List.getElem?_eq_getElem hi]
    rfl
theorem cut_from {xs : List V} {n : Nat} : cutV xs (some (n : Int)) none = xs.drop n := by
  unfold cutV
  rw [HT.sIx_none, HT.sIx_nat]
  rcases Nat.le_total n xs.length with h | h
  · rw [Nat.min_eq_left h]
    exact List.take_of_length_le (by rw [List.length_drop]; omega)
  · rw [Nat.min_eq_right h, List.drop_length, List.drop_eq_nil_of_le h, List.take_nil]
theorem flat_one {n : Nat} {x : V} : (List.replicate n [x]).flatten = List.replicate n x := List.flatten_replicate_singleton ..
theorem rep_int {n : Nat} {c : Int} : List.replicate n (V.int c) = (List.replicate n c).map V.int := (List.map_replicate ..).symm
theorem getD_rep {n i : Nat} {c : Int} (h : i < n) : (List.replicate n c).getD i 0 = c := by
  rw [List.getD_eq_getElem?_getD, List.getElem?_replicate, if_pos h]
  rfl
theorem zero_ok {n : Nat} {r : Int} (h : 0 < n) (h0 : 0 ≤ r) : RuleOk (List.replicate n 0) n r := by
  refine ⟨h, by rw [List.length_replicate]; exact Nat.le_refl _, h0, fun i hi => ?_, fun i hi => ?_, ?_⟩
  · rw [List.length_replicate] at hi
    rw [getD_rep hi]
    exact Int.le_refl _
  · rw [List.length_replicate] at hi
    rw [getD_rep hi, getD_rep (by omega)]
    exact Int.le_refl _
  · rw [List.length_replicate, getD_rep (by omega), getD_rep (by omega)]
    omega
theorem one_ok {c r : Int} (h : 0 ≤ c) (h0 : 0 ≤ r) : RuleOk [c] 1 r := by
  refine ⟨by decide, Nat.le_refl 1, h0, fun i hi => ?_, fun i hi => ?_, ?_⟩
  · have hi : i < 1 := hi
    rw [show i = 0 by omega]
    exact h
  · have hi : i + 1 < 1 := hi
    omega
  · show c ≤ c + r
    omega
abbrev rareT (q s : Nat) : List Int := List.replicate (s + 1) ((s : Int) - 1) ++ List.replicate (q - s - 1) ((s : Int) + (q : Int) - 1)
theorem rare_get {q s i : Nat} (hs : s + 1 ≤ q) (hi : i < q) : (rareT q s).getD i 0 = if i < s + 1 then (s : Int) - 1 else (s : Int) + (q : Int) - 1 := by
  rw [List.getD_eq_getElem?_getD, List.getElem?_append, List.length_replicate]
  by_cases h : i < s + 1
  · rw [if_pos h, if_pos h, List.getElem?_replicate, if_pos h]
    rfl
  · rw [if_neg h, if_neg h, List.getElem?_replicate, if_pos (by omega)]
    rfl
theorem rare_len {q s : Nat} (hs : s + 1 ≤ q) : (rareT q s).length = q := by
  rw [List.length_append, List.length_replicate, List.length_replicate]
  omega
theorem rare_ok {q s : Nat} (h1 : 1 ≤ s) (hs : s + 1 ≤ q) : RuleOk (rareT q s) q q := by
  have l := rare_len hs
  refine ⟨by omega, by omega, by omega, fun i hi => ?_, fun i hi => ?_, ?_⟩
  · rw [rare_get hs (by omega)]
    split <;> omega
  · rw [rare_get hs (by omega), rare_get hs (by omega)]
    split <;> split <;> omega
  · rw [l, rare_get hs (by omega), rare_get hs (by omega)]
    split <;> split <;> omega
theorem lay_ints : ∀ ns : List Int, PyData.canLayAll0 (ns.map PyData.int) = true
  | [] => rfl
  | n :: ns => by
    simp only [List.map_cons, PyData.canLayAll0, PyData.canLay0, lay_ints ns, Bool.and_self]
theorem shaped_ints (ns : List Int) : SeqAt.shaped (dataI ns) = true := by
  have d := depth_ints ns
  have e : (dataI ns).depth ≤ 64 := by
    unfold dataI
    simp only [PyData.depth]
    omega
  have l : (dataI ns).canLay0 = true := by
    unfold dataI
    simp only [PyData.canLay0, lay_ints]
  unfold SeqAt.shaped
  rw [l, decide_eq_true e]
  rfl
theorem ne_nil_ints {ns : List Int} : (!PyData.eqv (dataI ns) (.list [])) = decide (ns ≠ []) := by
  cases ns with
  | nil => rfl
  | cons n ns => rfl
theorem lc_turn1 {H0 H' : Hp} {U : Addr} {ns : List Int} {j : Nat} {x : V} (hl : ns.length ≤ 9000) (nU : H0 U = none) (hx : (ns.map V.int)[j]? = some x) (sm : Same H0 H') (hU : H' U = some (.lst (((ns.take j).map (· + 1)).map V.int))) :
    ∃ y, x = .int y ∧ (((ns.take j).map (· + 1)).map V.int).length < sizeLine ∧ Same H0 (upd H' U (.lst ((((ns.take j).map (· + 1)).map V.int) ++ [V.int (y + 1)]))) ∧
      upd H' U (.lst ((((ns.take j).map (· + 1)).map V.int) ++ [V.int (y + 1)])) U = some (.lst (((ns.take (j + 1)).map (· + 1)).map V.int)) := by
  rw [List.getElem?_map] at hx
  cases e : ns[j]? with
  | none => rw [e] at hx; cases hx
  | some y =>
    rw [e] at hx
    have hj := (List.getElem?_eq_some_iff.mp e).1
    refine ⟨y, (Option.some.inj hx).symm, ?_, fun b' u e' => ?_, ?_⟩
    · rw [List.length_map, List.length_map, List.length_take]
      exact Nat.lt_of_le_of_lt (show min j ns.length ≤ 9000 by omega) (by decide)
    · rw [upd_ne (ne_of_none e' nU)]
      exact sm _ _ e'
    · rw [upd_same, List.take_add_one, e, List.map_append, List.map_append]
      rfl
theorem small_log30 {i : Nat} (h1 : i ≤ 1000000000000000000000000000000) : (i : Int).natAbs.log2 < 1920 :=
  Nat.lt_of_lt_of_le (PySem.Flt.log2_lt_of (k := 310) (by decide) (by omega)) (by decide)
section
variable {K : PySem.W.Frag} {H : Hp} {Q : VK}
theorem sl_uni {a : Addr} {xs : List V} {lo hi : Option Int} (h : H a = some (.tup xs)) (q : ∀ u H', Same H H' → H' u = some (.tup (cutV xs lo hi)) → Q (.ref u) H') : rSlA K (.ref a) lo hi H Q := by
  refine ⟨a, xs, rfl, SqT.of h, fun w => q a H (Same.refl H) ?_, fun _ u nu => q u _ (same_upd nu) upd_same⟩
  rw [h]
  unfold cutV
  rw [w.1, w.2, List.drop_zero, Nat.sub_zero, List.take_length]
theorem cat_uni {a b : Addr} {xs ys : List V} (ha : H a = some (.tup xs)) (hb : H b = some (.tup ys)) (l : xs.length + ys.length ≤ sizeLine) (q : ∀ u H', Same H H' → H' u = some (.tup (xs ++ ys)) → Q (.ref u) H') : rCatA K (.ref a) (.ref b) H Q := by
  refine ⟨a, b, xs, ys, rfl, rfl, SqT.of ha, SqT.of hb, l, fun e => q b H (Same.refl H) ?_, fun _ e => q a H (Same.refl H) ?_, fun _ _ u nu => q u _ (same_upd nu) upd_same⟩
  · rw [hb, e, List.nil_append]
  · rw [ha, e, List.append_nil]
end
end Sm

set_option Elab.async false
set_option linter.all false
set_option maxRecDepth 100000
set_option maxHeartbeats 8000000
namespace Sm
open PySem PySem.Spec PyProof.Rows L2
open C8 (pss_cut tCut)
def topS (i : Nat) : Stmt := PySem.Challenge.pw_smallchange_k79_rules_of_one_use.main.body.getD i (.Pass ⟨0, 0, 0, 0⟩)
structure Txt (mg : Str → Option Value) : Prop where
  n_abs : mg "abs" = none
  n_all : mg "all" = none
  n_any : mg "any" = none
  n_bool : mg "bool" = none
  n_int : mg "int" = none
  n_isinstance : mg "isinstance" = none
  n_len : mg "len" = none
  n_max : mg "max" = none
  n_min : mg "min" = none
  n_range : mg "range" = none
  n_repr : mg "repr" = none
  n_tuple : mg "tuple" = none
  g_lcm : mg "lcm" = some (.builtin "math.lcm")
  c_MAX_TOLD : ∃ t, mg "MAX_TOLD" = some (.int 5000 t)
/-! ### rules in the heap -/
def RuleAt (H : Hp) (d : Addr) (T : List Int) (p : Nat) (r : Int) : Prop := ∃ t, H d = some (.tup [.ref t, .int (p : Int), .int r]) ∧ H t = some (.tup (T.map V.int))
theorem RuleAt.same {H H' : Hp} {d : Addr} {T : List Int} {p : Nat} {r : Int} (R : RuleAt H d T p r) (s : Same H H') : RuleAt H' d T p r := by
  obtain ⟨t, h1, h2⟩ := R
  exact ⟨t, s _ _ h1, s _ _ h2⟩
theorem RuleAt.fr {H H' : Hp} {d a l : Addr} {n : Int} {T : List Int} {p : Nat} {r : Int} (R : RuleAt H d T p r) (f : Fr a l H H') (D : Deck H a l n) : RuleAt H' d T p r := by
  obtain ⟨t, h1, h2⟩ := R
  exact ⟨t, f.tup D h1, f.tup D h2⟩
structure RB (T : List Int) (p : Nat) (r : Int) : Prop where
  len : T.length ≤ 2000
  r1 : r ≤ 1000000000000000000
  top : ∀ i, i < T.length → T.getD i 0 ≤ 100000000000000000000
/-- a small one, with bound M -/
structure RS (M : Int) (T : List Int) (p : Nat) (r : Int) : Prop where
  len : T.length ≤ 300
  turn : p ≤ 40
  r1 : r ≤ M
  top : ∀ i, i < T.length → T.getD i 0 ≤ M
theorem RS.rb {M : Int} {T : List Int} {p : Nat} {r : Int} (b : RS M T p r) (h : M ≤ 10000000000000000) : RB T p r := by
  have h1 := b.r1
  have h2 := b.len
  exact ⟨by omega, by omega, fun i hi => by have := b.top i hi; omega⟩
theorem RS.up {M N : Int} {T : List Int} {p : Nat} {r : Int} (b : RS M T p r) (h : M ≤ N) : RS N T p r := by
  have h1 := b.r1
  exact ⟨b.len, b.turn, by omega, fun i hi => by have := b.top i hi; omega⟩
/-- a rule cut shorter -/
structure Cut (T : List Int) (p : Nat) (r : Int) (T' : List Int) (p' : Nat) (r' : Int) : Prop where
  len : T'.length ≤ T.length
  turn : p' ≤ p
  rise : r' ≤ r
  get : ∀ i, i < T'.length → T'.getD i 0 = T.getD i 0
theorem Cut.rs {M : Int} {T T' : List Int} {p p' : Nat} {r r' : Int} (c : Cut T p r T' p' r') (b : RS M T p r) : RS M T' p' r' := by
  have h1 := c.len
  have h2 := c.turn
  have h3 := c.rise
  have b1 := b.len
  have b2 := b.turn
  have b3 := b.r1
  exact ⟨by omega, by omega, by omega, fun i hi => by rw [c.get i hi]; exact b.top i (by omega)⟩
theorem Cut.rb {T T' : List Int} {p p' : Nat} {r r' : Int} (c : Cut T p r T' p' r') (b : RB T p r) : RB T' p' r' := by
  have h1 := c.len
  have h3 := c.rise
  have b1 := b.len
  have b3 := b.r1
  exact ⟨by omega, by omega, fun i hi => by rw [c.get i hi]; exact b.top i (by omega)⟩
theorem get_int {T : List Int} {i : Nat} (h : i < T.length) : (T.map V.int)[i]? = some (.int (T.getD i 0)) := by
  rw [List.getElem?_map, List.getElem?_eq_getElem h, List.getD_eq_getElem?_getD, List.getElem?_eq_getElem h]
  rfl
theorem atI_neg1 {xs : List V} {v : V} (h0 : 0 < xs.length) (h : xs[xs.length - 1]? = some v) : atI xs (-1) = some v := by
  unfold atI ixN
  rw [if_neg (by decide), if_pos (by omega), show ((-1 : Int) + (xs.length : Int)).toNat = xs.length - 1 by omega]
  exact h
theorem last_int {T : List Int} (h : 0 < T.length) : atI (T.map V.int) (-1) = some (.int (T.getD (T.length - 1) 0)) :=
  atI_neg1 (by rw [List.length_map]; exact h) (by rw [List.length_map]; exact get_int (by omega))
def sp_val (_ : PySem.W.Frag) : Sp := fun vs H Q _ => ∃ (d : Addr) (T : List Int) (p : Nat) (r : Int) (x : Nat), vs = [.ref d, .int (x : Int)] ∧ RuleAt H d T p r ∧ RuleOk T p r ∧ RB T p r ∧ Q (.int (vl T p r x)) H
abbrev sp_value_of := sp_val
section
variable {P : Program} {w : World} {K : PySem.W.Frag} {mg : Str → Option Value} {base : Heap}
abbrev s_l_deck : Stmt := topS 24
abbrev N_l_deck : List Str := ["_law_script", "_law_cell"]
theorem sc_l_deck : FnScope N_l_deck ["_law_script"] (defScope s_l_deck) := ⟨rfl, rfl, rfl, by decide +kernel, rfl, by decide +kernel, by decide +kernel⟩
theorem ok_l_deck (T : Txt mg) (D : Df K mg "_law_deck" s_l_deck ["_law_script"]) : Cal P w K mg base "_law_deck" ["_law_script"] 1 (sp_l_deck K) := by
  refine D.cal sc_l_deck (fun vs H Q E h => ?_) (fun f cdv A outer s H vs Q E hr h => ?_)
  · obtain ⟨a, ns, rfl, _⟩ := h
    rfl
  obtain ⟨a, ns, rfl, hS, hlen, k⟩ := h
  refine ⟨_, (pss_one (ps_ret (pe_lst (pa_cons (pe_lc (own := [("_law_cell", 1)]) (g := gName 1) (tt := tYes) rfl sc_l_deck.nd (pi_list (pe_slice sl_list (pv 0) po_none (po_some pe_int))) (blkOk_by (own := [("_law_cell", 1)]) (N := N_l_deck) (sc := defScope s_l_deck) (by decide +kernel)) (fun _ _ _ _ _ => pg_name (i := 1) sc_l_deck.nd rfl (Or.inl rfl)) (fun _ _ _ _ _ => pts_nil) (fun _ _ _ _ _ => (pe_callB call_abs (by rfl) T.n_abs (by decide +kernel) (pa_cons (pv 1) pa_nil)))) (pa_cons pe_int pa_nil))))), ?_⟩
  refine ⟨_, rfl, _, rfl, a, _, rfl, hS, fun c nc => ?_⟩
  rw [cut63 hlen]
  have s1 := same_upd (o := .lst (ns.map V.int)) nc
  refine ⟨c, rfl, ⟨_, SqL.of upd_same⟩, fun D nD => ?_⟩
  have s2 := s1.trans (same_upd (o := .lst []) nD)
  have hc2 : upd (upd H c (.lst (ns.map V.int))) D (.lst []) c = some (.lst (ns.map V.int)) := same_upd nD _ _ upd_same
  refine lc_list (K := K) (a := c) (xs := ns.map V.int) (fun i H' => Same H H' ∧ H' c = some (.lst (ns.map V.int)) ∧ c ≠ D ∧ H D = none ∧ H' D = some (.lst (((ns.take i).map absI).map V.int)))
    ⟨s2, hc2, ne_of_none upd_same nD, s1.free nD, upd_same⟩ (fun i H' _ h => SqL.of h.2.1) ?_ ?_
  · rintro i x H' hx ⟨sm, hc, ncD, nD0, hD⟩
    rw [List.getElem?_map] at hx
    cases e : ns[i]? with
    | none => rw [e] at hx; cases hx
    | some y =>
      rw [e] at hx
      have ex : x = .int y := (Option.some.inj hx).symm
      subst ex
      refine ⟨rfl, ?_⟩
      unfold tYes
      refine iteT ?_
      refine ⟨_, rfl, _, rfl, _, hD, ?_, ?_⟩
      · rw [List.length_map, List.length_map, List.length_take]
        exact Nat.lt_of_le_of_lt (Nat.min_le_right _ _) (small1000 (by omega))
      · refine ⟨fun b o e => ?_, ?_, ncD, nD0, ?_⟩
        · rw [upd_ne (ne_of_none e nD0)]
          exact sm _ _ e
        · rw [upd_ne ncD]
          exact hc
        · rw [upd_same, List.take_add_one, e, List.map_append, List.map_append]
          rfl
  · rintro H' ⟨sm, hc, ncD, nD0, hD⟩
    refine ⟨(by show 2 ≤ sizeLine; decide), fun p np => ?_⟩
    have s3 := sm.trans (same_upd (o := .lst [.ref D, .int 0]) np)
    refine k _ p D s3 ⟨upd_same, _, (same_upd np) _ _ hD, fun c hc => ?_, ?_⟩
    · obtain ⟨y, _, rfl⟩ := List.mem_map.mp hc
      exact absI_pos y
    · rw [List.length_map, List.length_take]
      omega
abbrev s_l_draw : Stmt := topS 25
abbrev N_l_draw : List Str := ["_law_deck_here", "_law_many", "_law_cell", "_law_place", "_law_mixed"]
theorem sc_l_draw : FnScope N_l_draw ["_law_deck_here", "_law_many"] (defScope s_l_draw) := ⟨rfl, rfl, rfl, by decide +kernel, rfl, by decide +kernel, by decide +kernel⟩
theorem ok_l_draw (T : Txt mg) (D : Df K mg "_law_draw" s_l_draw ["_law_deck_here", "_law_many"]) : Cal P w K mg base "_law_draw" ["_law_deck_here", "_law_many"] 1 (sp_l_draw K) := by
  refine D.cal sc_l_draw (fun vs H Q E h => ?_) (fun f cdv A outer s H vs Q E hr h => ?_)
  · obtain ⟨p, l, n, m, rfl, _⟩ := h
    rfl
  obtain ⟨p, l, n, m, rfl, D, n0, n1, m0, m1, k⟩ := h
  obtain ⟨cells, hl, hc, h63⟩ := D.hl
  have npl : p ≠ l := ne_of D.hp hl deck_ne
  refine ⟨_, (pss_cons (ps_asg (pe_op op_add (pe_ix ix_list (pv 0) pe_int (fun _ _ => rfl)) pe_int) (pg_sub (pv 0) pe_int set_list))
    (pss_cons (ps_asg (pe_tup (pa_cons pe_int (pa_cons (pe_un un_neg pe_int) pa_nil))) (pg_tup (by rfl) (pgs_cons (pg_name (i := 2) sc_l_draw.nd rfl (Or.inl rfl)) (pgs_cons (pg_name (i := 3) sc_l_draw.nd rfl (Or.inl rfl)) pgs_nil))))
    (pss_cut (ps_if (pt_cmpR op_gt (pe_callB call_len_seq (by rfl) T.n_len (by decide +kernel) (pa_cons (pe_ix ix_list (pv 0) pe_int (fun _ _ => rfl)) pa_nil)) pe_int (nomark _)) (pss_cons (ps_set (i := 3) sc_l_draw.nd rfl (Or.inl rfl) (pe_op op_modN (pe_callTy call_int1 (by rfl) T.n_int (by decide +kernel) (pa_cons (pe_ix ix_list (pv 0) pe_int (fun _ _ => rfl)) pa_nil)) (pe_callB call_len_seq (by rfl) T.n_len (by decide +kernel) (pa_cons (pe_ix ix_list (pv 0) pe_int (fun _ _ => rfl)) pa_nil))))
    (pss_one (ps_set (i := 2) sc_l_draw.nd rfl (Or.inl rfl) (pe_ix ix_list (pe_ix ix_list (pv 0) pe_int (fun _ _ => rfl)) (pv 3) (fun _ _ => rfl))))) pss_nil)
    (pss_cons (ps_if (pt_cmpR op_ge (pv 2) (pe_op op_pow pe_int pe_int) (nomark _)) (pss_cons (ps_asg (pe_op op_fdivW (pe_callTy call_int1 (by rfl) T.n_int (by decide +kernel) (pa_cons (pv 2) pa_nil)) (pv 1)) (pg_sub (pe_ix ix_list (pv 0) pe_int (fun _ _ => rfl)) (pv 3) set_list))
    (pss_one (ps_ret (pe_op op_modN (pe_callTy call_int1 (by rfl) T.n_int (by decide +kernel) (pa_cons (pv 2) pa_nil)) (pv 1))))) pss_nil)
    (pss_cons (ps_set (i := 4) sc_l_draw.nd rfl (Or.inl rfl) (pe_op op_add (pe_op op_add (pe_op op_modN (pe_callTy call_int1 (by rfl) T.n_int (by decide +kernel) (pa_cons (pv 2) pa_nil)) pe_int) (pe_op op_mul pe_int (pe_ix ix_list (pv 0) pe_int (fun _ _ => rfl)))) pe_int))
    (pss_one (ps_ret (pe_op op_modN (pe_callTy call_int1 (by rfl) T.n_int (by decide +kernel) (pa_cons (pe_op op_modN (pe_callTy call_int1 (by rfl) T.n_int (by decide +kernel) (pa_cons (pe_op op_pow (pv 4) pe_int) pa_nil)) pe_int) pa_nil)) (pv 1))))))))), ?_⟩
  refine ⟨_, rfl, _, _, _, _, rfl, rfl, SqL.of D.hp, atI_nat (j := 1) rfl, _, _, rfl, rfl, _, rfl, _, _, _, _, rfl, rfl, D.hp, rfl, ?_⟩
  generalize hH0 : upd H p (HO.lst (List.set [V.ref l, V.int n] (Int.toNat 1) ((fun i j => V.int (i + j)) n 1))) = H0
  have hH0 : upd H p (.lst [.ref l, .int (n + 1)]) = H0 := hH0
  have f0 : Fr p l H H0 := fun b o h1 _ h => by rw [← hH0, upd_ne h1]; exact h
  have hl0 : H0 l = some (.lst (cells.map V.int)) := by rw [← hH0, upd_ne npl.symm]; exact hl
  have hp0 : H0 p = some (.lst [.ref l, .int (n + 1)]) := by rw [← hH0, upd_same]
  refine ⟨_, rfl, (by show 2 ≤ sizeLine; decide), fun t nt => ?_⟩
  refine ⟨_, _, rfl, SqT.of upd_same, rfl, _, _, rfl, _, _, rfl, rfl, ?_⟩
  have st := same_upd (o := .tup [.int 0, .int (-1)]) nt
  have hp1 := st _ _ hp0
  have hl1 := st _ _ hl0
  have f1 := f0.trans (Same.fr (p := p) (l := l) st)
  generalize upd H0 t (HO.tup [V.int 0, V.int (-1)]) = H1 at hp1 hl1 f1 ⊢
  refine ⟨fun σ H' => ∃ c pl : Int, σ = [some (.ref p), some (.int m), some (.int c), some (.int pl), none] ∧ H' = H1 ∧ 0 ≤ c ∧ (1000000000000000000 ≤ c → 0 ≤ pl ∧ pl.toNat < cells.length ∧ pl < cells.length), ?_, ?_⟩
  · refine ⟨_, rfl, _, _, _, _, rfl, rfl, SqL.of hp1, atI_nat (j := 0) rfl, _, _, rfl, .inl (SqL.of hl1), _, _, rfl, rfl, _, rfl, ite3 (fun e => ?_) (fun e => ?_)⟩
    · rw [List.length_map] at e
      have fm : (n + 1).fmod cells.length = (n + 1) % cells.length := fmod_pos (by omega)
      have q0 : 0 ≤ (n + 1).fmod cells.length := by rw [fm]; exact Int.emod_nonneg _ (by omega)
      have q1 : (n + 1).fmod cells.length < cells.length := by rw [fm]; exact Int.emod_lt_of_pos _ (by omega)
      have q2 : ((n + 1).fmod cells.length).toNat < cells.length := by omega
      have q3 : (n + 1).fmod cells.length = (((n + 1).fmod cells.length).toNat : Int) := by omega
      have q4 : (cells.map V.int)[((n + 1).fmod cells.length).toNat]? = some (.int cells[((n + 1).fmod cells.length).toNat]) := by
        rw [List.getElem?_map, List.getElem?_eq_getElem q2]
        rfl
      have ln : ((cells.map V.int).length : Int) = cells.length := by rw [List.length_map]
      refine ⟨_, rfl, _, _, _, _, rfl, rfl, SqL.of hp1, atI_nat (j := 1) rfl, .inl ⟨_, rfl, _, rfl, _, _, _, _, rfl, rfl, SqL.of hp1, atI_nat (j := 0) rfl, _, _, rfl, .inl (SqL.of hl1), _, _, rfl, rfl, (by rw [ln]; omega), ?_⟩⟩
      have z : ∀ B : Int → Prop, B ((n + 1).fmod cells.length) → B ((n + 1).fmod ((cells.map V.int).length : Int)) := fun B h => by rw [ln]; exact h
      refine z (fun y => gName 3 (.int y) _ _ _) ?_
      refine ⟨_, rfl, _, _, _, _, rfl, rfl, SqL.of hp1, atI_nat (j := 0) rfl, _, rfl, _, _, _, _, rfl, rfl, SqL.of hl1, at_of q3 q4, ?_⟩
      exact ⟨_, _, rfl, rfl, hc _ (List.getElem_mem q2), fun _ => ⟨q0, q2, q1⟩⟩
    · exact ⟨0, -1, rfl, rfl, Int.le_refl _, fun h => absurd h (by decide)⟩
  · rintro σ H' ⟨c, pl, rfl, rfl, c0, hpl⟩
    refine ⟨_, rfl, _, _, rfl, rfl, ⟨by decide, by decide, by decide⟩, _, _, rfl, rfl, _, rfl, ite3 (fun e => ?_) (fun e => ?_)⟩
    · have e : 1000000000000000000 ≤ c := e
      obtain ⟨p0, p1, p2⟩ := hpl e
      have ix : ixN (cells.map V.int).length pl = some pl.toNat := by
        unfold ixN
        rw [if_pos p0, if_pos (by rw [List.length_map]; exact p2)]
      refine ⟨_, rfl, .inl ⟨_, rfl, _, rfl, _, _, rfl, rfl, div_draw m0 m1, _, rfl, _, _, _, _, rfl, rfl, SqL.of hp1, atI_nat (j := 0) rfl, _, rfl, _, _, _, _, rfl, rfl, hl1, ix, ?_⟩⟩
      refine ⟨_, rfl, .inl ⟨_, rfl, _, rfl, _, _, rfl, rfl, (by omega), ?_⟩⟩
      have fm : c.fmod m = c % m := fmod_pos m0
      refine k _ _ (by rw [fm]; exact Int.emod_nonneg _ (by omega)) (by rw [fm]; exact Int.emod_lt_of_pos _ m0) (f1.trans fun b o _ h2 h => by rw [upd_ne h2]; exact h) ⟨by rw [upd_ne npl]; exact hp1, cells.set pl.toNat (c / m), by rw [upd_same, List.map_set], fun y hy => ?_, by rw [List.length_set]; exact h63⟩
      rcases List.mem_or_eq_of_mem_set hy with q | q
      · exact hc y q
      · rw [q]; exact Int.ediv_nonneg c0 (by omega)
    · refine ⟨_, rfl, .inl ⟨_, rfl, _, _, rfl, rfl, (show (2147483587 : Int) ≠ 0 by decide), _, rfl, _, _, _, _, rfl, rfl, SqL.of hp1, atI_nat (j := 1) rfl, _, _, rfl, rfl, .inl ⟨by decide, by decide⟩, _, _, rfl, rfl, _, _, rfl, rfl, ?_⟩⟩
      have fm : c.fmod 2147483587 = c % 2147483587 := fmod_pos (by decide)
      have h0 := Int.emod_nonneg c (show (2147483587 : Int) ≠ 0 by decide)
      have h1 := Int.emod_lt_of_pos c (show (0 : Int) < 2147483587 by decide)
      refine ⟨_, rfl, _, _, rfl, rfl, ⟨by decide, by decide, by rw [fm]; omega⟩, .inl ⟨_, rfl, _, _, rfl, rfl, (show (2147483647 : Int) ≠ 0 by decide), .inl ⟨_, rfl, _, rfl, _, _, rfl, rfl, (by omega), ?_⟩⟩⟩
      refine k _ _ ?_ ?_ f1 ⟨hp1, cells, hl1, hc, h63⟩
      · rw [fmod_pos m0]; exact Int.emod_nonneg _ (by omega)
      · rw [fmod_pos m0]; exact Int.emod_lt_of_pos _ m0
abbrev s_l_one : Stmt := topS 26
abbrev N_l_one : List Str := ["_law_deck_here", "_law_items"]
theorem sc_l_one : FnScope N_l_one ["_law_deck_here", "_law_items"] (defScope s_l_one) := ⟨rfl, rfl, rfl, by decide +kernel, rfl, by decide +kernel, by decide +kernel⟩
theorem ok_l_one (T : Txt mg) (D : Df K mg "_law_one" s_l_one ["_law_deck_here", "_law_items"]) (C_l_draw : Cal P w K mg base "_law_draw" ["_law_deck_here", "_law_many"] 1 (sp_l_draw K)) : Cal P w K mg base "_law_one" ["_law_deck_here", "_law_items"] 2 (sp_l_one K) := by
  obtain ⟨f_l_draw, fd_l_draw, G_l_draw, m_l_draw, k_l_draw, b_l_draw⟩ := C_l_draw
  refine D.cal sc_l_one (fun vs H Q E h => ?_) (fun f cdv A outer s H vs Q E hr h => ?_)
  · obtain ⟨p, l, b, n, xs, rfl, _⟩ := h
    rfl
  obtain ⟨p, l, b, n, xs, rfl, D, n0, n1, hb, bp, bl, x0, x1, k⟩ := h
  refine ⟨_, (pss_one (ps_ret (pe_ix ix_list (pv 1) (pe_call G_l_draw (hr.mono (by decide)) (by rfl) m_l_draw k_l_draw b_l_draw .nil pass0 (pa_cons (pv 0) (pa_cons (pe_callB call_len_seq (by rfl) T.n_len (by decide +kernel) (pa_cons (pv 1) pa_nil)) pa_nil))) (fun _ _ => rfl)))), ?_⟩
  refine ⟨_, rfl, _, rfl, _, rfl, _, _, rfl, .inl (SqL.of hb), p, l, n, _, rfl, D, n0, n1, (by omega), (by omega), fun r H' r0 r1 f D' => ?_⟩
  have q : r.toNat < xs.length := by omega
  refine ⟨_, _, _, _, rfl, rfl, SqL.of (f b _ bp bl hb), at_of (j := r.toNat) (by omega) (List.getElem?_eq_getElem q), ?_⟩
  exact k _ H' (List.getElem_mem q) f D'
end
end Sm

set_option Elab.async false
set_option linter.all false
set_option maxRecDepth 100000
set_option maxHeartbeats 8000000
namespace Sm
open PySem PySem.Spec PyProof.Rows L2
open C8 (pss_cut tCut)
def hs (m : Nat) : Str := if m = 0 then "down" else if m = 1 then "up" else "near"
theorem hs_down {m : Nat} (h : m ≤ 2) : V.str (hs m) = V.str "down" ↔ m = 0 := by
  obtain rfl | rfl | rfl : m = 0 ∨ m = 1 ∨ m = 2 := by omega
  all_goals decide +kernel
theorem hs_up {m : Nat} (h : m ≤ 2) : V.str (hs m) = V.str "up" ↔ m = 1 := by
  obtain rfl | rfl | rfl : m = 0 ∨ m = 1 ∨ m = 2 := by omega
  all_goals decide +kernel
def upV : Option Int → V
  | none => .non
  | some v => .int v
abbrev deskV (m : Nat) (num den least step : Int) (u : Option Int) : List V := [.int 0, .int 1, .int num, .int den, .str (hs m), .int least, .int step, upV u]
section
variable {m : Nat} {num den least step x : Int} {u : Option Int}
theorem Dk.div (o : Dk m num den least step u) : CDivW x den := by
  have := o.d0
  have := o.d1
  exact wide_div (b := 10) (by omega) (by omega) (by decide) (by decide)
theorem Dk.div2 (o : Dk m num den least step u) : CDivW x (2 * den) := by
  have := o.d0
  have := o.d1
  exact wide_div (b := 10) (by omega) (by omega) (by decide) (by decide)
theorem Dk.divS (o : Dk m num den least step u) : CDivW x step := by
  have := o.s0
  have := o.s1
  exact wide_div (b := 10) (by omega) (by omega) (by decide) (by decide)
end
def sp_takes (K : PySem.W.Frag) : Sp := fun vs H Q _ => ∃ (d : Addr) (x : Int) (m : Nat) (num den least step : Int) (u : Option Int), vs = [.ref d, .int x] ∧ H d = some (.tup (deskV m num den least step u)) ∧ Dk m num den least step u ∧
  ∀ H' b, Same H H' → (b = true ↔ Tk least step u x) → Q (.bl b) H'
def sp_gives (K : PySem.W.Frag) : Sp := fun vs H Q _ => ∃ (d : Addr) (x : Int) (m : Nat) (num den least step : Int) (u : Option Int), vs = [.ref d, .int x] ∧ H d = some (.tup (deskV m num den least step u)) ∧ Dk m num den least step u ∧
  ∀ H', Same H H' → (Tk least step u x → Q (.int (Gm m (num * x) den)) H') ∧ (¬ Tk least step u x → Q .non H')
def sp_up_to_multiple (K : PySem.W.Frag) : Sp := fun vs H Q _ => ∃ (a s : Int), vs = [.int a, .int s] ∧ 1 ≤ s ∧ s ≤ 1000 ∧ Q (.int (fst a s)) H
def sp_first_taken (K : PySem.W.Frag) : Sp := fun vs H Q _ => ∃ (d : Addr) (m : Nat) (num den least step : Int) (u : Option Int), vs = [.ref d] ∧ H d = some (.tup (deskV m num den least step u)) ∧ Dk m num den least step u ∧ Q (.int (fst least step)) H
def sp_use_values (K : PySem.W.Frag) : Sp := fun vs H Q _ => ∃ (d : Addr) (n : Nat) (m : Nat) (num den least step : Int) (u : Option Int), vs = [.ref d, .int (n : Int)] ∧ H d = some (.tup (deskV m num den least step u)) ∧ Dk m num den least step u ∧ n ≤ 5000 ∧
  ∀ H' q, Same H H' → H' q = some (.lst (((List.range n).map fun x : Nat => Fv m num den least step u (x : Int)).map V.int)) → Q (.ref q) H'
theorem Fv_neg {m : Nat} {num den least s x : Int} {u : Option Int} (o : Dk m num den least s u) (h : x ≤ 0) : Fv m num den least s u x = 0 := by
  have a := last_le (u := u) (x := x) o.s0
  have b := lim_le (u := u) (x := x)
  have := o.l0
  unfold Fv
  rw [if_neg (by omega)]
section
variable {P : Program} {w : World} {K : PySem.W.Frag} {mg : Str → Option Value} {base : Heap}
abbrev s_takes : Stmt := topS 17
abbrev N_takes : List Str := ["desk", "x", "least", "step", "most"]
theorem sc_takes : FnScope N_takes ["desk", "x"] (defScope s_takes) := ⟨rfl, rfl, rfl, by decide +kernel, rfl, by decide +kernel, by decide +kernel⟩
theorem ok_takes (T : Txt mg) (D : Df K mg "takes" s_takes ["desk", "x"]) : Cal P w K mg base "takes" ["desk", "x"] 1 (sp_takes K) := by
  refine D.cal sc_takes (fun vs H Q E h => ?_) (fun f cdv A outer s H vs Q E hr h => ?_)
  · obtain ⟨d, x, m, num, den, least, step, u, rfl, _⟩ := h
    rfl
  obtain ⟨d, x, m, num, den, least, step, u, rfl, hd, o, k⟩ := h
  refine ⟨_, (pss_cons (ps_asg (pe_slice sl_tup (pv 0) (po_some pe_int) po_none) (pg_tup (by rfl) (pgs_cons (pg_name (i := 2) sc_takes.nd rfl (Or.inl rfl)) (pgs_cons (pg_name (i := 3) sc_takes.nd rfl (Or.inl rfl)) (pgs_cons (pg_name (i := 4) sc_takes.nd rfl (Or.inl rfl)) pgs_nil)))))
    (pss_one (ps_ret (pe_and (pe_cmpR op_ge (pv 1) (pv 2) (nomark _)) (pe_and (pe_cmpR op_eq (pe_op op_modN (pv 1) (pv 3)) pe_int (nomark _)) (pe_one (pe_or (pe_cmpR op_isN (pv 4) pe_non (nomark _)) (pe_one (pe_cmpR op_le (pv 1) (pv 4) (nomark _)))))))))), ?_⟩
  refine ⟨_, rfl, _, rfl, d, _, rfl, SqT.of hd, (by show ¬ (5 = 0 ∧ 8 = 8); decide), fun p np => ?_⟩
  have s1 := same_upd (o := .tup (cutV (deskV m num den least step u) (some 5) none)) np
  refine ⟨_, _, rfl, SqT.of upd_same, rfl, _, _, rfl, _, _, rfl, _, _, rfl, rfl, ?_⟩
  refine ⟨_, rfl, _, rfl, _, _, rfl, rfl, _, rfl, ?_⟩
  have := o.s0
  by_cases hx : x ≥ least
  · refine iteP hx ⟨_, rfl, _, rfl, _, _, rfl, rfl, (by omega), rfl, _, rfl, ?_⟩
    by_cases hm : x % step = 0
    · refine iteP (show V.int (x.fmod step) = V.int 0 by rw [fmod_pos (by omega), hm]) ?_
      cases u with
      | none => exact ⟨_, rfl, rfl, _, rfl, iteP rfl (k _ _ s1 ⟨fun _ => ⟨hx, hm, fun v q => by cases q⟩, fun _ => rfl⟩)⟩
      | some v => exact ⟨_, rfl, rfl, _, rfl, iteN (fun q => by cases q) ⟨_, rfl, _, rfl, _, _, rfl, rfl, k _ _ s1 ⟨fun q => ⟨hx, hm, fun v' q' => by cases q'; exact of_decide_eq_true q⟩, fun q => decide_eq_true (q.2.2 v rfl)⟩⟩⟩
    · have ne : ¬ V.int (x.fmod step) = V.int 0 := fun q => hm (by rw [← fmod_pos (show 0 < step by omega)]; exact V.int.inj q)
      exact iteN ne (k _ _ s1 ⟨fun q => (nomatch q), fun q => absurd q.2.1 hm⟩)
  · exact iteN hx (k _ _ s1 ⟨fun q => (nomatch q), fun q => absurd q.1 hx⟩)
abbrev s_gives : Stmt := topS 18
abbrev N_gives : List Str := ["desk", "x", "num", "den", "how"]
theorem sc_gives : FnScope N_gives ["desk", "x"] (defScope s_gives) := ⟨rfl, rfl, rfl, by decide +kernel, rfl, by decide +kernel, by decide +kernel⟩
theorem ok_gives (T : Txt mg) (D : Df K mg "gives" s_gives ["desk", "x"]) (C_takes : Cal P w K mg base "takes" ["desk", "x"] 1 (sp_takes K)) : Cal P w K mg base "gives" ["desk", "x"] 2 (sp_gives K) := by
  obtain ⟨f_takes, fd_takes, G_takes, m_takes, k_takes, b_takes⟩ := C_takes
  refine D.cal sc_gives (fun vs H Q E h => ?_) (fun f cdv A outer s H vs Q E hr h => ?_)
  · obtain ⟨d, x, m, num, den, least, step, u, rfl, _⟩ := h
    rfl
  obtain ⟨d, x, m, num, den, least, step, u, rfl, hd, o, k⟩ := h
  refine ⟨_, (pss_cons (ps_if (pt_not (pt_val (pe_call G_takes (hr.mono (by decide)) (by rfl) m_takes k_takes b_takes .nil pass0 (pa_cons (pv 0) (pa_cons (pv 1) pa_nil))))) (pss_one (ps_ret pe_non)) pss_nil)
    (pss_cons (ps_asg (pe_slice sl_tup (pv 0) (po_some pe_int) (po_some pe_int)) (pg_tup (by rfl) (pgs_cons (pg_name (i := 2) sc_gives.nd rfl (Or.inl rfl)) (pgs_cons (pg_name (i := 3) sc_gives.nd rfl (Or.inl rfl)) (pgs_cons (pg_name (i := 4) sc_gives.nd rfl (Or.inl rfl)) pgs_nil)))))
    (pss_cons (ps_if (pt_cmpR op_eq (pv 4) pe_str (nomark _)) (pss_one (ps_ret (pe_op op_fdivW (pe_op op_mul (pv 2) (pv 1)) (pv 3)))) pss_nil)
    (pss_cons (ps_if (pt_cmpR op_eq (pv 4) pe_str (nomark _)) (pss_one (ps_ret (pe_op op_fdivW (pe_op op_sub (pe_op op_add (pe_op op_mul (pv 2) (pv 1)) (pv 3)) pe_int) (pv 3)))) pss_nil)
    (pss_one (ps_ret (pe_op op_fdivW (pe_op op_add (pe_op op_mul (pe_op op_mul pe_int (pv 2)) (pv 1)) (pv 3)) (pe_op op_mul pe_int (pv 3))))))))), ?_⟩
  have n0 := o.n0
  have n1 := o.n1
  have d0 := o.d0
  have d1 := o.d1
  refine ⟨_, rfl, _, rfl, d, x, m, num, den, least, step, u, rfl, hd, o, fun H1 b s1 hb => ⟨_, rfl, ?_⟩⟩
  have hd1 := s1 _ _ hd
  cases b with
  | false => exact iteT ((k H1 s1).2 fun q => by have := hb.mpr q; cases this)
  | true =>
  have tk := hb.mp rfl
  refine iteF ?_
  refine ⟨_, rfl, _, rfl, _, rfl, d, _, rfl, SqT.of hd1, (by show ¬ (2 = 0 ∧ 5 = 8); decide), fun p np => ?_⟩
  have s2 := s1.trans (same_upd (o := .tup (cutV (deskV m num den least step u) (some 2) (some 5))) np)
  refine ⟨_, _, rfl, SqT.of upd_same, rfl, _, _, rfl, _, _, rfl, _, _, rfl, rfl, ?_⟩
  refine ⟨_, rfl, rfl, _, rfl, ?_⟩
  refine ite3 (fun e => ?_) (fun e => ?_)
  · refine ⟨_, rfl, _, rfl, _, _, rfl, rfl, .inl ⟨by omega, by omega⟩, _, rfl, _, _, rfl, rfl, o.div, ?_⟩
    have e := (hs_down o.hm).mp e
    subst e
    exact (k _ s2).1 tk
  have e : ¬ m = 0 := fun q => e ((hs_down o.hm).mpr q)
  refine ⟨_, rfl, rfl, _, rfl, ?_⟩
  refine ite3 (fun e1 => ?_) (fun e1 => ?_)
  · refine ⟨_, rfl, _, rfl, _, _, rfl, rfl, .inl ⟨by omega, by omega⟩, _, rfl, _, _, rfl, rfl, _, _, rfl, rfl, _, rfl, _, _, rfl, rfl, o.div, ?_⟩
    have e1 := (hs_up o.hm).mp e1
    subst e1
    exact (k _ s2).1 tk
  have e1 : ¬ m = 1 := fun q => e1 ((hs_up o.hm).mpr q)
  refine ⟨_, rfl, _, _, rfl, rfl, .inl ⟨by omega, by omega⟩, _, rfl, _, _, rfl, rfl, .inl ⟨by omega, by omega⟩, _, rfl, _, _, rfl, rfl, _, rfl, _, _, rfl, rfl, .inl ⟨by omega, by omega⟩, _, _, rfl, rfl, o.div2, ?_⟩
  have e2 : m = 2 := by have := o.hm; omega
  subst e2
  have e3 : (2 * num * x + den) / (2 * den) = Gm 2 (num * x) den := by rw [g_ne, Int.mul_assoc]
  have k := (k _ s2).1 tk
  rw [← e3] at k
  exact k
abbrev s_up_to_multiple : Stmt := topS 20
abbrev N_up_to_multiple : List Str := ["least", "step"]
theorem sc_up_to_multiple : FnScope N_up_to_multiple ["least", "step"] (defScope s_up_to_multiple) := ⟨rfl, rfl, rfl, by decide +kernel, rfl, by decide +kernel, by decide +kernel⟩
theorem ok_up_to_multiple (T : Txt mg) (D : Df K mg "up_to_multiple" s_up_to_multiple ["least", "step"]) : Cal P w K mg base "up_to_multiple" ["least", "step"] 1 (sp_up_to_multiple K) := by
  refine D.cal sc_up_to_multiple (fun vs H Q E h => ?_) (fun f cdv A outer s H vs Q E hr h => ?_)
  · obtain ⟨a, s, rfl, _⟩ := h
    rfl
  obtain ⟨a, st, rfl, s0, s1, k⟩ := h
  refine ⟨_, (pss_one (ps_ret (pe_op op_mul (pe_op op_fdivW (pe_op op_sub (pe_op op_add (pv 0) (pv 1)) pe_int) (pv 1)) (pv 1)))), ?_⟩
  exact ⟨_, rfl, _, rfl, _, _, rfl, rfl, _, _, rfl, rfl, _, rfl, _, _, rfl, rfl, wide_div (b := 10) (by omega) (by omega) (by decide) (by decide), _, rfl, _, _, rfl, rfl, .inr ⟨by omega, by omega⟩, k⟩
abbrev s_first_taken : Stmt := topS 19
abbrev N_first_taken : List Str := ["desk"]
theorem sc_first_taken : FnScope N_first_taken ["desk"] (defScope s_first_taken) := ⟨rfl, rfl, rfl, by decide +kernel, rfl, by decide +kernel, by decide +kernel⟩
theorem ok_first_taken (T : Txt mg) (D : Df K mg "first_taken" s_first_taken ["desk"]) (C_up_to_multiple : Cal P w K mg base "up_to_multiple" ["least", "step"] 1 (sp_up_to_multiple K)) : Cal P w K mg base "first_taken" ["desk"] 2 (sp_first_taken K) := by
  obtain ⟨f_up_to_multiple, fd_up_to_multiple, G_up_to_multiple, m_up_to_multiple, k_up_to_multiple, b_up_to_multiple⟩ := C_up_to_multiple
  refine D.cal sc_first_taken (fun vs H Q E h => ?_) (fun f cdv A outer s H vs Q E hr h => ?_)
  · obtain ⟨d, m, num, den, least, step, u, rfl, _⟩ := h
    rfl
  obtain ⟨d, m, num, den, least, step, u, rfl, hd, o, k⟩ := h
  refine ⟨_, (pss_one (ps_ret (pe_call G_up_to_multiple (hr.mono (by decide)) (by rfl) m_up_to_multiple k_up_to_multiple b_up_to_multiple .nil pass0 (pa_cons (pe_ix ix_tup (pv 0) pe_int (fun _ _ => rfl)) (pa_cons (pe_ix ix_tup (pv 0) pe_int (fun _ _ => rfl)) pa_nil))))), ?_⟩
  have := o.s0
  have := o.s1
  exact ⟨_, rfl, _, _, _, _, rfl, rfl, SqT.of hd, atI_nat (j := 5) rfl, _, rfl, _, _, _, _, rfl, rfl, SqT.of hd, atI_nat (j := 6) rfl, least, step, rfl, by omega, by omega, k⟩
abbrev s_use_values : Stmt := topS 21
abbrev N_use_values : List Str := ["desk", "count", "values", "best", "x"]
theorem sc_use_values : FnScope N_use_values ["desk", "count"] (defScope s_use_values) := ⟨rfl, rfl, rfl, by decide +kernel, rfl, by decide +kernel, by decide +kernel⟩
theorem ok_use_values (T : Txt mg) (D : Df K mg "use_values" s_use_values ["desk", "count"]) (C_takes : Cal P w K mg base "takes" ["desk", "x"] 1 (sp_takes K)) (C_gives : Cal P w K mg base "gives" ["desk", "x"] 2 (sp_gives K)) : Cal P w K mg base "use_values" ["desk", "count"] 3 (sp_use_values K) := by
  obtain ⟨f_takes, fd_takes, G_takes, m_takes, k_takes, b_takes⟩ := C_takes
  obtain ⟨f_gives, fd_gives, G_gives, m_gives, k_gives, b_gives⟩ := C_gives
  refine D.cal sc_use_values (fun vs H Q E h => ?_) (fun f cdv A outer s H vs Q E hr h => ?_)
  · obtain ⟨d, n, m, num, den, least, step, u, rfl, _⟩ := h
    rfl
  obtain ⟨d, n, m, num, den, least, step, u, rfl, hd, o, hn, k⟩ := h
  refine ⟨_, (pss_cons (ps_set (i := 2) sc_use_values.nd rfl (Or.inl rfl) (pe_lst pa_nil))
    (pss_cons (ps_set (i := 3) sc_use_values.nd rfl (Or.inl rfl) pe_int)
    (pss_cons (ps_for PassesOwn.never rfl (pi_range1 (by rfl) T.n_range (pa_cons (pv 1) pa_nil)) (pg_name (i := 4) sc_use_values.nd rfl (Or.inl rfl))
      (pss_cons (ps_if (pt_val (pe_call G_takes (hr.mono (by decide)) (by rfl) m_takes k_takes b_takes .nil pass0 (pa_cons (pv 0) (pa_cons (pv 4) pa_nil)))) (pss_one (ps_set (i := 3) sc_use_values.nd rfl (Or.inl rfl) (pe_call G_gives (hr.mono (by decide)) (by rfl) m_gives k_gives b_gives .nil pass0 (pa_cons (pv 0) (pa_cons (pv 4) pa_nil))))) pss_nil)
    (pss_one (ps_expr (pe_bm PySem.F.plainAttrs_list PySem.F.slot_list_append PySem.F.type_list_append mt_append (pv 2) (pa_cons (pv 3) pa_nil))))))
    (pss_one (ps_ret (pv 2)))))), ?_⟩
  refine ⟨Nat.zero_le _, fun q nq => ?_⟩
  have s1 := same_upd (o := .lst []) nq
  refine ⟨_, rfl, _, rfl, (by omega), (by omega), ?_⟩
  refine for_range (lo := 0) (n := _) (fun i σ H' => ∃ v, σ = [some (.ref d), some (.int (n : Int)), some (.ref q), some (.int (Fv m num den least step u ((i : Int) - 1))), v] ∧ Same H H' ∧ (∀ b o, H b = some o → b ≠ q) ∧ H' q = some (.lst (((List.range i).map fun x : Nat => Fv m num den least step u (x : Int)).map V.int)))
    ⟨none, by rw [Fv_neg o (by omega)]; rfl, s1, fun b o h => ne_of_none h nq, upd_same⟩ ?_ ?_
  · rintro i σ H' hi ⟨v, rfl, s', nb, hq⟩
    have e0 : (0 : Int) + (i : Int) = (i : Int) := Int.zero_add _
    have hi : i < n := by omega
    have grow : ∀ H2 : Hp, Same H' H2 → ∀ y : Int, y = Fv m num den least step u (i : Int) → ∃ v, [some (V.ref d), some (.int (n : Int)), some (.ref q), some (.int y), some (.int (0 + (i : Int)))] = [some (.ref d), some (.int (n : Int)), some (.ref q), some (.int (Fv m num den least step u (((i + 1 : Nat) : Int) - 1))), v] ∧ Same H (upd H2 q (.lst (((List.range i).map fun x : Nat => Fv m num den least step u (x : Int)).map V.int ++ [.int y]))) ∧ (∀ b o, H b = some o → b ≠ q) ∧ upd H2 q (.lst (((List.range i).map fun x : Nat => Fv m num den least step u (x : Int)).map V.int ++ [.int y])) q = some (.lst (((List.range (i + 1)).map fun x : Nat => Fv m num den least step u (x : Int)).map V.int)) := by
      rintro H2 s2 y rfl
      refine ⟨_, by rw [show ((i + 1 : Nat) : Int) - 1 = (i : Int) by omega], fun b o h => ?_, nb, ?_⟩
      · rw [upd_ne (nb b o h)]
        exact s2 _ _ (s' _ _ h)
      · rw [upd_same, List.range_succ, List.map_append, List.map_append]
        rfl
    have ln : (((List.range i).map fun x : Nat => Fv m num den least step u (x : Int)).map V.int).length < sizeLine := by
      rw [List.length_map, List.length_map, List.length_range]
      exact Nat.lt_of_lt_of_le (show i < 5000 by omega) (by decide)
    refine ⟨_, rfl, _, rfl, d, i, m, num, den, least, step, u, congrArg (fun z => [V.ref d, V.int z]) e0, s' _ _ hd, o, fun H2 b s2 hb => ⟨_, rfl, ?_⟩⟩
    cases b with
    | true =>
      have tk := hb.mp rfl
      refine iteT ⟨_, rfl, _, rfl, d, i, m, num, den, least, step, u, congrArg (fun z => [V.ref d, V.int z]) e0, s2 _ _ (s' _ _ hd), o, fun H3 s3 => ⟨fun _ => ?_, fun nt => absurd tk nt⟩⟩
      have hq3 := s3 _ _ (s2 _ _ hq)
      exact ⟨_, rfl, .inl ⟨rfl, _, SqL.of hq3⟩, _, rfl, q, _, _, rfl, rfl, hq3, ln, grow H3 (s2.trans s3) _ (Fv_tk tk).symm⟩
    | false =>
      have nt : ¬ Tk least step u (i : Int) := fun q => by have := hb.mpr q; cases this
      have hq2 := s2 _ _ hq
      exact iteF ⟨_, rfl, .inl ⟨rfl, _, SqL.of hq2⟩, _, rfl, q, _, _, rfl, rfl, hq2, ln, grow H2 s2 _ (Fv_not o nt).symm⟩
  · rintro σ H' ⟨v, rfl, s', nb, hq⟩
    exact ⟨_, rfl, k H' q s' hq⟩
end
end Sm

set_option Elab.async false
set_option linter.all false
set_option maxRecDepth 100000
set_option maxHeartbeats 16000000
namespace Sm
open PySem PySem.Spec PyProof.Rows L2
open C8 (pss_cut tCut)
theorem RB.div {T : List Int} {p : Nat} {r x : Int} (b : RB T p r) (o : RuleOk T p r) : CDivW x (p : Int) := by
  have := b.len
  have := o.p0
  have := o.p1
  exact wide_div (b := 12) (by omega) (by omega) (by decide) (by decide)
theorem RB.mulR {T : List Int} {p : Nat} {r x : Int} (b : RB T p r) (o : RuleOk T p r) : CMul x r := by
  have := b.r1
  have := o.r0
  exact .inr ⟨by omega, by omega⟩
theorem RB.mulR' {T : List Int} {p : Nat} {r x : Int} (b : RB T p r) (o : RuleOk T p r) : CMul r x := by
  have := b.r1
  have := o.r0
  exact .inl ⟨by omega, by omega⟩
theorem RB.mulP {T : List Int} {p : Nat} {r x : Int} (b : RB T p r) (o : RuleOk T p r) : CMul x (p : Int) := by
  have := b.len
  have := o.p1
  exact .inr ⟨by omega, by omega⟩
theorem len_int (T : List Int) : (((T.map V.int).length : Nat) : Int) = (T.length : Int) := by rw [List.length_map]
theorem turns_eq {T : List Int} {p x : Nat} (h : T.length ≤ x) : ((x : Int) - (((T.map V.int).length : Nat) : Int)) / (p : Int) + 1 = (((x - T.length) / p + 1 : Nat) : Int) := by
  rw [len_int]
  exact div_cast h
theorem index_eq {q p x : Nat} (h : q * p ≤ x) : (x : Int) - (q : Int) * (p : Int) = ((x - q * p : Nat) : Int) := by
  rw [Int.natCast_sub h, Int.natCast_mul]
def sp_cycle_of (K : PySem.W.Frag) : Sp := fun vs H Q _ => ∃ (a : Addr) (I : List Int), vs = [.ref a] ∧ H a = some (.lst (I.map V.int)) ∧ 0 < I.length ∧ I.length ≤ 2000 ∧ ∀ H' s, Same H H' → Cyc I s → Q (.int (s : Int)) H'
theorem ints_eqvAll : ∀ I J : List Int, PyData.eqvAll (I.map PyData.int) (J.map PyData.int) = decide (I = J)
  | [], [] => by simp [PyData.eqvAll]
  | [], j :: J => by simp [PyData.eqvAll]
  | i :: I, [] => by simp [PyData.eqvAll]
  | i :: I, j :: J => by
    have := ints_eqvAll I J
    simp only [List.map_cons, PyData.eqvAll, this]
    simp [PyData.eqv]
    rfl
theorem ints_eqv (I J : List Int) : PyData.eqv (.list (I.map PyData.int)) (.list (J.map PyData.int)) = decide (I = J) := by
  rw [← ints_eqvAll]
  simp [PyData.eqv]
theorem ints_shaped (I : List Int) : SeqAt.shaped (.list (I.map PyData.int)) = true := by
  have a : PyData.canLayAll0 (I.map PyData.int) = true := by
    induction I with
    | nil => rfl
    | cons i I ih => simp [PyData.canLayAll0, PyData.canLay0, ih]
  have b := depth_ints I
  have c : PyData.depth (.list (I.map PyData.int)) ≤ 64 := by
    simp only [PyData.depth]
    omega
  simp [SeqAt.shaped, PyData.canLay0, a, c]
theorem steps_split {T : List Int} {p : Nat} {r : Int} (o : RuleW T p r) : ((List.range (p - 1)).map fun i => T.getD (T.length - p + (i + 1)) 0 - T.getD (T.length - p + i) 0) ++ [T.getD (T.length - p + 0) 0 + r - T.getD (T.length - 1) 0] = stepsOf T p r := by
  have p0 := o.p0
  have p1 := o.p1
  obtain ⟨q, rfl⟩ : ∃ q, p = q + 1 := ⟨p - 1, by omega⟩
  unfold stepsOf
  rw [List.range_succ, List.map_append, Nat.add_sub_cancel]
  congr 1
  · refine List.map_congr_left fun i hi => ?_
    have hi := List.mem_range.mp hi
    rw [vl_lt (by omega), vl_lt (by omega), Nat.add_assoc]
  · show [_] = [vl T (q + 1) r (T.length - (q + 1) + q + 1) - vl T (q + 1) r (T.length - (q + 1) + q)]
    have e := vl_add p0 p1 (r := r) (x := T.length - (q + 1)) (Nat.le_refl _)
    rw [show T.length - (q + 1) + q + 1 = T.length - (q + 1) + (q + 1) by omega, e, vl_lt (by omega), vl_lt (by omega), show T.length - (q + 1) + q = T.length - 1 by omega]
    rfl
def sp_check_told (_ : PySem.W.Frag) : Sp := fun vs H Q _ => ∃ n : Int, vs = [.int n] ∧ n ≤ 5000 ∧ Q .non H
theorem ps_no {X : Cx} {st : Stmt} : PS X st (fun _ _ _ => False) := by
  constructor
  intros
  contradiction
/-! ### a list or a tuple -/
def SA (H : Hp) (a : Addr) (xs : List V) : Prop := H a = some (.lst xs) ∨ H a = some (.tup xs)
theorem SA.same {H H' : Hp} {a : Addr} {xs : List V} (h : SA H a xs) (s : Same H H') : SA H' a xs := h.imp (s _ _) (s _ _)
theorem SA.sq {K : PySem.W.Frag} {H : Hp} {a : Addr} {xs : List V} (h : SA H a xs) : SqL K H a xs ∨ SqT K H a xs := h.imp SqL.of SqT.of
theorem ix_any {K : PySem.W.Frag} {H : Hp} {a : Addr} {xs : List V} {i : Int} {v : V} {Q : VK} (h : SA H a xs) (g : atI xs i = some v) (q : Q v H) : rIx K (.ref a) (.int i) H Q := by
  rcases h with h | h
  · exact .inl ⟨_, _, _, _, rfl, rfl, SqL.of h, g, q⟩
  · exact .inr (.inl ⟨_, _, _, _, rfl, rfl, SqT.of h, g, q⟩)
theorem sl_any {X : Cx} : SlR X (fun x lo hi H Q => rSlL X.K x lo hi H Q ∨ rSlA X.K x lo hi H Q) := fun pins s σ H x v vl vu lo hi sl Q I rv sw pl pu h => h.elim (sl_list pins s σ H x v vl vu lo hi sl Q I rv sw pl pu) (sl_tupA pins s σ H x v vl vu lo hi sl Q I rv sw pl pu)
theorem sl_anyU {K : PySem.W.Frag} {H : Hp} {a : Addr} {xs : List V} {lo hi : Option Int} {Q : VK} (h : SA H a xs) (q : ∀ u H', Same H H' → SA H' u (cutV xs lo hi) → Q (.ref u) H') : rSlL K (.ref a) lo hi H Q ∨ rSlA K (.ref a) lo hi H Q := by
  rcases h with h | h
  · exact .inl ⟨a, xs, rfl, SqL.of h, fun p np => q p _ (same_upd np) (.inl upd_same)⟩
  · exact .inr (sl_uni h fun u H' s' hu => q u H' s' (.inr hu))
theorem tup_anyU {K : PySem.W.Frag} {H : Hp} {a : Addr} {xs : List V} {Q : VK} (h : SA H a xs) (q : ∀ u H', Same H H' → H' u = some (.tup xs) → Q (.ref u) H') :
    ∃ p ys, [V.ref a] = [V.ref p] ∧ ((SqL K H p ys ∧ ∀ l, H l = none → Q (.ref l) (upd H l (.tup ys))) ∨ (SqT K H p ys ∧ Q (.ref p) H)) := by
  rcases h with h | h
  · exact ⟨a, xs, rfl, .inl ⟨SqL.of h, fun l nl => q l _ (same_upd nl) upd_same⟩⟩
  · exact ⟨a, xs, rfl, .inr ⟨SqT.of h, q a H (Same.refl _) h⟩⟩
section
variable {P : Program} {w : World} {K : PySem.W.Frag} {mg : Str → Option Value} {base : Heap}
abbrev s_value_of : Stmt := topS 15
abbrev N_value_of : List Str := ["rule", "x", "table", "period", "rise", "turns"]
theorem sc_value_of : FnScope N_value_of ["rule", "x"] (defScope s_value_of) := ⟨rfl, rfl, rfl, by decide +kernel, rfl, by decide +kernel, by decide +kernel⟩
theorem ok_value_of (T : Txt mg) (D : Df K mg "value_of" s_value_of ["rule", "x"]) : Cal P w K mg base "value_of" ["rule", "x"] 1 (sp_value_of K) := by
  refine D.cal sc_value_of (fun vs H Q E h => ?_) (fun f cdv A outer s H vs Q E hr h => ?_)
  · obtain ⟨d, T0, p, r, x, rfl, _⟩ := h
    rfl
  obtain ⟨d, T0, p, r, x, rfl, ⟨t, hd, ht⟩, o, b, k⟩ := h
  have p0 := o.p0
  have p1 := o.p1
  refine ⟨_, (pss_cons (ps_asg (pv 0) (pg_tup (by rfl) (pgs_cons (pg_name (i := 2) sc_value_of.nd rfl (Or.inl rfl)) (pgs_cons (pg_name (i := 3) sc_value_of.nd rfl (Or.inl rfl)) (pgs_cons (pg_name (i := 4) sc_value_of.nd rfl (Or.inl rfl)) pgs_nil)))))
    (pss_cons (ps_if (pt_cmpR op_lt (pv 1) (pe_callB call_len_seq (by rfl) T.n_len (by decide +kernel) (pa_cons (pv 2) pa_nil)) (nomark _)) (pss_one (ps_ret (pe_ix ix_tup (pv 2) (pv 1) (fun _ _ => rfl)))) pss_nil)
    (pss_cons (ps_set (i := 5) sc_value_of.nd rfl (Or.inl rfl) (pe_op op_add (pe_op op_fdivW (pe_op op_sub (pv 1) (pe_callB call_len_seq (by rfl) T.n_len (by decide +kernel) (pa_cons (pv 2) pa_nil))) (pv 3)) pe_int))
    (pss_one (ps_ret (pe_op op_add (pe_ix ix_tup (pv 2) (pe_op op_sub (pv 1) (pe_op op_mul (pv 5) (pv 3))) (fun _ _ => rfl)) (pe_op op_mul (pv 5) (pv 4)))))))), ?_⟩
  refine ⟨_, rfl, _, _, rfl, SqT.of hd, rfl, _, _, rfl, _, _, rfl, _, _, rfl, rfl, ?_⟩
  refine ⟨_, rfl, _, rfl, _, _, rfl, .inr (SqT.of ht), _, _, rfl, rfl, _, rfl, ite3 (fun e => ?_) (fun e => ?_)⟩
  · rw [len_int] at e
    have e : x < T0.length := by omega
    rw [vl_lt e] at k
    exact ⟨_, rfl, _, rfl, _, _, _, _, rfl, rfl, SqT.of ht, atI_nat (get_int e), k⟩
  · rw [len_int] at e
    have e : T0.length ≤ x := by omega
    have z : ∀ B : Int → Prop, B (((x - T0.length) / p + 1 : Nat) : Int) → B (((x : Int) - (((T0.map V.int).length : Nat) : Int)) / (p : Int) + 1) := fun B h => by rw [turns_eq e]; exact h
    refine ⟨_, rfl, _, rfl, _, _, rfl, .inr (SqT.of ht), _, _, rfl, rfl, _, rfl, _, _, rfl, rfl, b.div o, _, _, rfl, rfl, ?_⟩
    refine z (fun y => gName 5 (.int y) _ _ _) ?_
    clear z
    obtain ⟨a1, a2, a3⟩ := place p0 p1 e
    have kv : vl T0 p r x = T0.getD (x - ((x - T0.length) / p + 1) * p) 0 + (((x - T0.length) / p + 1 : Nat) : Int) * r := if_neg (by omega)
    rw [kv] at k
    generalize (x - T0.length) / p + 1 = q at a1 a2 a3 k ⊢
    exact ⟨_, rfl, _, rfl, _, rfl, _, rfl, _, _, rfl, rfl, b.mulP o, _, _, rfl, rfl, _, _, _, _, rfl, rfl, SqT.of ht, at_of (index_eq a1) (get_int a3), _, rfl, _, rfl, _, _, rfl, rfl, b.mulR o, _, _, rfl, rfl, k⟩
abbrev s_check_told : Stmt := topS 14
abbrev N_check_told : List Str := ["number"]
theorem sc_check_told : FnScope N_check_told ["number"] (defScope s_check_told) := ⟨rfl, rfl, rfl, by decide +kernel, rfl, by decide +kernel, by decide +kernel⟩
theorem ok_check_told (T : Txt mg) (D : Df K mg "check_told" s_check_told ["number"]) : Cal P w K mg base "check_told" ["number"] 1 (sp_check_told K) := by
  refine D.cal sc_check_told (fun vs H Q E h => ?_) (fun f cdv A outer s H vs Q E hr h => ?_)
  · obtain ⟨n, rfl, _⟩ := h
    rfl
  obtain ⟨n, rfl, hn, k⟩ := h
  obtain ⟨_, hMAX_TOLD⟩ := T.c_MAX_TOLD
  refine ⟨_, (pss_one (ps_if (pt_cmpR op_gt (pv 0) (pe_glob (v := .int 5000) rfl hMAX_TOLD ⟨_, rfl⟩) (nomark _)) (pss_one ps_no) pss_nil)), ?_⟩
  exact ⟨_, rfl, _, _, rfl, rfl, _, rfl, iteN (by omega) k⟩
abbrev s_cycle_of : Stmt := topS 12
abbrev N_cycle_of : List Str := ["items", "turn"]
theorem sc_cycle_of : FnScope N_cycle_of ["items"] (defScope s_cycle_of) := ⟨rfl, rfl, rfl, by decide +kernel, rfl, by decide +kernel, by decide +kernel⟩
theorem ok_cycle_of (T : Txt mg) (D : Df K mg "cycle_of" s_cycle_of ["items"]) : Cal P w K mg base "cycle_of" ["items"] 1 (sp_cycle_of K) := by
  refine D.cal sc_cycle_of (fun vs H Q E h => ?_) (fun f cdv A outer s H vs Q E hr h => ?_)
  · obtain ⟨a, I, rfl, _⟩ := h
    rfl
  obtain ⟨a, I, rfl, hS, i0, i1, k⟩ := h
  have ll := len_int I
  have lm : (I.map V.int).length = I.length := List.length_map ..
  refine ⟨_, (pss_cons (ps_for PassesOwn.never rfl (pi_range2 (by rfl) T.n_range (pa_cons pe_int (pa_cons (pe_callB call_len_seq (by rfl) T.n_len (by decide +kernel) (pa_cons (pv 0) pa_nil)) pa_nil))) (pg_name (i := 1) sc_cycle_of.nd rfl (Or.inl rfl))
      (pss_one (ps_if (PW.pt (pw_and (pt_cmpR op_eq (pe_op op_modN (pe_callB call_len_seq (by rfl) T.n_len (by decide +kernel) (pa_cons (pv 0) pa_nil)) (pv 1)) pe_int (nomark _)) (pw_and1 (pt_cmpR (op_eqD hr.units) (pv 0) (pe_op op_cat (pe_slice sl_list (pv 0) (po_some (pv 1)) po_none) (pe_slice sl_list (pv 0) po_none (po_some (pv 1)))) (nomark _))))) (pss_one (ps_ret (pv 1))) pss_nil)))
    (pss_one (ps_ret (pe_callB call_len_seq (by rfl) T.n_len (by decide +kernel) (pa_cons (pv 0) pa_nil))))), ?_⟩
  refine ⟨_, rfl, _, _, rfl, .inl (SqL.of hS), _, _, rfl, ⟨by omega, by omega, by rw [ll]; omega, by rw [ll]; omega⟩, ?_⟩
  refine for_range (lo := _) (n := _) (fun i σ H' => ∃ v, σ = [some (.ref a), v] ∧ Same H H' ∧ H' a = some (.lst (I.map V.int)) ∧ ∀ t, 0 < t → t ≤ i → t < I.length → t ∣ I.length → ¬ Rot I t)
    ⟨none, rfl, Same.refl _, hS, fun t h1 h2 => absurd h1 (by omega)⟩ ?_ ?_
  · rintro i σ H' hi ⟨v, rfl, s, hS, least⟩
    rw [ll] at hi
    have hi : 1 + i < I.length := by omega
    have more : (1 + i ∣ I.length → ¬ Rot I (1 + i)) → ∀ t, 0 < t → t ≤ i + 1 → t < I.length → t ∣ I.length → ¬ Rot I t := by
      intro h t h1 h2 h3 h4
      by_cases q : t = 1 + i
      · subst q
        exact h h4
      · exact least t h1 (by omega) h3 h4
    refine ⟨_, rfl, _, _, rfl, .inl (SqL.of hS), _, rfl, _, _, rfl, rfl, (by omega), rfl, _, rfl, ite3 (fun e => ?_) (fun e => ?_)⟩
    · rw [ll] at e
      have dv : 1 + i ∣ I.length := dvd_of (V.int.inj e)
      refine ⟨_, rfl, _, rfl, _, rfl, _, rfl, a, _, rfl, SqL.of hS, fun c nc => ?_⟩
      have e1 : cutV (I.map V.int) (some (1 + (i : Int))) none = (I.drop (1 + i)).map V.int := by
        rw [show (1 : Int) + (i : Int) = ((1 + i : Nat) : Int) by omega, cut_from, List.map_drop]
      have e2 : cutV (I.map V.int) none (some (1 + (i : Int))) = (I.take (1 + i)).map V.int := by
        rw [show (1 : Int) + (i : Int) = ((1 + i : Nat) : Int) by omega, cut_all, List.map_take]
      have s1 := same_upd (o := .lst (cutV (I.map V.int) (some (1 + (i : Int))) none)) nc
      refine ⟨_, rfl, _, rfl, _, rfl, a, _, rfl, SqL.of (s1 _ _ hS), fun d nd => ?_⟩
      have s2 := same_upd (o := .lst (cutV (I.map V.int) none (some (1 + (i : Int))))) nd
      refine ⟨_, _, _, _, rfl, rfl, s2 _ _ upd_same, upd_same, ?_, fun g ng => ?_⟩
      · rw [e1, e2, List.length_map, List.length_map, List.length_drop, List.length_take]
        exact Nat.le_trans (show I.length - (1 + i) + min (1 + i) I.length ≤ 2000 by omega) (by decide)
      rw [e1, e2] at *
      have s3 := same_upd (o := .lst ((I.drop (1 + i)).map V.int ++ (I.take (1 + i)).map V.int)) ng
      have sz := s1.trans (s2.trans s3)
      have hg : ∀ H9 : Hp, H9 = upd (upd (upd H' c (.lst ((I.drop (1 + i)).map V.int))) d (.lst ((I.take (1 + i)).map V.int))) g (.lst ((I.drop (1 + i)).map V.int ++ (I.take (1 + i)).map V.int)) → H9 g = some (.lst ((I.drop (1 + i) ++ I.take (1 + i)).map V.int)) := by
        rintro H9 rfl
        rw [upd_same, List.map_append]
      have hg := hg _ rfl
      generalize upd (upd (upd H' c (.lst ((I.drop (1 + i)).map V.int))) d (.lst ((I.take (1 + i)).map V.int))) g (.lst ((I.drop (1 + i)).map V.int ++ (I.take (1 + i)).map V.int)) = H9 at sz hg ⊢
      refine ⟨dataI I, dataI (I.drop (1 + i) ++ I.take (1 + i)), .lst (SqL.of (sz _ _ hS)) (dp_ints _), .lst (SqL.of hg) (dp_ints _), ints_shaped _, ints_shaped _, ?_⟩
      unfold dataI
      rw [ints_eqv]
      refine ⟨_, rfl, ite3 (fun r => ?_) (fun r => ?_)⟩
      · refine ⟨_, rfl, ?_⟩
        have z : (1 : Int) + (i : Int) = ((1 + i : Nat) : Int) := by omega
        rw [z]
        exact k H9 (1 + i) (s.trans sz) ⟨by omega, by omega, dv, fun _ => r, fun t h1 h2 h3 => least t h1 (by omega) (by omega) h3⟩
      · exact ⟨_, rfl, s.trans sz, sz _ _ hS, more fun _ => r⟩
    · exact iteF ⟨_, rfl, s, hS, more fun dv => absurd (congrArg V.int (by rw [ll]; exact of_dvd dv)) e⟩
  · rintro σ H' ⟨v, rfl, s, hS, least⟩
    rw [ll] at least
    refine ⟨_, rfl, _, _, rfl, .inl (SqL.of hS), ?_⟩
    rw [ll]
    exact k H' I.length s ⟨i0, Nat.le_refl _, Nat.dvd_refl _, fun h => absurd h (Nat.lt_irrefl _), fun t h1 h2 h3 => least t h1 (by omega) (by omega) h3⟩
end
end Sm

set_option Elab.async false
set_option linter.all false
set_option maxRecDepth 100000
set_option maxHeartbeats 16000000
namespace Sm
open PySem PySem.Spec PyProof.Rows L2
open C8 (pss_cut tCut)
def sp_shortest (K : PySem.W.Frag) : Sp := fun vs H Q _ => ∃ (a : Addr) (T : List Int) (p : Nat) (r : Int), vs = [.ref a, .int (p : Int), .int r] ∧ SA H a (T.map V.int) ∧ RuleOk T p r ∧ RB T p r ∧
  ∀ H' d' T' p' r', Same H H' → RuleAt H' d' T' p' r' → Cut T p r T' p' r' → Short T' p' r' → (∀ x, vl T' p' r' x = vl T p r x) → Q (.ref d') H'
abbrev sp_told := sp_shortest
section
variable {P : Program} {w : World} {K : PySem.W.Frag} {mg : Str → Option Value} {base : Heap}
abbrev s_shortest : Stmt := topS 11
abbrev N_shortest : List Str := ["table", "period", "rise", "tail", "steps", "turn", "gain", "count", "at"]
theorem sc_shortest : FnScope N_shortest ["table", "period", "rise"] (defScope s_shortest) := ⟨rfl, rfl, rfl, by decide +kernel, rfl, by decide +kernel, by decide +kernel⟩
theorem ok_shortest (T : Txt mg) (D : Df K mg "shortest" s_shortest ["table", "period", "rise"]) (C_cycle_of : Cal P w K mg base "cycle_of" ["items"] 1 (sp_cycle_of K)) : Cal P w K mg base "shortest" ["table", "period", "rise"] 2 (sp_shortest K) := by
  obtain ⟨f_cycle_of, fd_cycle_of, G_cycle_of, m_cycle_of, k_cycle_of, b_cycle_of⟩ := C_cycle_of
  refine D.cal sc_shortest (fun vs H Q E h => ?_) (fun f cdv A outer s H vs Q E hr h => ?_)
  · obtain ⟨a, T0, p, r, rfl, _⟩ := h
    rfl
  obtain ⟨a, T0, p, r, rfl, hS, o, b, k⟩ := h
  have p0 := o.p0
  have p1 := o.p1
  have bl := b.len
  have r0 := o.r0
  have ll := len_int T0
  have lm : (T0.map V.int).length = T0.length := List.length_map ..
  have lo : (((T0.map V.int).length : Nat) : Int) - (p : Int) = ((T0.length - p : Nat) : Int) := by rw [ll]; omega
  refine ⟨_, (pss_cons (ps_set (i := 3) sc_shortest.nd rfl (Or.inr rfl) (pe_slice sl_any (pv 0) (po_some (pe_op op_sub (pe_callB call_len_seq (by rfl) T.n_len (by decide +kernel) (pa_cons (pv 0) pa_nil)) (pv 1))) po_none))
    (pss_cons (ps_setLc (i := 4) (own := [("at", 8)]) (g := gName 8) (tt := tYes) rfl sc_shortest.nd rfl rfl (sw_true rfl rfl rfl (by decide +kernel)) (pi_range1 (by rfl) T.n_range (pa_cons (pe_op op_sub (pv 1) pe_int) pa_nil)) (blkOk_by (own := [("at", 8)]) (N := N_shortest) (sc := defScope s_shortest) (by decide +kernel)) (fun _ _ _ _ _ => pg_name (i := 8) sc_shortest.nd rfl (Or.inl rfl)) (fun _ _ _ _ _ => pts_nil) (fun _ _ _ _ _ => (pe_op op_sub (pe_ix (show IxR _ (rIx K) from ix_seq) (pv 3) (pe_op op_add (pv 8) pe_int) (fun _ _ => rfl)) (pe_ix (show IxR _ (rIx K) from ix_seq) (pv 3) (pv 8) (fun _ _ => rfl)))))
    (pss_cons (ps_set (i := 5) sc_shortest.nd rfl (Or.inl rfl) (pe_call G_cycle_of (hr.mono (by decide)) (by rfl) m_cycle_of k_cycle_of b_cycle_of .nil pass0 (pa_cons (pe_op op_cat (pv 4) (pe_lst (pa_cons (pe_op op_sub (pe_op op_add (pe_ix ix_seq (pv 3) pe_int (fun _ _ => rfl)) (pv 2)) (pe_ix ix_seq (pv 3) (pe_un un_neg pe_int) (fun _ _ => rfl))) pa_nil))) pa_nil)))
    (pss_cons (ps_set (i := 6) sc_shortest.nd rfl (Or.inl rfl) (pe_op op_fdivW (pe_op op_mul (pv 2) (pv 5)) (pv 1)))
    (pss_cons (ps_set (i := 7) sc_shortest.nd rfl (Or.inl rfl) (pe_callB call_len_seq (by rfl) T.n_len (by decide +kernel) (pa_cons (pv 0) pa_nil)))
    (pss_cons (ps_while PassesOwn.never (PW.pt (pw_and (pt_cmpR op_gt (pv 7) (pv 5) (nomark _)) (pw_and1 (pt_cmpR op_eq (pe_ix ix_seq (pv 0) (pe_op op_sub (pv 7) pe_int) (fun _ _ => rfl)) (pe_op op_add (pe_ix ix_seq (pv 0) (pe_op op_sub (pe_op op_sub (pv 7) pe_int) (pv 5)) (fun _ _ => rfl)) (pv 6)) (nomark _)))))
      (pss_one (ps_aug (i := 7) sc_shortest.nd rfl (Or.inl rfl) pe_int ip_sub)))
    (pss_one (ps_ret (pe_tup (pa_cons (pe_callTy call_tuple_of (by rfl) T.n_tuple (by decide +kernel) (pa_cons (pe_slice sl_any (pv 0) po_none (po_some (pv 7))) pa_nil)) (pa_cons (pv 5) (pa_cons (pv 6) pa_nil)))))))))))), ?_⟩
  refine ⟨_, rfl, _, rfl, _, _, rfl, hS.sq, _, rfl, _, _, rfl, rfl, _, rfl, ?_⟩
  rw [lo]
  refine sl_anyU hS fun c H1 s1 hc => ?_
  rw [cut_from, ← List.map_drop] at hc
  have tl : (T0.drop (T0.length - p)).length = p := by rw [List.length_drop]; omega
  have tg : ∀ i, i < p → ((T0.drop (T0.length - p)).map V.int)[i]? = some (.int (T0.getD (T0.length - p + i) 0)) := by
    intro i hi
    rw [List.getElem?_map, List.getElem?_drop, List.getElem?_eq_getElem (by omega), List.getD_eq_getElem?_getD, List.getElem?_eq_getElem (by omega)]
    rfl
  have cnt : ((p : Int) - 1).toNat = p - 1 := by omega
  refine ⟨_, rfl, _, _, rfl, rfl, _, rfl, (by omega), (by omega), fun D nD => ?_⟩
  rw [cnt]
  have sD := same_upd (o := .lst []) nD
  refine lc_range (lo := 0) (n := p - 1) (fun j H' => Same H1 H' ∧ H' D = some (.lst (((List.range j).map fun i => T0.getD (T0.length - p + (i + 1)) 0 - T0.getD (T0.length - p + i) 0).map V.int))) ⟨sD, upd_same⟩ ?_ ?_
  · rintro j H' hj ⟨s', hD⟩
    refine ⟨rfl, ?_⟩
    unfold tYes
    refine iteT ?_
    have e1 : (0 : Int) + (j : Int) + 1 = ((j + 1 : Nat) : Int) := by omega
    have e0 : (0 : Int) + (j : Int) = (j : Int) := Int.zero_add _
    refine ⟨_, rfl, _, rfl, _, _, rfl, rfl, ix_any (hc.same s') (at_of e1 (tg (j + 1) (by omega))) ⟨_, rfl, _, rfl, ix_any (hc.same s') (at_of e0 (tg j (by omega))) ⟨_, _, rfl, rfl, _, hD, ?_, fun b o e => ?_, ?_⟩⟩⟩
    · rw [List.length_map, List.length_map, List.length_range]
      exact Nat.lt_of_le_of_lt (show j ≤ 2000 by omega) (by decide)
    · rw [upd_ne (ne_of_none e nD)]
      exact s' _ _ e
    · rw [upd_same, List.range_succ, List.map_append, List.map_append]
      rfl
  rintro H2 ⟨s2, hD⟩
  have hc2 := hc.same s2
  have g0 := tg 0 p0
  have gl := tg (p - 1) (by omega)
  rw [show T0.length - p + (p - 1) = T0.length - 1 by omega] at gl
  refine ⟨_, rfl, _, rfl, ix_any hc2 (atI_nat (j := 0) g0) ⟨_, rfl, _, _, rfl, rfl, _, rfl, _, rfl, ix_any hc2 (atI_neg1 (by rw [List.length_map, tl]; exact p0) (by rw [List.length_map, tl]; exact gl)) ⟨_, _, rfl, rfl, (by show 1 ≤ sizeLine; decide), fun e ne => ?_⟩⟩⟩
  have se := same_upd (o := .lst [.int (T0.getD (T0.length - p + 0) 0 + r - T0.getD (T0.length - 1) 0)]) ne
  refine ⟨_, _, _, _, rfl, rfl, se _ _ hD, upd_same, ?_, fun g ng => ?_⟩
  · rw [List.length_map, List.length_map, List.length_range]
    exact Nat.le_trans (show p - 1 + 1 ≤ 2000 by omega) (by decide)
  have sg := same_upd (o := .lst ((((List.range (p - 1)).map fun i => T0.getD (T0.length - p + (i + 1)) 0 - T0.getD (T0.length - p + i) 0).map V.int) ++ [.int (T0.getD (T0.length - p + 0) 0 + r - T0.getD (T0.length - 1) 0)])) ng
  have hg : ∀ H9 : Hp, H9 g = some (.lst ((((List.range (p - 1)).map fun i => T0.getD (T0.length - p + (i + 1)) 0 - T0.getD (T0.length - p + i) 0).map V.int) ++ [.int (T0.getD (T0.length - p + 0) 0 + r - T0.getD (T0.length - 1) 0)])) → H9 g = some (.lst ((stepsOf T0 p r).map V.int)) := by
    intro H9 h
    rw [h, ← steps_split o.w, List.map_append]
    rfl
  have s3 := s1.trans (s2.trans (se.trans sg))
  refine ⟨g, stepsOf T0 p r, rfl, hg _ upd_same, by rw [stepsOf_len]; exact p0, by rw [stepsOf_len]; omega, fun H3 s s4 cyc => ?_⟩
  obtain ⟨s0, sp, sd, hs, hm⟩ := cyc_rule o cyc
  have sz := s3.trans s4
  have hS3 := hS.same sz
  refine ⟨_, rfl, _, rfl, _, _, rfl, rfl, b.mulR' o, _, rfl, _, _, rfl, rfl, b.div o, _, rfl, _, _, rfl, hS3.sq, ?_⟩
  have c0 : 0 ≤ r * (s : Int) / (p : Int) := Int.ediv_nonneg (Int.mul_nonneg r0 (by omega)) (by omega)
  have c1 : r * (s : Int) / (p : Int) ≤ r := by
    have h1 : r * (s : Int) ≤ r * (p : Int) := Int.mul_le_mul_of_nonneg_left (by omega) r0
    have h2 := Int.ediv_le_ediv (show (0 : Int) < (p : Int) by omega) h1
    rw [Int.mul_ediv_cancel _ (by omega)] at h2
    exact h2
  have all := rep_all o hs
  obtain ⟨cc, ec⟩ : ∃ cc, cc = r * (s : Int) / (p : Int) := ⟨_, rfl⟩
  rw [← ec] at c0 c1 all
  refine ⟨fun m σ H' => σ = [some (.ref a), some (.int (p : Int)), some (.int r), some (.ref c), some (.ref D), some (.int (s : Int)), some (.int cc), some (.int ((m + s : Nat) : Int)), none] ∧ H' = H3 ∧ m + s ≤ T0.length ∧ ∀ y, m ≤ y → vl T0 p r (y + s) = vl T0 p r y + cc, ⟨T0.length - s, ?_, rfl, by omega, fun y hy => all y (by omega)⟩, ?_⟩
  · rw [ec, show T0.length - s + s = T0.length by omega, ← ll]
    rfl
  rintro m σ H' ⟨rfl, rfl, al, ha⟩
  have fin : (m = 0 ∨ vl T0 p r (m - 1 + s) ≠ T0.getD (m - 1) 0 + cc) → ∀ (H5 : Hp) (t' : Addr), Same H' H5 → H5 t' = some (.tup ((T0.take (m + s)).map V.int)) → ∀ q, H5 q = none → Q (.ref q) (upd H5 q (.tup [.ref t', .int (s : Int), .int cc])) := by
    intro st H5 t' sm h5 q nq
    have sq := same_upd (o := .tup [.ref t', .int (s : Int), .int cc]) nq
    have am : m ≤ T0.length - p := by
      rcases Nat.lt_or_ge (T0.length - p) m with w | w
      · exfalso
        rcases st with z | z
        · omega
        · apply z
          rw [all (m - 1) (by omega), vl_lt (by omega)]
      · exact w
    refine k _ q (T0.take (m + s)) s cc (sz.trans (sm.trans sq)) ⟨t', upd_same, sq _ _ h5⟩ ⟨?_, sp, c1, fun i hi => ?_⟩ (cut_short o s0 sd am c0 ha hm st) (cut_vl s0 (by omega) ha)
    · rw [List.length_take]
      omega
    · rw [List.length_take] at hi
      exact getD_take (by omega)
  have cx : cutV (T0.map V.int) none (some ((m + s : Nat) : Int)) = (T0.take (m + s)).map V.int := by rw [cut_all, List.map_take]
  refine ⟨_, rfl, _, rfl, _, _, rfl, rfl, _, rfl, ?_⟩
  by_cases e : ((m + s : Nat) : Int) > (s : Int)
  · have e1 : ((m + s : Nat) : Int) - 1 = ((m + s - 1 : Nat) : Int) := by omega
    have e2 : ((m + s : Nat) : Int) - 1 - (s : Int) = ((m - 1 : Nat) : Int) := by omega
    refine iteP e ⟨_, rfl, _, rfl, _, _, rfl, rfl, ix_any hS3 (at_of e1 (get_int (by omega))) ⟨_, rfl, _, rfl, _, _, rfl, rfl, _, rfl, _, _, rfl, rfl, ix_any hS3 (at_of e2 (get_int (by omega))) ⟨_, rfl, _, _, rfl, rfl, rfl, _, rfl, ?_⟩⟩⟩
    have e4 : vl T0 p r (m - 1 + s) = T0.getD (m + s - 1) 0 := by rw [show m - 1 + s = m + s - 1 by omega, vl_lt (by omega)]
    by_cases e3 : T0.getD (m + s - 1) 0 = T0.getD (m - 1) 0 + cc
    · refine iteP (congrArg V.int e3) ⟨fun σ H'' => σ = [some (.ref a), some (.int (p : Int)), some (.int r), some (.ref c), some (.ref D), some (.int (s : Int)), some (.int cc), some (.int ((m - 1 + s : Nat) : Int)), none] ∧ H'' = H' ∧ m - 1 + s ≤ T0.length ∧ ∀ y, m - 1 ≤ y → vl T0 p r (y + s) = vl T0 p r y + cc, fun σ' H3 hw => ⟨m - 1, by omega, hw⟩, ?_⟩
      have e5 : ((m + s : Nat) : Int) - 1 = ((m - 1 + s : Nat) : Int) := by omega
      refine ⟨_, rfl, _, _, rfl, rfl, ⟨by rw [← e5]; rfl, rfl, by omega, fun y hy => ?_⟩⟩
      by_cases q : y = m - 1
      · rw [q, e4, e3, vl_lt (by omega)]
      · exact ha y (by omega)
    · refine iteN (fun q => e3 (V.int.inj q)) ?_
      refine ⟨_, rfl, _, rfl, _, rfl, sl_anyU hS3 fun g H5 s5 hg => ?_⟩
      rw [cx] at hg
      rcases hg with hg | hg
      · refine ⟨_, _, rfl, .inl ⟨SqL.of hg, fun t' nt => ⟨_, rfl, _, rfl, (by show 3 ≤ sizeLine; decide), fun q nq => ?_⟩⟩⟩
        exact fin (.inr (by rw [e4]; exact e3)) _ t' (s5.trans (same_upd nt)) upd_same q nq
      · refine ⟨_, _, rfl, .inr ⟨SqT.of hg, _, rfl, _, rfl, (by show 3 ≤ sizeLine; decide), fun q nq => ?_⟩⟩
        exact fin (.inr (by rw [e4]; exact e3)) _ g s5 hg q nq
  · refine iteN e (iteF ?_)
    refine ⟨_, rfl, _, rfl, _, rfl, sl_anyU hS3 fun g H5 s5 hg => ?_⟩
    rw [cx] at hg
    rcases hg with hg | hg
    · refine ⟨_, _, rfl, .inl ⟨SqL.of hg, fun t' nt => ⟨_, rfl, _, rfl, (by show 3 ≤ sizeLine; decide), fun q nq => ?_⟩⟩⟩
      exact fin (.inl (by omega)) _ t' (s5.trans (same_upd nt)) upd_same q nq
    · refine ⟨_, _, rfl, .inr ⟨SqT.of hg, _, rfl, _, rfl, (by show 3 ≤ sizeLine; decide), fun q nq => ?_⟩⟩
      exact fin (.inl (by omega)) _ g s5 hg q nq
abbrev s_told : Stmt := topS 13
abbrev N_told : List Str := ["table", "period", "rise", "rule"]
theorem sc_told : FnScope N_told ["table", "period", "rise"] (defScope s_told) := ⟨rfl, rfl, rfl, by decide +kernel, rfl, by decide +kernel, by decide +kernel⟩
theorem ok_told (T : Txt mg) (D : Df K mg "told" s_told ["table", "period", "rise"]) (C_check_told : Cal P w K mg base "check_told" ["number"] 1 (sp_check_told K)) (C_shortest : Cal P w K mg base "shortest" ["table", "period", "rise"] 2 (sp_shortest K)) : Cal P w K mg base "told" ["table", "period", "rise"] 3 (sp_told K) := by
  obtain ⟨f_check_told, fd_check_told, G_check_told, m_check_told, k_check_told, b_check_told⟩ := C_check_told
  obtain ⟨f_shortest, fd_shortest, G_shortest, m_shortest, k_shortest, b_shortest⟩ := C_shortest
  refine D.cal sc_told (fun vs H Q E h => ?_) (fun f cdv A outer s H vs Q E hr h => ?_)
  · obtain ⟨a, T0, p, r, rfl, _⟩ := h
    rfl
  obtain ⟨a, T0, p, r, rfl, hS, o, b, k⟩ := h
  have bl := b.len
  refine ⟨_, (pss_cons (ps_set (i := 3) sc_told.nd rfl (Or.inl rfl) (pe_call G_shortest (hr.mono (by decide)) (by rfl) m_shortest k_shortest b_shortest .nil pass0 (pa_cons (pv 0) (pa_cons (pv 1) (pa_cons (pv 2) pa_nil)))))
    (pss_cons (ps_expr (pe_call G_check_told (hr.mono (by decide)) (by rfl) m_check_told k_check_told b_check_told .nil pass0 (pa_cons (pe_callB call_len_seq (by rfl) T.n_len (by decide +kernel) (pa_cons (pe_ix ix_tup (pv 3) pe_int (fun _ _ => rfl)) pa_nil)) pa_nil)))
    (pss_one (ps_ret (pv 3))))), ?_⟩
  refine ⟨_, rfl, _, rfl, _, rfl, a, T0, p, r, rfl, hS, o, b, fun H1 d' T' p' r' s1 R cut sh hv => ?_⟩
  obtain ⟨t, hd, ht⟩ := id R
  have cl := cut.len
  exact ⟨_, rfl, _, _, _, _, rfl, rfl, SqT.of hd, atI_nat (j := 0) rfl, _, _, rfl, .inr (SqT.of ht), _, rfl, by rw [len_int]; omega, _, rfl, k H1 d' T' p' r' s1 R cut sh hv⟩
end
end Sm

set_option Elab.async false
set_option linter.all false
set_option maxRecDepth 100000
set_option maxHeartbeats 16000000
namespace Sm
open PySem PySem.Spec PyProof.Rows L2
open C8 (pss_cut tCut)
def sp_is_whole (_ : PySem.W.Frag) : Sp := fun vs H Q _ => ∃ i : Int, vs = [.int i] ∧ Q (.bl true) H
def sp_is_amount (_ : PySem.W.Frag) : Sp := fun vs H Q _ => ∃ i : Int, vs = [.int i] ∧ 0 ≤ i ∧ Q (.bl true) H
def sp_told_error (_ : PySem.W.Frag) : Sp := fun vs H Q _ => ∃ (a : Addr) (T : List Int) (p : Nat) (r : Int), vs = [.ref a, .int (p : Int), .int r] ∧ H a = some (.tup (T.map V.int)) ∧ RuleOk T p r ∧ RB T p r ∧ ∀ H', Same H H' → Q .non H'
def sp_rule_error (_ : PySem.W.Frag) : Sp := fun vs H Q _ => ∃ (d : Addr) (T : List Int) (p : Nat) (r : Int), vs = [.ref d] ∧ RuleAt H d T p r ∧ RB T p r ∧ Short T p r ∧ ∀ H', Same H H' → Q .non H'
section
variable {P : Program} {w : World} {K : PySem.W.Frag} {mg : Str → Option Value} {base : Heap}
abbrev s_is_whole : Stmt := topS 3
abbrev N_is_whole : List Str := ["value"]
theorem sc_is_whole : FnScope N_is_whole ["value"] (defScope s_is_whole) := ⟨rfl, rfl, rfl, by decide +kernel, rfl, by decide +kernel, by decide +kernel⟩
theorem ok_is_whole (T : Txt mg) (D : Df K mg "is_whole" s_is_whole ["value"]) : Cal P w K mg base "is_whole" ["value"] 1 (sp_is_whole K) := by
  refine D.cal sc_is_whole (fun vs H Q E h => ?_) (fun f cdv A outer s H vs Q E hr h => ?_)
  · obtain ⟨i, rfl, _⟩ := h
    rfl
  obtain ⟨i, rfl, k⟩ := h
  refine ⟨_, (pss_one (ps_ret (pe_and (pe_callB call_isi (by rfl) T.n_isinstance (by decide +kernel) (pa_cons (pv 0) (pa_cons (pe_bltn (v := .ty "int") (by rfl) T.n_int (by decide +kernel) rfl) pa_nil))) (pe_one (pe_not (pe_callB call_isi (by rfl) T.n_isinstance (by decide +kernel) (pa_cons (pv 0) (pa_cons (pe_bltn (v := .ty "bool") (by rfl) T.n_bool (by decide +kernel) rfl) pa_nil)))))))), ?_⟩
  refine ⟨_, rfl, _, _, _, _, _, rfl, .ty "int", .base (.int _), kit_ty (b := "int") (r := true) (by decide +kernel), _, rfl, iteT ?_⟩
  refine ⟨_, rfl, _, _, _, _, _, rfl, .ty "bool", .base (.int _), kit_ty (b := "bool") (r := false) (by decide +kernel), _, rfl, k⟩
abbrev s_is_amount : Stmt := topS 4
abbrev N_is_amount : List Str := ["value"]
theorem sc_is_amount : FnScope N_is_amount ["value"] (defScope s_is_amount) := ⟨rfl, rfl, rfl, by decide +kernel, rfl, by decide +kernel, by decide +kernel⟩
theorem ok_is_amount (T : Txt mg) (D : Df K mg "is_amount" s_is_amount ["value"]) (C_is_whole : Cal P w K mg base "is_whole" ["value"] 1 (sp_is_whole K)) : Cal P w K mg base "is_amount" ["value"] 2 (sp_is_amount K) := by
  obtain ⟨f_is_whole, fd_is_whole, G_is_whole, m_is_whole, k_is_whole, b_is_whole⟩ := C_is_whole
  refine D.cal sc_is_amount (fun vs H Q E h => ?_) (fun f cdv A outer s H vs Q E hr h => ?_)
  · obtain ⟨i, rfl, _⟩ := h
    rfl
  obtain ⟨i, rfl, i0, k⟩ := h
  refine ⟨_, (pss_one (ps_ret (pe_and (pe_call G_is_whole (hr.mono (by decide)) (by rfl) m_is_whole k_is_whole b_is_whole .nil pass0 (pa_cons (pv 0) pa_nil)) (pe_one (pe_cmpR op_ge (pv 0) pe_int (nomark _)))))), ?_⟩
  refine ⟨_, rfl, _, rfl, _, rfl, iteT ⟨_, rfl, _, _, rfl, rfl, ?_⟩⟩
  show Q (.bl (decide (i ≥ 0))) H
  rw [decide_eq_true (show i ≥ 0 from i0)]
  exact k
abbrev s_told_error : Stmt := topS 10
abbrev N_told_error : List Str := ["table", "period", "rise", "at", "worth"]
theorem sc_told_error : FnScope N_told_error ["table", "period", "rise"] (defScope s_told_error) := ⟨rfl, rfl, rfl, by decide +kernel, rfl, by decide +kernel, by decide +kernel⟩
theorem ok_told_error (T : Txt mg) (D : Df K mg "told_error" s_told_error ["table", "period", "rise"]) (C_is_amount : Cal P w K mg base "is_amount" ["value"] 2 (sp_is_amount K)) (C_is_whole : Cal P w K mg base "is_whole" ["value"] 1 (sp_is_whole K)) : Cal P w K mg base "told_error" ["table", "period", "rise"] 3 (sp_told_error K) := by
  obtain ⟨f_is_amount, fd_is_amount, G_is_amount, m_is_amount, k_is_amount, b_is_amount⟩ := C_is_amount
  obtain ⟨f_is_whole, fd_is_whole, G_is_whole, m_is_whole, k_is_whole, b_is_whole⟩ := C_is_whole
  refine D.cal sc_told_error (fun vs H Q E h => ?_) (fun f cdv A outer s H vs Q E hr h => ?_)
  · obtain ⟨a, T0, p, r, rfl, _⟩ := h
    rfl
  obtain ⟨a, T0, p, r, rfl, hS, o, b, k⟩ := h
  have p0 := o.p0
  have p1 := o.p1
  have r0 := o.r0
  have bl := b.len
  have ll := len_int T0
  have lm : (T0.map V.int).length = T0.length := List.length_map ..
  refine ⟨_, (pss_cons (ps_if (PW.pt (pw_or (pt_not (pt_val (pe_call G_is_whole (hr.mono (by decide)) (by rfl) m_is_whole k_is_whole b_is_whole .nil pass0 (pa_cons (pv 1) pa_nil)))) (pw_or (pt_not (pt_chain op_le op_le pe_int (pv 1) (pe_callB call_len_seq (by rfl) T.n_len (by decide +kernel) (pa_cons (pv 0) pa_nil)))) (pw_or1 (pt_not (pt_val (pe_call G_is_amount (hr.mono (by decide)) (by rfl) m_is_amount k_is_amount b_is_amount .nil pass0 (pa_cons (pv 2) pa_nil)))))))) (pss_one (ps_ret pe_str)) pss_nil)
    (pss_cons (ps_if (pt_not (pt_val (pe_callB (cr_all rfl) (by rfl) T.n_all (by decide +kernel) (pa_cons (pe_lc (own := [("worth", 4)]) (g := gName 4) (tt := tYes) rfl sc_told_error.nd (pi_tup (pv 0)) (blkOk_by (own := [("worth", 4)]) (N := N_told_error) (sc := defScope s_told_error) (by decide +kernel)) (fun _ _ _ _ _ => pg_name (i := 4) sc_told_error.nd rfl (Or.inl rfl)) (fun _ _ _ _ _ => pts_nil) (fun _ _ _ _ _ => (pe_call G_is_amount (hr.mono (by decide)) (by rfl) m_is_amount k_is_amount b_is_amount .nil pass0 (pa_cons (pv 4) pa_nil)))) pa_nil)))) (pss_one (ps_ret pe_str)) pss_nil)
    (pss_cons (ps_if (pt_val (pe_callB (cr_any rfl) (by rfl) T.n_any (by decide +kernel) (pa_cons (pe_lc (own := [("at", 3)]) (g := gName 3) (tt := tYes) rfl sc_told_error.nd (pi_range1 (by rfl) T.n_range (pa_cons (pe_op op_sub (pe_callB call_len_seq (by rfl) T.n_len (by decide +kernel) (pa_cons (pv 0) pa_nil)) pe_int) pa_nil)) (blkOk_by (own := [("at", 3)]) (N := N_told_error) (sc := defScope s_told_error) (by decide +kernel)) (fun _ _ _ _ _ => pg_name (i := 3) sc_told_error.nd rfl (Or.inl rfl)) (fun _ _ _ _ _ => pts_nil) (fun _ _ _ _ _ => (pe_cmpR op_gt (pe_ix (show IxR _ (rIxT K) from ix_tup) (pv 0) (pv 3) (fun _ _ => rfl)) (pe_ix (show IxR _ (rIxT K) from ix_tup) (pv 0) (pe_op op_add (pv 3) pe_int) (fun _ _ => rfl)) (nomark _)))) pa_nil))) (pss_one (ps_ret pe_str)) pss_nil)
    (pss_cons (ps_if (pt_cmpR op_gt (pe_ix ix_tup (pv 0) (pe_un un_neg pe_int) (fun _ _ => rfl)) (pe_op op_add (pe_ix ix_tup (pv 0) (pe_op op_sub (pe_callB call_len_seq (by rfl) T.n_len (by decide +kernel) (pa_cons (pv 0) pa_nil)) (pv 1)) (fun _ _ => rfl)) (pv 2)) (nomark _)) (pss_one (ps_ret pe_str)) pss_nil)
    (pss_one (ps_ret pe_non)))))), ?_⟩
  refine ⟨_, rfl, (p : Int), rfl, _, rfl, iteF ?_⟩
  refine ⟨_, rfl, _, _, rfl, rfl, _, rfl, iteP (show (1 : Int) ≤ (p : Int) by omega) ⟨_, rfl, _, _, rfl, .inr (SqT.of hS), _, _, rfl, rfl, _, rfl, iteNP (show (p : Int) ≤ (((T0.map V.int).length : Nat) : Int) by rw [ll]; omega) ?_⟩⟩
  refine ⟨_, rfl, r, rfl, r0, _, rfl, iteF ?_⟩
  -- all
  refine ⟨_, rfl, a, rfl, ⟨_, SqT.of hS⟩, fun D nD => ?_⟩
  have sD := same_upd (o := .lst []) nD
  refine lc_tup (K := K) (a := a) (xs := T0.map V.int) (fun j H' => Same H H' ∧ H' D = some (.lst ((List.replicate j true).map V.bl))) ⟨sD, upd_same⟩ (fun j H' _ h => SqT.of (h.1 _ _ hS)) ?_ ?_
  · rintro j x H' hx ⟨s', hD⟩
    have hj : j < T0.length := by
      have := (List.getElem?_eq_some_iff.mp hx).1
      rw [lm] at this
      exact this
    rw [get_int hj] at hx
    have hx := (Option.some.inj hx).symm
    subst hx
    refine ⟨rfl, ?_⟩
    unfold tYes
    refine iteT ?_
    refine ⟨_, rfl, _, rfl, o.nn j hj, _, hD, ?_, fun b o e => ?_, ?_⟩
    · rw [List.length_map, List.length_replicate]
      exact Nat.lt_of_le_of_lt (show j ≤ 2000 by omega) (by decide)
    · rw [upd_ne (ne_of_none e nD)]
      exact s' _ _ e
    · rw [upd_same, List.replicate_succ', List.map_append]
      rfl
  rintro H1 ⟨s1, hD⟩
  rw [lm] at hD
  refine ⟨D, _, rfl, SqL.of hD, _, rfl, ?_⟩
  rw [show (List.replicate T0.length true).all id = true by simp]
  refine iteF ?_
  -- any
  have hS1 := s1 _ _ hS
  refine ⟨_, rfl, _, _, rfl, .inr (SqT.of hS1), _, _, rfl, rfl, _, rfl, (by rw [ll]; omega), (by rw [ll]; omega), fun U nU => ?_⟩
  have cnt : ((((T0.map V.int).length : Nat) : Int) - 1).toNat = T0.length - 1 := by rw [ll]; omega
  rw [cnt]
  have sU := same_upd (o := .lst []) nU
  refine lc_range (lo := 0) (n := T0.length - 1) (fun j H' => Same H1 H' ∧ H' U = some (.lst ((List.replicate j false).map V.bl))) ⟨sU, upd_same⟩ ?_ ?_
  · rintro j H' hj ⟨s', hU⟩
    refine ⟨rfl, ?_⟩
    unfold tYes
    refine iteT ?_
    have m := o.mono j (by omega)
    refine ⟨_, rfl, _, rfl, _, _, _, _, rfl, rfl, SqT.of (s' _ _ hS1), at_of (j := j) (Int.zero_add _) (get_int (by omega)), _, rfl, _, rfl, _, _, rfl, rfl, _, _, _, _, rfl, rfl, SqT.of (s' _ _ hS1), at_of (j := j + 1) (by omega) (get_int (by omega)), _, _, rfl, rfl, _, hU, ?_, fun b o e => ?_, ?_⟩
    · rw [List.length_map, List.length_replicate]
      exact Nat.lt_of_le_of_lt (show j ≤ 2000 by omega) (by decide)
    · rw [upd_ne (ne_of_none e nU)]
      exact s' _ _ e
    · rw [upd_same, List.replicate_succ', List.map_append]
      show some (HO.lst (_ ++ [V.bl (decide (T0.getD j 0 > T0.getD (j + 1) 0))])) = _
      rw [decide_eq_false (by omega)]
      rfl
  rintro H2 ⟨s2, hU⟩
  refine ⟨U, _, rfl, SqL.of hU, _, rfl, ?_⟩
  rw [show (List.replicate (T0.length - 1) false).any id = false by simp]
  refine iteF ?_
  have hS2 := s2 _ _ hS1
  have wr := o.wrap
  have e1 : (((T0.map V.int).length : Nat) : Int) - (p : Int) = ((T0.length - p : Nat) : Int) := by rw [ll]; omega
  refine ⟨_, rfl, _, rfl, _, _, _, _, rfl, rfl, SqT.of hS2, last_int (by omega), _, rfl, _, rfl, _, _, rfl, .inr (SqT.of hS2), _, rfl, _, _, rfl, rfl, _, _, _, _, rfl, rfl, SqT.of hS2, at_of e1 (get_int (by omega)), _, rfl, _, _, rfl, rfl, _, _, rfl, rfl, _, rfl, iteN (by omega) ?_⟩
  exact k H2 (s1.trans s2)
abbrev s_rule_error : Stmt := topS 9
abbrev N_rule_error : List Str := ["value", "table", "period", "rise", "wrong"]
theorem sc_rule_error : FnScope N_rule_error ["value"] (defScope s_rule_error) := ⟨rfl, rfl, rfl, by decide +kernel, rfl, by decide +kernel, by decide +kernel⟩
theorem ok_rule_error (T : Txt mg) (D : Df K mg "rule_error" s_rule_error ["value"]) (C_shortest : Cal P w K mg base "shortest" ["table", "period", "rise"] 2 (sp_shortest K)) (C_told_error : Cal P w K mg base "told_error" ["table", "period", "rise"] 3 (sp_told_error K)) : Cal P w K mg base "rule_error" ["value"] 4 (sp_rule_error K) := by
  obtain ⟨f_shortest, fd_shortest, G_shortest, m_shortest, k_shortest, b_shortest⟩ := C_shortest
  obtain ⟨f_told_error, fd_told_error, G_told_error, m_told_error, k_told_error, b_told_error⟩ := C_told_error
  refine D.cal sc_rule_error (fun vs H Q E h => ?_) (fun f cdv A outer s H vs Q E hr h => ?_)
  · obtain ⟨d, T0, p, r, rfl, _⟩ := h
    rfl
  obtain ⟨d, T0, p, r, rfl, R, b, sh, k⟩ := h
  obtain ⟨t, hd, ht⟩ := id R
  have ll := len_int T0
  refine ⟨_, (pss_cons (ps_if (PW.pt (pw_or (pt_not (pt_val (pe_callB call_isi (by rfl) T.n_isinstance (by decide +kernel) (pa_cons (pv 0) (pa_cons (pe_bltn (v := .ty "tuple") (by rfl) T.n_tuple (by decide +kernel) rfl) pa_nil))))) (pw_or (pt_cmpR op_ne (pe_callB call_len_seq (by rfl) T.n_len (by decide +kernel) (pa_cons (pv 0) pa_nil)) pe_int (nomark _)) (pw_or1 (pt_not (pt_val (pe_callB call_isi (by rfl) T.n_isinstance (by decide +kernel) (pa_cons (pe_ix ix_tup (pv 0) pe_int (fun _ _ => rfl)) (pa_cons (pe_bltn (v := .ty "tuple") (by rfl) T.n_tuple (by decide +kernel) rfl) pa_nil))))))))) (pss_one (ps_ret pe_str)) pss_nil)
    (pss_cons (ps_asg (pv 0) (pg_tup (by rfl) (pgs_cons (pg_name (i := 1) sc_rule_error.nd rfl (Or.inl rfl)) (pgs_cons (pg_name (i := 2) sc_rule_error.nd rfl (Or.inl rfl)) (pgs_cons (pg_name (i := 3) sc_rule_error.nd rfl (Or.inl rfl)) pgs_nil)))))
    (pss_cons (ps_set (i := 4) sc_rule_error.nd rfl (Or.inl rfl) (pe_call G_told_error (hr.mono (by decide)) (by rfl) m_told_error k_told_error b_told_error .nil pass0 (pa_cons (pv 1) (pa_cons (pv 2) (pa_cons (pv 3) pa_nil)))))
    (pss_cons (ps_if (pt_cmpR op_notN (pv 4) pe_non (nomark _)) (pss_one (ps_ret (pv 4))) pss_nil)
    (pss_cons (ps_if (pt_cmpR op_lt (pe_callB call_len_seq (by rfl) T.n_len (by decide +kernel) (pa_cons (pe_ix ix_tup (pe_call G_shortest (hr.mono (by decide)) (by rfl) m_shortest k_shortest b_shortest .nil pass0 (pa_cons (pv 1) (pa_cons (pv 2) (pa_cons (pv 3) pa_nil)))) pe_int (fun _ _ => rfl)) pa_nil)) (pe_callB call_len_seq (by rfl) T.n_len (by decide +kernel) (pa_cons (pv 1) pa_nil)) (nomark _)) (pss_one (ps_ret pe_str)) pss_nil)
    (pss_one (ps_ret pe_non))))))), ?_⟩
  refine ⟨_, rfl, _, _, _, _, _, rfl, .ty "tuple", .base (.tup hd), kit_ty (b := "tuple") (r := true) (by decide +kernel), _, rfl, iteF ?_⟩
  refine ⟨_, rfl, _, _, rfl, .inr (SqT.of hd), rfl, _, rfl, iteNP rfl ?_⟩
  refine ⟨_, rfl, _, _, _, _, rfl, rfl, SqT.of hd, atI_nat (j := 0) rfl, _, _, _, _, _, rfl, .ty "tuple", .base (.tup ht), kit_ty (b := "tuple") (r := true) (by decide +kernel), _, rfl, iteF ?_⟩
  refine ⟨_, rfl, _, _, rfl, SqT.of hd, rfl, _, _, rfl, _, _, rfl, _, _, rfl, rfl, ?_⟩
  refine ⟨_, rfl, _, rfl, _, rfl, t, T0, p, r, rfl, ht, sh.ok, b, fun H1 s1 => ?_⟩
  refine ⟨_, rfl, rfl, _, rfl, iteNP rfl ?_⟩
  refine ⟨_, rfl, _, rfl, _, rfl, t, T0, p, r, rfl, .inr (s1 _ _ ht), sh.ok, b, fun H2 d' T' p' r' s2 R' cut sh' hv => ?_⟩
  obtain ⟨rfl, rfl, rfl⟩ := short_one sh' sh hv
  obtain ⟨t', hd', ht'⟩ := id R'
  refine ⟨_, _, _, _, rfl, rfl, SqT.of hd', atI_nat (j := 0) rfl, _, _, rfl, .inr (SqT.of ht'), _, rfl, _, _, rfl, .inr (SqT.of (s2 _ _ (s1 _ _ ht))), _, _, rfl, rfl, _, rfl, iteN (by omega) ?_⟩
  exact k H2 (s1.trans s2)
end
end Sm

set_option Elab.async false
set_option linter.all false
set_option maxRecDepth 100000
set_option maxHeartbeats 16000000
namespace Sm
open PySem PySem.Spec PyProof.Rows L2
open C8 (pss_cut tCut)
section
variable {X : Cx}
theorem cr_lcm : CallR X (.builtin "math.lcm") (fun vs H Q => ∃ a b : Nat, vs = [.int (a : Int), .int (b : Int)] ∧ a < 1000000 ∧ b < 1000000 ∧ Q (.int ((Nat.lcm a b : Nat) : Int)) H) := by
  intro pins s σ H vs us Q I r h
  obtain ⟨a, b, rfl, ha, hb, q⟩ := h
  obtain ⟨t, u, rfl⟩ := Vals.int2 r
  refine PySem.W.mc_lcm (by omega) (by omega) fun _ => ?_
  rw [Int.natAbs_natCast, Int.natAbs_natCast]
  exact ⟨.int _, H, I.tok _, ⟨_, rfl⟩, q⟩
end
def sp_use_rule (_ : PySem.W.Frag) : Sp := fun vs H Q _ => ∃ (d : Addr) (m : Nat) (num den least step : Int) (u : Option Int), vs = [.ref d] ∧ H d = some (.tup (deskV m num den least step u)) ∧ Dk m num den least step u ∧
  ∀ H' d' T' p' r', Same H H' → RuleAt H' d' T' p' r' → RB T' p' r' → Short T' p' r' → (∀ x : Nat, vl T' p' r' x = Fv m num den least step u (x : Int)) → Q (.ref d') H'
def sp_l_gives (_ : PySem.W.Frag) : Sp := fun vs H Q _ => ∃ (d : Addr) (x : Int) (m : Nat) (num den least step : Int) (u : Option Int), vs = [.ref d, .int x] ∧ H d = some (.tup (deskV m num den least step u)) ∧ Dk m num den least step u ∧
  (Tk least step u x → Q (.int (Gm m (num * x) den)) H) ∧ (¬ Tk least step u x → Q .non H)
def sp_l_most (_ : PySem.W.Frag) : Sp := fun vs H Q _ => ∃ (d : Addr) (x : Int) (m : Nat) (num den least step : Int) (u : Option Int), vs = [.ref d, .int x] ∧ H d = some (.tup (deskV m num den least step u)) ∧ Dk m num den least step u ∧ 0 ≤ x ∧
  ∀ H', Same H H' → Q (.int (Fv m num den least step u x)) H'
section
variable {P : Program} {w : World} {K : PySem.W.Frag} {mg : Str → Option Value} {base : Heap}
abbrev s_use_rule : Stmt := topS 22
abbrev N_use_rule : List Str := ["desk", "num", "den", "step", "most", "turn"]
theorem sc_use_rule : FnScope N_use_rule ["desk"] (defScope s_use_rule) := ⟨rfl, rfl, rfl, by decide +kernel, rfl, by decide +kernel, by decide +kernel⟩
theorem ok_use_rule (T : Txt mg) (D : Df K mg "use_rule" s_use_rule ["desk"]) (C_told : Cal P w K mg base "told" ["table", "period", "rise"] 3 (sp_told K)) (C_use_values : Cal P w K mg base "use_values" ["desk", "count"] 3 (sp_use_values K)) (C_first_taken : Cal P w K mg base "first_taken" ["desk"] 2 (sp_first_taken K)) : Cal P w K mg base "use_rule" ["desk"] 4 (sp_use_rule K) := by
  obtain ⟨f_told, fd_told, G_told, m_told, k_told, b_told⟩ := C_told
  obtain ⟨f_use_values, fd_use_values, G_use_values, m_use_values, k_use_values, b_use_values⟩ := C_use_values
  obtain ⟨f_first_taken, fd_first_taken, G_first_taken, m_first_taken, k_first_taken, b_first_taken⟩ := C_first_taken
  refine D.cal sc_use_rule (fun vs H Q E h => ?_) (fun f cdv A outer s H vs Q E hr h => ?_)
  · obtain ⟨d, m, num, den, least, step, u, rfl, _⟩ := h
    rfl
  obtain ⟨d, m, num, den, least, step, u, rfl, hd, o, k⟩ := h
  have n0 := o.n0
  have n1 := o.n1
  have d0 := o.d0
  have d1 := o.d1
  have l0 := o.l0
  have l1 := o.l1
  have s0 := o.s0
  have s1 := o.s1
  refine ⟨_, (pss_cons (ps_asg (pe_slice sl_tup (pv 0) (po_some pe_int) (po_some pe_int)) (pg_tup (by rfl) (pgs_cons (pg_name (i := 1) sc_use_rule.nd rfl (Or.inl rfl)) (pgs_cons (pg_name (i := 2) sc_use_rule.nd rfl (Or.inl rfl)) pgs_nil))))
    (pss_cons (ps_asg (pe_slice sl_tup (pv 0) (po_some pe_int) po_none) (pg_tup (by rfl) (pgs_cons (pg_name (i := 3) sc_use_rule.nd rfl (Or.inl rfl)) (pgs_cons (pg_name (i := 4) sc_use_rule.nd rfl (Or.inl rfl)) pgs_nil))))
    (pss_cons (ps_if (pt_cmpR op_notN (pv 4) pe_non (nomark _)) (pss_one (ps_ret (pe_call G_told (hr.mono (by decide)) (by rfl) m_told k_told b_told .nil pass0 (pa_cons (pe_call G_use_values (hr.mono (by decide)) (by rfl) m_use_values k_use_values b_use_values .nil pass0 (pa_cons (pv 0) (pa_cons (pe_op op_add (pv 4) pe_int) pa_nil))) (pa_cons pe_int (pa_cons pe_int pa_nil)))))) pss_nil)
    (pss_cons (ps_set (i := 5) sc_use_rule.nd rfl (Or.inl rfl) (pe_callBfun cr_lcm (by rfl) T.g_lcm (pa_cons (pv 3) (pa_cons (pv 2) pa_nil))))
    (pss_one (ps_ret (pe_call G_told (hr.mono (by decide)) (by rfl) m_told k_told b_told .nil pass0 (pa_cons (pe_call G_use_values (hr.mono (by decide)) (by rfl) m_use_values k_use_values b_use_values .nil pass0 (pa_cons (pv 0) (pa_cons (pe_op op_add (pe_call G_first_taken (hr.mono (by decide)) (by rfl) m_first_taken k_first_taken b_first_taken .nil pass0 (pa_cons (pv 0) pa_nil)) (pv 5)) pa_nil))) (pa_cons (pv 5) (pa_cons (pe_op op_fdivW (pe_op op_mul (pv 1) (pv 5)) (pv 2)) pa_nil)))))))))), ?_⟩
  refine ⟨_, rfl, _, rfl, _, rfl, d, _, rfl, SqT.of hd, (by show ¬ (2 = 0 ∧ 4 = 8); decide), fun p np => ?_⟩
  have z1 := same_upd (o := .tup (cutV (deskV m num den least step u) (some 2) (some 4))) np
  refine ⟨_, _, rfl, SqT.of upd_same, rfl, _, _, rfl, _, _, rfl, rfl, ?_⟩
  refine ⟨_, rfl, _, rfl, d, _, rfl, SqT.of (z1 _ _ hd), (by show ¬ (6 = 0 ∧ 8 = 8); decide), fun p2 np2 => ?_⟩
  have z2 := z1.trans (same_upd (o := .tup (cutV (deskV m num den least step u) (some 6) none)) np2)
  refine ⟨_, _, rfl, SqT.of upd_same, rfl, _, _, rfl, _, _, rfl, rfl, ?_⟩
  have hd2 := z2 _ _ hd
  cases u with
  | some v =>
    have v0 := o.u0 v rfl
    have v1 := o.u1 v rfl
    obtain ⟨ok, hv, top⟩ := use_rule_ok o (B := v.toNat) (t := 1) (R := 0) (by decide) (by decide) (by omega) (by decide) (fun x hx => by rw [Int.add_zero]; exact Fv_flat o rfl (by omega))
    refine ⟨_, rfl, rfl, _, rfl, iteNN (fun q => nomatch q) ?_⟩
    refine ⟨_, rfl, _, rfl, _, _, rfl, rfl, d, v.toNat + 1, m, num, den, least, step, some v, congrArg (fun z => [V.ref d, V.int z]) (show v + 1 = ((v.toNat + 1 : Nat) : Int) by omega), hd2, o, by omega, fun H3 q s3 hq => ?_⟩
    refine ⟨q, _, 1, 0, rfl, .inl hq, ok, ⟨by rw [tab_len]; omega, by decide, fun i hi => ?_⟩, fun H4 d' T' p' r' s4 R cut sh hv' => ?_⟩
    · rw [tab_len] at hi
      have := top i hi
      omega
    · exact k H4 d' T' p' r' (z2.trans (s3.trans s4)) R (cut.rb ⟨by rw [tab_len]; omega, by decide, fun i hi => by rw [tab_len] at hi; have := top i hi; omega⟩) sh fun x => (hv' x).trans (hv x)
  | none =>
    refine ⟨_, rfl, rfl, _, rfl, iteNP rfl ?_⟩
    obtain ⟨sN, rfl⟩ : ∃ n : Nat, step = (n : Int) := ⟨step.toNat, by omega⟩
    obtain ⟨dN, rfl⟩ : ∃ n : Nat, den = (n : Int) := ⟨den.toNat, by omega⟩
    refine ⟨_, rfl, _, rfl, sN, dN, rfl, by omega, by omega, ?_⟩
    have t0 : 0 < Nat.lcm sN dN := Nat.lcm_pos (by omega) (by omega)
    have t1 : Nat.lcm sN dN ≤ 900 := by
      have h1 : Nat.lcm sN dN ≤ sN * dN := PySem.W.mc_lcm_le sN dN
      have h2 : sN * dN ≤ 30 * 30 := Nat.mul_le_mul (by omega) (by omega)
      omega
    have dv1 : (sN : Int) ∣ ((Nat.lcm sN dN : Nat) : Int) := Int.natCast_dvd_natCast.mpr (Nat.dvd_lcm_left ..)
    have dv2 : (dN : Int) ∣ ((Nat.lcm sN dN : Nat) : Int) := Int.natCast_dvd_natCast.mpr (Nat.dvd_lcm_right ..)
    generalize Nat.lcm sN dN = t at t0 t1 dv1 dv2 ⊢
    have f0 := fst_ge l0 s0
    have f1 := fst_le l0 s0
    have nt0 : 0 ≤ num * (t : Int) := Int.mul_nonneg n0 (by omega)
    have nt1 : num * (t : Int) ≤ 30 * 900 := Int.mul_le_mul n1 (by omega) (by omega) (by decide)
    have R0 : 0 ≤ num * (t : Int) / (dN : Int) := Int.ediv_nonneg nt0 (by omega)
    have R1 : num * (t : Int) / (dN : Int) ≤ 30000 := by
      have := Int.ediv_le_self (dN : Int) nt0
      omega
    obtain ⟨ok, hv, top⟩ := use_rule_ok o (B := (fst least (sN : Int)).toNat) (t := t) (R := num * (t : Int) / (dN : Int)) t0 R0 (by omega) R1 (fun x hx => Fv_turn o (by omega) (by omega) dv1 dv2)
    refine ⟨_, rfl, _, rfl, d, m, num, _, least, _, none, rfl, hd2, o, _, rfl, _, _, rfl, rfl, d, (fst least (sN : Int)).toNat + t, m, num, _, least, _, none, congrArg (fun z => [V.ref d, V.int z]) (show fst least (sN : Int) + (t : Int) = (((fst least (sN : Int)).toNat + t : Nat) : Int) by omega), hd2, o, by omega, fun H3 q s3 hq => ?_⟩
    refine ⟨_, rfl, _, rfl, _, rfl, _, _, rfl, rfl, .inl ⟨by omega, by omega⟩, _, rfl, _, _, rfl, rfl, o.div, ?_⟩
    refine ⟨q, _, t, _, rfl, .inl hq, ok, ⟨by rw [tab_len]; omega, by omega, fun i hi => ?_⟩, fun H4 d' T' p' r' s4 R cut sh hv' => ?_⟩
    · rw [tab_len] at hi
      have := top i hi
      omega
    · exact k H4 d' T' p' r' (z2.trans (s3.trans s4)) R (cut.rb ⟨by rw [tab_len]; omega, by omega, fun i hi => by rw [tab_len] at hi; have := top i hi; omega⟩) sh fun x => (hv' x).trans (hv x)
abbrev s_l_gives : Stmt := topS 27
abbrev N_l_gives : List Str := ["_law_desk", "_law_x", "_law_a", "_law_b", "_law_num", "_law_den", "_law_how", "_law_least", "_law_step", "_law_upto", "_law_whole", "_law_rest"]
theorem sc_l_gives : FnScope N_l_gives ["_law_desk", "_law_x"] (defScope s_l_gives) := ⟨rfl, rfl, rfl, by decide +kernel, rfl, by decide +kernel, by decide +kernel⟩
theorem ok_l_gives (T : Txt mg) (D : Df K mg "_law_gives" s_l_gives ["_law_desk", "_law_x"]) : Cal P w K mg base "_law_gives" ["_law_desk", "_law_x"] 1 (sp_l_gives K) := by
  refine D.cal sc_l_gives (fun vs H Q E h => ?_) (fun f cdv A outer s H vs Q E hr h => ?_)
  · obtain ⟨d, x, m, num, den, least, step, u, rfl, _⟩ := h
    rfl
  obtain ⟨d, x, m, num, den, least, step, u, rfl, hd, o, k1, k2⟩ := h
  refine ⟨_, (pss_cons (ps_asg (pv 0) (pg_tup (by rfl) (pgs_cons (pg_name (i := 2) sc_l_gives.nd rfl (Or.inl rfl)) (pgs_cons (pg_name (i := 3) sc_l_gives.nd rfl (Or.inl rfl)) (pgs_cons (pg_name (i := 4) sc_l_gives.nd rfl (Or.inl rfl)) (pgs_cons (pg_name (i := 5) sc_l_gives.nd rfl (Or.inl rfl)) (pgs_cons (pg_name (i := 6) sc_l_gives.nd rfl (Or.inl rfl)) (pgs_cons (pg_name (i := 7) sc_l_gives.nd rfl (Or.inl rfl)) (pgs_cons (pg_name (i := 8) sc_l_gives.nd rfl (Or.inl rfl)) (pgs_cons (pg_name (i := 9) sc_l_gives.nd rfl (Or.inl rfl)) pgs_nil))))))))))
    (pss_cons (ps_if (PW.pt (pw_or (pt_cmpR op_ne (pe_op op_modN (pe_callTy call_int1 (by rfl) T.n_int (by decide +kernel) (pa_cons (pv 1) pa_nil)) (pv 8)) pe_int (nomark _)) (pw_or (pt_cmpR op_lt (pv 1) (pv 7) (nomark _)) (pw_or1 (PW.pt (pw_and (pt_cmpR op_notN (pv 9) pe_non (nomark _)) (pw_and1 (pt_cmpR op_gt (pv 1) (pv 9) (nomark _))))))))) (pss_one (ps_ret pe_non)) pss_nil)
    (pss_cons (ps_par (i := 10) (j := 11) (by rfl) sc_l_gives.nd rfl rfl (by decide) rfl rfl (pa_cons (pe_op op_fdivW (pe_op op_mul (pv 4) (pv 1)) (pv 5)) (pa_cons (pe_op op_modN (pe_callTy call_int1 (by rfl) T.n_int (by decide +kernel) (pa_cons (pe_op op_mul (pv 4) (pv 1)) pa_nil)) (pv 5)) pa_nil)) (by rfl))
    (pss_cons (ps_if (pt_cmpR op_eq (pv 6) pe_str (nomark _)) (pss_one (ps_ret (pv 10))) pss_nil)
    (pss_one (ps_ret (pe_ifExp (pt_cmpR op_eq (pv 6) pe_str (nomark _)) (pe_op op_add (pv 10) (pe_callTy call_int1 (by rfl) T.n_int (by decide +kernel) (pa_cons (pe_cmpR op_gt (pv 11) pe_int (nomark _)) pa_nil))) (pe_op op_add (pv 10) (pe_callTy call_int1 (by rfl) T.n_int (by decide +kernel) (pa_cons (pe_cmpR op_ge (pe_op op_mul pe_int (pv 11)) (pv 5) (nomark _)) pa_nil)))))))))), ?_⟩
  have n0 := o.n0
  have n1 := o.n1
  have d0 := o.d0
  have d1 := o.d1
  have st0 := o.s0
  refine ⟨_, rfl, _, _, rfl, SqT.of hd, rfl, _, _, rfl, _, _, rfl, _, _, rfl, _, _, rfl, _, _, rfl, _, _, rfl, _, _, rfl, _, _, rfl, rfl, ?_⟩
  refine ⟨_, rfl, .inl ⟨_, rfl, _, rfl, _, _, rfl, rfl, (by omega), rfl, _, rfl, ?_⟩⟩
  by_cases hm : x % step = 0
  case neg =>
    exact iteNN (show ¬ V.int (x.fmod step) = V.int 0 from fun q => hm (by rw [← fmod_pos (show 0 < step by omega)]; exact V.int.inj q)) (k2 fun q => hm q.2.1)
  refine iteNP (show V.int (x.fmod step) = V.int 0 by rw [fmod_pos (by omega), hm]) ?_
  refine ⟨_, rfl, _, rfl, _, _, rfl, rfl, _, rfl, ?_⟩
  by_cases hx : x < least
  · exact iteP hx (k2 fun q => by have := q.1; omega)
  refine iteN hx ?_
  cases u with
  | none =>
    have k := k1 ⟨by omega, hm, fun v q => nomatch q⟩
    refine ⟨_, rfl, rfl, _, rfl, iteNP rfl ?_⟩
    refine iteF ?_
    rw [LG_eq o.hm (by omega)] at k
    refine ⟨_, rfl, _, rfl, _, _, rfl, rfl, .inl ⟨by omega, by omega⟩, _, rfl, _, _, rfl, rfl, o.div, _, rfl, _, rfl, _, _, rfl, rfl, .inl ⟨by omega, by omega⟩, .inl ⟨_, rfl, _, rfl, _, _, rfl, rfl, (by omega), _, _, rfl, ?_⟩⟩
    have fm : (num * x).fmod den = num * x % den := fmod_pos (by omega)
    refine ⟨_, rfl, rfl, _, rfl, ?_⟩
    refine ite3 (fun e => ?_) (fun e => ?_)
    · have e := (hs_down o.hm).mp e
      subst e
      exact ⟨_, rfl, k⟩
    have e : ¬ m = 0 := fun q => e ((hs_down o.hm).mpr q)
    refine ⟨_, rfl, rfl, _, rfl, ?_⟩
    refine ite3 (fun e1 => ?_) (fun e1 => ?_)
    · have e1 := (hs_up o.hm).mp e1
      subst e1
      refine ⟨_, rfl, _, rfl, _, _, rfl, rfl, .inr ⟨_, rfl, _, _, rfl, rfl, ?_⟩⟩
      have e3 : num * x / den + (if decide (0 < (num * x).fmod den) = true then 1 else 0) = LG 1 (num * x) den := by
        rw [fm]
        show _ = num * x / den + (if 0 < num * x % den then 1 else 0)
        simp only [decide_eq_true_eq]
      rw [← e3] at k
      exact k
    have e1 : ¬ m = 1 := fun q => e1 ((hs_up o.hm).mpr q)
    have e2 : m = 2 := by have := o.hm; omega
    subst e2
    refine ⟨_, rfl, _, rfl, _, _, rfl, rfl, .inl ⟨by omega, by omega⟩, _, rfl, _, _, rfl, rfl, .inr ⟨_, rfl, _, _, rfl, rfl, ?_⟩⟩
    have e3 : num * x / den + (if decide (den ≤ 2 * (num * x).fmod den) = true then 1 else 0) = LG 2 (num * x) den := by
      rw [fm]
      show _ = num * x / den + (if den ≤ 2 * (num * x % den) then 1 else 0)
      simp only [decide_eq_true_eq]
    rw [← e3] at k
    exact k
  | some v =>
    refine ⟨_, rfl, rfl, _, rfl, iteNN (fun q => nomatch q) ⟨_, rfl, _, rfl, _, _, rfl, rfl, _, rfl, ?_⟩⟩
    by_cases hv : x > v
    · exact iteP hv (k2 fun q => by have := q.2.2 v rfl; omega)
    refine iteN hv ?_
    have k := k1 ⟨by omega, hm, fun v' q => by cases q; omega⟩
    rw [LG_eq o.hm (by omega)] at k
    refine ⟨_, rfl, _, rfl, _, _, rfl, rfl, .inl ⟨by omega, by omega⟩, _, rfl, _, _, rfl, rfl, o.div, _, rfl, _, rfl, _, _, rfl, rfl, .inl ⟨by omega, by omega⟩, .inl ⟨_, rfl, _, rfl, _, _, rfl, rfl, (by omega), _, _, rfl, ?_⟩⟩
    have fm : (num * x).fmod den = num * x % den := fmod_pos (by omega)
    refine ⟨_, rfl, rfl, _, rfl, ?_⟩
    refine ite3 (fun e => ?_) (fun e => ?_)
    · have e := (hs_down o.hm).mp e
      subst e
      exact ⟨_, rfl, k⟩
    have e : ¬ m = 0 := fun q => e ((hs_down o.hm).mpr q)
    refine ⟨_, rfl, rfl, _, rfl, ?_⟩
    refine ite3 (fun e1 => ?_) (fun e1 => ?_)
    · have e1 := (hs_up o.hm).mp e1
      subst e1
      refine ⟨_, rfl, _, rfl, _, _, rfl, rfl, .inr ⟨_, rfl, _, _, rfl, rfl, ?_⟩⟩
      have e3 : num * x / den + (if decide (0 < (num * x).fmod den) = true then 1 else 0) = LG 1 (num * x) den := by
        rw [fm]
        show _ = num * x / den + (if 0 < num * x % den then 1 else 0)
        simp only [decide_eq_true_eq]
      rw [← e3] at k
      exact k
    have e1 : ¬ m = 1 := fun q => e1 ((hs_up o.hm).mpr q)
    have e2 : m = 2 := by have := o.hm; omega
    subst e2
    refine ⟨_, rfl, _, rfl, _, _, rfl, rfl, .inl ⟨by omega, by omega⟩, _, rfl, _, _, rfl, rfl, .inr ⟨_, rfl, _, _, rfl, rfl, ?_⟩⟩
    have e3 : num * x / den + (if decide (den ≤ 2 * (num * x).fmod den) = true then 1 else 0) = LG 2 (num * x) den := by
      rw [fm]
      show _ = num * x / den + (if den ≤ 2 * (num * x % den) then 1 else 0)
      simp only [decide_eq_true_eq]
    rw [← e3] at k
    exact k
end
end Sm

set_option Elab.async false
set_option linter.all false
set_option maxRecDepth 100000
set_option maxHeartbeats 16000000
namespace Sm
open PySem PySem.Spec PyProof.Rows L2
open C8 (pss_cut tCut)
def gvV (m : Nat) (num den least : Int) (y : Int) : V := if least ≤ y then .int (Gm m (num * y) den) else .non
def vI : V → Option Int
  | .int i => some i
  | _ => none
def fndL (m : Nat) (num den least s last : Int) (j : Nat) : List V := ((List.range j).filter fun k : Nat => decide (last ≥ (k : Int) * s)).map fun k : Nat => gvV m num den least (last - (k : Int) * s)
section
variable {m : Nat} {num den least s x : Int} {u : Option Int}
theorem most_le (o : Dk m num den least s u) {j : Nat} {y : Int} (h : y ∈ (fndL m num den least s (lastT s u x) j).filterMap vI) : y ≤ Fv m num den least s u x := by
  obtain ⟨v, hv, e⟩ := List.mem_filterMap.mp h
  obtain ⟨k, _, rfl⟩ := List.mem_map.mp hv
  have s0 := o.s0
  have ks : 0 ≤ (k : Int) * s := Int.mul_nonneg (by omega) (by omega)
  unfold gvV at e
  split at e
  · have e : Gm m (num * (lastT s u x - (k : Int) * s)) den = y := Option.some.inj e
    rw [← e]
    unfold Fv
    rw [if_pos (by omega)]
    exact G_mono (by have := o.d0; omega) (Int.mul_le_mul_of_nonneg_left (by omega) o.n0)
  · cases e
theorem most_mem (o : Dk m num den least s u) {j : Nat} (j0 : 0 < j) : Fv m num den least s u x = 0 ∨ Fv m num den least s u x ∈ (fndL m num den least s (lastT s u x) j).filterMap vI := by
  by_cases c : least ≤ lastT s u x
  · right
    have l0 := o.l0
    refine List.mem_filterMap.mpr ⟨gvV m num den least (lastT s u x), List.mem_map.mpr ⟨0, List.mem_filter.mpr ⟨List.mem_range.mpr j0, ?_⟩, ?_⟩, ?_⟩
    · apply decide_eq_true
      show lastT s u x ≥ ((0 : Nat) : Int) * s
      simp
      omega
    · show gvV m num den least (lastT s u x - ((0 : Nat) : Int) * s) = _
      simp
    · unfold gvV Fv
      rw [if_pos c, if_pos c]
      rfl
  · left
    unfold Fv
    rw [if_neg c]
end
section
variable {P : Program} {w : World} {K : PySem.W.Frag} {mg : Str → Option Value} {base : Heap}
abbrev s_l_most : Stmt := topS 28
abbrev N_l_most : List Str := ["_law_desk", "_law_x", "_law_last", "_law_found", "_law_k", "_law_y"]
theorem sc_l_most : FnScope N_l_most ["_law_desk", "_law_x"] (defScope s_l_most) := ⟨rfl, rfl, rfl, by decide +kernel, rfl, by decide +kernel, by decide +kernel⟩
theorem ok_l_most (T : Txt mg) (D : Df K mg "_law_most" s_l_most ["_law_desk", "_law_x"]) (C_l_gives : Cal P w K mg base "_law_gives" ["_law_desk", "_law_x"] 1 (sp_l_gives K)) : Cal P w K mg base "_law_most" ["_law_desk", "_law_x"] 2 (sp_l_most K) := by
  obtain ⟨f_l_gives, fd_l_gives, G_l_gives, m_l_gives, k_l_gives, b_l_gives⟩ := C_l_gives
  refine D.cal sc_l_most (fun vs H Q E h => ?_) (fun f cdv A outer s H vs Q E hr h => ?_)
  · obtain ⟨d, x, m, num, den, least, step, u, rfl, _⟩ := h
    rfl
  obtain ⟨d, x, m, num, den, least, step, u, rfl, hd, o, x0, k⟩ := h
  have l0 := o.l0
  have s0 := o.s0
  have s1 := o.s1
  refine ⟨_, (pss_cut (ps_set (i := 2) sc_l_most.nd rfl (Or.inr rfl) (pe_ifExp (pt_cmpR op_isN (pe_ix ix_tup (pv 0) pe_int (fun _ _ => rfl)) pe_non (nomark _)) (pv 1) (pe_callB (call_min2 rfl) (by rfl) T.n_min (by decide +kernel) (pa_cons (pv 1) (pa_cons (pe_ix ix_tup (pv 0) pe_int (fun _ _ => rfl)) pa_nil)))))
    (pss_cut (ps_set (i := 2) sc_l_most.nd rfl (Or.inr rfl) (pe_op op_mul (pe_op op_fdivW (pe_callTy call_int1 (by rfl) T.n_int (by decide +kernel) (pa_cons (pv 2) pa_nil)) (pe_ix ix_tup (pv 0) pe_int (fun _ _ => rfl))) (pe_ix ix_tup (pv 0) pe_int (fun _ _ => rfl))))
    (pss_cons (ps_setLc (i := 3) (own := [("_law_k", 4)]) (g := gName 4) (tt := _) rfl sc_l_most.nd rfl rfl (sw_true rfl rfl rfl (by decide +kernel)) (pi_range1 (by rfl) T.n_range (pa_cons pe_int pa_nil)) (blkOk_by (own := [("_law_k", 4)]) (N := N_l_most) (sc := defScope s_l_most) (by decide +kernel)) (fun _ _ _ _ _ => pg_name (i := 4) sc_l_most.nd rfl (Or.inl rfl)) (fun _ _ _ _ _ => pts_one (pt_cmpR op_ge (pv 2) (pe_op op_mul (pv 4) (pe_ix (show IxR _ (rIxT K) from ix_tup) (pv 0) pe_int (fun _ _ => rfl))) (nomark _))) (fun _ _ _ _ _ => (pe_call G_l_gives (hr.mono (by decide)) (by rfl) m_l_gives k_l_gives b_l_gives .nil pass0 (pa_cons (pv 0) (pa_cons (pe_op op_sub (pv 2) (pe_op op_mul (pv 4) (pe_ix (show IxR _ (rIxT K) from ix_tup) (pv 0) pe_int (fun _ _ => rfl)))) pa_nil)))))
    (pss_one (ps_ret (pe_callB (cr_max rfl) (by rfl) T.n_max (by decide +kernel) (pa_cons (pe_op op_cat (pe_lst (pa_cons pe_int pa_nil)) (pe_lc (own := [("_law_y", 5)]) (g := gName 5) (tt := _) rfl sc_l_most.nd (pi_list (pv 3)) (blkOk_by (own := [("_law_y", 5)]) (N := N_l_most) (sc := defScope s_l_most) (by decide +kernel)) (fun _ _ _ _ _ => pg_name (i := 5) sc_l_most.nd rfl (Or.inl rfl)) (fun _ _ _ _ _ => pts_one (pt_cmpR op_notN (pv 5) pe_non (nomark _))) (fun _ _ _ _ _ => (pv 5)))) pa_nil))))))), ?_⟩
  refine ⟨fun σ H' => H' = H ∧ σ = [some (.ref d), some (.int x), some (.int (lim u x)), none, none, none], ?_, ?_⟩
  · cases u with
    | none => exact ⟨_, rfl, _, _, _, _, rfl, rfl, SqT.of hd, atI_nat (j := 7) rfl, rfl, _, rfl, iteP rfl ⟨_, rfl, rfl, rfl⟩⟩
    | some v => exact ⟨_, rfl, _, _, _, _, rfl, rfl, SqT.of hd, atI_nat (j := 7) rfl, rfl, _, rfl, iteN (fun q => nomatch q) ⟨_, rfl, _, rfl, _, _, _, _, rfl, rfl, SqT.of hd, atI_nat (j := 7) rfl, _, _, rfl, rfl, rfl⟩⟩
  rintro σ H0 ⟨rfl, rfl⟩
  refine ⟨fun σ H' => H' = H0 ∧ σ = [some (.ref d), some (.int x), some (.int (lastT step u x)), none, none, none], ⟨_, rfl, .inl ⟨_, rfl, _, rfl, _, _, _, _, rfl, rfl, SqT.of hd, atI_nat (j := 6) rfl, _, _, rfl, rfl, o.divS, _, rfl, _, _, _, _, rfl, rfl, SqT.of hd, atI_nat (j := 6) rfl, _, _, rfl, rfl, .inr ⟨by omega, by omega⟩, rfl, rfl⟩⟩, ?_⟩
  rintro σ H' ⟨rfl, rfl⟩
  obtain ⟨last, hlast⟩ : ∃ y, y = lastT step u x := ⟨_, rfl⟩
  rw [← hlast]
  have lm : last % step = 0 := by rw [hlast]; exact last_mod
  have ll : last ≤ lim u x := by rw [hlast]; exact last_le s0
  have tk : ∀ j : Nat, Tk least step u (last - (j : Int) * step) ↔ least ≤ last - (j : Int) * step := by
    intro j
    refine ⟨fun q => q.1, fun q => ⟨q, ?_, fun v hv => ?_⟩⟩
    · rw [Int.sub_mul_emod_self_right]
      exact lm
    · subst hv
      have : 0 ≤ (j : Int) * step := Int.mul_nonneg (by omega) (by omega)
      have : lim (some v) x ≤ v := by
        show (if v < x then v else x) ≤ v
        split <;> omega
      omega
  refine ⟨2, rfl, (by decide), (by decide), fun D nD => ?_⟩
  have sD := same_upd (o := .lst []) nD
  refine lc_range (lo := 0) (n := 2) (fun j H2 => Same H' H2 ∧ H2 D = some (.lst (fndL m num den least step last j))) ⟨sD, upd_same⟩ ?_ ?_
  · rintro j H2 hj ⟨s', hD⟩
    have e0 : (0 : Int) + (j : Int) = (j : Int) := Int.zero_add _
    have hd2 := s' _ _ hd
    refine ⟨rfl, ?_⟩
    refine ⟨_, rfl, _, rfl, _, rfl, _, _, _, _, rfl, rfl, SqT.of hd2, atI_nat (j := 6) rfl, _, _, rfl, rfl, .inr ⟨by omega, by omega⟩, _, _, rfl, rfl, _, rfl, ?_⟩
    rw [e0]
    have ex : fndL m num den least step last (j + 1) = fndL m num den least step last j ++ (if last ≥ (j : Int) * step then [gvV m num den least (last - (j : Int) * step)] else []) := by
      unfold fndL
      rw [List.range_succ, List.filter_append, List.map_append]
      congr 1
      by_cases c : last ≥ (j : Int) * step
      · rw [if_pos c, List.filter_cons_of_pos (by exact decide_eq_true c)]
        rfl
      · rw [if_neg c, List.filter_cons_of_neg (by rw [decide_eq_false c]; decide)]
        rfl
    have ln : (fndL m num den least step last j).length < sizeLine := by
      have : (fndL m num den least step last j).length ≤ j := by
        unfold fndL
        rw [List.length_map]
        exact Nat.le_trans (List.length_filter_le ..) (by rw [List.length_range]; exact Nat.le_refl _)
      exact Nat.lt_of_le_of_lt (show (fndL m num den least step last j).length ≤ 2 by omega) (by decide)
    by_cases c : last ≥ (j : Int) * step
    · rw [if_pos c] at ex
      refine iteP c ?_
      have app : ∀ v, v = gvV m num den least (last - (j : Int) * step) → ∃ acc, H2 D = some (.lst acc) ∧ acc.length < sizeLine ∧ Same H' (upd H2 D (.lst (acc ++ [v]))) ∧ upd H2 D (.lst (acc ++ [v])) D = some (.lst (fndL m num den least step last (j + 1))) := by
        rintro v rfl
        refine ⟨_, hD, ln, fun b o e => ?_, ?_⟩
        · rw [upd_ne (ne_of_none e nD)]
          exact s' _ _ e
        · rw [upd_same, ex]
      refine ⟨_, rfl, _, rfl, _, rfl, _, rfl, _, _, _, _, rfl, rfl, SqT.of hd2, atI_nat (j := 6) rfl, _, _, rfl, rfl, .inr ⟨by omega, by omega⟩, _, _, rfl, rfl, d, last - (j : Int) * step, m, num, den, least, step, u, rfl, hd2, o, fun q => app _ ?_, fun q => app _ ?_⟩
      · unfold gvV
        rw [if_pos ((tk j).mp q)]
      · unfold gvV
        rw [if_neg fun z => q ((tk j).mpr z)]
    · rw [if_neg c, List.append_nil] at ex
      exact iteN c ⟨s', by rw [ex]; exact hD⟩
  · rintro H2 ⟨s2, hD⟩
    refine ⟨(by show 1 ≤ sizeLine; decide), fun z nz => ?_⟩
    have sz := same_upd (o := .lst [.int 0]) nz
    have hDz := sz _ _ hD
    refine ⟨_, rfl, D, rfl, ⟨_, SqL.of hDz⟩, fun U nU => ?_⟩
    have sU := same_upd (o := .lst []) nU
    have hz : upd H2 z (.lst [.int 0]) z = some (.lst [.int 0]) := upd_same
    generalize upd H2 z (.lst [.int 0]) = HZ at sz hDz nU sU hz ⊢
    have xl : (fndL m num den least step last 2).length ≤ 2 := by
      unfold fndL
      rw [List.length_map]
      exact Nat.le_trans (List.length_filter_le ..) (by rw [List.length_range]; exact Nat.le_refl _)
    refine lc_list (K := K) (a := D) (xs := fndL m num den least step last 2) (fun j H3 => Same HZ H3 ∧ H3 U = some (.lst ((((fndL m num den least step last 2).take j).filterMap vI).map V.int))) ⟨sU, upd_same⟩ (fun j H3 _ h => SqL.of (h.1 _ _ hDz)) ?_ ?_
    · rintro j x1 H3 hx ⟨s3, hU⟩
      have tk1 : (fndL m num den least step last 2).take (j + 1) = (fndL m num den least step last 2).take j ++ [x1] := by
        rw [List.take_add_one, hx]
        rfl
      have ln : ((((fndL m num den least step last 2).take j).filterMap vI).map V.int).length < sizeLine := by
        rw [List.length_map]
        have := List.length_filterMap_le vI ((fndL m num den least step last 2).take j)
        rw [List.length_take] at this
        exact Nat.lt_of_le_of_lt (show _ ≤ 2 by omega) (by decide)
      refine ⟨rfl, ?_⟩
      obtain ⟨k0, _, hk⟩ := List.mem_map.mp (List.mem_of_getElem? hx)
      unfold gvV at hk
      split at hk
      · subst hk
        refine ⟨_, rfl, rfl, _, rfl, iteNN (fun q => nomatch q) ⟨_, rfl, _, hU, ln, fun b o e => ?_, ?_⟩⟩
        · rw [upd_ne (ne_of_none e nU)]
          exact s3 _ _ e
        · rw [upd_same, tk1, List.filterMap_append, List.map_append]
          rfl
      · subst hk
        refine ⟨_, rfl, rfl, _, rfl, iteNP rfl ⟨s3, ?_⟩⟩
        rw [hU, tk1, List.filterMap_append, List.map_append]
        show _ = some (HO.lst (_ ++ []))
        rw [List.append_nil]
    · rintro H3 ⟨s3, hU⟩
      rw [List.take_length] at hU
      have ln2 : ((fndL m num den least step last 2).filterMap vI).length ≤ 2 := Nat.le_trans (List.length_filterMap_le ..) xl
      refine ⟨_, _, _, _, rfl, rfl, s3 _ _ hz, hU, ?_, fun q nq => ?_⟩
      · rw [List.length_map]
        exact Nat.le_trans (show 1 + _ ≤ 3 by omega) (by decide)
      have sq := same_upd (o := .lst ([V.int 0] ++ ((fndL m num den least step last 2).filterMap vI).map V.int)) nq
      refine ⟨q, 0 :: (fndL m num den least step last 2).filterMap vI, rfl, SqL.of upd_same, by simp, fun mm hm hle => ?_⟩
      rw [hlast] at hm hle
      have e : mm = Fv m num den least step u x := by
        have nn := Fv_nn o x
        have up : mm ≤ Fv m num den least step u x := by
          rcases List.mem_cons.mp hm with rfl | hm
          · exact nn
          · exact most_le o hm
        have lo : Fv m num den least step u x ≤ mm := by
          rcases most_mem (x := x) o (show 0 < 2 by decide) with q | q
          · rw [q]
            exact hle 0 (List.mem_cons_self ..)
          · exact hle _ (List.mem_cons_of_mem _ q)
        omega
      rw [e]
      exact k _ (s2.trans (sz.trans (s3.trans sq)))
end
end Sm

set_option Elab.async false
set_option linter.all false
set_option maxRecDepth 100000
set_option maxHeartbeats 32000000
namespace Sm
open PySem PySem.Spec PyProof.Rows L2
/-! ### rules as data -/
def rD (T : List Int) (p : Nat) (r : Int) : PyData := .tuple [.tuple (T.map PyData.int), .int (p : Int), .int r]
theorem log_small {i : Int} (h0 : 0 ≤ i) (h1 : i ≤ 100000000000000000000) : i.natAbs.log2 < 1920 :=
  Nat.lt_of_lt_of_le (PySem.Flt.log2_lt_of (k := 310) (by decide) (by omega)) (by decide)
theorem RuleAt.dp {K : PySem.W.Frag} {H : Hp} {d : Addr} {T : List Int} {p : Nat} {r : Int} (R : RuleAt H d T p r) : Dp K H (.ref d) (rD T p r) := by
  obtain ⟨t, h1, h2⟩ := R
  exact .tup (SqT.of h1) (.cons (.tup (SqT.of h2) (dp_ints T)) (.cons (.int _) (.cons (.int _) .nil)))
/-- data that can be shown -/
structure Shw (d : PyData) : Prop where
  sh : PyData.showable d = true
  nd : PyData.hasDict d = false
  dep : d.depth ≤ 5
  len : d.shown.length ≤ 4000000
theorem mem_getD {T : List Int} {n : Int} (h : n ∈ T) : ∃ i, i < T.length ∧ T.getD i 0 = n := by
  obtain ⟨i, hi, e⟩ := List.mem_iff_getElem.mp h
  exact ⟨i, hi, by rw [List.getD_eq_getElem?_getD, List.getElem?_eq_getElem hi, e]; rfl⟩
theorem rD_shw {T : List Int} {p : Nat} {r : Int} (o : RuleOk T p r) (b : RB T p r) : Shw (rD T p r) := by
  have bl := b.len
  have p1 := o.p1
  have r0 := o.r0
  have r1 := b.r1
  have sm : ∀ n ∈ T, n.natAbs.log2 < 1920 := fun n hn => by
    obtain ⟨i, hi, rfl⟩ := mem_getD hn
    exact log_small (o.nn i hi) (b.top i hi)
  have sp : (p : Int).natAbs.log2 < 1920 := log_small (by omega) (by omega)
  have sr : r.natAbs.log2 < 1920 := log_small r0 (by omega)
  have lp := PyProof.Rows.int_text_len_1921 sp
  have lr := PyProof.Rows.int_text_len_1921 sr
  have dep := depth_ints T
  obtain ⟨s1, s2⟩ := shown_ints sm
  have t1 := PySem.tupleText_len_le (PyData.shownAll (T.map PyData.int))
  refine ⟨?_, ?_, ?_, ?_⟩
  · unfold rD
    simp only [PyData.showable, PyData.showableAll, showable_ints sm, decide_eq_true sp, decide_eq_true sr, Bool.and_self]
  · unfold rD
    simp only [PyData.hasDict, PyData.hasDictAll, hasDict_ints, Bool.or_self]
  · unfold rD
    simp only [PyData.depth, PyData.depthAll]
    omega
  · unfold rD
    simp only [PyData.shown, PyData.shownAll]
    have t2 := PySem.tupleText_len_le [tupleText (PyData.shownAll (T.map PyData.int)), Str.ofString (toString (p : Int)), Str.ofString (toString r)]
    simp only [List.map_cons, List.map_nil, List.sum_cons, List.sum_nil, List.length_cons, List.length_nil] at t2
    omega
theorem Shw.big {d : PyData} (h : Shw d) : PyData.showable d = true ∧ PyData.hasDict d = false ∧ d.depth ≤ 60 ∧ d.shown.length ≤ sizeLine := by
  have h1 := h.dep
  have h2 := h.len
  exact ⟨h.sh, h.nd, by omega, by rw [sizeLine_eq]; omega⟩
theorem log_great {i : Int} (h0 : 0 ≤ i) (h1 : i ≤ 30 * 10 ^ 39 + 1) : i.natAbs.log2 < 1920 :=
  Nat.lt_of_lt_of_le (PySem.Flt.log2_lt_of (k := 310) (by decide) (by omega)) (by decide)
def sp_law (K : PySem.W.Frag) : Sp := fun vs H Q _ => ∃ (a : Addr) (ns : List Int), vs = [.ref a] ∧ SqL K H a (ns.map V.int) ∧ ns.length ≤ 63 ∧ ∀ H', Q (.bl true) H'
theorem one_of2 {v : V} {r : Int} (h : v ∈ [V.int 1, V.int (1 + r)]) (r0 : 0 ≤ r) (r1 : r < 30) : ∃ s : Int, 1 ≤ s ∧ s ≤ 30 ∧ v = .int s := by
  rcases List.mem_cons.mp h with q | q
  · exact ⟨1, by decide, by decide, q⟩
  · exact ⟨1 + r, by omega, by omega, List.mem_singleton.mp q⟩
theorem one_of4 {v : V} {a r : Int} (h : v ∈ [V.non, V.non, V.int (a + r), V.int 1000]) (a1 : a ≤ 30) (r0 : 0 ≤ r) (r1 : r < 60) : ∃ u : Option Int, v = upV u ∧ (∀ w, u = some w → a ≤ w) ∧ ∀ w, u = some w → w ≤ 1000 := by
  simp only [List.mem_cons, List.not_mem_nil, or_false] at h
  rcases h with q | q | q | q
  · exact ⟨none, q, (fun w h => nomatch h), (fun w h => nomatch h)⟩
  · exact ⟨none, q, (fun w h => nomatch h), (fun w h => nomatch h)⟩
  · exact ⟨some (a + r), q, fun w h => by cases h; omega, fun w h => by cases h; omega⟩
  · exact ⟨some 1000, q, fun w h => by cases h; omega, fun w h => by cases h; omega⟩
section
variable {P : Program} {w : World} {K : PySem.W.Frag} {mg : Str → Option Value} {base : Heap}
abbrev s_law : Stmt := topS 29
abbrev N_law : List Str := ["_law_script", "_law_deck_here", "_law_turn", "_law_least", "_law_step", "_law_upto", "_law_rate", "_law_desk", "_law_rule", "_law_some", "_law_x", "_law_k"]
theorem sc_law : FnScope N_law ["_law_script"] (defScope s_law) := ⟨rfl, rfl, rfl, by decide +kernel, rfl, by decide +kernel, by decide +kernel⟩
theorem ok_lawG {f : Addr} {fd : FuncData} (T : Txt mg) (F : Fun K "law" "law" s_law f fd) (C_l_draw : Cal P w K mg base "_law_draw" ["_law_deck_here", "_law_many"] 1 (sp_l_draw K)) (C_value_of : Cal P w K mg base "value_of" ["rule", "x"] 1 (sp_value_of K)) (C_l_most : Cal P w K mg base "_law_most" ["_law_desk", "_law_x"] 2 (sp_l_most K)) (C_use_rule : Cal P w K mg base "use_rule" ["desk"] 4 (sp_use_rule K)) (C_rule_error : Cal P w K mg base "rule_error" ["value"] 4 (sp_rule_error K)) (C_l_one : Cal P w K mg base "_law_one" ["_law_deck_here", "_law_items"] 2 (sp_l_one K)) (C_l_deck : Cal P w K mg base "_law_deck" ["_law_script"] 1 (sp_l_deck K)) : FnG P w K mg base 5 f fd ["_law_script"] (sp_law K) := by
  obtain ⟨f_l_draw, fd_l_draw, G_l_draw, m_l_draw, k_l_draw, b_l_draw⟩ := C_l_draw
  obtain ⟨f_value_of, fd_value_of, G_value_of, m_value_of, k_value_of, b_value_of⟩ := C_value_of
  obtain ⟨f_l_most, fd_l_most, G_l_most, m_l_most, k_l_most, b_l_most⟩ := C_l_most
  obtain ⟨f_use_rule, fd_use_rule, G_use_rule, m_use_rule, k_use_rule, b_use_rule⟩ := C_use_rule
  obtain ⟨f_rule_error, fd_rule_error, G_rule_error, m_rule_error, k_rule_error, b_rule_error⟩ := C_rule_error
  obtain ⟨f_l_one, fd_l_one, G_l_one, m_l_one, k_l_one, b_l_one⟩ := C_l_one
  obtain ⟨f_l_deck, fd_l_deck, G_l_deck, m_l_deck, k_l_deck, b_l_deck⟩ := C_l_deck
  refine FnG.body F sc_law (fun vs H Q E h => ?_) (fun cdv A outer s H vs Q E gu hr h => ?_)
  · obtain ⟨a, ns, rfl, _⟩ := h
    rfl
  obtain ⟨a, ns, rfl, hS, hlen, kk⟩ := h
  refine ⟨_, (pss_cons (ps_set (i := 1) sc_law.nd rfl (Or.inl rfl) (pe_call G_l_deck (hr.mono (by decide)) (by rfl) m_l_deck k_l_deck b_l_deck .nil pass0 (pa_cons (pv 0) pa_nil)))
    (pss_cons (ps_for PassesOwn.never rfl (pi_range1 (by rfl) T.n_range (pa_cons pe_int pa_nil)) (pg_name (i := 2) sc_law.nd rfl (Or.inl rfl))
      (pss_cons (ps_par (i := 3) (j := 4) (by rfl) sc_law.nd rfl rfl (by decide) rfl rfl (pa_cons (pe_op op_add pe_int (pe_call G_l_draw (hr.mono (by decide)) (by rfl) m_l_draw k_l_draw b_l_draw .nil pass0 (pa_cons (pv 1) (pa_cons pe_int pa_nil)))) (pa_cons (pe_call G_l_one (hr.mono (by decide)) (by rfl) m_l_one k_l_one b_l_one .nil pass0 (pa_cons (pv 1) (pa_cons (pe_lst (pa_cons pe_int (pa_cons (pe_op op_add pe_int (pe_call G_l_draw (hr.mono (by decide)) (by rfl) m_l_draw k_l_draw b_l_draw .nil pass0 (pa_cons (pv 1) (pa_cons pe_int pa_nil)))) pa_nil))) pa_nil))) pa_nil)) (by rfl))
    (pss_cons (ps_set (i := 5) sc_law.nd rfl (Or.inl rfl) (pe_call G_l_one (hr.mono (by decide)) (by rfl) m_l_one k_l_one b_l_one .nil pass0 (pa_cons (pv 1) (pa_cons (pe_lst (pa_cons pe_non (pa_cons pe_non (pa_cons (pe_op op_add (pv 3) (pe_call G_l_draw (hr.mono (by decide)) (by rfl) m_l_draw k_l_draw b_l_draw .nil pass0 (pa_cons (pv 1) (pa_cons pe_int pa_nil)))) (pa_cons pe_int pa_nil))))) pa_nil))))
    (pss_cons (ps_set (i := 6) sc_law.nd rfl (Or.inl rfl) (pe_tup (pa_cons (pe_call G_l_draw (hr.mono (by decide)) (by rfl) m_l_draw k_l_draw b_l_draw .nil pass0 (pa_cons (pv 1) (pa_cons pe_int pa_nil))) (pa_cons (pe_call G_l_one (hr.mono (by decide)) (by rfl) m_l_one k_l_one b_l_one .nil pass0 (pa_cons (pv 1) (pa_cons (pe_lst (pa_cons pe_int (pa_cons (pe_op op_add pe_int (pe_call G_l_draw (hr.mono (by decide)) (by rfl) m_l_draw k_l_draw b_l_draw .nil pass0 (pa_cons (pv 1) (pa_cons pe_int pa_nil)))) pa_nil))) pa_nil))) pa_nil))))
    (pss_cons (ps_set (i := 7) sc_law.nd rfl (Or.inl rfl) (pe_op op_catT (pe_op op_catT (pe_tup (pa_cons pe_int (pa_cons pe_int pa_nil))) (pv 6)) (pe_tup (pa_cons (pe_call G_l_one (hr.mono (by decide)) (by rfl) m_l_one k_l_one b_l_one .nil pass0 (pa_cons (pv 1) (pa_cons (pe_lst (pa_cons pe_str (pa_cons pe_str (pa_cons pe_str pa_nil)))) pa_nil))) (pa_cons (pv 3) (pa_cons (pv 4) (pa_cons (pv 5) pa_nil)))))))
    (pss_cons (ps_set (i := 8) sc_law.nd rfl (Or.inl rfl) (pe_call G_use_rule (hr.mono (by decide)) (by rfl) m_use_rule k_use_rule b_use_rule .nil pass0 (pa_cons (pv 7) pa_nil)))
    (pss_cons (ps_if (PW.pt (pw_or (pt_cmpR op_notN (pe_call G_rule_error (hr.mono (by decide)) (by rfl) m_rule_error k_rule_error b_rule_error .nil pass0 (pa_cons (pv 8) pa_nil)) pe_non (nomark _)) (pw_or1 (pt_cmpR op_ne (pe_callB (call_repr_data gu ⟨_, hr⟩) (by rfl) T.n_repr (by decide +kernel) (pa_cons (pe_call G_use_rule (hr.mono (by decide)) (by rfl) m_use_rule k_use_rule b_use_rule .nil pass0 (pa_cons (pv 7) pa_nil)) pa_nil)) (pe_callB (call_repr_data gu ⟨_, hr⟩) (by rfl) T.n_repr (by decide +kernel) (pa_cons (pv 8) pa_nil)) (nomark _))))) (pss_one (ps_ret pe_bl)) pss_nil)
    (pss_cons (ps_set (i := 9) sc_law.nd rfl (Or.inl rfl) (pe_op op_cat (pe_op op_cat (pe_lc (own := [("_law_x", 10)]) (g := gName 10) (tt := tYes) rfl sc_law.nd (pi_range1 (by rfl) T.n_range (pa_cons pe_int pa_nil)) (blkOk_by (own := [("_law_x", 10)]) (N := N_law) (sc := defScope s_law) (by decide +kernel)) (fun _ _ _ _ _ => pg_name (i := 10) sc_law.nd rfl (Or.inl rfl)) (fun _ _ _ _ _ => pts_nil) (fun _ _ _ _ _ => (pv 10))) (pe_lc (own := [("_law_k", 11)]) (g := gName 11) (tt := tYes) rfl sc_law.nd (pi_range2 (by rfl) T.n_range (pa_cons (pe_un un_neg pe_int) (pa_cons pe_int pa_nil))) (blkOk_by (own := [("_law_k", 11)]) (N := N_law) (sc := defScope s_law) (by decide +kernel)) (fun _ _ _ _ _ => pg_name (i := 11) sc_law.nd rfl (Or.inl rfl)) (fun _ _ _ _ _ => pts_nil) (fun _ _ _ _ _ => (pe_op op_add pe_int (pv 11))))) (pe_lst (pa_cons (pe_call G_l_draw (hr.mono (by decide)) (by rfl) m_l_draw k_l_draw b_l_draw .nil pass0 (pa_cons (pv 1) (pa_cons (pe_op op_pow pe_int pe_int) pa_nil))) (pa_cons (pe_op op_pow pe_int pe_int) pa_nil)))))
    (pss_one (ps_for PassesOwn.never rfl (pi_list (pe_op op_cat (pv 9) (pe_lst (pa_cons (pe_op op_add pe_int (pe_call G_l_draw (hr.mono (by decide)) (by rfl) m_l_draw k_l_draw b_l_draw .nil pass0 (pa_cons (pv 1) (pa_cons pe_int pa_nil)))) pa_nil)))) (pg_name (i := 10) sc_law.nd rfl (Or.inl rfl))
      (pss_one (ps_if (pt_cmpR op_ne (pe_callB call_repr_some (by rfl) T.n_repr (by decide +kernel) (pa_cons (pe_call G_value_of (hr.mono (by decide)) (by rfl) m_value_of k_value_of b_value_of .nil pass0 (pa_cons (pv 8) (pa_cons (pv 10) pa_nil))) pa_nil)) (pe_callB call_repr_some (by rfl) T.n_repr (by decide +kernel) (pa_cons (pe_call G_l_most (hr.mono (by decide)) (by rfl) m_l_most k_l_most b_l_most .nil pass0 (pa_cons (pv 7) (pa_cons (pv 10) pa_nil))) pa_nil)) (nomark _)) (pss_one (ps_ret pe_bl)) pss_nil))))))))))))
    (pss_one (ps_ret pe_bl)))), ?_⟩
  refine ⟨_, rfl, a, ns, rfl, hS, hlen, fun H1 p l s1 D1 => ?_⟩
  refine ⟨10, rfl, (by decide), (by decide), for_range (lo := 0) (n := 10) (fun i σ H' => ∃ (n : Int) (v2 v3 v4 v5 v6 v7 v8 v9 v10 v11 : Option V), σ = [some (.ref a), some (.ref p), v2, v3, v4, v5, v6, v7, v8, v9, v10, v11] ∧ Deck H' p l n ∧ 0 ≤ n ∧ n ≤ 100 * (i : Int))
    ⟨0, none, none, none, none, none, none, none, none, none, none, rfl, D1, by omega, by omega⟩ ?_ ?_⟩
  · rintro i σ H2 hi ⟨n, v2, v3, v4, v5, v6, v7, v8, v9, v10, v11, rfl, D2, n0, n1⟩
    -- least, step
    refine ⟨_, rfl, p, l, n, 30, rfl, D2, n0, by omega, by omega, by omega, fun r1 H3 r10 r11 f3 D3 => ⟨_, _, rfl, rfl, ?_⟩⟩
    refine ⟨_, rfl, _, rfl, p, l, n + 1, 30, rfl, D3, by omega, by omega, by omega, by omega, fun r2 H4 r20 r21 f4 D4 => ⟨_, _, rfl, rfl, (by show 2 ≤ sizeLine; decide), fun b nb => ?_⟩⟩
    have sb := same_upd (o := .lst [.int 1, .int (1 + r2)]) nb
    refine ⟨p, l, b, _, _, rfl, D4.same sb, by omega, by omega, upd_same, (D4.lne nb).1, (D4.lne nb).2, (by show 0 < 2; decide), (by show 2 ≤ 1000; decide), fun sv H5 svm f5 D5 => ?_⟩
    obtain ⟨step, st0, st1, rfl⟩ := one_of2 svm r20 r21
    refine ⟨_, _, rfl, ?_⟩
    -- upto
    refine ⟨_, rfl, _, rfl, _, rfl, p, l, _, 60, rfl, D5, by omega, by omega, by omega, by omega, fun r3 H6 r30 r31 f6 D6 => ⟨_, _, rfl, rfl, (by show 4 ≤ sizeLine; decide), fun b2 nb2 => ?_⟩⟩
    have sb2 := same_upd (o := .lst [.non, .non, .int (1 + r1 + r3), .int 1000]) nb2
    refine ⟨p, l, b2, _, _, rfl, D6.same sb2, by omega, by omega, upd_same, (D6.lne nb2).1, (D6.lne nb2).2, (by show 0 < 4; decide), (by show 4 ≤ 1000; decide), fun uv H7 uvm f7 D7 => ?_⟩
    obtain ⟨u, rfl, u0, u1⟩ := one_of4 uvm (by omega) r30 r31
    -- rate
    refine ⟨_, rfl, p, l, _, 31, rfl, D7, by omega, by omega, by omega, by omega, fun num H8 num0 num1 f8 D8 => ?_⟩
    refine ⟨_, rfl, _, rfl, p, l, _, 30, rfl, D8, by omega, by omega, by omega, by omega, fun r4 H9 r40 r41 f9 D9 => ⟨_, _, rfl, rfl, (by show 2 ≤ sizeLine; decide), fun b3 nb3 => ?_⟩⟩
    have sb3 := same_upd (o := .lst [.int 1, .int (1 + r4)]) nb3
    refine ⟨p, l, b3, _, _, rfl, D9.same sb3, by omega, by omega, upd_same, (D9.lne nb3).1, (D9.lne nb3).2, (by show 0 < 2; decide), (by show 2 ≤ 1000; decide), fun dv H10 dvm f10 D10 => ?_⟩
    obtain ⟨den, den0, den1, rfl⟩ := one_of2 dvm r40 r41
    refine ⟨(by show 2 ≤ sizeLine; decide), fun t nt => ?_⟩
    have z1 := same_upd (o := .tup [.int num, .int den]) nt
    have D11 := D10.same z1
    -- desk
    refine ⟨(by show 2 ≤ sizeLine; decide), fun t1 nt1 => ?_⟩
    have z2 := same_upd (o := .tup [.int 0, .int 1]) nt1
    refine ⟨_, rfl, _, _, _, _, rfl, rfl, SqT.of upd_same, SqT.of (z2 _ _ upd_same), (fun q => nomatch q), (by show 4 ≤ sizeLine; decide), (fun q => nomatch q), fun _ t2 nt2 => ?_⟩
    have z3 := same_upd (o := .tup [.int 0, .int 1, .int num, .int den]) nt2
    have D12 := D11.same (z2.trans z3)
    refine ⟨_, rfl, (by show 3 ≤ sizeLine; decide), fun b4 nb4 => ?_⟩
    have sb4 := same_upd (o := .lst [.str (hs 0), .str (hs 1), .str (hs 2)]) nb4
    refine ⟨p, l, b4, _, _, rfl, D12.same sb4, by omega, by omega, upd_same, (D12.lne nb4).1, (D12.lne nb4).2, (by show 0 < 3; decide), (by show 3 ≤ 1000; decide), fun hv H13 hvm f13 D13 => ?_⟩
    obtain ⟨m, hm, rfl⟩ : ∃ m, m ≤ 2 ∧ hv = .str (hs m) := by
      have hvm : hv ∈ [V.str (hs 0), V.str (hs 1), V.str (hs 2)] := hvm
      rcases List.mem_cons.mp hvm with q | q
      · exact ⟨0, by decide, q⟩
      rcases List.mem_cons.mp q with q | q
      · exact ⟨1, by decide, q⟩
      · exact ⟨2, by decide, List.mem_singleton.mp q⟩
    have ht2 := f13.tup (D12.same sb4) (sb4 t2 _ (upd_same (o := .tup [.int 0, .int 1, .int num, .int den])))
    refine ⟨_, rfl, _, rfl, _, rfl, (by show 4 ≤ sizeLine; decide), fun t3 nt3 => ?_⟩
    have z4 := same_upd (o := .tup [.str (hs m), .int (1 + r1), .int step, upV u]) nt3
    refine ⟨_, _, _, _, rfl, rfl, SqT.of (z4 _ _ ht2), SqT.of upd_same, (fun q => nomatch q), (by show 8 ≤ sizeLine; decide), (fun q => nomatch q), fun _ d nd => ?_⟩
    have o : Dk m num den (1 + r1) step u := ⟨hm, num0, by omega, den0, den1, by omega, by omega, st0, st1, u0, u1⟩
    have z5 := same_upd (o := .tup (deskV m num den (1 + r1) step u)) nd
    have D14 := D13.same (z4.trans z5)
    have hd : upd (upd H13 t3 (.tup [.str (hs m), .int (1 + r1), .int step, upV u])) d (.tup (deskV m num den (1 + r1) step u)) d = some (.tup (deskV m num den (1 + r1) step u)) := upd_same
    clear z1 z2 z3 z4 z5
    -- rule
    refine ⟨_, rfl, d, m, num, den, 1 + r1, step, u, rfl, hd, o, fun H15 dr T p' r sr R rb sh hv => ?_⟩
    have hd15 := sr _ _ hd
    refine ⟨_, rfl, dr, T, p', r, rfl, R, rb, sh, fun H16 s16 => ⟨rfl, _, rfl, iteNP rfl ?_⟩⟩
    refine ⟨_, rfl, d, m, num, den, 1 + r1, step, u, rfl, s16 _ _ hd15, o, fun H17 dr2 T2 p2 r2' s17 R2 rb2 sh2 hv2 => ?_⟩
    obtain ⟨rfl, rfl, rfl⟩ := short_one sh2 sh fun x => (hv2 x).trans (hv x).symm
    obtain ⟨c1, c2, c3, c4⟩ := (rD_shw sh2.ok rb2).big
    refine ⟨dr2, rD T2 p2 r2', rfl, R2.dp, c1, c2, c3, c4, _, rfl, dr, rD T2 p2 r2', rfl, ((R.same s16).same s17).dp, c1, c2, c3, c4, rfl, _, rfl, iteNP rfl ?_⟩
    have s := sr.trans (s16.trans s17)
    have D17 := D14.same s
    have hd17 := s _ _ hd
    have R17 := (R.same s16).same s17
    -- some
    refine ⟨70, rfl, (by decide), (by decide), fun U1 nU1 => ?_⟩
    have y1 := same_upd (o := .lst []) nU1
    refine lc_range (lo := 0) (n := 70) (fun j H' => Same H17 H' ∧ H' U1 = some (.lst (((List.range j).map fun i : Nat => (0 : Int) + (i : Int)).map V.int))) ⟨y1, upd_same⟩ ?_ ?_
    · rintro j H' hj ⟨s', hU⟩
      refine ⟨rfl, ?_⟩
      unfold tYes
      refine iteT ?_
      refine ⟨_, rfl, _, hU, ?_, fun b o e => ?_, ?_⟩
      · rw [List.length_map, List.length_map, List.length_range]
        exact Nat.lt_of_le_of_lt (show j ≤ 2000 by omega) (by decide)
      · rw [upd_ne (ne_of_none e nU1)]
        exact s' _ _ e
      · rw [upd_same, List.range_succ, List.map_append, List.map_append]
        rfl
    rintro HA ⟨sA, hU1⟩
    refine ⟨_, rfl, _, _, rfl, ⟨by decide, by decide, by decide, by decide⟩, fun U2 nU2 => ?_⟩
    have y2 := same_upd (o := .lst []) nU2
    refine lc_range (lo := -3) (n := 7) (fun j H' => Same HA H' ∧ H' U2 = some (.lst (((List.range j).map fun i : Nat => (1000 : Int) + (-3 + (i : Int))).map V.int))) ⟨y2, upd_same⟩ ?_ ?_
    · rintro j H' hj ⟨s', hU⟩
      refine ⟨rfl, ?_⟩
      unfold tYes
      refine iteT ?_
      refine ⟨_, rfl, _, _, rfl, rfl, _, hU, ?_, fun b o e => ?_, ?_⟩
      · rw [List.length_map, List.length_map, List.length_range]
        exact Nat.lt_of_le_of_lt (show j ≤ 2000 by omega) (by decide)
      · rw [upd_ne (ne_of_none e nU2)]
        exact s' _ _ e
      · rw [upd_same, List.range_succ, List.map_append, List.map_append]
        rfl
    rintro HB ⟨sB, hU2⟩
    refine ⟨_, _, _, _, rfl, rfl, sB _ _ hU1, hU2, (by show 77 ≤ sizeLine; decide), fun q1 nq1 => ?_⟩
    have y3 := same_upd (o := .lst ((((List.range 70).map fun i : Nat => (0 : Int) + (i : Int)).map V.int) ++ (((List.range 7).map fun i : Nat => (1000 : Int) + (-3 + (i : Int))).map V.int))) nq1
    have hq1 : ∀ H9 : Hp, H9 q1 = some (.lst ((((List.range 70).map fun i : Nat => (0 : Int) + (i : Int)).map V.int) ++ (((List.range 7).map fun i : Nat => (1000 : Int) + (-3 + (i : Int))).map V.int))) → H9 q1 = some (.lst ((((List.range 70).map fun i : Nat => (0 : Int) + (i : Int)) ++ ((List.range 7).map fun i : Nat => (1000 : Int) + (-3 + (i : Int)))).map V.int)) := fun H9 h => by rw [h, List.map_append]
    have hq1 := hq1 _ (upd_same (H := HB))
    obtain ⟨n1', hn1, hl1⟩ : ∃ ns : List Int, ((List.range 70).map fun i : Nat => (0 : Int) + (i : Int)) ++ ((List.range 7).map fun i : Nat => (1000 : Int) + (-3 + (i : Int))) = ns ∧ ns.length ≤ 100 ∧ ∀ y ∈ ns, 0 ≤ y ∧ y ≤ 10 ^ 39 := by
      refine ⟨_, rfl, (by show 77 ≤ 100; decide), fun y hy => ?_⟩
      rcases List.mem_append.mp hy with hy | hy
      · obtain ⟨k, hk, rfl⟩ := List.mem_map.mp hy
        have := List.mem_range.mp hk
        omega
      · obtain ⟨k, hk, rfl⟩ := List.mem_map.mp hy
        have := List.mem_range.mp hk
        omega
    rw [hn1] at hq1
    have sC := sA.trans (sB.trans y3)
    have DC := D17.same sC
    have hdC := sC _ _ hd17
    have RC := R17.same sC
    refine ⟨_, rfl, _, _, rfl, rfl, ⟨by decide, by decide, by decide⟩, p, l, _, 10 ^ 12, rfl, DC, by omega, by omega, by decide, by decide, fun r5 HE r50 r51 fE DE => ⟨_, _, rfl, rfl, ⟨by decide, by decide, by decide⟩, (by show 2 ≤ sizeLine; decide), fun e1 ne1 => ?_⟩⟩
    have y4 := same_upd (o := .lst [.int r5, .int (10 ^ 39)]) ne1
    have q1n := (D17.same (sA.trans sB)).lne nq1
    have hq1E := y4 _ _ (fE _ _ q1n.1 q1n.2 hq1)
    have DE' := DE.same y4
    have hdE := y4 _ _ (fE.tup DC hdC)
    have RE := (RC.fr fE DC).same y4
    refine ⟨_, _, _, _, rfl, rfl, hq1E, upd_same, ?_, fun L nL => ?_⟩
    · rw [List.length_map]
      exact Nat.le_trans (show n1'.length + 2 ≤ 200 by omega) (by decide)
    have y5 := same_upd (o := .lst (n1'.map V.int ++ [.int r5, .int (10 ^ 39)])) nL
    have Ln := DE'.lne nL
    have hL : ∀ H9 : Hp, H9 L = some (.lst (n1'.map V.int ++ [.int r5, .int (10 ^ 39)])) → H9 L = some (.lst ((n1' ++ [r5, 10 ^ 39]).map V.int)) := fun H9 h => by rw [h, List.map_append]; rfl
    have hL := hL _ (upd_same (H := upd HE e1 (.lst [.int r5, .int (10 ^ 39)])))
    obtain ⟨n2', hn2, hl2⟩ : ∃ ns : List Int, n1' ++ [r5, 10 ^ 39] = ns ∧ ns.length ≤ 102 ∧ ∀ y ∈ ns, 0 ≤ y ∧ y ≤ 10 ^ 39 := by
      refine ⟨_, rfl, by rw [List.length_append]; show n1'.length + 2 ≤ 102; omega, fun y hy => ?_⟩
      rcases List.mem_append.mp hy with hy | hy
      · exact hl1.2 y hy
      · rcases List.mem_cons.mp hy with rfl | hy
        · omega
        · rw [List.mem_singleton.mp hy]
          omega
    rw [hn2] at hL
    have DF := DE'.same y5
    have hdF := y5 _ _ hdE
    have RF := RE.same y5
    refine ⟨_, rfl, _, rfl, p, l, _, 900, rfl, DF, by omega, by omega, by decide, by decide, fun r6 HG r60 r61 fG DG => ⟨_, _, rfl, rfl, (by show 1 ≤ sizeLine; decide), fun e2 ne2 => ?_⟩⟩
    have y6 := same_upd (o := .lst [.int (900 + r6)]) ne2
    have hLG := y6 _ _ (fG _ _ Ln.1 Ln.2 hL)
    have hdG := y6 _ _ (fG.tup DF hdF)
    have RG := (RF.fr fG DF).same y6
    have DG' := DG.same y6
    refine ⟨_, _, _, _, rfl, rfl, hLG, upd_same, ?_, fun M nM => ?_⟩
    · rw [List.length_map]
      exact Nat.le_trans (show n2'.length + 1 ≤ 200 by omega) (by decide)
    have y7 := same_upd (o := .lst (n2'.map V.int ++ [.int (900 + r6)])) nM
    have hM : ∀ H9 : Hp, H9 M = some (.lst (n2'.map V.int ++ [.int (900 + r6)])) → H9 M = some (.lst ((n2' ++ [900 + r6]).map V.int)) := fun H9 h => by rw [h, List.map_append]; rfl
    have hM := hM _ (upd_same (H := upd HG e2 (.lst [.int (900 + r6)])))
    obtain ⟨n3', hn3, hl3⟩ : ∃ ns : List Int, n2' ++ [900 + r6] = ns ∧ ∀ y ∈ ns, 0 ≤ y ∧ y ≤ 10 ^ 39 := by
      refine ⟨_, rfl, fun y hy => ?_⟩
      rcases List.mem_append.mp hy with hy | hy
      · exact hl2.2 y hy
      · rw [List.mem_singleton.mp hy]
        omega
    rw [hn3] at hM
    have DM := DG'.same y7
    have hdM := y7 _ _ hdG
    have RM := RG.same y7
    refine ⟨M, rfl, ⟨_, SqL.of hM⟩, for_list (K := K) (a := M) (xs := n3'.map V.int) (fun j σ H' => Same _ H' ∧ ∃ (w10 w11 : Option V), σ = [some (.ref a), some (.ref p), some (.int (0 + (i : Int))), some (.int (1 + r1)), some (.int step), some (upV u), some (.ref t), some (.ref d), some (.ref dr), some (.ref L), w10, w11])
      ⟨Same.refl _, _, _, rfl⟩ (fun j σ H' _ h => SqL.of (h.1 _ _ hM)) ?_ ?_⟩
    · rintro j x σ H' hx ⟨s', w10, w11, rfl⟩
      obtain ⟨y, hy, rfl⟩ := List.mem_map.mp (List.mem_of_getElem? hx)
      obtain ⟨y0, y1'⟩ := hl3 y hy
      obtain ⟨yN, rfl⟩ : ∃ k : Nat, y = (k : Int) := ⟨y.toNat, by omega⟩
      have f0 := Fv_nn o (yN : Int)
      have f1 := Fv_le o y0
      have lg : (Fv m num den (1 + r1) step u (yN : Int)).natAbs.log2 < 1920 := log_great f0 (by omega)
      have RI := RM.same s'
      have hdI := s' _ _ hdM
      have lg2 : (vl T2 p2 r2' yN).natAbs.log2 < 1920 := by rw [hv2]; exact lg
      refine ⟨_, rfl, _, rfl, dr, T2, p2, r2', yN, rfl, RI, sh2.ok, rb2, .inl ⟨_, rfl, lg2, _, rfl, _, rfl, d, yN, m, num, den, 1 + r1, step, u, rfl, hdI, o, y0, fun H'' s'' => .inl ⟨_, rfl, lg, rfl, _, rfl, iteNP (by rw [hv2]) ⟨s'.trans s'', _, _, rfl⟩⟩⟩⟩
    · rintro σ H' ⟨s', w10, w11, rfl⟩
      exact ⟨_, _, _, _, _, _, _, _, _, _, _, rfl, DM.same s', by omega, by omega⟩
  · rintro σ H' ⟨n, v2, v3, v4, v5, v6, v7, v8, v9, v10, v11, rfl, D2, n0, n1⟩
    exact kk _
end
end Sm

set_option Elab.async false
set_option linter.all false
set_option maxRecDepth 100000
set_option maxHeartbeats 16000000
namespace Sm
open PySem PySem.Spec PyProof.Rows L2
theorem all_mk {l : PySem.W.OpenLaw} {w : World} {K : PySem.W.Frag} {h : Heap} {mg : Str → Option Value} {fa : Addr} (X : K.In h) (G : h.Ns mainGlobals mg) (hfa : mg "law" = some (.ref fa))
    {F_is_whole : Addr} {od_is_whole an_is_whole : Option Addr} {sl_is_whole : Array (Option Value)} {oc_is_whole kV_is_whole dc_is_whole pm_is_whole cd_is_whole ct_is_whole : Value} (a_is_whole : PySem.W.nsIn K mainGlobals "is_whole" = some (some (.ref F_is_whole))) (l_is_whole : K.lookup F_is_whole = some ⟨oc_is_whole, od_is_whole, .func (PySem.W.fnOf "is_whole" "is_whole" (defArgs s_is_whole) (defBody s_is_whole) (defScope s_is_whole) .none kV_is_whole dc_is_whole pm_is_whole an_is_whole cd_is_whole ct_is_whole), sl_is_whole⟩) (c_is_whole : PySem.W.codeIn K cd_is_whole "is_whole" = true) (k_is_whole : PySem.W.keepIn K (.ref F_is_whole) = true)
    {F_is_amount : Addr} {od_is_amount an_is_amount : Option Addr} {sl_is_amount : Array (Option Value)} {oc_is_amount kV_is_amount dc_is_amount pm_is_amount cd_is_amount ct_is_amount : Value} (a_is_amount : PySem.W.nsIn K mainGlobals "is_amount" = some (some (.ref F_is_amount))) (l_is_amount : K.lookup F_is_amount = some ⟨oc_is_amount, od_is_amount, .func (PySem.W.fnOf "is_amount" "is_amount" (defArgs s_is_amount) (defBody s_is_amount) (defScope s_is_amount) .none kV_is_amount dc_is_amount pm_is_amount an_is_amount cd_is_amount ct_is_amount), sl_is_amount⟩) (c_is_amount : PySem.W.codeIn K cd_is_amount "is_amount" = true) (k_is_amount : PySem.W.keepIn K (.ref F_is_amount) = true)
    {F_rule_error : Addr} {od_rule_error an_rule_error : Option Addr} {sl_rule_error : Array (Option Value)} {oc_rule_error kV_rule_error dc_rule_error pm_rule_error cd_rule_error ct_rule_error : Value} (a_rule_error : PySem.W.nsIn K mainGlobals "rule_error" = some (some (.ref F_rule_error))) (l_rule_error : K.lookup F_rule_error = some ⟨oc_rule_error, od_rule_error, .func (PySem.W.fnOf "rule_error" "rule_error" (defArgs s_rule_error) (defBody s_rule_error) (defScope s_rule_error) .none kV_rule_error dc_rule_error pm_rule_error an_rule_error cd_rule_error ct_rule_error), sl_rule_error⟩) (c_rule_error : PySem.W.codeIn K cd_rule_error "rule_error" = true) (k_rule_error : PySem.W.keepIn K (.ref F_rule_error) = true)
    {F_told_error : Addr} {od_told_error an_told_error : Option Addr} {sl_told_error : Array (Option Value)} {oc_told_error kV_told_error dc_told_error pm_told_error cd_told_error ct_told_error : Value} (a_told_error : PySem.W.nsIn K mainGlobals "told_error" = some (some (.ref F_told_error))) (l_told_error : K.lookup F_told_error = some ⟨oc_told_error, od_told_error, .func (PySem.W.fnOf "told_error" "told_error" (defArgs s_told_error) (defBody s_told_error) (defScope s_told_error) .none kV_told_error dc_told_error pm_told_error an_told_error cd_told_error ct_told_error), sl_told_error⟩) (c_told_error : PySem.W.codeIn K cd_told_error "told_error" = true) (k_told_error : PySem.W.keepIn K (.ref F_told_error) = true)
    {F_shortest : Addr} {od_shortest an_shortest : Option Addr} {sl_shortest : Array (Option Value)} {oc_shortest kV_shortest dc_shortest pm_shortest cd_shortest ct_shortest : Value} (a_shortest : PySem.W.nsIn K mainGlobals "shortest" = some (some (.ref F_shortest))) (l_shortest : K.lookup F_shortest = some ⟨oc_shortest, od_shortest, .func (PySem.W.fnOf "shortest" "shortest" (defArgs s_shortest) (defBody s_shortest) (defScope s_shortest) .none kV_shortest dc_shortest pm_shortest an_shortest cd_shortest ct_shortest), sl_shortest⟩) (c_shortest : PySem.W.codeIn K cd_shortest "shortest" = true) (k_shortest : PySem.W.keepIn K (.ref F_shortest) = true)
    {F_cycle_of : Addr} {od_cycle_of an_cycle_of : Option Addr} {sl_cycle_of : Array (Option Value)} {oc_cycle_of kV_cycle_of dc_cycle_of pm_cycle_of cd_cycle_of ct_cycle_of : Value} (a_cycle_of : PySem.W.nsIn K mainGlobals "cycle_of" = some (some (.ref F_cycle_of))) (l_cycle_of : K.lookup F_cycle_of = some ⟨oc_cycle_of, od_cycle_of, .func (PySem.W.fnOf "cycle_of" "cycle_of" (defArgs s_cycle_of) (defBody s_cycle_of) (defScope s_cycle_of) .none kV_cycle_of dc_cycle_of pm_cycle_of an_cycle_of cd_cycle_of ct_cycle_of), sl_cycle_of⟩) (c_cycle_of : PySem.W.codeIn K cd_cycle_of "cycle_of" = true) (k_cycle_of : PySem.W.keepIn K (.ref F_cycle_of) = true)
    {F_told : Addr} {od_told an_told : Option Addr} {sl_told : Array (Option Value)} {oc_told kV_told dc_told pm_told cd_told ct_told : Value} (a_told : PySem.W.nsIn K mainGlobals "told" = some (some (.ref F_told))) (l_told : K.lookup F_told = some ⟨oc_told, od_told, .func (PySem.W.fnOf "told" "told" (defArgs s_told) (defBody s_told) (defScope s_told) .none kV_told dc_told pm_told an_told cd_told ct_told), sl_told⟩) (c_told : PySem.W.codeIn K cd_told "told" = true) (k_told : PySem.W.keepIn K (.ref F_told) = true)
    {F_check_told : Addr} {od_check_told an_check_told : Option Addr} {sl_check_told : Array (Option Value)} {oc_check_told kV_check_told dc_check_told pm_check_told cd_check_told ct_check_told : Value} (a_check_told : PySem.W.nsIn K mainGlobals "check_told" = some (some (.ref F_check_told))) (l_check_told : K.lookup F_check_told = some ⟨oc_check_told, od_check_told, .func (PySem.W.fnOf "check_told" "check_told" (defArgs s_check_told) (defBody s_check_told) (defScope s_check_told) .none kV_check_told dc_check_told pm_check_told an_check_told cd_check_told ct_check_told), sl_check_told⟩) (c_check_told : PySem.W.codeIn K cd_check_told "check_told" = true) (k_check_told : PySem.W.keepIn K (.ref F_check_told) = true)
    {F_value_of : Addr} {od_value_of an_value_of : Option Addr} {sl_value_of : Array (Option Value)} {oc_value_of kV_value_of dc_value_of pm_value_of cd_value_of ct_value_of : Value} (a_value_of : PySem.W.nsIn K mainGlobals "value_of" = some (some (.ref F_value_of))) (l_value_of : K.lookup F_value_of = some ⟨oc_value_of, od_value_of, .func (PySem.W.fnOf "value_of" "value_of" (defArgs s_value_of) (defBody s_value_of) (defScope s_value_of) .none kV_value_of dc_value_of pm_value_of an_value_of cd_value_of ct_value_of), sl_value_of⟩) (c_value_of : PySem.W.codeIn K cd_value_of "value_of" = true) (k_value_of : PySem.W.keepIn K (.ref F_value_of) = true)
    {F_takes : Addr} {od_takes an_takes : Option Addr} {sl_takes : Array (Option Value)} {oc_takes kV_takes dc_takes pm_takes cd_takes ct_takes : Value} (a_takes : PySem.W.nsIn K mainGlobals "takes" = some (some (.ref F_takes))) (l_takes : K.lookup F_takes = some ⟨oc_takes, od_takes, .func (PySem.W.fnOf "takes" "takes" (defArgs s_takes) (defBody s_takes) (defScope s_takes) .none kV_takes dc_takes pm_takes an_takes cd_takes ct_takes), sl_takes⟩) (c_takes : PySem.W.codeIn K cd_takes "takes" = true) (k_takes : PySem.W.keepIn K (.ref F_takes) = true)
    {F_gives : Addr} {od_gives an_gives : Option Addr} {sl_gives : Array (Option Value)} {oc_gives kV_gives dc_gives pm_gives cd_gives ct_gives : Value} (a_gives : PySem.W.nsIn K mainGlobals "gives" = some (some (.ref F_gives))) (l_gives : K.lookup F_gives = some ⟨oc_gives, od_gives, .func (PySem.W.fnOf "gives" "gives" (defArgs s_gives) (defBody s_gives) (defScope s_gives) .none kV_gives dc_gives pm_gives an_gives cd_gives ct_gives), sl_gives⟩) (c_gives : PySem.W.codeIn K cd_gives "gives" = true) (k_gives : PySem.W.keepIn K (.ref F_gives) = true)
    {F_first_taken : Addr} {od_first_taken an_first_taken : Option Addr} {sl_first_taken : Array (Option Value)} {oc_first_taken kV_first_taken dc_first_taken pm_first_taken cd_first_taken ct_first_taken : Value} (a_first_taken : PySem.W.nsIn K mainGlobals "first_taken" = some (some (.ref F_first_taken))) (l_first_taken : K.lookup F_first_taken = some ⟨oc_first_taken, od_first_taken, .func (PySem.W.fnOf "first_taken" "first_taken" (defArgs s_first_taken) (defBody s_first_taken) (defScope s_first_taken) .none kV_first_taken dc_first_taken pm_first_taken an_first_taken cd_first_taken ct_first_taken), sl_first_taken⟩) (c_first_taken : PySem.W.codeIn K cd_first_taken "first_taken" = true) (k_first_taken : PySem.W.keepIn K (.ref F_first_taken) = true)
    {F_up_to_multiple : Addr} {od_up_to_multiple an_up_to_multiple : Option Addr} {sl_up_to_multiple : Array (Option Value)} {oc_up_to_multiple kV_up_to_multiple dc_up_to_multiple pm_up_to_multiple cd_up_to_multiple ct_up_to_multiple : Value} (a_up_to_multiple : PySem.W.nsIn K mainGlobals "up_to_multiple" = some (some (.ref F_up_to_multiple))) (l_up_to_multiple : K.lookup F_up_to_multiple = some ⟨oc_up_to_multiple, od_up_to_multiple, .func (PySem.W.fnOf "up_to_multiple" "up_to_multiple" (defArgs s_up_to_multiple) (defBody s_up_to_multiple) (defScope s_up_to_multiple) .none kV_up_to_multiple dc_up_to_multiple pm_up_to_multiple an_up_to_multiple cd_up_to_multiple ct_up_to_multiple), sl_up_to_multiple⟩) (c_up_to_multiple : PySem.W.codeIn K cd_up_to_multiple "up_to_multiple" = true) (k_up_to_multiple : PySem.W.keepIn K (.ref F_up_to_multiple) = true)
    {F_use_values : Addr} {od_use_values an_use_values : Option Addr} {sl_use_values : Array (Option Value)} {oc_use_values kV_use_values dc_use_values pm_use_values cd_use_values ct_use_values : Value} (a_use_values : PySem.W.nsIn K mainGlobals "use_values" = some (some (.ref F_use_values))) (l_use_values : K.lookup F_use_values = some ⟨oc_use_values, od_use_values, .func (PySem.W.fnOf "use_values" "use_values" (defArgs s_use_values) (defBody s_use_values) (defScope s_use_values) .none kV_use_values dc_use_values pm_use_values an_use_values cd_use_values ct_use_values), sl_use_values⟩) (c_use_values : PySem.W.codeIn K cd_use_values "use_values" = true) (k_use_values : PySem.W.keepIn K (.ref F_use_values) = true)
    {F_use_rule : Addr} {od_use_rule an_use_rule : Option Addr} {sl_use_rule : Array (Option Value)} {oc_use_rule kV_use_rule dc_use_rule pm_use_rule cd_use_rule ct_use_rule : Value} (a_use_rule : PySem.W.nsIn K mainGlobals "use_rule" = some (some (.ref F_use_rule))) (l_use_rule : K.lookup F_use_rule = some ⟨oc_use_rule, od_use_rule, .func (PySem.W.fnOf "use_rule" "use_rule" (defArgs s_use_rule) (defBody s_use_rule) (defScope s_use_rule) .none kV_use_rule dc_use_rule pm_use_rule an_use_rule cd_use_rule ct_use_rule), sl_use_rule⟩) (c_use_rule : PySem.W.codeIn K cd_use_rule "use_rule" = true) (k_use_rule : PySem.W.keepIn K (.ref F_use_rule) = true)
    {F_l_deck : Addr} {od_l_deck an_l_deck : Option Addr} {sl_l_deck : Array (Option Value)} {oc_l_deck kV_l_deck dc_l_deck pm_l_deck cd_l_deck ct_l_deck : Value} (a_l_deck : PySem.W.nsIn K mainGlobals "_law_deck" = some (some (.ref F_l_deck))) (l_l_deck : K.lookup F_l_deck = some ⟨oc_l_deck, od_l_deck, .func (PySem.W.fnOf "_law_deck" "_law_deck" (defArgs s_l_deck) (defBody s_l_deck) (defScope s_l_deck) .none kV_l_deck dc_l_deck pm_l_deck an_l_deck cd_l_deck ct_l_deck), sl_l_deck⟩) (c_l_deck : PySem.W.codeIn K cd_l_deck "_law_deck" = true) (k_l_deck : PySem.W.keepIn K (.ref F_l_deck) = true)
    {F_l_draw : Addr} {od_l_draw an_l_draw : Option Addr} {sl_l_draw : Array (Option Value)} {oc_l_draw kV_l_draw dc_l_draw pm_l_draw cd_l_draw ct_l_draw : Value} (a_l_draw : PySem.W.nsIn K mainGlobals "_law_draw" = some (some (.ref F_l_draw))) (l_l_draw : K.lookup F_l_draw = some ⟨oc_l_draw, od_l_draw, .func (PySem.W.fnOf "_law_draw" "_law_draw" (defArgs s_l_draw) (defBody s_l_draw) (defScope s_l_draw) .none kV_l_draw dc_l_draw pm_l_draw an_l_draw cd_l_draw ct_l_draw), sl_l_draw⟩) (c_l_draw : PySem.W.codeIn K cd_l_draw "_law_draw" = true) (k_l_draw : PySem.W.keepIn K (.ref F_l_draw) = true)
    {F_l_one : Addr} {od_l_one an_l_one : Option Addr} {sl_l_one : Array (Option Value)} {oc_l_one kV_l_one dc_l_one pm_l_one cd_l_one ct_l_one : Value} (a_l_one : PySem.W.nsIn K mainGlobals "_law_one" = some (some (.ref F_l_one))) (l_l_one : K.lookup F_l_one = some ⟨oc_l_one, od_l_one, .func (PySem.W.fnOf "_law_one" "_law_one" (defArgs s_l_one) (defBody s_l_one) (defScope s_l_one) .none kV_l_one dc_l_one pm_l_one an_l_one cd_l_one ct_l_one), sl_l_one⟩) (c_l_one : PySem.W.codeIn K cd_l_one "_law_one" = true) (k_l_one : PySem.W.keepIn K (.ref F_l_one) = true)
    {F_l_gives : Addr} {od_l_gives an_l_gives : Option Addr} {sl_l_gives : Array (Option Value)} {oc_l_gives kV_l_gives dc_l_gives pm_l_gives cd_l_gives ct_l_gives : Value} (a_l_gives : PySem.W.nsIn K mainGlobals "_law_gives" = some (some (.ref F_l_gives))) (l_l_gives : K.lookup F_l_gives = some ⟨oc_l_gives, od_l_gives, .func (PySem.W.fnOf "_law_gives" "_law_gives" (defArgs s_l_gives) (defBody s_l_gives) (defScope s_l_gives) .none kV_l_gives dc_l_gives pm_l_gives an_l_gives cd_l_gives ct_l_gives), sl_l_gives⟩) (c_l_gives : PySem.W.codeIn K cd_l_gives "_law_gives" = true) (k_l_gives : PySem.W.keepIn K (.ref F_l_gives) = true)
    {F_l_most : Addr} {od_l_most an_l_most : Option Addr} {sl_l_most : Array (Option Value)} {oc_l_most kV_l_most dc_l_most pm_l_most cd_l_most ct_l_most : Value} (a_l_most : PySem.W.nsIn K mainGlobals "_law_most" = some (some (.ref F_l_most))) (l_l_most : K.lookup F_l_most = some ⟨oc_l_most, od_l_most, .func (PySem.W.fnOf "_law_most" "_law_most" (defArgs s_l_most) (defBody s_l_most) (defScope s_l_most) .none kV_l_most dc_l_most pm_l_most an_l_most cd_l_most ct_l_most), sl_l_most⟩) (c_l_most : PySem.W.codeIn K cd_l_most "_law_most" = true) (k_l_most : PySem.W.keepIn K (.ref F_l_most) = true)
    {F_law : Addr} {od_law an_law : Option Addr} {sl_law : Array (Option Value)} {oc_law kV_law dc_law pm_law cd_law ct_law : Value} (a_law : PySem.W.nsIn K mainGlobals "law" = some (some (.ref F_law))) (l_law : K.lookup F_law = some ⟨oc_law, od_law, .func (PySem.W.fnOf "law" "law" (defArgs s_law) (defBody s_law) (defScope s_law) .none kV_law dc_law pm_law an_law cd_law ct_law), sl_law⟩) (c_law : PySem.W.codeIn K cd_law "law" = true) (k_law : PySem.W.keepIn K (.ref F_law) = true)
    (z_abs : PySem.W.nsIn K mainGlobals "abs" = some none)
    (z_all : PySem.W.nsIn K mainGlobals "all" = some none)
    (z_any : PySem.W.nsIn K mainGlobals "any" = some none)
    (z_bool : PySem.W.nsIn K mainGlobals "bool" = some none)
    (z_int : PySem.W.nsIn K mainGlobals "int" = some none)
    (z_isinstance : PySem.W.nsIn K mainGlobals "isinstance" = some none)
    (z_len : PySem.W.nsIn K mainGlobals "len" = some none)
    (z_max : PySem.W.nsIn K mainGlobals "max" = some none)
    (z_min : PySem.W.nsIn K mainGlobals "min" = some none)
    (z_range : PySem.W.nsIn K mainGlobals "range" = some none)
    (z_repr : PySem.W.nsIn K mainGlobals "repr" = some none)
    (z_tuple : PySem.W.nsIn K mainGlobals "tuple" = some none)
    (g_lcm : PySem.W.nsIn K mainGlobals "lcm" = some (some (.builtin "math.lcm")))
    {t_MAX_TOLD : Tok} (g_MAX_TOLD : PySem.W.nsIn K mainGlobals "MAX_TOLD" = some (some (.int 5000 t_MAX_TOLD))) :
    ∃ fd : FuncData, (∀ (s : Shared) (v : Value), BindsTo s fd ⟨[v], []⟩ [("_law_script", v)]) ∧ ∀ base : Heap, K.In base → base.Ns mainGlobals mg → FnG l.prog w K mg base 5 fa fd ["_law_script"] (sp_law K) := by
  have e := hfa.symm.trans (PySem.W.mg_of X G a_law)
  cases e
  have T : Txt mg := ⟨PySem.W.mg_none_of X G z_abs, PySem.W.mg_none_of X G z_all, PySem.W.mg_none_of X G z_any, PySem.W.mg_none_of X G z_bool, PySem.W.mg_none_of X G z_int, PySem.W.mg_none_of X G z_isinstance, PySem.W.mg_none_of X G z_len, PySem.W.mg_none_of X G z_max, PySem.W.mg_none_of X G z_min, PySem.W.mg_none_of X G z_range, PySem.W.mg_none_of X G z_repr, PySem.W.mg_none_of X G z_tuple, PySem.W.mg_of X G g_lcm, ⟨_, PySem.W.mg_of X G g_MAX_TOLD⟩⟩
  have D_is_whole : Df K mg "is_whole" s_is_whole ["value"] := ⟨_, _, fun_mk (st := s_is_whole) l_is_whole c_is_whole k_is_whole, PySem.W.mg_of X G a_is_whole, (fun_mk (st := s_is_whole) l_is_whole c_is_whole k_is_whole).binds (ps := ["value"]) fun _ _ _ _ _ _ us hl => match us, hl with | [_], _ => rfl⟩
  have D_is_amount : Df K mg "is_amount" s_is_amount ["value"] := ⟨_, _, fun_mk (st := s_is_amount) l_is_amount c_is_amount k_is_amount, PySem.W.mg_of X G a_is_amount, (fun_mk (st := s_is_amount) l_is_amount c_is_amount k_is_amount).binds (ps := ["value"]) fun _ _ _ _ _ _ us hl => match us, hl with | [_], _ => rfl⟩
  have D_rule_error : Df K mg "rule_error" s_rule_error ["value"] := ⟨_, _, fun_mk (st := s_rule_error) l_rule_error c_rule_error k_rule_error, PySem.W.mg_of X G a_rule_error, (fun_mk (st := s_rule_error) l_rule_error c_rule_error k_rule_error).binds (ps := ["value"]) fun _ _ _ _ _ _ us hl => match us, hl with | [_], _ => rfl⟩
  have D_told_error : Df K mg "told_error" s_told_error ["table", "period", "rise"] := ⟨_, _, fun_mk (st := s_told_error) l_told_error c_told_error k_told_error, PySem.W.mg_of X G a_told_error, (fun_mk (st := s_told_error) l_told_error c_told_error k_told_error).binds (ps := ["table", "period", "rise"]) fun _ _ _ _ _ _ us hl => match us, hl with | [_, _, _], _ => rfl⟩
  have D_shortest : Df K mg "shortest" s_shortest ["table", "period", "rise"] := ⟨_, _, fun_mk (st := s_shortest) l_shortest c_shortest k_shortest, PySem.W.mg_of X G a_shortest, (fun_mk (st := s_shortest) l_shortest c_shortest k_shortest).binds (ps := ["table", "period", "rise"]) fun _ _ _ _ _ _ us hl => match us, hl with | [_, _, _], _ => rfl⟩
  have D_cycle_of : Df K mg "cycle_of" s_cycle_of ["items"] := ⟨_, _, fun_mk (st := s_cycle_of) l_cycle_of c_cycle_of k_cycle_of, PySem.W.mg_of X G a_cycle_of, (fun_mk (st := s_cycle_of) l_cycle_of c_cycle_of k_cycle_of).binds (ps := ["items"]) fun _ _ _ _ _ _ us hl => match us, hl with | [_], _ => rfl⟩
  have D_told : Df K mg "told" s_told ["table", "period", "rise"] := ⟨_, _, fun_mk (st := s_told) l_told c_told k_told, PySem.W.mg_of X G a_told, (fun_mk (st := s_told) l_told c_told k_told).binds (ps := ["table", "period", "rise"]) fun _ _ _ _ _ _ us hl => match us, hl with | [_, _, _], _ => rfl⟩
  have D_check_told : Df K mg "check_told" s_check_told ["number"] := ⟨_, _, fun_mk (st := s_check_told) l_check_told c_check_told k_check_told, PySem.W.mg_of X G a_check_told, (fun_mk (st := s_check_told) l_check_told c_check_told k_check_told).binds (ps := ["number"]) fun _ _ _ _ _ _ us hl => match us, hl with | [_], _ => rfl⟩
  have D_value_of : Df K mg "value_of" s_value_of ["rule", "x"] := ⟨_, _, fun_mk (st := s_value_of) l_value_of c_value_of k_value_of, PySem.W.mg_of X G a_value_of, (fun_mk (st := s_value_of) l_value_of c_value_of k_value_of).binds (ps := ["rule", "x"]) fun _ _ _ _ _ _ us hl => match us, hl with | [_, _], _ => rfl⟩
  have D_takes : Df K mg "takes" s_takes ["desk", "x"] := ⟨_, _, fun_mk (st := s_takes) l_takes c_takes k_takes, PySem.W.mg_of X G a_takes, (fun_mk (st := s_takes) l_takes c_takes k_takes).binds (ps := ["desk", "x"]) fun _ _ _ _ _ _ us hl => match us, hl with | [_, _], _ => rfl⟩
  have D_gives : Df K mg "gives" s_gives ["desk", "x"] := ⟨_, _, fun_mk (st := s_gives) l_gives c_gives k_gives, PySem.W.mg_of X G a_gives, (fun_mk (st := s_gives) l_gives c_gives k_gives).binds (ps := ["desk", "x"]) fun _ _ _ _ _ _ us hl => match us, hl with | [_, _], _ => rfl⟩
  have D_first_taken : Df K mg "first_taken" s_first_taken ["desk"] := ⟨_, _, fun_mk (st := s_first_taken) l_first_taken c_first_taken k_first_taken, PySem.W.mg_of X G a_first_taken, (fun_mk (st := s_first_taken) l_first_taken c_first_taken k_first_taken).binds (ps := ["desk"]) fun _ _ _ _ _ _ us hl => match us, hl with | [_], _ => rfl⟩
  have D_up_to_multiple : Df K mg "up_to_multiple" s_up_to_multiple ["least", "step"] := ⟨_, _, fun_mk (st := s_up_to_multiple) l_up_to_multiple c_up_to_multiple k_up_to_multiple, PySem.W.mg_of X G a_up_to_multiple, (fun_mk (st := s_up_to_multiple) l_up_to_multiple c_up_to_multiple k_up_to_multiple).binds (ps := ["least", "step"]) fun _ _ _ _ _ _ us hl => match us, hl with | [_, _], _ => rfl⟩
  have D_use_values : Df K mg "use_values" s_use_values ["desk", "count"] := ⟨_, _, fun_mk (st := s_use_values) l_use_values c_use_values k_use_values, PySem.W.mg_of X G a_use_values, (fun_mk (st := s_use_values) l_use_values c_use_values k_use_values).binds (ps := ["desk", "count"]) fun _ _ _ _ _ _ us hl => match us, hl with | [_, _], _ => rfl⟩
  have D_use_rule : Df K mg "use_rule" s_use_rule ["desk"] := ⟨_, _, fun_mk (st := s_use_rule) l_use_rule c_use_rule k_use_rule, PySem.W.mg_of X G a_use_rule, (fun_mk (st := s_use_rule) l_use_rule c_use_rule k_use_rule).binds (ps := ["desk"]) fun _ _ _ _ _ _ us hl => match us, hl with | [_], _ => rfl⟩
  have D_l_deck : Df K mg "_law_deck" s_l_deck ["_law_script"] := ⟨_, _, fun_mk (st := s_l_deck) l_l_deck c_l_deck k_l_deck, PySem.W.mg_of X G a_l_deck, (fun_mk (st := s_l_deck) l_l_deck c_l_deck k_l_deck).binds (ps := ["_law_script"]) fun _ _ _ _ _ _ us hl => match us, hl with | [_], _ => rfl⟩
  have D_l_draw : Df K mg "_law_draw" s_l_draw ["_law_deck_here", "_law_many"] := ⟨_, _, fun_mk (st := s_l_draw) l_l_draw c_l_draw k_l_draw, PySem.W.mg_of X G a_l_draw, (fun_mk (st := s_l_draw) l_l_draw c_l_draw k_l_draw).binds (ps := ["_law_deck_here", "_law_many"]) fun _ _ _ _ _ _ us hl => match us, hl with | [_, _], _ => rfl⟩
  have D_l_one : Df K mg "_law_one" s_l_one ["_law_deck_here", "_law_items"] := ⟨_, _, fun_mk (st := s_l_one) l_l_one c_l_one k_l_one, PySem.W.mg_of X G a_l_one, (fun_mk (st := s_l_one) l_l_one c_l_one k_l_one).binds (ps := ["_law_deck_here", "_law_items"]) fun _ _ _ _ _ _ us hl => match us, hl with | [_, _], _ => rfl⟩
  have D_l_gives : Df K mg "_law_gives" s_l_gives ["_law_desk", "_law_x"] := ⟨_, _, fun_mk (st := s_l_gives) l_l_gives c_l_gives k_l_gives, PySem.W.mg_of X G a_l_gives, (fun_mk (st := s_l_gives) l_l_gives c_l_gives k_l_gives).binds (ps := ["_law_desk", "_law_x"]) fun _ _ _ _ _ _ us hl => match us, hl with | [_, _], _ => rfl⟩
  have D_l_most : Df K mg "_law_most" s_l_most ["_law_desk", "_law_x"] := ⟨_, _, fun_mk (st := s_l_most) l_l_most c_l_most k_l_most, PySem.W.mg_of X G a_l_most, (fun_mk (st := s_l_most) l_l_most c_l_most k_l_most).binds (ps := ["_law_desk", "_law_x"]) fun _ _ _ _ _ _ us hl => match us, hl with | [_, _], _ => rfl⟩
  have D_law : Df K mg "law" s_law ["_law_script"] := ⟨_, _, fun_mk (st := s_law) l_law c_law k_law, PySem.W.mg_of X G a_law, (fun_mk (st := s_law) l_law c_law k_law).binds (ps := ["_law_script"]) fun _ _ _ _ _ _ us hl => match us, hl with | [_], _ => rfl⟩
  refine ⟨PySem.W.fnOf "law" "law" (defArgs s_law) (defBody s_law) (defScope s_law) .none kV_law dc_law pm_law an_law cd_law ct_law, fun s v => .of_eq rfl, fun base _ _ => ?_⟩
  have C_is_whole : Cal l.prog w K mg base "is_whole" ["value"] 1 (sp_is_whole K) := ok_is_whole T D_is_whole
  have C_cycle_of : Cal l.prog w K mg base "cycle_of" ["items"] 1 (sp_cycle_of K) := ok_cycle_of T D_cycle_of
  have C_check_told : Cal l.prog w K mg base "check_told" ["number"] 1 (sp_check_told K) := ok_check_told T D_check_told
  have C_value_of : Cal l.prog w K mg base "value_of" ["rule", "x"] 1 (sp_value_of K) := ok_value_of T D_value_of
  have C_takes : Cal l.prog w K mg base "takes" ["desk", "x"] 1 (sp_takes K) := ok_takes T D_takes
  have C_up_to_multiple : Cal l.prog w K mg base "up_to_multiple" ["least", "step"] 1 (sp_up_to_multiple K) := ok_up_to_multiple T D_up_to_multiple
  have C_l_deck : Cal l.prog w K mg base "_law_deck" ["_law_script"] 1 (sp_l_deck K) := ok_l_deck T D_l_deck
  have C_l_draw : Cal l.prog w K mg base "_law_draw" ["_law_deck_here", "_law_many"] 1 (sp_l_draw K) := ok_l_draw T D_l_draw
  have C_l_gives : Cal l.prog w K mg base "_law_gives" ["_law_desk", "_law_x"] 1 (sp_l_gives K) := ok_l_gives T D_l_gives
  have C_is_amount : Cal l.prog w K mg base "is_amount" ["value"] 2 (sp_is_amount K) := ok_is_amount T D_is_amount C_is_whole
  have C_shortest : Cal l.prog w K mg base "shortest" ["table", "period", "rise"] 2 (sp_shortest K) := ok_shortest T D_shortest C_cycle_of
  have C_gives : Cal l.prog w K mg base "gives" ["desk", "x"] 2 (sp_gives K) := ok_gives T D_gives C_takes
  have C_first_taken : Cal l.prog w K mg base "first_taken" ["desk"] 2 (sp_first_taken K) := ok_first_taken T D_first_taken C_up_to_multiple
  have C_l_one : Cal l.prog w K mg base "_law_one" ["_law_deck_here", "_law_items"] 2 (sp_l_one K) := ok_l_one T D_l_one C_l_draw
  have C_l_most : Cal l.prog w K mg base "_law_most" ["_law_desk", "_law_x"] 2 (sp_l_most K) := ok_l_most T D_l_most C_l_gives
  have C_told_error : Cal l.prog w K mg base "told_error" ["table", "period", "rise"] 3 (sp_told_error K) := ok_told_error T D_told_error C_is_amount C_is_whole
  have C_told : Cal l.prog w K mg base "told" ["table", "period", "rise"] 3 (sp_told K) := ok_told T D_told C_check_told C_shortest
  have C_use_values : Cal l.prog w K mg base "use_values" ["desk", "count"] 3 (sp_use_values K) := ok_use_values T D_use_values C_takes C_gives
  have C_rule_error : Cal l.prog w K mg base "rule_error" ["value"] 4 (sp_rule_error K) := ok_rule_error T D_rule_error C_shortest C_told_error
  have C_use_rule : Cal l.prog w K mg base "use_rule" ["desk"] 4 (sp_use_rule K) := ok_use_rule T D_use_rule C_told C_use_values C_first_taken
  exact ok_lawG T (fun_mk (st := s_law) l_law c_law k_law) C_l_draw C_value_of C_l_most C_use_rule C_rule_error C_l_one C_l_deck

end Sm
open PySem PySem.W PyProof.Rows in
set_option maxRecDepth 100000 in
set_option maxHeartbeats 0 in
theorem PySem.Challenge.cw_smallchange_k79_rules_of_one_use_holds : PySem.Challenge.rw_smallchange_k79_rules_of_one_use.Holds := by
  w_on; o_law; k_head; (case hw => w_witness2)
  k_fill
  refine Sm.walk_at_law (l := PySem.Challenge.rw_smallchange_k79_rules_of_one_use) (k := 5) (x := "_law_script") (sp := Sm.sp_law) rfl rfl ⟨rfl, by decide, by decide⟩ (fun w h Y => PySem.W.kIn_of Y) ?F (fun _ _ a ns hl hS => ⟨a, ns, rfl, hS, hl, fun _ => rfl⟩)
  case F =>
    intro w mg fa h KX G hmg
    refine' Sm.all_mk KX G hmg ?a_is_whole ?l_is_whole ?c_is_whole ?k_is_whole ?a_is_amount ?l_is_amount ?c_is_amount ?k_is_amount ?a_rule_error ?l_rule_error ?c_rule_error ?k_rule_error ?a_told_error ?l_told_error ?c_told_error ?k_told_error ?a_shortest ?l_shortest ?c_shortest ?k_shortest ?a_cycle_of ?l_cycle_of ?c_cycle_of ?k_cycle_of ?a_told ?l_told ?c_told ?k_told ?a_check_told ?l_check_told ?c_check_told ?k_check_told ?a_value_of ?l_value_of ?c_value_of ?k_value_of ?a_takes ?l_takes ?c_takes ?k_takes ?a_gives ?l_gives ?c_gives ?k_gives ?a_first_taken ?l_first_taken ?c_first_taken ?k_first_taken ?a_up_to_multiple ?l_up_to_multiple ?c_up_to_multiple ?k_up_to_multiple ?a_use_values ?l_use_values ?c_use_values ?k_use_values ?a_use_rule ?l_use_rule ?c_use_rule ?k_use_rule ?a_l_deck ?l_l_deck ?c_l_deck ?k_l_deck ?a_l_draw ?l_l_draw ?c_l_draw ?k_l_draw ?a_l_one ?l_l_one ?c_l_one ?k_l_one ?a_l_gives ?l_l_gives ?c_l_gives ?k_l_gives ?a_l_most ?l_l_most ?c_l_most ?k_l_most ?a_law ?l_law ?c_law ?k_law ?z_abs ?z_all ?z_any ?z_bool ?z_int ?z_isinstance ?z_len ?z_max ?z_min ?z_range ?z_repr ?z_tuple ?g_lcm ?g_MAX_TOLD
    (case a_is_whole => k_is)
    (case l_is_whole => k_is)
    (case c_is_whole => k_is)
    (case k_is_whole => k_is)
    (case a_is_amount => k_is)
    (case l_is_amount => k_is)
    (case c_is_amount => k_is)
    (case k_is_amount => k_is)
    (case a_rule_error => k_is)
    (case l_rule_error => k_is)
    (case c_rule_error => k_is)
    (case k_rule_error => k_is)
    (case a_told_error => k_is)
    (case l_told_error => k_is)
    (case c_told_error => k_is)
    (case k_told_error => k_is)
    (case a_shortest => k_is)
    (case l_shortest => k_is)
    (case c_shortest => k_is)
    (case k_shortest => k_is)
    (case a_cycle_of => k_is)
    (case l_cycle_of => k_is)
    (case c_cycle_of => k_is)
    (case k_cycle_of => k_is)
    (case a_told => k_is)
    (case l_told => k_is)
    (case c_told => k_is)
    (case k_told => k_is)
    (case a_check_told => k_is)
    (case l_check_told => k_is)
    (case c_check_told => k_is)
    (case k_check_told => k_is)
    (case a_value_of => k_is)
    (case l_value_of => k_is)
    (case c_value_of => k_is)
    (case k_value_of => k_is)
    (case a_takes => k_is)
    (case l_takes => k_is)
    (case c_takes => k_is)
    (case k_takes => k_is)
    (case a_gives => k_is)
    (case l_gives => k_is)
    (case c_gives => k_is)
    (case k_gives => k_is)
    (case a_first_taken => k_is)
    (case l_first_taken => k_is)
    (case c_first_taken => k_is)
    (case k_first_taken => k_is)
    (case a_up_to_multiple => k_is)
    (case l_up_to_multiple => k_is)
    (case c_up_to_multiple => k_is)
    (case k_up_to_multiple => k_is)
    (case a_use_values => k_is)
    (case l_use_values => k_is)
    (case c_use_values => k_is)
    (case k_use_values => k_is)
    (case a_use_rule => k_is)
    (case l_use_rule => k_is)
    (case c_use_rule => k_is)
    (case k_use_rule => k_is)
    (case a_l_deck => k_is)
    (case l_l_deck => k_is)
    (case c_l_deck => k_is)
    (case k_l_deck => k_is)
    (case a_l_draw => k_is)
    (case l_l_draw => k_is)
    (case c_l_draw => k_is)
    (case k_l_draw => k_is)
    (case a_l_one => k_is)
    (case l_l_one => k_is)
    (case c_l_one => k_is)
    (case k_l_one => k_is)
    (case a_l_gives => k_is)
    (case l_l_gives => k_is)
    (case c_l_gives => k_is)
    (case k_l_gives => k_is)
    (case a_l_most => k_is)
    (case l_l_most => k_is)
    (case c_l_most => k_is)
    (case k_l_most => k_is)
    (case a_law => k_is)
    (case l_law => k_is)
    (case c_law => k_is)
    (case k_law => k_is)
    (case z_abs => k_is)
    (case z_all => k_is)
    (case z_any => k_is)
    (case z_bool => k_is)
    (case z_int => k_is)
    (case z_isinstance => k_is)
    (case z_len => k_is)
    (case z_max => k_is)
    (case z_min => k_is)
    (case z_range => k_is)
    (case z_repr => k_is)
    (case z_tuple => k_is)
    (case g_lcm => k_is)
    (case g_MAX_TOLD => k_is)


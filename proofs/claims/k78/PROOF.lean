import PyProof.Rows.All
import Wide.All
import OpenK.AllK
import Wide.FinOn
import HandS.ForMost
import HandS.Wide
import HandS.Codes
import PyProof.ReprRoads
import HandS.Gcd
import KE.KMathGC
import HandS.TupMul
import HandS.Conv
import HandS.IsInst
import HandS.Style
import HandS.TupAny
import PySem.Challenge.RW_smallchange_k78_whole_needed_uses
set_option Elab.async false
set_option linter.all false
set_option maxRecDepth 100000
set_option maxHeartbeats 4000000
namespace Sm
open PySem PySem.Spec PyProof.Rows L2
/-! ### promises of defs where no repr is under way: as FnOk, with A's guards empty -/
structure FnG (P : Program) (w : World) (K : PySem.W.Frag) (mg : Str → Option Value) (base : Heap) (k : Nat) (f : Addr) (fd : FuncData) (ps : List Str) (sp : Sp) : Prop where
  len : ∀ vs H Q E, sp vs H Q E → vs.length = ps.length
  run : ∀ (A : Around) (outer : List Env) (s : Shared) (H : Hp) (args : Args) (us : List Value) (vs : List V) (Q : VK) (E : XK), A.guards = some [] → Room k A →
    Env0 P w K mg base A outer s H → BindsTo s fd args (ps.zip us) → Vals vs us → sp vs H Q E → codeAny (model P w) A (.call (.ref f) args) (CR CX0 outer P w H s Q E) s
section
variable {P : Program} {w : World} {K : PySem.W.Frag} {mg : Str → Option Value} {base : Heap} {k : Nat} {f : Addr} {fd : FuncData} {ps : List Str} {sp : Sp}
theorem FnG.of (F : FnOk P w K mg base CX0 k f fd ps sp) : FnG P w K mg base k f fd ps sp :=
  ⟨F.len, fun A outer s H args us vs Q E _ hr e b v h => F.run A outer s H args us vs Q E hr e b v h⟩
theorem FnG.body {x : Str} {st : Stmt} {N : List Str} (F : Fun K x x st f fd) (S : FnScope N ps (defScope st)) (len : ∀ vs H Q E, sp vs H Q E → vs.length = ps.length)
    (hb : ∀ (cdv : Value) (A : Around) (outer : List Env) (s : Shared) (H : Hp) (vs : List V) (Q : VK) (E : XK), A.guards = some [] → Room k (A.deeper (envOfC x (defScope st) s.heap.objs.size f cdv)) → sp vs H Q E →
      ∃ t, PSs (cxOf CX0 P w K mg base N x (defScope st) f cdv A outer s H E).nox (defBody st) t ∧ t { nx := fun _ H' => Q .non H', rt := Q } (start N vs) H) : FnG P w K mg base (k + 1) f fd ps sp := by
  obtain ⟨oc, od, kV, doc, pm, an, cdv, ct, osl, efd, look, code⟩ := F.ex
  subst efd
  constructor
  · exact len
  intro A outer s H args us vs Q E guard room e0 bind rel want
  have inn : K.In s.heap := e0.mod.kin.keeps fun b o e => (e0.bs b o e).1
  have nolim : s.heap.NoLimit := e0.mod.nolimit.keeps fun b o e => (e0.bs b o e).1
  refine codeAny_call_function room.depth (inn _ _ look) rfl S.co S.gen rfl (PySem.W.codeRec_of inn code) (bind _ _ _ _ ?_)
  refine wpAny_newFunctionEnv_cells S.kind ?_ ?_
  · rintro ⟨n, v⟩ there
    have := S.par n (List.of_mem_zip there).1
    cases this with
    | inl q => exact .inl q
    | inr q => exact .inr ⟨q, PySem.W.cellsFrom_some _ _ _ (.inl q)⟩
  · intro env eenv s1 laid
    subst eenv
    refine ⟨nolim.keeps laid.toInCall.keep, codeAny_func ?_⟩
    obtain ⟨t, der, goal⟩ := hb cdv A outer s H vs Q E guard (room.deeper _) want
    have I := inv_start (CX := CX0) (E := E) S room.hd e0 (len _ _ _ _ want) rel laid
    refine wpAny_mono (der.nox.run [] s1 (start N vs) H _ I goal) (fun out s' got => ?_) fun e s' got => got
    match out, got with
    | .ret u, ⟨v, σ', H', J, rv, q⟩ => exact ⟨v, H', J.os, J.bare, J.base, J.hok, rv, q⟩
    | .next, ⟨σ', H', J, q⟩ => exact ⟨V.non, H', J.os, J.bare, J.base, J.hok, rfl, q⟩
    | .brk, ⟨_, _, _, q⟩ => exact q.elim
    | .cont, ⟨_, _, _, q⟩ => exact q.elim
end
section
variable {X : Cx} {k : Nat} {f : Addr} {fd : FuncData} {ps : List Str} {sp : Sp} {x : Str} {p pos : Pos} {e : Expr} {es : List Expr} {t : TA}
theorem pe_callG (F : FnG X.prog X.w X.K X.mg X.base k f fd ps sp) (gu : X.A.guards = some []) (hr : Room k X.A) (hg : Gl X x) (hm : X.mg x = some (.ref f)) (hk : PySem.W.keepIn X.K (.ref f) = true) (hb : Binds X.K fd ps [])
    (ha : PA X (e :: es) t) (hdb : (x == ("__debug__" : Str)) = false := by decide) (he : starEach (e :: es) X.env = (false, eval e X.env) :: starEach es X.env := by rfl) (hpl : (backTo pos (starEach es X.env)).any (·.1) = false := by rfl) :
    PE X (.Call (.Name x p) (e :: es) [] pos) (tCall sp [] E0 t) := by
  constructor
  intro pins s σ H Q I want
  refine wpAny_Call_Name_kw (ld_glob I hg hm ?_ hdb)
  refine PySem.W.callWith_K (h₀ := X.base) I.ok.mod.kin hk (thn (ha.run pos pins s σ H _ I want) ?_) he hpl
  rintro us s1 ⟨vs, H1, I1, rel, q⟩
  refine ⟨I1.kIn, ?_⟩
  have q : sp vs H1 Q E0 := by
    have q : sp (vs ++ []) H1 Q E0 := q
    rw [List.append_nil] at q
    exact q
  have b := hb s1 us I1.kIn (by rw [List.append_nil, ← rel.length]; exact F.len _ _ _ _ q)
  rw [List.append_nil] at b
  refine wpAny_call (codeAny_mono (F.run X.A X.stack s1 H1 ⟨us, []⟩ us vs Q E0 gu hr I1.env0 b rel q) ?_)
  rintro (e | out) s' got
  · exact got.elim
  · match out, got with
    | .ret u, got => exact I1.after got
    | .next, got => exact got.elim
    | .brk, got => exact got.elim
    | .cont, got => exact got.elim
/-- repr of data at any depth -/
theorem call_repr_data (gu : X.A.guards = some []) (room : ∃ k, Room k X.A) : CallR X (.builtin "repr") (fun xs H Q => ∃ a d, xs = [.ref a] ∧ Dp X.K H (.ref a) d ∧ PyData.showable d = true ∧ PyData.hasDict d = false ∧ d.depth ≤ 60 ∧ d.shown.length ≤ sizeLine ∧ Q (.str d.shown) H) := by
  intro pins s σ H xs us Q I rel want
  obtain ⟨a, d, rfl, data, sh, nd, dep, len, q⟩ := want
  obtain ⟨u, rfl, ru⟩ := vals1 rel
  obtain ⟨as, reads⟩ := Dp.reads I d _ u data ru
  cases ru
  obtain ⟨k, room⟩ := room
  have un := room.un
  exact repr_of_reads' reads sh (PyData.noDict_hsm nd) gu (by omega) (fun _ _ e => e) (fun h' v tk keep => ⟨.str d.shown, H, I.kept keep, ⟨_, rfl⟩, q⟩) len
end
/-! ### the law's own call, at the caller's place -/
theorem law_at {P : Program} {w : World} {K : PySem.W.Frag} {mg mb : Str → Option Value} {k : Nat} {fa a : Addr} {fd : FuncData} {x : Str} {sp : Sp} {s₁ : Shared} {vs : List Value} {ns : List Int}
    (KX : K.In s₁.heap) (hns : s₁.heap.Ns mainGlobals mg) (hb : s₁.heap.Ns builtinsNs mb) (hbb : ∀ x : Str, x ≠ "__name__" → mb x = bootBuiltins x) (hlim : s₁.heap.NoLimit) (hg : s₁.gens = #[])
    (ha : s₁.heap.get? a = some { cls := .type "list", data := .seq vs.toArray }) (hi : IntsAre vs ns) (hl : ns.length ≤ sizeLine) (hr : Room k callerA)
    (F : ∀ base : Heap, K.In base → base.Ns mainGlobals mg → FnG P w K mg base k fa fd [x] sp) (hbind : ∀ (s : Shared) (u : Value), BindsTo s fd ⟨[u], []⟩ [(x, u)])
    (hsp : ∀ H : Hp, SqL K H a (ns.map V.int) → sp [.ref a] H (fun v _ => v = .bl true) E0) :
    codeAny (model P w) callerA (.call (.ref fa) ⟨[.ref a], []⟩) (fun r s' => r = .ok (.ret (.bool true)) ∧ OldK s₁.heap s'.heap ∧ s'.os = s₁.os ∧ AllBare s'.gens) s₁ := by
  have ivs := vals_ints hi
  -- what is tracked: the script, if the module does not hold it itself
  obtain ⟨H, seq, ok, only, free⟩ : ∃ H : Hp, SqL K H a (ns.map V.int) ∧ HOk P w H s₁.heap ∧ (∀ b u, H b = some u → b = a ∧ u = .frz { cls := .type "list", data := .seq vs.toArray } (.lst (ns.map V.int))) ∧ ∀ b u, H b = some u → K.lookup b = none := by
    cases look : K.lookup a with
    | some o =>
      have same := KX a o look
      rw [ha] at same
      injection same with same
      subst same
      have empty : ∀ {u : HO}, (none : Option HO) = some u → False := fun z => nomatch z
      refine ⟨fun _ => none, .inr ⟨_, vs.toArray, _, look, rfl, rfl, rfl, ?_, ?_⟩, fun b u z => (empty z).elim, fun b u z => (empty z).elim, fun b u z => (empty z).elim⟩
      · rw [List.size_toArray, hi.length]
        exact hl
      · simpa using ivs
    | none =>
      have at_a : ∀ b u, (fun b => if b = a then some (HO.frz { cls := .type "list", data := .seq vs.toArray } (.lst (ns.map V.int))) else none : Hp) b = some u → b = a ∧ u = .frz { cls := .type "list", data := .seq vs.toArray } (.lst (ns.map V.int)) := by
        intro b u z
        by_cases e : b = a
        · have z := (if_pos e).symm.trans z
          exact ⟨e, (Option.some.inj z).symm⟩
        · exact nomatch (if_neg e).symm.trans z
      refine ⟨_, .inl (.inr ⟨_, if_pos rfl⟩), fun b u z => ?_, at_a, fun b u z => ?_⟩
      · obtain ⟨rfl, rfl⟩ := at_a b u z
        exact ⟨ha, by rw [List.length_map]; exact hl, vs, _, ivs, ha⟩
      · rw [(at_a b u z).1]
        exact look
  have stays : ∀ {b : Addr} {o : Obj}, s₁.heap.get? b = some o → (∀ u, H b ≠ some u) → (hidT s₁.heap H).get? b = some o := fun {b o} e no => hidT_get e (by
    cases z : H b with
    | none => rfl
    | some u => exact (no u z).elim)
  have spaces : ∀ {b : Addr} {m : Str → Option Value}, s₁.heap.Ns b m → (hidT s₁.heap H).Ns b m := by
    rintro b m ⟨o, es, ep, there, data, rest⟩
    refine ⟨o, es, ep, stays there fun u z => ?_, data, rest⟩
    rw [(only b u z).1, ha] at there
    injection there with there
    subst there
    exact nomatch data
  have inn : K.In (hidT s₁.heap H) := fun b o e => stays (KX b o e) fun u z => by
    rw [free b u z] at e
    exact nomatch e
  have mod : Mod K mg (hidT s₁.heap H) := by
    obtain ⟨mc, c1, c2⟩ := hlim
    exact ⟨inn, spaces hns, ⟨mb, spaces hb, hbb⟩, mc, spaces c1, c2⟩
  have e0 : Env0 P w K mg (hidT s₁.heap H) callerA [] s₁ H := by
    refine ⟨rfl, mod, fun b o e => of_hidT e, Nat.le_of_eq (hidT_size _ _), trivial, ?_, ok, .of_eq hg⟩
    intro b q
    exact absurd q (List.not_mem_nil (a := b))
  refine codeAny_mono ((F _ inn (spaces hns)).run callerA [] s₁ H ⟨[.ref a], []⟩ [.ref a] [.ref a] _ _ rfl hr e0 (hbind s₁ (.ref a)) (.cons rfl .nil) (hsp H seq)) ?_
  rintro (e | out) s' got
  · exact got.elim
  · match out, got with
    | .next, got => exact got.elim
    | .brk, got => exact got.elim
    | .cont, got => exact got.elim
    | .ret u, ⟨v, H', os, bare, un, ok', rel, q⟩ =>
      have q : v = V.bl true := q
      subst q
      have rel : u = Value.bool true := rel
      subst rel
      refine ⟨rfl, .of_keep fun b o e => ?_, os, bare⟩
      cases z : H b with
      | none => exact un.keep b o e z (List.not_mem_nil (a := b)) (List.not_mem_nil (a := b))
      | some u =>
        obtain ⟨rfl, rfl⟩ := only b u z
        have now := (ok' _ _ (un.frzs _ _ _ z)).1
        rw [ha] at e
        injection e with e
        rw [← e]
        exact now
theorem walk_at_law {l : PySem.W.OpenLaw} {k : Nat} {q : Program} {loose : List Str} {XP : (Str → Option Value) → Heap → Prop} {YP : World → Heap → Prop} {d : DefRec} {K : Params → PySem.W.Frag} {sp : PySem.W.Frag → Sp} {x : Str}
    (hn : l.most = some 63) (hdf : d.params.defaults = []) (hr : Room k callerA) (hY : ∀ (w : World) (h : Heap), YP w h → (K w.params).In h)
    (F : ∀ (w : World) (mg : Str → Option Value) (fa : Addr) (h : Heap), (K w.params).In h → h.Ns mainGlobals mg → mg d.name = some (.ref fa) →
      ∃ fd : FuncData, (∀ (s : Shared) (u : Value), BindsTo s fd ⟨[u], []⟩ [(x, u)]) ∧ ∀ base : Heap, (K w.params).In base → base.Ns mainGlobals mg → FnG l.prog w (K w.params) mg base k fa fd [x] (sp (K w.params)))
    (hsp : ∀ (K : PySem.W.Frag) (H : Hp) (a : Addr) (ns : List Int), ns.length ≤ 63 → SqL K H a (ns.map V.int) → sp K [.ref a] H (fun v _ => v = .bl true) E0) :
    PySem.W.WalkO q loose XP YP l.row.toRowW d [] (fun f vs => PySem.call f vs) := by
  refine Att.attach_call hn hdf ?_
  intro w s₀ s₁ mg mb fa o pm cd doc a vs ns G Y ho hd hcd hmg hobj hints hlen hg
  obtain ⟨fd, bind, each⟩ := F w mg fa _ (hY w _ Y) G.T.g hmg
  exact law_at (hY w _ Y) G.T.g G.T.b G.T.builtins G.T.nolimit hg hobj hints (Nat.le_trans hlen (by decide)) hr each bind fun H sq => hsp (K w.params) H a ns hlen sq
end Sm

set_option Elab.async false
set_option linter.all false
set_option maxRecDepth 100000
set_option maxHeartbeats 4000000
namespace Sm
open PySem PySem.Spec PyProof.Rows L2
section
variable {P : Program} {w : World} {K : PySem.W.Frag} {mg : Str → Option Value} {base : Heap}
def Df (K : PySem.W.Frag) (mg : Str → Option Value) (x : Str) (st : Stmt) (ps : List Str) : Prop :=
  ∃ (f : Addr) (fd : FuncData), Fun K x x st f fd ∧ mg x = some (.ref f) ∧ Binds K fd ps []
def Cal (P : Program) (w : World) (K : PySem.W.Frag) (mg : Str → Option Value) (base : Heap) (x : Str) (ps : List Str) (k : Nat) (sp : Sp) : Prop :=
  ∃ (f : Addr) (fd : FuncData), FnOk P w K mg base CX0 k f fd ps sp ∧ mg x = some (.ref f) ∧ PySem.W.keepIn K (.ref f) = true ∧ Binds K fd ps []
theorem Df.cal {x : Str} {st : Stmt} {N ps : List Str} {k : Nat} {sp : Sp} (D : Df K mg x st ps) (S : FnScope N ps (defScope st)) (len : ∀ vs H Q E, sp vs H Q E → vs.length = ps.length)
    (hbody : ∀ (f : Addr) (cdv : Value) (A : Around) (outer : List Env) (s : Shared) (H : Hp) (vs : List V) (Q : VK) (E : XK), Room k (A.deeper (envOfC x (defScope st) s.heap.objs.size f cdv)) → sp vs H Q E →
      ∃ t, PSs (cxOf CX0 P w K mg base N x (defScope st) f cdv A outer s H E).nox (defBody st) t ∧ t { nx := fun _ H' => Q .non H', rt := Q } (start N vs) H) : Cal P w K mg base x ps (k + 1) sp := by
  obtain ⟨f, fd, F, m, b⟩ := D
  exact ⟨f, fd, F.ok S len (fun cdv A outer s H vs Q E hr h => hbody f cdv A outer s H vs Q E hr h), m, F.kp, b⟩
theorem same_upd {H : Hp} {p : Addr} {o : HO} (h : H p = none) : Same H (upd H p o) := fun b x e => by
  rw [upd_ne (ne_of_none e h)]
  exact e
theorem iteP {p A B : Prop} [Decidable p] (h : p) (a : A) : if decide p = true then A else B := by
  rw [decide_eq_true h]
  exact iteT a
theorem iteN {p A B : Prop} [Decidable p] (h : ¬ p) (b : B) : if decide p = true then A else B := by
  rw [decide_eq_false h]
  exact iteF b
theorem iteNP {p A B : Prop} [Decidable p] (h : p) (b : B) : if (!decide p) = true then A else B := by
  rw [decide_eq_true h]
  exact iteF b
theorem iteNN {p A B : Prop} [Decidable p] (h : ¬ p) (a : A) : if (!decide p) = true then A else B := by
  rw [decide_eq_false h]
  exact iteT a
theorem ite3 {p A B : Prop} [Decidable p] (h1 : p → A) (h2 : ¬ p → B) : if decide p = true then A else B := by
  by_cases h : p
  · exact iteP h (h1 h)
  · exact iteN h (h2 h)
theorem fmod_pos {a b : Int} (h : 0 < b) : a.fmod b = a % b := Int.fmod_eq_emod_of_nonneg a (by omega)
end
/-! ### the deck -/
structure Deck (H : Hp) (p l : Addr) (n : Int) : Prop where
  hp : H p = some (.lst [.ref l, .int n])
  hl : ∃ cells : List Int, H l = some (.lst (cells.map V.int)) ∧ (∀ c ∈ cells, 0 ≤ c) ∧ cells.length ≤ 63
theorem deck_ne {l : Addr} {n : Int} {cells : List Int} : HO.lst [.ref l, .int n] ≠ HO.lst (cells.map V.int) := by
  intro q
  injection q with q
  cases cells with
  | nil => cases q
  | cons c r => cases (List.cons.inj q).1
/-- all but the deck is as it was -/
def Fr (p l : Addr) (H H' : Hp) : Prop := ∀ b o, b ≠ p → b ≠ l → H b = some o → H' b = some o
theorem Fr.trans {p l : Addr} {H H1 H2 : Hp} (a : Fr p l H H1) (b : Fr p l H1 H2) : Fr p l H H2 := fun c o h1 h2 h => b c o h1 h2 (a c o h1 h2 h)
theorem Same.fr {p l : Addr} {H H' : Hp} (s : Same H H') : Fr p l H H' := fun b o _ _ h => s b o h
theorem Deck.same {H H' : Hp} {p l : Addr} {n : Int} (D : Deck H p l n) (s : Same H H') : Deck H' p l n := by
  obtain ⟨cells, hl, hc⟩ := D.hl
  exact ⟨s _ _ D.hp, cells, s _ _ hl, hc⟩
theorem Fr.tup {H H' : Hp} {p l b : Addr} {n : Int} {xs : List V} (f : Fr p l H H') (D : Deck H p l n) (h : H b = some (.tup xs)) : H' b = some (.tup xs) := by
  obtain ⟨cells, hl, hc⟩ := D.hl
  exact f b _ (ne_of h D.hp (by intro q; cases q)) (ne_of h hl (by intro q; cases q)) h
def sp_l_deck (K : PySem.W.Frag) : Sp := fun vs H Q _ => ∃ (a : Addr) (ns : List Int), vs = [.ref a] ∧ SqL K H a (ns.map V.int) ∧ ns.length ≤ 63 ∧ ∀ H' p l, Same H H' → Deck H' p l 0 → Q (.ref p) H'
def sp_l_draw (K : PySem.W.Frag) : Sp := fun vs H Q _ => ∃ (p l : Addr) (n m : Int), vs = [.ref p, .int m] ∧ Deck H p l n ∧ 0 ≤ n ∧ n ≤ 1000000 ∧ 0 < m ∧ m ≤ 1000000000000000000000000000000000000000000000000000000000000 ∧
  ∀ r H', 0 ≤ r → r < m → Fr p l H H' → Deck H' p l (n + 1) → Q (.int r) H'
def sp_l_one (K : PySem.W.Frag) : Sp := fun vs H Q _ => ∃ (p l b : Addr) (n : Int) (xs : List V), vs = [.ref p, .ref b] ∧ Deck H p l n ∧ 0 ≤ n ∧ n ≤ 1000000 ∧ H b = some (.lst xs) ∧ b ≠ p ∧ b ≠ l ∧ 0 < xs.length ∧ xs.length ≤ 1000 ∧
  ∀ x H', x ∈ xs → Fr p l H H' → Deck H' p l (n + 1) → Q x H'
theorem cut63 {ns : List Int} (h : ns.length ≤ 63) : cutV (ns.map V.int) none (some 63) = ns.map V.int := by
  unfold cutV
  rw [HT.sIx_none, show HT.sIx (ns.map V.int).length (ns.map V.int).length (some 63) = min 63 (ns.map V.int).length from HT.sIx_nat _ _ 63]
  rw [List.length_map, Nat.min_eq_right h, List.drop_zero]
  exact List.take_of_length_le (by rw [List.length_map]; omega)
def absI (n : Int) : Int := if n < 0 then -n else n
theorem absI_pos (n : Int) : 0 ≤ absI n := by
  unfold absI
  split <;> omega
theorem div_draw {c m : Int} (h0 : 0 < m) (h : m ≤ 1000000000000000000000000000000000000000000000000000000000000) : CDivW c m :=
  wide_div (b := 300) h0 (by omega) (by decide) (by decide)
theorem cut_all {xs : List V} {n : Nat} : cutV xs none (some (n : Int)) = xs.take n := by
  unfold cutV
  rw [HT.sIx_none, HT.sIx_nat, List.drop_zero, Nat.sub_zero]
  rcases Nat.le_total n xs.length with h | h
  · rw [Nat.min_eq_left h]
  · rw [Nat.min_eq_right h, List.take_length, List.take_of_length_le h]
theorem ne_new {H : Hp} {p b : Addr} {o : HO} (h : H p = some o) (n : H b = none) : b ≠ p := (ne_of_none h n).symm
/-- what the deck's second list is not -/
theorem Deck.lne {H : Hp} {p l b : Addr} {n : Int} (D : Deck H p l n) (h : H b = none) : b ≠ p ∧ b ≠ l := by
  obtain ⟨cells, hl, hc⟩ := D.hl
  exact ⟨ne_new D.hp h, ne_new hl h⟩
section
variable {X : Cx}
/-- repr of an int or None -/
theorem call_repr_some : CallR X (.builtin "repr") (fun xs H Q => (∃ i, xs = [.int i] ∧ i.natAbs.log2 < 1920 ∧ Q (.str (toString i)) H) ∨ (xs = [.non] ∧ Q (.str "None") H)) := by
  intro pins s σ H xs us Q I r h
  rcases h with ⟨i, rfl, hz, q⟩ | ⟨rfl, q⟩
  · obtain ⟨u, rfl, t, rfl⟩ := vals1 r
    exact PySem.P.repr_of_int hz ⟨.str _, H, I.tok _, ⟨_, rfl⟩, q⟩
  · obtain ⟨u, rfl, rfl⟩ := vals1 r
    exact PySem.P.repr_of_none ⟨.str _, H, I.tok _, ⟨_, rfl⟩, q⟩
def dataI (ns : List Int) : PyData := .list (ns.map PyData.int)
theorem dp_ints {K : PySem.W.Frag} {H : Hp} : ∀ ns : List Int, DpAll K H (ns.map V.int) (ns.map PyData.int)
  | [] => .nil
  | n :: ns => .cons (.int n) (dp_ints ns)
theorem showable_ints : ∀ {ns : List Int}, (∀ n ∈ ns, n.natAbs.log2 < 1920) → PyData.showableAll (ns.map PyData.int) = true
  | [], _ => rfl
  | n :: ns, h => by
    have a := h n (List.mem_cons_self ..)
    have b := showable_ints (ns := ns) fun m hm => h m (List.mem_cons_of_mem _ hm)
    simp only [List.map_cons, PyData.showableAll, PyData.showable, decide_eq_true a, b, Bool.and_self]
theorem hasDict_ints : ∀ ns : List Int, PyData.hasDictAll (ns.map PyData.int) = false
  | [] => rfl
  | n :: ns => by
    simp only [List.map_cons, PyData.hasDictAll, PyData.hasDict, hasDict_ints ns, Bool.or_self]
theorem depth_ints : ∀ ns : List Int, PyData.depthAll (ns.map PyData.int) ≤ 1
  | [] => by simp [PyData.depthAll]
  | n :: ns => by
    have := depth_ints ns
    simp only [List.map_cons, PyData.depthAll, PyData.depth]
    omega
theorem shown_ints : ∀ {ns : List Int}, (∀ n ∈ ns, n.natAbs.log2 < 1920) → ((PyData.shownAll (ns.map PyData.int)).map (·.length)).sum ≤ 1921 * ns.length ∧ (PyData.shownAll (ns.map PyData.int)).length = ns.length
  | [], _ => by simp [PyData.shownAll]
  | n :: ns, h => by
    have a := PyProof.Rows.int_text_len_1921 (h n (List.mem_cons_self ..))
    obtain ⟨b, c⟩ := shown_ints (ns := ns) fun m hm => h m (List.mem_cons_of_mem _ hm)
    simp only [List.map_cons, PyData.shownAll, PyData.shown, List.sum_cons, List.length_cons]
    omega
/-- repr of a list of ints -/
theorem call_repr_ints (gu : X.A.guards = some []) (room : ∃ k, Room k X.A) : CallR X (.builtin "repr") (fun xs H Q => ∃ a ns, xs = [.ref a] ∧ SqL X.K H a (ns.map V.int) ∧ ns.length ≤ 5000 ∧ (∀ n ∈ ns, n.natAbs.log2 < 1920) ∧ Q (.str (dataI ns).shown) H) := by
  intro pins s σ H xs us Q I r h
  obtain ⟨a, ns, rfl, hS, len, small, q⟩ := h
  refine call_repr_data gu room pins s σ H _ us Q I r ⟨a, dataI ns, rfl, .lst hS (dp_ints ns), ?_, ?_, ?_, ?_, q⟩
  · unfold dataI
    simp only [PyData.showable, showable_ints small]
  · unfold dataI
    simp only [PyData.hasDict, hasDict_ints]
  · have := depth_ints ns
    unfold dataI
    simp only [PyData.depth]
    omega
  · obtain ⟨s1, s2⟩ := shown_ints small
    have := listText_len_le (PyData.shownAll (ns.map PyData.int))
    unfold dataI
    simp only [PyData.shown]
    rw [sizeLine_eq]
    omega
end
end Sm

set_option maxHeartbeats 4000000
namespace Sm
/-! rules: a table that repeats -/
def vl (T : List Int) (p : Nat) (r : Int) (x : Nat) : Int :=
  if x < T.length then T.getD x 0 else T.getD (x - ((x - T.length) / p + 1) * p) 0 + (((x - T.length) / p + 1 : Nat) : Int) * r
structure RuleOk (T : List Int) (p : Nat) (r : Int) : Prop where
  p0 : 0 < p
  p1 : p ≤ T.length
  r0 : 0 ≤ r
  nn : ∀ i, i < T.length → 0 ≤ T.getD i 0
  mono : ∀ i, i + 1 < T.length → T.getD i 0 ≤ T.getD (i + 1) 0
  wrap : T.getD (T.length - 1) 0 ≤ T.getD (T.length - p) 0 + r
theorem place {n p x : Nat} (hp : 0 < p) (hpn : p ≤ n) (h : n ≤ x) : ((x - n) / p + 1) * p ≤ x ∧ n - p ≤ x - ((x - n) / p + 1) * p ∧ x - ((x - n) / p + 1) * p < n := by
  have a := Nat.div_add_mod (x - n) p
  have b := Nat.mod_lt (x - n) hp
  have c : ((x - n) / p + 1) * p = p * ((x - n) / p) + p := by rw [Nat.add_mul, Nat.one_mul, Nat.mul_comm]
  omega
theorem vl_lt {T : List Int} {p : Nat} {r : Int} {x : Nat} (h : x < T.length) : vl T p r x = T.getD x 0 := if_pos h
theorem vl_step {T : List Int} {p : Nat} {r : Int} {x : Nat} (hp : 0 < p) (hpn : p ≤ T.length) (h : T.length ≤ x) : vl T p r x = vl T p r (x - p) + r := by
  by_cases q : x - p < T.length
  · have e : (x - T.length) / p = 0 := Nat.div_eq_of_lt (by omega)
    rw [vl_lt q]
    unfold vl
    rw [if_neg (by omega), e]
    simp
  · have e : (x - T.length) / p = (x - p - T.length) / p + 1 := by
      rw [Nat.div_eq_sub_div hp (by omega), show x - T.length - p = x - p - T.length by omega]
    unfold vl
    rw [if_neg (by omega), if_neg q, e]
    have i : x - ((x - p - T.length) / p + 1 + 1) * p = x - p - ((x - p - T.length) / p + 1) * p := by
      rw [Nat.add_mul ((x - p - T.length) / p + 1) 1 p, Nat.one_mul]
      omega
    rw [i]
    have k : (((x - p - T.length) / p + 1 + 1 : Nat) : Int) * r = (((x - p - T.length) / p + 1 : Nat) : Int) * r + r := by
      rw [Int.natCast_add ((x - p - T.length) / p + 1) 1, Int.add_mul]
      simp
    rw [k, Int.add_assoc]
theorem vl_add {T : List Int} {p : Nat} {r : Int} {x : Nat} (hp : 0 < p) (hpn : p ≤ T.length) (h : T.length - p ≤ x) : vl T p r (x + p) = vl T p r x + r := by
  rw [vl_step hp hpn (by omega), Nat.add_sub_cancel]
theorem vl_addk {T : List Int} {p : Nat} {r : Int} {x : Nat} (hp : 0 < p) (hpn : p ≤ T.length) (h : T.length - p ≤ x) : ∀ k : Nat, vl T p r (x + k * p) = vl T p r x + (k : Int) * r
  | 0 => by simp
  | k + 1 => by
    have ih := vl_addk (r := r) hp hpn h k
    rw [show x + (k + 1) * p = x + k * p + p by rw [Nat.add_mul, Nat.one_mul, Nat.add_assoc], vl_add hp hpn (by omega), ih]
    rw [Int.natCast_add, Int.add_mul]
    simp
    omega
section
variable {T : List Int} {p : Nat} {r : Int}
theorem RuleOk.up (o : RuleOk T p r) : ∀ x, vl T p r x ≤ vl T p r (x + 1) := by
  intro x
  induction x using Nat.strongRecOn with
  | _ x ih =>
    have p0 := o.p0
    have p1 := o.p1
    by_cases a : x + 1 < T.length
    · rw [vl_lt a, vl_lt (by omega)]
      exact o.mono x a
    · by_cases b : x < T.length
      · rw [vl_lt b, vl_step p0 p1 (by omega), vl_lt (by omega)]
        have w := o.wrap
        rw [show x = T.length - 1 by omega]
        rw [show T.length - 1 + 1 - p = T.length - p by omega]
        exact w
      · rw [vl_step p0 p1 (by omega), vl_step (x := x + 1) p0 p1 (by omega)]
        have := ih (x - p) (by omega)
        rw [show x - p + 1 = x + 1 - p by omega] at this
        omega
theorem RuleOk.le (o : RuleOk T p r) {x y : Nat} (h : x ≤ y) : vl T p r x ≤ vl T p r y := by
  obtain ⟨k, rfl⟩ := Nat.le.dest h
  induction k with
  | zero => exact Int.le_refl _
  | succ k ih => exact Int.le_trans (ih (by omega)) (o.up _)
theorem RuleOk.pos (o : RuleOk T p r) (x : Nat) : 0 ≤ vl T p r x := by
  have a := o.le (Nat.zero_le x)
  have p0 := o.p0
  have p1 := o.p1
  rw [vl_lt (x := 0) (by omega)] at a
  have := o.nn 0 (by omega)
  omega
theorem RuleOk.row (o : RuleOk T p r) {i j : Nat} (h : i ≤ j) (hj : j < T.length) : T.getD i 0 ≤ T.getD j 0 := by
  have a := o.le h
  rw [vl_lt hj, vl_lt (by omega)] at a
  exact a
/-- the values of the last period repeat by s, increased by c -/
def Rep (T : List Int) (p : Nat) (r : Int) (s : Nat) (c : Int) : Prop := ∀ i, T.length - p ≤ i → i < T.length → vl T p r (i + s) = T.getD i 0 + c
theorem rep_all {s : Nat} {c : Int} (o : RuleOk T p r) (h : Rep T p r s c) : ∀ y, T.length - p ≤ y → vl T p r (y + s) = vl T p r y + c := by
  intro y
  induction y using Nat.strongRecOn with
  | _ y ih =>
    intro hy
    have p0 := o.p0
    have p1 := o.p1
    by_cases a : y < T.length
    · rw [vl_lt a]
      exact h y hy a
    · have e := ih (y - p) (by omega) (by omega)
      rw [vl_step (x := y) p0 p1 (by omega), vl_step (x := y + s) p0 p1 (by omega), show y + s - p = y - p + s by omega, e]
      omega
theorem rep_self (o : RuleOk T p r) : Rep T p r p r := fun i h1 h2 => by
  rw [vl_add o.p0 o.p1 h1, vl_lt h2]
theorem getD_take {n i : Nat} (h : i < n) : (T.take n).getD i 0 = T.getD i 0 := by
  rw [List.getD_eq_getElem?_getD, List.getD_eq_getElem?_getD, List.getElem?_take_of_lt h]
/-- the table cut: still a rule, with the same values -/
theorem cut_ok {a s : Nat} {c : Int} (o : RuleOk T p r) (hs : 0 < s) (ha : a + s ≤ T.length) (c0 : 0 ≤ c) (h : ∀ y, a ≤ y → vl T p r (y + s) = vl T p r y + c) : RuleOk (T.take (a + s)) s c := by
  have len : (T.take (a + s)).length = a + s := by rw [List.length_take]; omega
  refine ⟨hs, by omega, c0, fun i hi => ?_, fun i hi => ?_, ?_⟩
  · rw [getD_take (by omega)]
    exact o.nn i (by omega)
  · rw [getD_take (by omega), getD_take (by omega)]
    exact o.mono i (by omega)
  · rw [len, getD_take (by omega), getD_take (by omega), show a + s - s = a by omega]
    have e := h a (Nat.le_refl _)
    have u := o.up (a + s - 1)
    rw [show a + s - 1 + 1 = a + s by omega, e, vl_lt (by omega), vl_lt (by omega)] at u
    exact u
theorem cut_vl {a s : Nat} {c : Int} (hs : 0 < s) (ha : a + s ≤ T.length) (h : ∀ y, a ≤ y → vl T p r (y + s) = vl T p r y + c) : ∀ x, vl (T.take (a + s)) s c x = vl T p r x := by
  have len : (T.take (a + s)).length = a + s := by rw [List.length_take]; omega
  intro x
  induction x using Nat.strongRecOn with
  | _ x ih =>
    by_cases q : x < a + s
    · rw [vl_lt (by omega), vl_lt (by omega), getD_take q]
    · rw [vl_step hs (by omega) (by omega), ih (x - s) (by omega), ← h (x - s) (by omega), show x - s + s = x by omega]
/-- the least amount, or none -/
def IsLf (T : List Int) (p : Nat) (r : Int) (y : Int) : Option Nat → Prop
  | none => r = 0 ∧ T.getD (T.length - 1) 0 < y
  | some x => y ≤ vl T p r x ∧ ∀ z, z < x → vl T p r z < y
theorem lf_near {y : Int} {i : Nat} (hi : i < T.length) (h1 : y ≤ T.getD i 0) (h2 : ∀ j, j < i → T.getD j 0 < y) : IsLf T p r y (some i) :=
  ⟨by rw [vl_lt hi]; exact h1, fun z hz => by rw [vl_lt (by omega)]; exact h2 z hz⟩
theorem lf_far {y : Int} {i k : Nat} (o : RuleOk T p r) (k0 : 0 < k) (hk : T.getD (T.length - 1) 0 + ((k : Int) - 1) * r < y) (h0 : T.length - p ≤ i) (hi : i < T.length) (h1 : y - (k : Int) * r ≤ T.getD i 0)
    (h2 : ∀ j, T.length - p ≤ j → j < i → T.getD j 0 < y - (k : Int) * r) : IsLf T p r y (some (i + k * p)) := by
  have p0 := o.p0
  have p1 := o.p1
  refine ⟨?_, fun z hz => ?_⟩
  · rw [vl_addk p0 p1 h0, vl_lt hi]
    omega
  · have kp : p ≤ k * p := Nat.le_mul_of_pos_left p k0
    refine Int.lt_of_le_of_lt (o.le (show z ≤ i + k * p - 1 by omega)) ?_
    by_cases q : i = T.length - p
    · obtain ⟨k, rfl⟩ : ∃ j, k = j + 1 := ⟨k - 1, by omega⟩
      have e : i + (k + 1) * p - 1 = T.length - 1 + k * p := by
        rw [Nat.add_mul, Nat.one_mul] at kp ⊢
        omega
      rw [e, vl_addk p0 p1 (by omega), vl_lt (by omega)]
      have c : ((k + 1 : Nat) : Int) - 1 = (k : Int) := by omega
      rw [c] at hk
      exact hk
    · rw [show i + k * p - 1 = i - 1 + k * p by omega, vl_addk p0 p1 (by omega), vl_lt (by omega)]
      have := h2 (i - 1) (by omega) (by omega)
      omega
theorem lf_one {y : Int} {a b : Option Nat} (o : RuleOk T p r) (ha : IsLf T p r y a) (hb : IsLf T p r y b) : a = b := by
  have no : ∀ {x : Nat}, IsLf T p r y none → IsLf T p r y (some x) → False := by
    rintro x ⟨h1, h2⟩ ⟨h3, _⟩
    have p0 := o.p0
    have p1 := o.p1
    have all : ∀ x, vl T p r x ≤ T.getD (T.length - 1) 0 := by
      intro x
      induction x using Nat.strongRecOn with
      | _ x ih =>
        by_cases q : x < T.length
        · rw [vl_lt q]
          exact o.row (by omega) (by omega)
        · rw [vl_step p0 p1 (by omega)]
          have := ih (x - p) (by omega)
          omega
    have := all x
    omega
  match a, b, ha, hb with
  | none, none, _, _ => rfl
  | none, some x, ha, hb => exact (no ha hb).elim
  | some x, none, ha, hb => exact (no hb ha).elim
  | some x, some z, ⟨h1, h2⟩, ⟨h3, h4⟩ =>
    rcases Nat.lt_trichotomy x z with q | q | q
    · have := h4 x q
      omega
    · rw [q]
    · have := h2 z q
      omega
end
theorem div_cast {x n p : Nat} (h : n ≤ x) : ((x : Int) - (n : Int)) / (p : Int) + 1 = (((x - n) / p + 1 : Nat) : Int) := by
  rw [← Int.natCast_sub h]
  rfl
theorem ceil_lo {a r : Int} (hr : 0 < r) : a ≤ (a + r - 1) / r * r ∧ ((a + r - 1) / r - 1) * r < a := by
  have h1 := Int.mul_ediv_add_emod (a + r - 1) r
  have h2 := Int.emod_nonneg (a + r - 1) (show r ≠ 0 by omega)
  have h3 := Int.emod_lt_of_pos (a + r - 1) hr
  have e : (a + r - 1) / r * r = r * ((a + r - 1) / r) := Int.mul_comm _ _
  have e2 : ((a + r - 1) / r - 1) * r = r * ((a + r - 1) / r) - r := by rw [Int.sub_mul, Int.mul_comm]; omega
  omega
end Sm

set_option maxHeartbeats 4000000
namespace Sm
structure RuleW (T : List Int) (p : Nat) (r : Int) : Prop where
  p0 : 0 < p
  p1 : p ≤ T.length
  r0 : 0 ≤ r
theorem RuleOk.w {T : List Int} {p : Nat} {r : Int} (o : RuleOk T p r) : RuleW T p r := ⟨o.p0, o.p1, o.r0⟩
section
variable {T : List Int} {p : Nat} {r : Int}
theorem rep_allW {s : Nat} {c : Int} (o : RuleW T p r) (h : Rep T p r s c) : ∀ y, T.length - p ≤ y → vl T p r (y + s) = vl T p r y + c := by
  intro y
  induction y using Nat.strongRecOn with
  | _ y ih =>
    intro hy
    have p0 := o.p0
    have p1 := o.p1
    by_cases a : y < T.length
    · rw [vl_lt a]
      exact h y hy a
    · have e := ih (y - p) (by omega) (by omega)
      rw [vl_step (x := y) p0 p1 (by omega), vl_step (x := y + s) p0 p1 (by omega), show y + s - p = y - p + s by omega, e]
      omega
theorem rep_selfW (o : RuleW T p r) : Rep T p r p r := fun i h1 h2 => by
  rw [vl_add o.p0 o.p1 h1, vl_lt h2]
/-- a weak rule that does not fall within its table and behind it is a rule -/
theorem W_ok (o : RuleW T p r) (nn : ∀ i, i < T.length → 0 ≤ T.getD i 0) (h : ∀ x, x < T.length → T.getD x 0 ≤ vl T p r (x + 1)) : RuleOk T p r := by
  have p0 := o.p0
  have p1 := o.p1
  refine ⟨p0, p1, o.r0, nn, fun i hi => ?_, ?_⟩
  · have := h i (by omega)
    rw [vl_lt hi] at this
    exact this
  · have := h (T.length - 1) (by omega)
    rw [vl_step p0 p1 (by omega), show T.length - 1 + 1 - p = T.length - p by omega, vl_lt (by omega)] at this
    exact this
end
section
variable {T1 T2 : List Int} {p1 p2 : Nat} {r1 r2 : Int}
def gp (T1 : List Int) (p1 : Nat) (r1 : Int) (T2 : List Int) (p2 : Nat) (r2 : Int) (x : Nat) : Int := vl T1 p1 r1 x - vl T2 p2 r2 x
/-- the first amount at which the one is above, or none -/
def IsFst (T1 : List Int) (p1 : Nat) (r1 : Int) (T2 : List Int) (p2 : Nat) (r2 : Int) : Option Nat → Prop
  | none => ∀ x, gp T1 p1 r1 T2 p2 r2 x ≤ 0
  | some x => 0 < gp T1 p1 r1 T2 p2 r2 x ∧ ∀ z, z < x → gp T1 p1 r1 T2 p2 r2 z ≤ 0
theorem fst_one {a b : Option Nat} (ha : IsFst T1 p1 r1 T2 p2 r2 a) (hb : IsFst T1 p1 r1 T2 p2 r2 b) : a = b := by
  match a, b, ha, hb with
  | none, none, _, _ => rfl
  | none, some x, ha, hb =>
    have := ha x
    have := hb.1
    omega
  | some x, none, ha, hb =>
    have := hb x
    have := ha.1
    omega
  | some x, some z, ⟨h1, h2⟩, ⟨h3, h4⟩ =>
    rcases Nat.lt_trichotomy x z with q | q | q
    · have := h4 x q
      omega
    · rw [q]
    · have := h2 z q
      omega
/-- by a common turn t = a p1 = b p2 the gap grows by g, from a start of both on -/
theorem gp_turn {B a b : Nat} (w1 : RuleW T1 p1 r1) (w2 : RuleW T2 p2 r2) (hB1 : T1.length - p1 ≤ B) (hB2 : T2.length - p2 ≤ B) (e : a * p1 = b * p2) {x : Nat} (hx : B ≤ x) :
    gp T1 p1 r1 T2 p2 r2 (x + a * p1) = gp T1 p1 r1 T2 p2 r2 x + ((a : Int) * r1 - (b : Int) * r2) := by
  unfold gp
  rw [vl_addk w1.p0 w1.p1 (by omega) a, e, vl_addk w2.p0 w2.p1 (by omega) b]
  omega
theorem gp_turns {B t : Nat} {g : Int} (h : ∀ x, B ≤ x → gp T1 p1 r1 T2 p2 r2 (x + t) = gp T1 p1 r1 T2 p2 r2 x + g) {x : Nat} (hx : B ≤ x) : ∀ k : Nat, gp T1 p1 r1 T2 p2 r2 (x + k * t) = gp T1 p1 r1 T2 p2 r2 x + (k : Int) * g
  | 0 => by simp
  | k + 1 => by
    have ih := gp_turns h hx k
    rw [show x + (k + 1) * t = x + k * t + t by rw [Nat.add_mul, Nat.one_mul, Nat.add_assoc], h _ (by omega), ih, Int.natCast_add, Int.add_mul]
    simp
    omega
theorem split_turn {B t z : Nat} (t0 : 0 < t) (hz : B ≤ z) : ∃ x k, B ≤ x ∧ x < B + t ∧ z = x + k * t := by
  have a := Nat.div_add_mod (z - B) t
  have b := Nat.mod_lt (z - B) t0
  refine ⟨B + (z - B) % t, (z - B) / t, by omega, by omega, ?_⟩
  rw [Nat.mul_comm]
  omega
theorem none_of {B t : Nat} {g : Int} (t0 : 0 < t) (h : ∀ x, B ≤ x → gp T1 p1 r1 T2 p2 r2 (x + t) = gp T1 p1 r1 T2 p2 r2 x + g) (hg : g ≤ 0) (early : ∀ x, x < B + t → gp T1 p1 r1 T2 p2 r2 x ≤ 0) : IsFst T1 p1 r1 T2 p2 r2 none := by
  intro z
  by_cases q : z < B
  · exact early z (by omega)
  · obtain ⟨x, k, h1, h2, rfl⟩ := split_turn t0 (show B ≤ z by omega)
    rw [gp_turns h h1 k]
    have := early x h2
    have : (k : Int) * g ≤ 0 := Int.mul_nonpos_of_nonneg_of_nonpos (by omega) hg
    omega
/-- the least of the first amounts of all rests -/
theorem some_of {B t m : Nat} {g : Int} (t0 : 0 < t) (h : ∀ x, B ≤ x → gp T1 p1 r1 T2 p2 r2 (x + t) = gp T1 p1 r1 T2 p2 r2 x + g) (hg : 0 < g) (early : ∀ x, x < B + t → gp T1 p1 r1 T2 p2 r2 x ≤ 0)
    (hm : ∃ x, B ≤ x ∧ x < B + t ∧ (m : Int) = (x : Int) + (t : Int) * ((-gp T1 p1 r1 T2 p2 r2 x) / g + 1)) (least : ∀ x, B ≤ x → x < B + t → (m : Int) ≤ (x : Int) + (t : Int) * ((-gp T1 p1 r1 T2 p2 r2 x) / g + 1)) : IsFst T1 p1 r1 T2 p2 r2 (some m) := by
  constructor
  · obtain ⟨x, h1, h2, e⟩ := hm
    have ex := early x h2
    have q0 : 0 ≤ (-gp T1 p1 r1 T2 p2 r2 x) / g := Int.ediv_nonneg (by omega) (by omega)
    obtain ⟨k, hk⟩ : ∃ k : Nat, (-gp T1 p1 r1 T2 p2 r2 x) / g = (k : Int) := ⟨_, (Int.toNat_of_nonneg q0).symm⟩
    have e2 : m = x + (k + 1) * t := by
      rw [hk] at e
      have : ((x + (k + 1) * t : Nat) : Int) = (x : Int) + (t : Int) * ((k : Int) + 1) := by
        rw [Int.natCast_add, Int.natCast_mul, Int.mul_comm]
        rfl
      omega
    rw [e2, gp_turns h h1]
    have d1 := Int.mul_ediv_add_emod (-gp T1 p1 r1 T2 p2 r2 x) g
    have d2 := Int.emod_lt_of_pos (-gp T1 p1 r1 T2 p2 r2 x) hg
    rw [hk] at d1
    have e3 : ((k + 1 : Nat) : Int) * g = g * (k : Int) + g := by rw [Int.natCast_add, Int.add_mul, Int.mul_comm]; simp
    omega
  · intro z hz
    by_cases q : z < B
    · exact early z (by omega)
    · obtain ⟨x, k, h1, h2, rfl⟩ := split_turn t0 (show B ≤ z by omega)
      rcases Int.lt_or_le 0 (gp T1 p1 r1 T2 p2 r2 (x + k * t)) with w | w
      · exfalso
        have l := least x h1 h2
        rw [gp_turns h h1 k] at w
        have d1 := Int.mul_ediv_add_emod (-gp T1 p1 r1 T2 p2 r2 x) g
        have d2 := Int.emod_nonneg (-gp T1 p1 r1 T2 p2 r2 x) (show g ≠ 0 by omega)
        have lt : (-gp T1 p1 r1 T2 p2 r2 x) / g < (k : Int) := by
          rcases Int.lt_or_le ((-gp T1 p1 r1 T2 p2 r2 x) / g) (k : Int) with c | c
          · exact c
          · have := Int.mul_le_mul_of_nonneg_left c (show 0 ≤ g by omega)
            rw [Int.mul_comm g (k : Int)] at this
            omega
        have le := Int.mul_le_mul_of_nonneg_left (show (-gp T1 p1 r1 T2 p2 r2 x) / g + 1 ≤ (k : Int) by omega) (show 0 ≤ (t : Int) by omega)
        have c1 : ((k * t : Nat) : Int) = (t : Int) * (k : Int) := by rw [Int.natCast_mul, Int.mul_comm]
        omega
      · exact w
end
end Sm

set_option maxHeartbeats 4000000
namespace Sm
/-! just one shortest tuple has given values -/
structure Short (T : List Int) (p : Nat) (r : Int) : Prop where
  ok : RuleOk T p r
  turn : ∀ s c, 0 < s → s < p → s ∣ p → ¬ Rep T p r s c
  start : p = T.length ∨ vl T p r (T.length - 1) ≠ T.getD (T.length - p - 1) 0 + r
theorem vl_ge_turn {T : List Int} {p : Nat} {r : Int} (o : RuleOk T p r) {x : Nat} (h : T.length - p ≤ x) (k : Nat) : vl T p r (x + k * p) = vl T p r x + (k : Int) * r := vl_addk o.p0 o.p1 h k
/-- what holds far off holds from the start of the turns on -/
theorem rep_down {T : List Int} {p s A : Nat} {r c : Int} (o : RuleOk T p r) (h : ∀ x, A ≤ x → vl T p r (x + s) = vl T p r x + c) {x : Nat} (hx : T.length - p ≤ x) : vl T p r (x + s) = vl T p r x + c := by
  have p0 := o.p0
  have e1 := vl_ge_turn o (x := x) hx A
  have e2 := vl_ge_turn o (x := x + s) (by omega) A
  have far : A ≤ x + A * p := by
    have : A * 1 ≤ A * p := Nat.mul_le_mul_left A p0
    omega
  have e3 := h _ far
  rw [show x + A * p + s = x + s + A * p by omega] at e3
  omega
/-- two turns have a turn as long as their greatest common divisor -/
theorem gcd_turn {f : Nat → Int} {A : Nat} : ∀ (n p q : Nat), p + q ≤ n → 0 < p → 0 < q → (∃ r, ∀ x, A ≤ x → f (x + p) = f x + r) → (∃ t, ∀ x, A ≤ x → f (x + q) = f x + t) → ∃ c, ∀ x, A ≤ x → f (x + Nat.gcd p q) = f x + c
  | 0, p, q, h, p0, q0, _, _ => by omega
  | n + 1, p, q, h, p0, q0, ⟨r, hr⟩, ⟨t, ht⟩ => by
    rcases Nat.lt_trichotomy p q with l | l | l
    · have g : Nat.gcd p (q - p) = Nat.gcd p q := Nat.gcd_sub_self_right (Nat.le_of_lt l)
      rw [← g]
      refine gcd_turn n p (q - p) (by omega) p0 (by omega) ⟨r, hr⟩ ⟨t - r, fun x hx => ?_⟩
      have e1 := ht x hx
      have e2 := hr (x + (q - p)) (by omega)
      rw [show x + (q - p) + p = x + q by omega] at e2
      omega
    · subst l
      rw [Nat.gcd_self]
      exact ⟨r, hr⟩
    · have g : Nat.gcd (p - q) q = Nat.gcd p q := Nat.gcd_sub_self_left (Nat.le_of_lt l)
      rw [← g]
      refine gcd_turn n (p - q) q (by omega) (by omega) q0 ⟨r - t, fun x hx => ?_⟩ ⟨t, ht⟩
      have e1 := hr x hx
      have e2 := ht (x + (p - q)) (by omega)
      rw [show x + (p - q) + q = x + p by omega] at e2
      omega
theorem short_le {T1 T2 : List Int} {p1 p2 : Nat} {r1 r2 : Int} (s1 : Short T1 p1 r1) (o2 : RuleOk T2 p2 r2) (h : ∀ x, vl T1 p1 r1 x = vl T2 p2 r2 x) : Nat.gcd p1 p2 = p1 := by
  have o1 := s1.ok
  obtain ⟨c, hc⟩ := gcd_turn (f := vl T1 p1 r1) (A := max (T1.length - p1) (T2.length - p2)) _ p1 p2 (Nat.le_refl _) o1.p0 o2.p0 ⟨r1, fun x hx => vl_add o1.p0 o1.p1 (by omega)⟩ ⟨r2, fun x hx => by rw [h, h]; exact vl_add o2.p0 o2.p1 (by omega)⟩
  have g0 : 0 < Nat.gcd p1 p2 := Nat.gcd_pos_of_pos_left _ o1.p0
  have gl : Nat.gcd p1 p2 ≤ p1 := Nat.le_of_dvd o1.p0 (Nat.gcd_dvd_left ..)
  by_cases q : Nat.gcd p1 p2 = p1
  · exact q
  · exact absurd (fun i h1 h2 => by rw [← vl_lt (p := p1) (r := r1) h2]; exact rep_down o1 hc h1) (s1.turn _ c g0 (by omega) (Nat.gcd_dvd_left ..))
theorem short_start {T1 T2 : List Int} {p : Nat} {r : Int} (s1 : Short T1 p r) (s2 : Short T2 p r) (h : ∀ x, vl T1 p r x = vl T2 p r x) : T2.length ≤ T1.length := by
  have o1 := s1.ok
  have o2 := s2.ok
  have p0 := o1.p0
  have l1 := o1.p1
  have l2 := o2.p1
  rcases Nat.lt_or_ge T1.length T2.length with q | q
  · exfalso
    rcases s2.start with e | e
    · omega
    · apply e
      have := vl_add (T := T1) (p := p) (r := r) p0 l1 (x := T2.length - p - 1) (by omega)
      rw [show T2.length - p - 1 + p = T2.length - 1 by omega, h, h, vl_lt (T := T2) (x := T2.length - p - 1) (by omega)] at this
      exact this
  · exact q
/-- just one shortest tuple has given values -/
theorem short_one {T1 T2 : List Int} {p1 p2 : Nat} {r1 r2 : Int} (s1 : Short T1 p1 r1) (s2 : Short T2 p2 r2) (h : ∀ x, vl T1 p1 r1 x = vl T2 p2 r2 x) : T1 = T2 ∧ p1 = p2 ∧ r1 = r2 := by
  have a := short_le s1 s2.ok h
  have b := short_le s2 s1.ok fun x => (h x).symm
  rw [Nat.gcd_comm] at b
  obtain rfl : p1 = p2 := a.symm.trans b
  have o1 := s1.ok
  have o2 := s2.ok
  have e1 := vl_add o1.p0 o1.p1 (r := r1) (x := max (T1.length - p1) (T2.length - p1)) (by omega)
  have e2 := vl_add o2.p0 o2.p1 (r := r2) (x := max (T1.length - p1) (T2.length - p1)) (by omega)
  rw [h, h] at e1
  obtain rfl : r1 = r2 := by omega
  have l : T1.length = T2.length := Nat.le_antisymm (short_start s2 s1 fun x => (h x).symm) (short_start s1 s2 h)
  refine ⟨List.ext_getElem l fun i h1 h2 => ?_, rfl, rfl⟩
  have e := h i
  rw [vl_lt h1, vl_lt h2, List.getD_eq_getElem?_getD, List.getD_eq_getElem?_getD, List.getElem?_eq_getElem h1, List.getElem?_eq_getElem h2] at e
  exact e
theorem rep_slope {T : List Int} {p s : Nat} {r c : Int} (o : RuleOk T p r) (sd : s ∣ p) (h : Rep T p r s c) : r * (s : Int) = c * (p : Int) := by
  obtain ⟨k, rfl⟩ := sd
  have all := rep_all o h
  have up : ∀ n : Nat, vl T (s * k) r (T.length - s * k + n * s) = vl T (s * k) r (T.length - s * k) + (n : Int) * c := by
    intro n
    induction n with
    | zero => simp
    | succ n ih =>
      rw [show T.length - s * k + (n + 1) * s = T.length - s * k + n * s + s by rw [Nat.add_mul]; omega, all _ (by omega), ih, Int.natCast_add, Int.add_mul]
      simp
      omega
  have e1 := up k
  have e2 := vl_add o.p0 o.p1 (r := r) (x := T.length - s * k) (Nat.le_refl _)
  rw [Nat.mul_comm k s, e2] at e1
  have e3 : r = (k : Int) * c := by omega
  rw [e3, Int.natCast_mul, Int.mul_comm (k : Int) c, Int.mul_assoc, Int.mul_comm (k : Int)]
theorem rep_quot {T : List Int} {p s : Nat} {r c : Int} (o : RuleOk T p r) (sd : s ∣ p) (h : Rep T p r s c) : r * (s : Int) / (p : Int) = c ∧ r * (s : Int) % (p : Int) = 0 := by
  have p0 := o.p0
  rw [rep_slope o sd h]
  exact ⟨Int.mul_ediv_cancel _ (by omega), Int.mul_emod_left _ _⟩
theorem cut_short {T : List Int} {p a s : Nat} {r c : Int} (o : RuleOk T p r) (hs : 0 < s) (sd : s ∣ p) (ha : a ≤ T.length - p) (c0 : 0 ≤ c) (h : ∀ y, a ≤ y → vl T p r (y + s) = vl T p r y + c)
    (hm : ∀ s' c', 0 < s' → s' < s → s' ∣ p → ¬ Rep T p r s' c') (st : a = 0 ∨ vl T p r (a - 1 + s) ≠ T.getD (a - 1) 0 + c) : Short (T.take (a + s)) s c := by
  have p1 := o.p1
  have sp : s ≤ p := Nat.le_of_dvd o.p0 sd
  have ok := cut_ok o hs (by omega) c0 h
  have eq := cut_vl (T := T) (p := p) (r := r) hs (show a + s ≤ T.length by omega) h
  have len : (T.take (a + s)).length = a + s := by rw [List.length_take]; omega
  refine ⟨ok, fun s' c' h1 h2 h3 rep => hm s' c' h1 h2 (Nat.dvd_trans h3 sd) fun i g1 g2 => ?_, ?_⟩
  · have all := rep_all ok rep i (by rw [len]; omega)
    rw [eq, eq, vl_lt (T := T) g2] at all
    exact all
  · by_cases z : a = 0
    · left
      rw [len, z, Nat.zero_add]
    · right
      rw [len, eq, show a + s - 1 = a - 1 + s by omega, show a + s - s - 1 = a - 1 by omega, getD_take (by omega)]
      rcases st with q | q
      · exact absurd q z
      · exact q
theorem dvd_of {p i : Nat} (h : (p : Int).fmod (1 + (i : Int)) = 0) : 1 + i ∣ p := by
  rw [Int.fmod_eq_emod_of_nonneg _ (by omega)] at h
  exact Int.natCast_dvd_natCast.mp (Int.dvd_of_emod_eq_zero (b := (p : Int)) (a := ((1 + i : Nat) : Int)) h)
theorem of_dvd {p i : Nat} (h : 1 + i ∣ p) : (p : Int).fmod (1 + (i : Int)) = 0 := by
  rw [Int.fmod_eq_emod_of_nonneg _ (by omega)]
  exact Int.emod_eq_zero_of_dvd (a := ((1 + i : Nat) : Int)) (Int.natCast_dvd_natCast.mpr h)
end Sm

set_option maxHeartbeats 4000000
namespace Sm
/-! a list that comes back when it is turned; the steps of the last period -/
def Rot (I : List Int) (s : Nat) : Prop := I = I.drop s ++ I.take s
structure Cyc (I : List Int) (s : Nat) : Prop where
  s0 : 0 < s
  s1 : s ≤ I.length
  dv : s ∣ I.length
  rot : s < I.length → Rot I s
  least : ∀ t, 0 < t → t < s → t ∣ I.length → ¬ Rot I t
def stepsOf (T : List Int) (p : Nat) (r : Int) : List Int := (List.range p).map fun i => vl T p r (T.length - p + i + 1) - vl T p r (T.length - p + i)
theorem stepsOf_len (T : List Int) (p : Nat) (r : Int) : (stepsOf T p r).length = p := by
  unfold stepsOf
  rw [List.length_map, List.length_range]
theorem stepsOf_get {T : List Int} {p : Nat} {r : Int} {i : Nat} (h : i < p) : (stepsOf T p r)[i]? = some (vl T p r (T.length - p + i + 1) - vl T p r (T.length - p + i)) := by
  unfold stepsOf
  rw [List.getElem?_map, List.getElem?_range h]
  rfl
theorem rot_get {I : List Int} {s i : Nat} (h : Rot I s) (hs : s ≤ I.length) (hi : i < I.length) : I[i]? = if i + s < I.length then I[i + s]? else I[i + s - I.length]? := by
  have e : I[i]? = (I.drop s ++ I.take s)[i]? := congrArg (fun l => l[i]?) h
  rw [e, List.getElem?_append, List.length_drop]
  by_cases q : i < I.length - s
  · rw [if_pos q, if_pos (by omega), List.getElem?_drop, Nat.add_comm]
  · rw [if_neg q, if_neg (by omega), List.getElem?_take_of_lt (by omega), show i - (I.length - s) = i + s - I.length by omega]
theorem of_rot {I : List Int} {s : Nat} (hs : s ≤ I.length) (h : ∀ i, i < I.length → I[i]? = if i + s < I.length then I[i + s]? else I[i + s - I.length]?) : Rot I s := by
  refine List.ext_getElem? fun i => ?_
  by_cases hi : i < I.length
  · rw [h i hi, List.getElem?_append, List.length_drop]
    by_cases q : i < I.length - s
    · rw [if_pos q, if_pos (by omega), List.getElem?_drop, Nat.add_comm]
    · rw [if_neg q, if_neg (by omega), List.getElem?_take_of_lt (by omega), show i - (I.length - s) = i + s - I.length by omega]
  · rw [List.getElem?_eq_none (by omega), List.getElem?_eq_none (by rw [List.length_append, List.length_drop, List.length_take]; omega)]
theorem rot_rep {T : List Int} {p s : Nat} {r : Int} (o : RuleW T p r) (sp : s < p) (h : Rot (stepsOf T p r) s) : Rep T p r s (vl T p r (T.length - p + s) - vl T p r (T.length - p)) := by
  have p0 := o.p0
  have p1 := o.p1
  have ln := stepsOf_len T p r
  have d : ∀ j, j < p → vl T p r (T.length - p + (j + s) + 1) - vl T p r (T.length - p + (j + s)) = vl T p r (T.length - p + j + 1) - vl T p r (T.length - p + j) := by
    intro j hj
    have e := rot_get h (by omega) (i := j) (by omega)
    rw [ln, stepsOf_get hj] at e
    by_cases q : j + s < p
    · rw [if_pos q, stepsOf_get q] at e
      exact (Option.some.inj e).symm
    · rw [if_neg q, stepsOf_get (by omega)] at e
      have e := Option.some.inj e
      have e1 := vl_add p0 p1 (r := r) (x := T.length - p + (j + s - p) + 1) (by omega)
      have e2 := vl_add p0 p1 (r := r) (x := T.length - p + (j + s - p)) (by omega)
      rw [show T.length - p + (j + s - p) + 1 + p = T.length - p + (j + s) + 1 by omega] at e1
      rw [show T.length - p + (j + s - p) + p = T.length - p + (j + s) by omega] at e2
      omega
  have all : ∀ j, j ≤ p → vl T p r (T.length - p + j + s) = vl T p r (T.length - p + j) + (vl T p r (T.length - p + s) - vl T p r (T.length - p)) := by
    intro j
    induction j with
    | zero => intro _; simp; omega
    | succ j ih =>
      intro hj
      have a := ih (by omega)
      have b := d j (by omega)
      rw [show T.length - p + (j + s) + 1 = T.length - p + (j + 1) + s by omega, show T.length - p + (j + s) = T.length - p + j + s by omega] at b
      rw [show T.length - p + (j + 1) = T.length - p + j + 1 by omega] at b ⊢
      omega
  intro i h1 h2
  have := all (i - (T.length - p)) (by omega)
  rw [show T.length - p + (i - (T.length - p)) = i by omega] at this
  rw [this, vl_lt h2]
theorem rep_rot {T : List Int} {p s : Nat} {r c : Int} (o : RuleW T p r) (sp : s ≤ p) (h : Rep T p r s c) : Rot (stepsOf T p r) s := by
  have p0 := o.p0
  have p1 := o.p1
  have ln := stepsOf_len T p r
  have all := rep_allW o h
  refine of_rot (by omega) fun i hi => ?_
  rw [ln] at hi ⊢
  rw [stepsOf_get hi]
  have a := all (T.length - p + i) (by omega)
  have b := all (T.length - p + i + 1) (by omega)
  by_cases q : i + s < p
  · rw [if_pos q, stepsOf_get q]
    rw [show T.length - p + i + s = T.length - p + (i + s) by omega] at a
    rw [show T.length - p + i + 1 + s = T.length - p + (i + s) + 1 by omega] at b
    congr 1
    omega
  · rw [if_neg q, stepsOf_get (by omega)]
    have e1 := vl_add p0 p1 (r := r) (x := T.length - p + (i + s - p) + 1) (by omega)
    have e2 := vl_add p0 p1 (r := r) (x := T.length - p + (i + s - p)) (by omega)
    rw [show T.length - p + (i + s - p) + 1 + p = T.length - p + i + 1 + s by omega] at e1
    rw [show T.length - p + (i + s - p) + p = T.length - p + i + s by omega] at e2
    congr 1
    omega
/-- the least turn of the steps is the rule's least turn -/
theorem cyc_rule {T : List Int} {p s : Nat} {r : Int} (o : RuleOk T p r) (h : Cyc (stepsOf T p r) s) : 0 < s ∧ s ≤ p ∧ s ∣ p ∧ Rep T p r s (r * (s : Int) / (p : Int)) ∧ ∀ s' c', 0 < s' → s' < s → s' ∣ p → ¬ Rep T p r s' c' := by
  obtain ⟨s0, s1, dv, rot, least⟩ := h
  rw [stepsOf_len] at s1 dv rot least
  have p0 := o.p0
  refine ⟨s0, s1, dv, ?_, fun s' c' h1 h2 h3 rep => least s' h1 h2 h3 (rep_rot o.w (by omega) rep)⟩
  by_cases q : s < p
  · have rep := rot_rep o.w q (rot q)
    rw [(rep_quot o dv rep).1]
    exact rep
  · obtain rfl : s = p := by omega
    rw [Int.mul_ediv_cancel _ (by omega)]
    exact rep_self o
/-! values told by a function, as a rule -/
theorem tab_getD {f : Nat → Int} {n i : Nat} (h : i < n) : ((List.range n).map f).getD i 0 = f i := by
  rw [List.getD_eq_getElem?_getD, List.getElem?_map, List.getElem?_range h]
  rfl
theorem tab_len {f : Nat → Int} {n : Nat} : ((List.range n).map f).length = n := by rw [List.length_map, List.length_range]
theorem tab_vl {f : Nat → Int} {B t : Nat} {R : Int} (t0 : 0 < t) (h : ∀ x, B ≤ x → f (x + t) = f x + R) : ∀ x, vl ((List.range (B + t)).map f) t R x = f x := by
  intro x
  induction x using Nat.strongRecOn with
  | _ x ih =>
    by_cases q : x < B + t
    · rw [vl_lt (by rw [tab_len]; exact q), tab_getD q]
    · rw [vl_step t0 (by rw [tab_len]; omega) (by rw [tab_len]; omega), ih (x - t) (by omega)]
      have := h (x - t) (by omega)
      rw [show x - t + t = x by omega] at this
      omega
theorem tab_ok {f : Nat → Int} {B t : Nat} {R : Int} (t0 : 0 < t) (R0 : 0 ≤ R) (h : ∀ x, B ≤ x → f (x + t) = f x + R) (f0 : ∀ x, 0 ≤ f x) (up : ∀ x, f x ≤ f (x + 1)) : RuleOk ((List.range (B + t)).map f) t R := by
  refine ⟨t0, by rw [tab_len]; omega, R0, fun i hi => ?_, fun i hi => ?_, ?_⟩
  · rw [tab_len] at hi
    rw [tab_getD hi]
    exact f0 i
  · rw [tab_len] at hi
    rw [tab_getD hi, tab_getD (by omega)]
    exact up i
  · rw [tab_len, tab_getD (by omega), tab_getD (by omega), show B + t - t = B by omega]
    have a := h B (Nat.le_refl _)
    have b := up (B + t - 1)
    rw [show B + t - 1 + 1 = B + t by omega] at b
    omega
end Sm

set_option maxHeartbeats 4000000
namespace Sm
/-! the arithmetic -/
theorem lt_of_dm {d a b : Int} (hd : 0 < d) (h : d * a < d * b + d) : a ≤ b := by
  have h2 : d * a < d * (b + 1) := by rw [Int.mul_add, Int.mul_one]; exact h
  have := Int.lt_of_mul_lt_mul_left h2 (Int.le_of_lt hd)
  omega
theorem div_lo {a d : Int} (hd : 0 < d) : d * (a / d) ≤ a := by
  have := Int.mul_ediv_add_emod a d
  have := Int.emod_nonneg a (show d ≠ 0 by omega)
  omega
theorem div_hi {a d : Int} (hd : 0 < d) : a < d * (a / d) + d := by
  have := Int.mul_ediv_add_emod a d
  have := Int.emod_lt_of_pos a hd
  omega
theorem div_uniq {a d q : Int} (hd : 0 < d) (h1 : d * q ≤ a) (h2 : a < d * q + d) : a / d = q := by
  have l := div_lo (a := a) hd
  have u := div_hi (a := a) hd
  have x : a / d ≤ q := lt_of_dm hd (by omega)
  have y : q ≤ a / d := lt_of_dm hd (by omega)
  omega
/-- what is given, rounded by the mode m (0 down, 1 up, 2 near), for e = num * x -/
def Gm (m : Nat) (e d : Int) : Int := if m = 0 then e / d else if m = 1 then (e + d - 1) / d else (2 * e + d) / (2 * d)
theorem g_lo {d e : Int} : Gm 0 e d = e / d := rfl
theorem g_up {d e : Int} : Gm 1 e d = (e + d - 1) / d := rfl
theorem g_ne {d e : Int} : Gm 2 e d = (2 * e + d) / (2 * d) := rfl
theorem G0 {d e : Int} (hd : 0 < d) : d * Gm 0 e d ≤ e ∧ e < d * Gm 0 e d + d := ⟨div_lo hd, div_hi hd⟩
theorem G1 {d e : Int} (hd : 0 < d) : e ≤ d * Gm 1 e d ∧ d * Gm 1 e d < e + d := by
  have a := div_lo (a := e + d - 1) hd
  have b := div_hi (a := e + d - 1) hd
  rw [g_up]
  omega
theorem G2 {d e : Int} (hd : 0 < d) : 2 * (d * Gm 2 e d) ≤ 2 * e + d ∧ 2 * e + d < 2 * (d * Gm 2 e d) + 2 * d := by
  have a := div_lo (a := 2 * e + d) (d := 2 * d) (by omega)
  have b := div_hi (a := 2 * e + d) (d := 2 * d) (by omega)
  rw [g_ne]
  rw [Int.mul_assoc] at a b
  omega
theorem G0u {d e q : Int} (hd : 0 < d) (h1 : d * q ≤ e) (h2 : e < d * q + d) : Gm 0 e d = q := div_uniq hd h1 h2
theorem G1u {d e q : Int} (hd : 0 < d) (h1 : e ≤ d * q) (h2 : d * q < e + d) : Gm 1 e d = q := by
  rw [g_up]; exact div_uniq hd (by omega) (by omega)
theorem G2u {d e q : Int} (hd : 0 < d) (h1 : 2 * (d * q) ≤ 2 * e + d) (h2 : 2 * e + d < 2 * (d * q) + 2 * d) : Gm 2 e d = q := by
  rw [g_ne]; exact div_uniq (by omega) (by rw [Int.mul_assoc]; omega) (by rw [Int.mul_assoc]; omega)
/-- a turn more -/
theorem G_turn {m : Nat} {d e k : Int} (hm : m ≤ 2) (hd : 0 < d) : Gm m (e + d * k) d = Gm m e d + k := by
  have z : d * (Gm m e d + k) = d * Gm m e d + d * k := Int.mul_add _ _ _
  obtain rfl | rfl | rfl : m = 0 ∨ m = 1 ∨ m = 2 := by omega
  · have := G0 (e := e) hd
    exact G0u hd (by omega) (by omega)
  · have := G1 (e := e) hd
    exact G1u hd (by omega) (by omega)
  · have := G2 (e := e) hd
    exact G2u hd (by omega) (by omega)
/-- the law's own way -/
def LG (m : Nat) (e d : Int) : Int := if m = 0 then e / d else if m = 1 then e / d + (if 0 < e % d then 1 else 0) else e / d + (if d ≤ 2 * (e % d) then 1 else 0)
theorem LG_eq {m : Nat} {d e : Int} (hm : m ≤ 2) (hd : 0 < d) : Gm m e d = LG m e d := by
  have h := Int.mul_ediv_add_emod e d
  have h0 := Int.emod_nonneg e (show d ≠ 0 by omega)
  have h1 := Int.emod_lt_of_pos e hd
  obtain rfl | rfl | rfl : m = 0 ∨ m = 1 ∨ m = 2 := by omega
  · rfl
  · show _ = e / d + (if 0 < e % d then 1 else 0)
    have z : d * (e / d + 1) = d * (e / d) + d := by rw [Int.mul_add, Int.mul_one]
    split
    · exact G1u hd (by omega) (by omega)
    · rw [Int.add_zero]; exact G1u hd (by omega) (by omega)
  · show _ = e / d + (if d ≤ 2 * (e % d) then 1 else 0)
    have z : d * (e / d + 1) = d * (e / d) + d := by rw [Int.mul_add, Int.mul_one]
    split
    · exact G2u hd (by omega) (by omega)
    · rw [Int.add_zero]; exact G2u hd (by omega) (by omega)
theorem G_order {d e : Int} (hd : 0 < d) : d * Gm 0 e d ≤ e ∧ e ≤ d * Gm 1 e d ∧ Gm 0 e d ≤ Gm 2 e d ∧ Gm 2 e d ≤ Gm 1 e d ∧ Gm 1 e d - Gm 0 e d ≤ 1 ∧ 2 * (d * Gm 2 e d - e) ≤ d ∧ -d ≤ 2 * (d * Gm 2 e d - e) := by
  have a := G0 (e := e) hd
  have b := G1 (e := e) hd
  have c := G2 (e := e) hd
  have z : d * (Gm 0 e d + 1) = d * Gm 0 e d + d := by rw [Int.mul_add, Int.mul_one]
  refine ⟨a.1, b.1, lt_of_dm hd (by omega), lt_of_dm hd (by omega), ?_, by omega, by omega⟩
  have : Gm 1 e d ≤ Gm 0 e d + 1 := lt_of_dm hd (by omega)
  omega
theorem G_both {m : Nat} {d e f : Int} (hm : m ≤ 2) (hd : 0 < d) : (m = 0 → Gm m e d + Gm m f d ≤ Gm m (e + f) d) ∧ (m = 1 → Gm m (e + f) d ≤ Gm m e d + Gm m f d) ∧
    Gm m (e + f) d - (Gm m e d + Gm m f d) ≤ 1 ∧ -1 ≤ Gm m (e + f) d - (Gm m e d + Gm m f d) := by
  have z : d * (Gm m e d + Gm m f d) = d * Gm m e d + d * Gm m f d := Int.mul_add _ _ _
  have z1 : d * (Gm m e d + Gm m f d + 1) = d * Gm m e d + d * Gm m f d + d := by rw [Int.mul_add, Int.mul_one, z]
  have z2 : d * (Gm m (e + f) d + 1) = d * Gm m (e + f) d + d := by rw [Int.mul_add, Int.mul_one]
  obtain rfl | rfl | rfl : m = 0 ∨ m = 1 ∨ m = 2 := by omega
  · have a := G0 (e := e) hd
    have b := G0 (e := f) hd
    have c := G0 (e := e + f) hd
    have h1 : Gm 0 e d + Gm 0 f d ≤ Gm 0 (e + f) d := lt_of_dm hd (by omega)
    have h2 : Gm 0 (e + f) d ≤ Gm 0 e d + Gm 0 f d + 1 := lt_of_dm hd (by omega)
    refine ⟨fun _ => h1, fun q => by omega, by omega, by omega⟩
  · have a := G1 (e := e) hd
    have b := G1 (e := f) hd
    have c := G1 (e := e + f) hd
    have h1 : Gm 1 (e + f) d ≤ Gm 1 e d + Gm 1 f d := lt_of_dm hd (by omega)
    have h2 : Gm 1 e d + Gm 1 f d ≤ Gm 1 (e + f) d + 1 := lt_of_dm hd (by omega)
    refine ⟨fun q => by omega, fun _ => h1, by omega, by omega⟩
  · have a := G2 (e := e) hd
    have b := G2 (e := f) hd
    have c := G2 (e := e + f) hd
    have h1 : Gm 2 (e + f) d ≤ Gm 2 e d + Gm 2 f d + 1 := lt_of_dm hd (by omega)
    have h2 : Gm 2 e d + Gm 2 f d ≤ Gm 2 (e + f) d + 1 := lt_of_dm hd (by omega)
    refine ⟨fun q => by omega, fun q => by omega, by omega, by omega⟩
/-- the least common multiple, by steps -/
theorem mult_end {a b k : Int} (hb : 0 < b) (h : ∀ j : Int, 0 < j → j < k → ¬ (j * a) % b = 0) (h0 : 0 < k) : k ≤ b := by
  rcases Int.lt_or_le b k with q | q
  · exact absurd (Int.mul_emod_right b a) (h b hb q)
  · exact q
end Sm

set_option maxHeartbeats 4000000
namespace Sm
/-! ### the most that one use gives -/
def lim (u : Option Int) (x : Int) : Int := match u with | none => x | some v => if v < x then v else x
def lastT (s : Int) (u : Option Int) (x : Int) : Int := lim u x / s * s
def Fv (m : Nat) (num den least s : Int) (u : Option Int) (x : Int) : Int := if least ≤ lastT s u x then Gm m (num * lastT s u x) den else 0
structure Dk (m : Nat) (num den least step : Int) (u : Option Int) : Prop where
  hm : m ≤ 2
  n0 : 0 ≤ num
  n1 : num ≤ 30
  d0 : 1 ≤ den
  d1 : den ≤ 30
  l0 : 1 ≤ least
  l1 : least ≤ 30
  s0 : 1 ≤ step
  s1 : step ≤ 30
  u0 : ∀ v, u = some v → least ≤ v
  u1 : ∀ v, u = some v → v ≤ 1000
def Tk (least s : Int) (u : Option Int) (x : Int) : Prop := least ≤ x ∧ x % s = 0 ∧ ∀ v, u = some v → x ≤ v
theorem lim_le {u : Option Int} {x : Int} : lim u x ≤ x := by
  unfold lim
  split
  · omega
  · split <;> omega
theorem lim_up {u : Option Int} {x : Int} : lim u x ≤ lim u (x + 1) := by
  unfold lim
  split
  · omega
  · split <;> split <;> omega
theorem lim_in {u : Option Int} {x : Int} (h : ∀ v, u = some v → x ≤ v) : lim u x = x := by
  unfold lim
  split
  · rfl
  · have := h _ rfl
    rw [if_neg (by omega)]
theorem lim_pos {m : Nat} {num den least s x : Int} {u : Option Int} (o : Dk m num den least s u) (h : 0 ≤ x) : 0 ≤ lim u x := by
  have l0 := o.l0
  unfold lim
  split
  · exact h
  · have := o.u0 _ rfl
    split <;> omega
theorem mul_div_self {x s : Int} (h : x % s = 0) : x / s * s = x := Int.ediv_mul_cancel (Int.dvd_of_emod_eq_zero h)
theorem last_le {s x : Int} {u : Option Int} (s0 : 1 ≤ s) : lastT s u x ≤ lim u x := by
  unfold lastT
  have := div_lo (a := lim u x) (d := s) (by omega)
  rw [Int.mul_comm] at this
  exact this
theorem last_up {s x : Int} {u : Option Int} (s0 : 1 ≤ s) : lastT s u x ≤ lastT s u (x + 1) := by
  unfold lastT
  exact Int.mul_le_mul_of_nonneg_right (Int.ediv_le_ediv (by omega) lim_up) (by omega)
theorem last_mod {s x : Int} {u : Option Int} : lastT s u x % s = 0 := by
  unfold lastT
  exact Int.mul_emod_left _ _
theorem last_tk {least s x : Int} {u : Option Int} (h : Tk least s u x) : lastT s u x = x := by
  unfold lastT
  rw [lim_in h.2.2, mul_div_self h.2.1]
theorem G_mono {m : Nat} {d e f : Int} (hd : 0 < d) (h : e ≤ f) : Gm m e d ≤ Gm m f d := by
  unfold Gm
  split
  · exact Int.ediv_le_ediv hd h
  · split
    · exact Int.ediv_le_ediv hd (by omega)
    · exact Int.ediv_le_ediv (by omega) (by omega)
theorem G_nn {m : Nat} {d e : Int} (hd : 0 < d) (h : 0 ≤ e) : 0 ≤ Gm m e d := by
  unfold Gm
  split
  · exact Int.ediv_nonneg h (by omega)
  · split
    · exact Int.ediv_nonneg (by omega) (by omega)
    · exact Int.ediv_nonneg (by omega) (by omega)
theorem G_le {m : Nat} {d e : Int} (hd : 1 ≤ d) (h : 0 ≤ e) : Gm m e d ≤ e + 1 := by
  unfold Gm
  split
  · have := Int.ediv_le_self d h
    omega
  · split
    · have hh := div_lo (a := e + d - 1) (d := d) (by omega)
      refine lt_of_dm (d := d) (by omega) ?_
      have : d * (e + 1) = d * e + d := by rw [Int.mul_add, Int.mul_one]
      have : 1 * e ≤ d * e := Int.mul_le_mul_of_nonneg_right hd h
      omega
    · have hh := div_lo (a := 2 * e + d) (d := 2 * d) (by omega)
      refine lt_of_dm (d := 2 * d) (by omega) ?_
      have : 2 * d * (e + 1) = 2 * (d * e) + 2 * d := by rw [Int.mul_add, Int.mul_one, Int.mul_assoc]
      have : 1 * e ≤ d * e := Int.mul_le_mul_of_nonneg_right hd h
      omega
section
variable {m : Nat} {num den least s : Int} {u : Option Int}
theorem Fv_tk {x : Int} (h : Tk least s u x) : Fv m num den least s u x = Gm m (num * x) den := by
  unfold Fv
  rw [last_tk h, if_pos h.1]
theorem Fv_not (o : Dk m num den least s u) {x : Int} (h : ¬ Tk least s u x) : Fv m num den least s u x = Fv m num den least s u (x - 1) := by
  have s0 := o.s0
  by_cases c : ∃ v, u = some v ∧ v < x
  · obtain ⟨v, rfl, hv⟩ := c
    have e1 : lim (some v) x = v := by show (if v < x then v else x) = v; rw [if_pos hv]
    have e2 : lim (some v) (x - 1) = v := by
      show (if v < x - 1 then v else x - 1) = v
      split <;> omega
    unfold Fv lastT
    rw [e1, e2]
  · have c1 : ∀ v, u = some v → x ≤ v := fun v hv => by
      rcases Int.lt_or_le v x with q | q
      · exact absurd ⟨v, hv, q⟩ c
      · exact q
    have e1 := lim_in c1
    have e2 : lim u (x - 1) = x - 1 := lim_in fun v hv => by have := c1 v hv; omega
    by_cases q : x % s = 0
    · have lx : ¬ least ≤ x := fun l => h ⟨l, q, c1⟩
      have a : lastT s u x ≤ x := by have := last_le (u := u) (x := x) s0; omega
      have b : lastT s u (x - 1) ≤ x - 1 := by have := last_le (u := u) (x := x - 1) s0; omega
      unfold Fv
      rw [if_neg (by omega), if_neg (by omega)]
    · have e : x / s = (x - 1) / s := by
        have d1 := Int.mul_ediv_add_emod x s
        have d2 := Int.emod_nonneg x (show s ≠ 0 by omega)
        have d3 := Int.emod_lt_of_pos x (show 0 < s by omega)
        exact (div_uniq (by omega) (by omega) (by omega)).symm
      unfold Fv lastT
      rw [e1, e2, e]
theorem Fv_nn (o : Dk m num den least s u) (x : Int) : 0 ≤ Fv m num den least s u x := by
  have l0 := o.l0
  unfold Fv
  split
  · exact G_nn (by have := o.d0; omega) (Int.mul_nonneg o.n0 (by omega))
  · omega
theorem Fv_up (o : Dk m num den least s u) (x : Int) : Fv m num den least s u x ≤ Fv m num den least s u (x + 1) := by
  have a := last_up (u := u) (x := x) o.s0
  by_cases c : least ≤ lastT s u x
  · unfold Fv
    rw [if_pos c, if_pos (by omega)]
    exact G_mono (by have := o.d0; omega) (Int.mul_le_mul_of_nonneg_left a o.n0)
  · have := Fv_nn o (x + 1)
    unfold Fv at this ⊢
    rw [if_neg c]
    exact this
theorem Fv_le (o : Dk m num den least s u) {x : Int} (h : 0 ≤ x) : Fv m num den least s u x ≤ 30 * x + 1 := by
  have l0 := o.l0
  have a := last_le (u := u) (x := x) o.s0
  have b := lim_le (u := u) (x := x)
  have n0 := o.n0
  unfold Fv
  split
  · have c : num * lastT s u x ≤ 30 * x := Int.mul_le_mul o.n1 (by omega) (by omega) (by decide)
    have := G_le (m := m) o.d0 (Int.mul_nonneg n0 (show 0 ≤ lastT s u x by omega))
    omega
  · omega
def fst (least s : Int) : Int := (least + s - 1) / s * s
theorem fst_ge (l0 : 1 ≤ least) (s0 : 1 ≤ s) : least ≤ fst least s := by
  have := div_hi (a := least + s - 1) (d := s) (by omega)
  unfold fst
  rw [Int.mul_comm] at this
  omega
theorem fst_le (l0 : 1 ≤ least) (s0 : 1 ≤ s) : fst least s ≤ least + s - 1 := by
  have := div_lo (a := least + s - 1) (d := s) (by omega)
  unfold fst
  rw [Int.mul_comm] at this
  omega
theorem Fv_turn (o : Dk m num den least s none) {x t : Int} (hx : fst least s ≤ x) (t0 : 0 ≤ t) (d1 : s ∣ t) (d2 : den ∣ t) : Fv m num den least s none (x + t) = Fv m num den least s none x + num * t / den := by
  have s0 := o.s0
  obtain ⟨k, rfl⟩ := d2
  obtain ⟨j, hj⟩ := d1
  have e : lastT s none (x + den * k) = lastT s none x + den * k := by
    show (x + den * k) / s * s = x / s * s + den * k
    rw [hj, Int.add_mul_ediv_left _ _ (by omega), Int.add_mul, Int.mul_comm j s]
  have c : least ≤ lastT s none x := by
    have a := fst_ge o.l0 s0
    have b : fst least s / s * s ≤ x / s * s := Int.mul_le_mul_of_nonneg_right (Int.ediv_le_ediv (by omega) hx) (by omega)
    have d : fst least s / s * s = fst least s := by unfold fst; rw [Int.mul_ediv_cancel _ (by omega)]
    show least ≤ x / s * s
    omega
  have kk : num * (den * k) = den * (num * k) := by rw [← Int.mul_assoc, ← Int.mul_assoc, Int.mul_comm num den]
  by_cases c2 : least ≤ lastT s none (x + den * k)
  · unfold Fv
    rw [if_pos c, if_pos c2, e, Int.mul_add, kk, G_turn o.hm (by have := o.d0; omega), Int.mul_ediv_cancel_left _ (by have := o.d0; omega)]
  · rw [e] at c2
    omega
theorem Fv_flat (o : Dk m num den least s u) {v x : Int} (hu : u = some v) (hx : v ≤ x) : Fv m num den least s u (x + 1) = Fv m num den least s u x := by
  subst hu
  have e1 : lim (some v) x = v := by
    show (if v < x then v else x) = v
    split <;> omega
  have e2 : lim (some v) (x + 1) = v := by
    show (if v < x + 1 then v else x + 1) = v
    rw [if_pos (by omega)]
  unfold Fv lastT
  rw [e1, e2]
/-- the rule of one use: begin, turn and rise -/
theorem use_rule_ok (o : Dk m num den least s u) {B t : Nat} {R : Int} (t0 : 0 < t) (R0 : 0 ≤ R) (hB : B + t ≤ 1100) (hR : R ≤ 30000) (turn : ∀ x : Nat, B ≤ x → Fv m num den least s u ((x : Int) + (t : Int)) = Fv m num den least s u (x : Int) + R) :
    RuleOk ((List.range (B + t)).map fun x : Nat => Fv m num den least s u (x : Int)) t R ∧ (∀ x : Nat, vl ((List.range (B + t)).map fun x : Nat => Fv m num den least s u (x : Int)) t R x = Fv m num den least s u (x : Int)) ∧
      ∀ i, i < B + t → ((List.range (B + t)).map fun x : Nat => Fv m num den least s u (x : Int)).getD i 0 ≤ 100000 := by
  have tt : ∀ x : Nat, B ≤ x → (fun x : Nat => Fv m num den least s u (x : Int)) (x + t) = (fun x : Nat => Fv m num den least s u (x : Int)) x + R := by
    intro x hx
    have := turn x hx
    show Fv m num den least s u ((x + t : Nat) : Int) = _
    rw [Int.natCast_add]
    exact this
  refine ⟨tab_ok t0 R0 tt (fun x => Fv_nn o _) (fun x => ?_), tab_vl t0 tt, fun i hi => ?_⟩
  · show Fv m num den least s u (x : Int) ≤ Fv m num den least s u ((x + 1 : Nat) : Int)
    rw [Int.natCast_add]
    exact Fv_up o _
  · rw [tab_getD hi]
    have := Fv_le o (x := (i : Int)) (by omega)
    omega
end
end Sm

set_option maxHeartbeats 4000000
namespace Sm
/-! ### stacks of uses -/
theorem fold_max : ∀ (l : List Int) (a : Int), a ≤ l.foldl max a ∧ (∀ y ∈ l, y ≤ l.foldl max a) ∧ (l.foldl max a = a ∨ l.foldl max a ∈ l)
  | [], a => ⟨Int.le_refl _, (fun y h => nomatch h), .inl rfl⟩
  | b :: l, a => by
    obtain ⟨h1, h2, h3⟩ := fold_max l (max a b)
    refine ⟨?_, fun y hy => ?_, ?_⟩
    · show a ≤ l.foldl max (max a b)
      omega
    · show y ≤ l.foldl max (max a b)
      rcases List.mem_cons.mp hy with rfl | hy
      · omega
      · exact h2 y hy
    · show l.foldl max (max a b) = a ∨ l.foldl max (max a b) ∈ b :: l
      rcases h3 with q | q
      · rcases Int.le_total a b with c | c
        · right
          rw [q, show max a b = b by omega]
          exact List.mem_cons_self ..
        · left
          rw [q]
          omega
      · exact .inr (List.mem_cons_of_mem _ q)
def cands (S : List Int) (K : List (Nat × Int)) (x : Nat) : List Int := K.map fun k => S.getD (x - k.1) 0 + k.2
def cl (S : List Int) (K : List (Nat × Int)) (x : Nat) : Int := (cands S K x).foldl max 0
def stp (f : Nat → Int) (p : List Int × List (Nat × Int)) (x : Nat) : List Int × List (Nat × Int) :=
  if cl p.1 p.2 x < f x then (p.1 ++ [f x], p.2 ++ [(x, f x)]) else (p.1 ++ [cl p.1 p.2 x], p.2)
def st (f : Nat → Int) : Nat → List Int × List (Nat × Int)
  | 0 => ([0], [])
  | n + 1 => stp f (st f n) (n + 1)
def Sf (f : Nat → Int) (n : Nat) : Int := (st f n).1.getD n 0
def cd (f : Nat → Int) (n : Nat) : Int := cl (st f (n - 1)).1 (st f (n - 1)).2 n
def kep (f : Nat → Int) (n : Nat) : Prop := 1 ≤ n ∧ cd f n < f n
section
variable {f : Nat → Int}
theorem st_len : ∀ n, (st f n).1.length = n + 1
  | 0 => rfl
  | n + 1 => by
    show (stp f (st f n) (n + 1)).1.length = _
    unfold stp
    split <;> (rw [List.length_append, st_len n]; rfl)
theorem getD_app1 {l : List Int} {x : Int} : (l ++ [x]).getD l.length 0 = x := by
  rw [List.getD_eq_getElem?_getD, List.getElem?_append_right (Nat.le_refl _), Nat.sub_self]
  rfl
theorem getD_app0 {l : List Int} {x : Int} {i : Nat} (h : i < l.length) : (l ++ [x]).getD i 0 = l.getD i 0 := by
  rw [List.getD_eq_getElem?_getD, List.getElem?_append_left h, ← List.getD_eq_getElem?_getD]
theorem st_get {i : Nat} : ∀ {n}, i ≤ n → (st f n).1.getD i 0 = Sf f i
  | 0, h => by rw [show i = 0 by omega]; rfl
  | n + 1, h => by
    by_cases q : i = n + 1
    · rw [q]
      rfl
    · rw [← st_get (n := n) (by omega)]
      show (stp f (st f n) (n + 1)).1.getD i 0 = _
      unfold stp
      have := st_len (f := f) n
      split <;> exact getD_app0 (by omega)
theorem Sf_succ (n : Nat) : Sf f (n + 1) = if cd f (n + 1) < f (n + 1) then f (n + 1) else cd f (n + 1) := by
  unfold Sf cd
  show (stp f (st f n) (n + 1)).1.getD (n + 1) 0 = _
  rw [Nat.add_sub_cancel]
  have l := st_len (f := f) n
  unfold stp
  split
  · have := getD_app1 (l := (st f n).1) (x := f (n + 1))
    rw [l] at this
    exact this
  · have := getD_app1 (l := (st f n).1) (x := cl (st f n).1 (st f n).2 (n + 1))
    rw [l] at this
    exact this
theorem st_mem {i : Nat} {w : Int} : ∀ {n}, (i, w) ∈ (st f n).2 ↔ i ≤ n ∧ kep f i ∧ w = f i
  | 0 => ⟨(fun h => nomatch h), fun h => by have := h.2.1.1; omega⟩
  | n + 1 => by
    have ih := st_mem (i := i) (w := w) (n := n)
    have e : cd f (n + 1) = cl (st f n).1 (st f n).2 (n + 1) := rfl
    show (i, w) ∈ (stp f (st f n) (n + 1)).2 ↔ _
    unfold stp
    by_cases c : cl (st f n).1 (st f n).2 (n + 1) < f (n + 1)
    · rw [if_pos c]
      show (i, w) ∈ (st f n).2 ++ [(n + 1, f (n + 1))] ↔ _
      rw [List.mem_append, ih, List.mem_singleton]
      constructor
      · rintro (h | h)
        · exact ⟨by omega, h.2⟩
        · cases h
          exact ⟨Nat.le_refl _, ⟨by omega, by rw [e]; exact c⟩, rfl⟩
      · rintro ⟨h1, h2, h3⟩
        by_cases q : i = n + 1
        · right
          rw [q] at h3 ⊢
          rw [h3]
        · exact .inl ⟨by omega, h2, h3⟩
    · rw [if_neg c]
      show (i, w) ∈ (st f n).2 ↔ _
      rw [ih]
      constructor
      · rintro ⟨h1, h2⟩
        exact ⟨by omega, h2⟩
      · rintro ⟨h1, h2, h3⟩
        refine ⟨?_, h2, h3⟩
        by_cases q : i = n + 1
        · exfalso
          rw [q] at h2
          exact c (by rw [← e]; exact h2.2)
        · omega
theorem cd_zero (n : Nat) : 0 ≤ cd f n := (fold_max _ 0).1
theorem cd_ge {n s : Nat} (h : kep f s) (hs : s < n) : Sf f (n - s) + f s ≤ cd f n := by
  have m : (s, f s) ∈ (st f (n - 1)).2 := st_mem.mpr ⟨by omega, h, rfl⟩
  have := (fold_max (cands (st f (n - 1)).1 (st f (n - 1)).2 n) 0).2.1 _ (List.mem_map.mpr ⟨_, m, rfl⟩)
  have h1 := h.1
  rw [st_get (by show n - s ≤ n - 1; omega)] at this
  exact this
theorem cd_at (n : Nat) : cd f n = 0 ∨ ∃ s, s < n ∧ kep f s ∧ cd f n = Sf f (n - s) + f s := by
  rcases (fold_max (cands (st f (n - 1)).1 (st f (n - 1)).2 n) 0).2.2 with q | q
  · exact .inl q
  · right
    obtain ⟨⟨s, w⟩, hm, e⟩ := List.mem_map.mp q
    obtain ⟨h1, h2, h3⟩ := st_mem.mp hm
    have h0 := h2.1
    refine ⟨s, by omega, h2, ?_⟩
    rw [h3] at e
    rw [st_get (by show n - s ≤ n - 1; omega)] at e
    exact e.symm
/-- values that are from 0 on and do not fall -/
structure Mn (f : Nat → Int) : Prop where
  nn : ∀ i, 0 ≤ f i
  up : ∀ i, f i ≤ f (i + 1)
theorem cd_le_Sf (n : Nat) : cd f (n + 1) ≤ Sf f (n + 1) := by
  rw [Sf_succ]
  split <;> omega
theorem f_le_Sf (n : Nat) : f (n + 1) ≤ Sf f (n + 1) := by
  rw [Sf_succ]
  split <;> omega
theorem Sf_nn : ∀ n, 0 ≤ Sf f n
  | 0 => Int.le_refl _
  | n + 1 => Int.le_trans (cd_zero _) (cd_le_Sf n)
theorem Sf_at (n : Nat) : kep f (n + 1) ∧ Sf f (n + 1) = f (n + 1) ∨ ¬ kep f (n + 1) ∧ Sf f (n + 1) = cd f (n + 1) := by
  rw [Sf_succ]
  split
  · exact .inl ⟨⟨by omega, by assumption⟩, rfl⟩
  · exact .inr ⟨fun h => by have := h.2; omega, rfl⟩
theorem Sf_le_cd : ∀ n, Sf f n ≤ cd f (n + 1) := by
  intro n
  induction n using Nat.strongRecOn with
  | _ n ih =>
    match n, ih with
    | 0, _ => exact cd_zero 1
    | n + 1, ih =>
      rcases Sf_at (f := f) n with ⟨h1, h2⟩ | ⟨h1, h2⟩
      · rw [h2]
        have := cd_ge (n := n + 1 + 1) h1 (by omega)
        have := Sf_nn (f := f) (n + 1 + 1 - (n + 1))
        omega
      · rw [h2]
        rcases cd_at (f := f) (n + 1) with q | ⟨s, s1, s2, s3⟩
        · rw [q]
          exact cd_zero _
        · have s0 := s2.1
          have a := cd_ge (n := n + 1 + 1) s2 (by omega)
          have b := ih (n + 1 - s) (by omega)
          have c := cd_le_Sf (f := f) (n + 1 - s)
          rw [show n + 1 + 1 - s = n + 1 - s + 1 by omega] at a
          omega
theorem Sf_up (n : Nat) : Sf f n ≤ Sf f (n + 1) := Int.le_trans (Sf_le_cd n) (cd_le_Sf n)
theorem Sf_mono {a b : Nat} (h : a ≤ b) : Sf f a ≤ Sf f b := by
  obtain ⟨k, rfl⟩ := Nat.le.dest h
  induction k with
  | zero => exact Int.le_refl _
  | succ k ih => exact Int.le_trans (ih (by omega)) (Sf_up _)
theorem sup1 : ∀ (b a : Nat), 1 ≤ a → 1 ≤ b → Sf f a + Sf f b ≤ cd f (a + b) := by
  intro b
  induction b using Nat.strongRecOn with
  | _ b ih =>
    intro a ha hb
    obtain ⟨c, rfl⟩ : ∃ c, b = c + 1 := ⟨b - 1, by omega⟩
    rcases Sf_at (f := f) c with ⟨h1, h2⟩ | ⟨h1, h2⟩
    · rw [h2]
      have := cd_ge (n := a + (c + 1)) h1 (by omega)
      rw [Nat.add_sub_cancel] at this
      exact this
    · rw [h2]
      rcases cd_at (f := f) (c + 1) with q | ⟨s, s1, s2, s3⟩
      · rw [q]
        have := Sf_le_cd (f := f) (a + c)
        have := Sf_mono (f := f) (show a ≤ a + c by omega)
        rw [show a + (c + 1) = a + c + 1 by omega]
        omega
      · have s0 := s2.1
        have i := ih (c + 1 - s) (by omega) a ha (by omega)
        have g := cd_ge (n := a + (c + 1)) s2 (by omega)
        have l := cd_le_Sf (f := f) (a + (c + 1 - s) - 1)
        rw [show a + (c + 1 - s) - 1 + 1 = a + (c + 1 - s) by omega] at l
        rw [show a + (c + 1) - s = a + (c + 1 - s) by omega] at g
        omega
theorem Sf_zero : Sf f 0 = 0 := rfl
theorem sup2 (a b : Nat) : Sf f a + Sf f b ≤ Sf f (a + b) := by
  by_cases ha : a = 0
  · subst ha
    rw [Sf_zero, Nat.zero_add]
    omega
  by_cases hb : b = 0
  · subst hb
    rw [Sf_zero, Nat.add_zero]
    omega
  have := sup1 (f := f) b a (by omega) (by omega)
  have l := cd_le_Sf (f := f) (a + b - 1)
  rw [show a + b - 1 + 1 = a + b by omega] at l
  omega
theorem st_stable {n : Nat} : ∀ {k}, (∀ i, n < i → i ≤ n + k → ¬ kep f i) → (st f (n + k)).2 = (st f n).2
  | 0, _ => rfl
  | k + 1, h => by
    rw [← st_stable (k := k) fun i h1 h2 => h i h1 (by omega)]
    show (stp f (st f (n + k)) (n + k + 1)).2 = _
    have nk := h (n + k + 1) (by omega) (by omega)
    unfold stp
    rw [if_neg (show ¬ cl (st f (n + k)).1 (st f (n + k)).2 (n + k + 1) < f (n + k + 1) from fun c => nk ⟨by omega, c⟩)]
/-! what any uses give -/
def gvn (U : List (Nat × Int)) : Nat → List Int
  | 0 => [0]
  | n + 1 => gvn U n ++ [((U.filter fun k => decide (k.1 ≤ n + 1)).map fun k => (gvn U n).getD (n + 1 - k.1) 0 + k.2).foldl max ((gvn U n).getD n 0)]
def Gf (U : List (Nat × Int)) (n : Nat) : Int := (gvn U n).getD n 0
theorem gvn_len (U : List (Nat × Int)) : ∀ n, (gvn U n).length = n + 1
  | 0 => rfl
  | n + 1 => by
    show (gvn U n ++ [_]).length = _
    rw [List.length_append, gvn_len U n]
    rfl
theorem gvn_get {U : List (Nat × Int)} {i : Nat} : ∀ {n}, i ≤ n → (gvn U n).getD i 0 = Gf U i
  | 0, h => by rw [show i = 0 by omega]; rfl
  | n + 1, h => by
    by_cases q : i = n + 1
    · rw [q]
      rfl
    · rw [← gvn_get (n := n) (by omega)]
      have := gvn_len U n
      exact getD_app0 (by omega)
theorem Gf_succ (U : List (Nat × Int)) (n : Nat) : Gf U (n + 1) = ((U.filter fun k => decide (k.1 ≤ n + 1)).map fun k => (gvn U n).getD (n + 1 - k.1) 0 + k.2).foldl max (Gf U n) := by
  have l := gvn_len U n
  have := getD_app1 (l := gvn U n) (x := ((U.filter fun k => decide (k.1 ≤ n + 1)).map fun k => (gvn U n).getD (n + 1 - k.1) 0 + k.2).foldl max ((gvn U n).getD n 0))
  rw [l] at this
  exact this
theorem Gf_up (U : List (Nat × Int)) (n : Nat) : Gf U n ≤ Gf U (n + 1) := by
  rw [Gf_succ]
  exact (fold_max _ _).1
theorem Gf_nn (U : List (Nat × Int)) : ∀ n, 0 ≤ Gf U n
  | 0 => Int.le_refl _
  | n + 1 => Int.le_trans (Gf_nn U n) (Gf_up U n)
theorem Gf_ge {U : List (Nat × Int)} {n p : Nat} {y : Int} (h : (p, y) ∈ U) (h1 : 1 ≤ p) (hp : p ≤ n + 1) : Gf U (n + 1 - p) + y ≤ Gf U (n + 1) := by
  rw [Gf_succ]
  have := (fold_max ((U.filter fun k => decide (k.1 ≤ n + 1)).map fun k => (gvn U n).getD (n + 1 - k.1) 0 + k.2) (Gf U n)).2.1 _ (List.mem_map.mpr ⟨(p, y), List.mem_filter.mpr ⟨h, decide_eq_true hp⟩, rfl⟩)
  rw [gvn_get (by show n + 1 - p ≤ n; omega)] at this
  exact this
theorem Gf_at (U : List (Nat × Int)) (n : Nat) (hU : ∀ k ∈ U, 1 ≤ k.1) : Gf U (n + 1) = Gf U n ∨ ∃ p y, (p, y) ∈ U ∧ p ≤ n + 1 ∧ Gf U (n + 1) = Gf U (n + 1 - p) + y := by
  rcases (fold_max ((U.filter fun k => decide (k.1 ≤ n + 1)).map fun k => (gvn U n).getD (n + 1 - k.1) 0 + k.2) (Gf U n)).2.2 with q | q
  · left
    rw [Gf_succ]
    exact q
  · right
    obtain ⟨⟨p, y⟩, hm, e⟩ := List.mem_map.mp q
    obtain ⟨h1, h2⟩ := List.mem_filter.mp hm
    have h2 : p ≤ n + 1 := of_decide_eq_true h2
    have h3 := hU _ h1
    refine ⟨p, y, h1, h2, ?_⟩
    have h3 : 1 ≤ p := h3
    rw [gvn_get (by show n + 1 - p ≤ n; omega)] at e
    rw [Gf_succ]
    exact e.symm
theorem gv_le {U : List (Nat × Int)} (hU : ∀ k ∈ U, 1 ≤ k.1 ∧ k.2 ≤ Sf f k.1) : ∀ n, Gf U n ≤ Sf f n := by
  intro n
  induction n using Nat.strongRecOn with
  | _ n ih =>
    match n, ih with
    | 0, _ => exact Int.le_refl _
    | n + 1, ih =>
      rcases Gf_at U n fun k hk => (hU k hk).1 with q | ⟨p, y, h1, h2, h3⟩
      · rw [q]
        exact Int.le_trans (ih n (by omega)) (Sf_up n)
      · obtain ⟨p1, p2⟩ := hU _ h1
        have p1 : 1 ≤ p := p1
        have p2 : y ≤ Sf f p := p2
        have i := ih (n + 1 - p) (by omega)
        have s := sup2 (f := f) (n + 1 - p) p
        rw [show n + 1 - p + p = n + 1 by omega] at s
        omega
theorem gv_eq {U : List (Nat × Int)} {top : Nat} (hU : ∀ k ∈ U, 1 ≤ k.1 ∧ k.2 ≤ Sf f k.1) (hK : ∀ s, s ≤ top → kep f s → (s, f s) ∈ U) : ∀ n, n ≤ top → Gf U n = Sf f n := by
  intro n
  induction n using Nat.strongRecOn with
  | _ n ih =>
    intro hn
    refine Int.le_antisymm (gv_le hU n) ?_
    match n, ih, hn with
    | 0, _, _ => exact Int.le_refl _
    | n + 1, ih, hn =>
      rcases Sf_at (f := f) n with ⟨h1, h2⟩ | ⟨h1, h2⟩
      · rw [h2]
        have := Gf_ge (n := n) (hK _ hn h1) (by omega) (Nat.le_refl _)
        have := Gf_nn U (n + 1 - (n + 1))
        omega
      · rw [h2]
        rcases cd_at (f := f) (n + 1) with q | ⟨s, s1, s2, s3⟩
        · rw [q]
          exact Gf_nn U _
        · have s0 := s2.1
          have := Gf_ge (n := n) (hK s (by omega) s2) s0 (by omega)
          have i := ih (n + 1 - s) (by omega) (by omega)
          omega
theorem gv_rest {U : List (Nat × Int)} {x : Nat} (hU : ∀ k ∈ U, kep f k.1 ∧ k.2 = f k.1 ∧ k.1 ≠ x) (x1 : 1 ≤ x) : Gf U x ≤ cd f x := by
  have up : ∀ n, Gf U n ≤ Sf f n := gv_le fun k hk => by
    obtain ⟨h1, h2, _⟩ := hU k hk
    have h0 := h1.1
    refine ⟨h0, ?_⟩
    have := f_le_Sf (f := f) (k.1 - 1)
    rw [show k.1 - 1 + 1 = k.1 by omega] at this
    omega
  obtain ⟨n, rfl⟩ : ∃ n, x = n + 1 := ⟨x - 1, by omega⟩
  rcases Gf_at U n fun k hk => (hU k hk).1.1 with q | ⟨p, y, h1, h2, h3⟩
  · rw [q]
    exact Int.le_trans (up n) (Sf_le_cd n)
  · obtain ⟨k1, k2, k3⟩ := hU _ h1
    have k1 : kep f p := k1
    have k2 : y = f p := k2
    have k3 : p ≠ n + 1 := k3
    have := cd_ge (n := n + 1) k1 (by omega)
    have := up (n + 1 - p)
    omega
end
/-! ### of a desk -/
section
variable {m : Nat} {num den least s : Int} {u : Option Int}
abbrev fD (m : Nat) (num den least s : Int) (u : Option Int) : Nat → Int := fun n => Fv m num den least s u (n : Int)
theorem Fv_neg0 (o : Dk m num den least s u) : fD m num den least s u 0 = 0 := by
  have a := last_le (u := u) (x := 0) o.s0
  have b := lim_le (u := u) (x := 0)
  have := o.l0
  show Fv m num den least s u 0 = 0
  unfold Fv
  rw [if_neg (by omega)]
theorem Sf_ge_f (o : Dk m num den least s u) (n : Nat) : fD m num den least s u n ≤ Sf (fD m num den least s u) n := by
  match n with
  | 0 =>
    rw [Sf_zero]
    exact Int.le_of_eq (Fv_neg0 o)
  | n + 1 => exact f_le_Sf n
theorem kep_tk (o : Dk m num den least s u) {n : Nat} (h : kep (fD m num den least s u) n) : Tk least s u (n : Int) := by
  refine Classical.byContradiction fun q => ?_
  obtain ⟨h1, h2⟩ := h
  have e := Fv_not o q
  obtain ⟨k, rfl⟩ : ∃ k, n = k + 1 := ⟨n - 1, by omega⟩
  rw [show ((k + 1 : Nat) : Int) - 1 = (k : Int) by omega] at e
  have a := Sf_ge_f o k
  have b := Sf_le_cd (f := fD m num den least s u) k
  have e : fD m num den least s u (k + 1) = fD m num den least s u k := e
  omega
theorem G_zero {d : Int} (hm : m ≤ 2) (hd : 1 ≤ d) : Gm m 0 d = 0 := by
  obtain rfl | rfl | rfl : m = 0 ∨ m = 1 ∨ m = 2 := by omega
  · exact Int.zero_ediv _
  · exact G1u (by omega) (by rw [Int.mul_zero]; exact Int.le_refl _) (by rw [Int.mul_zero]; omega)
  · exact G2u (by omega) (by rw [Int.mul_zero]; omega) (by rw [Int.mul_zero]; omega)
/-- far off nothing is needed -/
theorem far_not (o : Dk m num den least s u) {M x : Nat} (M1 : least ≤ (M : Int)) (Ms : s ∣ (M : Int)) (Md : den ∣ (M : Int)) (hx : fst least s + (M : Int) ≤ (x : Int)) : ¬ kep (fD m num den least s u) x := by
  intro h
  have tk := kep_tk o h
  have l0 := o.l0
  have s0 := o.s0
  have f0 := fst_ge l0 s0
  have tM : Tk least s u (M : Int) := ⟨M1, Int.emod_eq_zero_of_dvd Ms, fun v hv => by have := tk.2.2 v hv; omega⟩
  obtain ⟨y, hy⟩ : ∃ y : Nat, x = y + M := ⟨x - M, by omega⟩
  have hyI : (x : Int) = (y : Int) + (M : Int) := by omega
  have ty : Tk least s u (y : Int) := by
    refine ⟨by omega, ?_, fun v hv => by have := tk.2.2 v hv; omega⟩
    have := tk.2.1
    rw [hyI] at this
    obtain ⟨j, hj⟩ := Ms
    rw [hj, Int.add_mul_emod_self_left] at this
    exact this
  have ex : fD m num den least s u x = fD m num den least s u y + fD m num den least s u M := by
    show Fv m num den least s u (x : Int) = Fv m num den least s u (y : Int) + Fv m num den least s u (M : Int)
    rw [Fv_tk tk, Fv_tk ty, Fv_tk tM, hyI]
    obtain ⟨k, hk⟩ := Md
    have e1 : num * ((y : Int) + (M : Int)) = num * (y : Int) + den * (num * k) := by rw [Int.mul_add, hk, Int.mul_left_comm]
    have e2 : num * (M : Int) = 0 + den * (num * k) := by rw [hk, Int.mul_left_comm, Int.zero_add]
    rw [e1, e2, G_turn o.hm (by have := o.d0; omega), G_turn o.hm (by have := o.d0; omega), G_zero o.hm o.d0]
    omega
  have c := sup1 (f := fD m num den least s u) M y (by omega) (by omega)
  have a := Sf_ge_f o y
  have b := Sf_ge_f o M
  have h2 := h.2
  rw [hy] at h2 ex
  omega
end
end Sm

set_option maxHeartbeats 4000000
namespace Sm
section
variable {f : Nat → Int}
theorem cands_nn {n x : Nat} : ∀ y ∈ cands (st f n).1 (st f n).2 x, 0 ≤ y := by
  intro y hy
  obtain ⟨⟨s, w⟩, hm, rfl⟩ := List.mem_map.mp hy
  obtain ⟨h1, h2, h3⟩ := st_mem.mp hm
  have a := h2.2
  have b := cd_zero (f := f) s
  have c : 0 ≤ (st f n).1.getD (x - s) 0 := by
    by_cases q : x - s ≤ n
    · rw [st_get q]
      exact Sf_nn _
    · rw [List.getD_eq_getElem?_getD, List.getElem?_eq_none (by rw [st_len]; omega)]
      exact Int.le_refl _
  show 0 ≤ (st f n).1.getD (x - s) 0 + w
  omega
theorem cl_max {n x : Nat} {m : Int} (h : m ∈ cands (st f n).1 (st f n).2 x) (hm : ∀ y ∈ cands (st f n).1 (st f n).2 x, y ≤ m) : m = cl (st f n).1 (st f n).2 x := by
  obtain ⟨h1, h2, h3⟩ := fold_max (cands (st f n).1 (st f n).2 x) 0
  have a := h2 m h
  have b := cands_nn m h
  unfold cl
  rcases h3 with q | q
  · omega
  · have := hm _ q
    omega
theorem cl_less {n : Nat} {m : Int} (h : m ∈ Sf f n :: cands (st f n).1 (st f n).2 (n + 1)) (hm : ∀ y ∈ Sf f n :: cands (st f n).1 (st f n).2 (n + 1), y ≤ m) : m = cl (st f n).1 (st f n).2 (n + 1) := by
  obtain ⟨h1, h2, h3⟩ := fold_max (cands (st f n).1 (st f n).2 (n + 1)) 0
  have c := Sf_le_cd (f := f) n
  have e : cd f (n + 1) = cl (st f n).1 (st f n).2 (n + 1) := rfl
  have z := Sf_nn (f := f) n
  rw [e] at c
  have up : m ≤ cl (st f n).1 (st f n).2 (n + 1) := by
    rcases List.mem_cons.mp h with rfl | q
    · exact c
    · exact h2 m q
  have lo : cl (st f n).1 (st f n).2 (n + 1) ≤ m := by
    rcases h3 with q | q
    · have := hm _ (List.mem_cons_self ..)
      have q : cl (st f n).1 (st f n).2 (n + 1) = 0 := q
      omega
    · exact hm _ (List.mem_cons_of_mem _ q)
  omega
theorem fold_eq {l : List Int} {a m : Int} (h : m ∈ a :: l) (hm : ∀ y ∈ a :: l, y ≤ m) : m = l.foldl max a := by
  obtain ⟨h1, h2, h3⟩ := fold_max l a
  have up : m ≤ l.foldl max a := by
    rcases List.mem_cons.mp h with rfl | q
    · exact h1
    · exact h2 m q
  have lo : l.foldl max a ≤ m := by
    rcases h3 with q | q
    · rw [q]
      exact hm _ (List.mem_cons_self ..)
    · exact hm _ (List.mem_cons_of_mem _ q)
  omega
theorem gvn_eq (U : List (Nat × Int)) (n : Nat) : gvn U n = (List.range (n + 1)).map (Gf U) := by
  refine List.ext_getElem? fun i => ?_
  by_cases h : i < n + 1
  · have l := gvn_len U n
    rw [List.getElem?_map, List.getElem?_range h, List.getElem?_eq_getElem (by omega)]
    have := gvn_get (U := U) (i := i) (n := n) (by omega)
    rw [List.getD_eq_getElem?_getD, List.getElem?_eq_getElem (by omega)] at this
    exact congrArg some this
  · rw [List.getElem?_eq_none (by rw [gvn_len]; omega), List.getElem?_eq_none (by rw [List.length_map, List.length_range]; omega)]
end
section
variable {m : Nat} {num den least s : Int} {u : Option Int}
def lcD (den s : Int) : Nat := Nat.lcm s.toNat den.toNat
def cntD (den least s : Int) (u : Option Int) : Nat := match u with
  | some v => v.toNat + 1
  | none => (fst least s + fst least (lcD den s : Int)).toNat
theorem lcD_pos (o : Dk m num den least s u) : 1 ≤ lcD den s ∧ lcD den s ≤ 900 := by
  have s0 := o.s0
  have s1 := o.s1
  have d0 := o.d0
  have d1 := o.d1
  unfold lcD
  refine ⟨Nat.lcm_pos (by omega) (by omega), ?_⟩
  have h1 : Nat.lcm s.toNat den.toNat ≤ s.toNat * den.toNat := Nat.le_of_dvd (Nat.mul_pos (by omega) (by omega)) (Nat.lcm_dvd (Nat.dvd_mul_right ..) (Nat.dvd_mul_left ..))
  have h2 : s.toNat * den.toNat ≤ 30 * 30 := Nat.mul_le_mul (by omega) (by omega)
  omega
theorem lcD_dvd (o : Dk m num den least s u) : s ∣ (lcD den s : Int) ∧ den ∣ (lcD den s : Int) := by
  have s0 := o.s0
  have d0 := o.d0
  have a : ((s.toNat : Nat) : Int) ∣ ((lcD den s : Nat) : Int) := Int.natCast_dvd_natCast.mpr (Nat.dvd_lcm_left ..)
  have b : ((den.toNat : Nat) : Int) ∣ ((lcD den s : Nat) : Int) := Int.natCast_dvd_natCast.mpr (Nat.dvd_lcm_right ..)
  rw [Int.toNat_of_nonneg (by omega)] at a b
  exact ⟨a, b⟩
theorem lcD_least (o : Dk m num den least s u) {k : Nat} (h1 : s ∣ (k : Int)) (h2 : den ∣ (k : Int)) : lcD den s ∣ k := by
  have s0 := o.s0
  have d0 := o.d0
  refine Nat.lcm_dvd ?_ ?_
  · refine Int.natCast_dvd_natCast.mp ?_
    rw [Int.toNat_of_nonneg (by omega)]
    exact h1
  · refine Int.natCast_dvd_natCast.mp ?_
    rw [Int.toNat_of_nonneg (by omega)]
    exact h2
theorem fst_dvd {a q : Int} : q ∣ fst a q := Int.dvd_mul_left ..
/-- the stack from here on stays -/
theorem stay (o : Dk m num den least s u) {n : Nat} (hn : fst least s + fst least (lcD den s : Int) ≤ (n : Int) + 1) (k : Nat) : (st (fD m num den least s u) (n + k)).2 = (st (fD m num den least s u) n).2 := by
  obtain ⟨l1, l2⟩ := lcD_pos o
  obtain ⟨e1, e2⟩ := lcD_dvd o
  have l0 := o.l0
  have f1 := fst_ge (least := least) (s := (lcD den s : Int)) l0 (by omega)
  obtain ⟨M, hM⟩ : ∃ M : Nat, (M : Int) = fst least (lcD den s : Int) := ⟨(fst least (lcD den s : Int)).toNat, by omega⟩
  have dv := fst_dvd (a := least) (q := (lcD den s : Int))
  refine st_stable fun i h1 h2 => far_not o (M := M) (by omega) (by rw [hM]; exact Int.dvd_trans e1 dv) (by rw [hM]; exact Int.dvd_trans e2 dv) (by omega)
theorem past (o : Dk m num den least s u) {v : Int} (hu : u = some v) {n : Nat} (hn : v ≤ (n : Int)) (k : Nat) : (st (fD m num den least s u) (n + k)).2 = (st (fD m num den least s u) n).2 := by
  refine st_stable fun i h1 h2 q => ?_
  have := (kep_tk o q).2.2 v hu
  omega
/-- what the law takes as its top is far enough -/
theorem top_ok (o : Dk m num den least s u) {t : Nat} (ht : fst least s + fst least (lcD den s : Int) ≤ (t : Int) + 1) :
    ∀ n : Nat, (n : Int) = (match u with | none => (t : Int) | some v => if v + 1 < (t : Int) then v + 1 else (t : Int)) → (st (fD m num den least s u) n).2 = (st (fD m num den least s u) (cntD den least s u - 1)).2 := by
  intro n hn
  obtain ⟨l1, l2⟩ := lcD_pos o
  have l0 := o.l0
  have s0 := o.s0
  have f1 := fst_ge (least := least) (s := (lcD den s : Int)) l0 (by omega)
  have f2 := fst_ge (least := least) (s := s) l0 s0
  cases u with
  | none =>
    have hn : (n : Int) = (t : Int) := hn
    have c : cntD den least s none = (fst least s + fst least (lcD den s : Int)).toNat := rfl
    rw [c]
    have := stay o (n := (fst least s + fst least (lcD den s : Int)).toNat - 1) (by omega) (n - ((fst least s + fst least (lcD den s : Int)).toNat - 1))
    rw [show (fst least s + fst least (lcD den s : Int)).toNat - 1 + (n - ((fst least s + fst least (lcD den s : Int)).toNat - 1)) = n by omega] at this
    exact this
  | some v =>
    have hn : (n : Int) = if v + 1 < (t : Int) then v + 1 else (t : Int) := hn
    have v0 := o.u0 v rfl
    have c : cntD den least s (some v) - 1 = v.toNat := rfl
    rw [c]
    by_cases q : v + 1 < (t : Int)
    · rw [if_pos q] at hn
      have := past o rfl (n := v.toNat) (by omega) 1
      rw [show v.toNat + 1 = n by omega] at this
      exact this
    · rw [if_neg q] at hn
      rcases Nat.le_total n v.toNat with g | g
      · have := stay o (n := n) (by omega) (v.toNat - n)
        rw [show n + (v.toNat - n) = v.toNat by omega] at this
        exact this.symm
      · have := past o rfl (n := v.toNat) (by omega) (n - v.toNat)
        rw [show v.toNat + (n - v.toNat) = n by omega] at this
        exact this
end
end Sm

set_option Elab.async false
set_option linter.all false
set_option maxRecDepth 100000
set_option maxHeartbeats 4000000
namespace Sm
open PySem PySem.Spec PyProof.Rows L2
/-! ### max of a list, with a default -/
theorem max_loop_kw {prog : Program} {w : World} {A : Around} {R : Result → Shared → Prop} {I : Addr} {fp wr : List Addr} {n : Nat} {P : Nat → Value → Prop} {St : Nat → Heap → Prop} (W : Walks prog w A.in1 I fp wr n P St) (bt : Nat → Nat → Bool) (hcmp : CmpOf prog w A.in1 CmpOp.Gt P bt)
    (S : Addr) (hSf : ¬ S ∈ fp) (kw : List (Str × Value)) : ∀ (k j : Nat) (s : Shared) (vb : Value) (c : Nat), n - (j + 1) = k → j + 1 ≤ n → St (j + 1) s.heap → P (argBest bt j) vb → s.heap.get? S = some { cls := Value.type "list", data := Data.seq #[vb, vb] c } →
      (∀ (v : Value) (h' : Heap) (tk : Nat), P (argBest bt (n - 1)) v → (∀ (b : Addr) (o : Obj), ¬ b ∈ wr → b ≠ S → s.heap.get? b = some o → h'.get? b = some o) → R (Except.ok (Flow.ret v)) { heap := h', gens := s.gens, drawn := s.drawn, toks := tk, os := s.os }) →
      codeAny (model prog w) A (Code.builtin "max.loop" { pos := [Value.ref I, Value.none, Value.ref S], kw := kw }) R s := by
  have hSw : ¬ S ∈ wr := fun h => hSf (W.sub S h)
  intro k
  induction k with
  | zero =>
    intro j s vb c hk hj hst hPb hS hR
    have hin : j + 1 = n := by omega
    refine codeAny_builtin F.entry_max_loop ?_
    rw [Around.under_plainId F.plain_max_loop]
    refine wpAny_bind (wpAny_seqItems hS rfl (wpAny_bind (wpAny_tryCatch (W.done s _ _ (hin ▸ hst) fun h' tk hk' => ?_))))
    have hS' := hk' S _ hSw hS
    refine wpAny_bind (wpAny_updateSeq hS' rfl (wpAny_bind (wpAny_letGo (wpAny_pure (hR vb _ tk ?_ fun b o hbw hbS e => ?_)))) ?_ ?_)
    · rw [← hin]
      exact hPb
    · exact (Heap.get?_update_other _ _ (Ne.symm hbS)).trans (hk' b o hbw e)
    · show 2 ≤ sizeLine
      decide
    · show 0 ≤ sizeLine + 1
      exact Nat.zero_le _
  | succ k ih =>
    intro j s vb c hk hj hst hPb hS hR
    have hlt : j + 1 < n := by omega
    refine codeAny_builtin F.entry_max_loop ?_
    rw [Around.under_plainId F.plain_max_loop]
    refine wpAny_bind (wpAny_seqItems hS rfl (wpAny_bind (wpAny_tryCatch (W.item (j + 1) s _ _ hlt hst fun v h' tk hP hst' hk' => ?_))))
    have hS' := hk' S _ hSw hS
    have hname : (toString "max" ++ toString ".loop" : String) = "max.loop" := by decide
    refine wpAny_bind (wpAny_pure ?_)
    refine wpAny_bind (wpAny_tryCatch (wpAny_holding (wpAny_bind (hcmp (j + 1) (argBest bt j) v vb _ _ _ hP hPb (wpAny_bind (wpAny_holding (wpAny_truthy_bool (wpAny_bind (wpAny_letGo (wpAny_pure ?_))))))))))
    have ab : argBest bt (j + 1) = if bt (j + 1) (argBest bt j) = true then j + 1 else argBest bt j := rfl
    cases hb : bt (j + 1) (argBest bt j) with
    | false =>
      rw [hb] at ab
      refine wpAny_ite_false rfl (wpAny_bind (wpAny_letGo ?_))
      rw [hname]
      exact wpAny_pure ⟨plainId_quiet F.plain_max_loop _, ih (j + 1) _ vb c (by omega) (by omega) hst' (by rw [ab]; exact hPb) hS' fun v' h'' tk'' hP' hk'' => hR v' h'' tk'' hP' fun b o hbw hbS e => hk'' b o hbw hbS (hk' b o hbw e)⟩
    | true =>
      rw [hb] at ab
      refine wpAny_ite_true rfl (wpAny_bind (wpAny_updateSeq hS' rfl (wpAny_bind (wpAny_letGo ?_)) ?_ ?_))
      · rw [hname]
        refine wpAny_pure ⟨plainId_quiet F.plain_max_loop _, ih (j + 1) _ v _ (by omega) (by omega) (W.frame _ _ _ hst' fun b hb' o e => (Heap.get?_update_other _ _ (fun q => hSf (by rw [q]; exact hb'))).trans e) (by rw [ab]; exact hP) (Heap.get?_update_self _ hS' rfl) fun v' h'' tk'' hP' hk'' => hR v' h'' tk'' hP' fun b o hbw hbS e => hk'' b o hbw hbS ((Heap.get?_update_other _ _ (Ne.symm hbS)).trans (hk' b o hbw e))⟩
      · show 2 ≤ sizeLine
        decide
      · show 2 ≤ sizeLine + 1
        decide
theorem max_first_kw {prog : Program} {w : World} {A : Around} {R : Result → Shared → Prop} {I : Addr} {fp wr : List Addr} {n : Nat} {P : Nat → Value → Prop} {St : Nat → Heap → Prop} (W : Walks prog w A.in1 I fp wr n P St) (bt : Nat → Nat → Bool) (hcmp : CmpOf prog w A.in1 CmpOp.Gt P bt)
    (S : Addr) (hSf : ¬ S ∈ fp) (x : Str) (d : Value) {s : Shared} {c : Nat} (hst : St 0 s.heap) (hS : s.heap.get? S = some { cls := Value.type "list", data := Data.seq #[] c })
    (h0 : n = 0 → ∀ h' tk, (∀ (b : Addr) (o : Obj), ¬ b ∈ wr → s.heap.get? b = some o → h'.get? b = some o) → R (Except.ok (Flow.ret d)) { heap := h', gens := s.gens, drawn := s.drawn, toks := tk, os := s.os })
    (hR : 0 < n → ∀ (v : Value) (h' : Heap) (tk : Nat), P (argBest bt (n - 1)) v → (∀ (b : Addr) (o : Obj), ¬ b ∈ wr → b ≠ S → s.heap.get? b = some o → h'.get? b = some o) → R (Except.ok (Flow.ret v)) { heap := h', gens := s.gens, drawn := s.drawn, toks := tk, os := s.os }) :
    codeAny (model prog w) A (Code.builtin "max.loop" { pos := [Value.ref I, Value.none, Value.ref S], kw := [(x, d)] }) R s := by
  have hSw : ¬ S ∈ wr := fun h => hSf (W.sub S h)
  have hname : (toString "max" ++ toString ".loop" : String) = "max.loop" := by decide
  refine codeAny_builtin F.entry_max_loop ?_
  rw [Around.under_plainId F.plain_max_loop]
  by_cases hn : 0 < n
  · refine wpAny_bind (wpAny_seqItems hS rfl (wpAny_bind (wpAny_tryCatch (W.item 0 s _ _ hn hst fun v h' tk hP hst' hk' => ?_))))
    have hS' := hk' S _ hSw hS
    refine wpAny_bind (wpAny_pure ?_)
    refine wpAny_bind (wpAny_updateSeq hS' rfl ?_ ?_ ?_)
    · rw [hname]
      refine wpAny_pure ⟨plainId_quiet F.plain_max_loop _, max_loop_kw W bt hcmp S hSf _ (n - (0 + 1)) 0 _ v _ rfl hn (W.frame _ _ _ hst' fun b hb' o e => (Heap.get?_update_other _ _ (fun q => hSf (by rw [q]; exact hb'))).trans e) hP (Heap.get?_update_self _ hS' rfl) fun v' h'' tk'' hP' hk'' => hR hn v' h'' tk'' hP' fun b o hbw hbS e => hk'' b o hbw hbS ((Heap.get?_update_other _ _ (Ne.symm hbS)).trans (hk' b o hbw e))⟩
    · show 0 ≤ sizeLine
      exact Nat.zero_le _
    · show 2 ≤ sizeLine + 1
      decide
  · have z : n = 0 := by omega
    subst z
    refine wpAny_bind (wpAny_seqItems hS rfl (wpAny_bind (wpAny_tryCatch (W.done s _ _ hst fun h' tk hk' => ?_))))
    exact wpAny_bind (wpAny_rule (wpAny_pure (h0 rfl h' tk hk')))
theorem intSize (xs : Array (Int × Tok)) : (intItems xs).size = xs.size := by simp [intItems]
theorem max_kw {prog : Program} {w : World} {A : Around} {E : Value → Shared → Prop} {s : Shared} {l : Addr} {xs : Array (Int × Tok)} {x : Value} {Q : Value → Shared → Prop} (hh : A.handled = none) (hl : s.heap.IsList l (intItems xs))
    (h0 : xs.size = 0 → ∀ h' tk, (∀ (b : Addr) (o : Obj), s.heap.get? b = some o → h'.get? b = some o) → Q x { heap := h', gens := s.gens, drawn := s.drawn, toks := tk, os := s.os })
    (hR : 0 < xs.size → ∀ v h' tk, (intItems xs)[argBest (fun i j => decide (numAt xs i > numAt xs j)) (xs.size - 1)]? = some v → (∀ (b : Addr) (o : Obj), s.heap.get? b = some o → h'.get? b = some o) → Q v { heap := h', gens := s.gens, drawn := s.drawn, toks := tk, os := s.os }) :
    wpAny (model prog w) A (call (Value.builtin "max") [Value.ref l] [(Str.ofString "default", x)]) Q E s := by
  have hname : (toString "max" ++ toString ".loop" : String) = "max.loop" := by decide
  refine PyProof.Rows.kmk_tree F.kind_max F.plain_max F.entry_max rfl ?_
  have hbind : Builtin.Builtins.bindParams "max" ["key", "default"] 0 { kw := [(Str.ofString "default", x)] } = pure [none, some x] := rfl
  refine wpAny_bind (wpAny_of_eq hbind (wpAny_bind (wpAny_pure ?_)))
  refine wpAny_bind (wpAny_pyIter_list hl (wpAny_bind (wpAny_newObj_type ?_ ?_)))
  rotate_left
  · show 0 ≤ sizeLine
    exact Nat.zero_le _
  have hlt : l < s.heap.objs.size := by
    obtain ⟨o, e, _⟩ := hl
    exact Heap.lt_size e
  have ne : l ≠ s.heap.objs.size := Nat.ne_of_lt hlt
  have sz : (s.heap.push { cls := Value.type "list_iterator", data := Data.fields #[Value.ref l, Value.int 0 0] }).objs.size = s.heap.objs.size + 1 := Heap.size_push _ _
  have keep : ∀ (b : Addr) (o : Obj), s.heap.get? b = some o → ((s.heap.push { cls := Value.type "list_iterator", data := Data.fields #[Value.ref l, Value.int 0 0] }).push { cls := Value.type "list", data := Data.seq #[] }).get? b = some o := fun b o e => Heap.get?_push_of_some _ (Heap.get?_push_of_some _ e)
  rw [hname]
  refine wpAny_pure ⟨plainId_quiet F.plain_max_loop _, ?_⟩
  refine max_first_kw (Walks.list (A := A.in1) hh s.heap.objs.size l ne (intItems xs)) (fun i j => decide (numAt xs i > numAt xs j)) (CmpOf.ints_gt (numAt xs) fun i v hv => ?_) _ ?_ _ _ ⟨⟨_, Heap.get?_push_of_some _ (Heap.get?_push_size s.heap rfl), rfl, rfl⟩, hl.at fun o e => keep l o e⟩ (Heap.get?_push_size _ rfl) (fun hz h' tk hk => ?_) (fun hn v h' tk hv hk => ?_)
  · obtain ⟨t, e⟩ := intItems_at hv
    exact ⟨t, e⟩
  · intro hm
    rw [sz] at hm
    rcases List.mem_cons.mp hm with q | q
    · exact absurd q (Nat.succ_ne_self _)
    · have q := List.mem_singleton.mp q
      exact absurd hlt (by rw [← q]; exact Nat.not_lt.mpr (Nat.le_succ _))
  · refine h0 (by rw [← intSize xs]; exact hz) h' tk fun b o e => hk b o ?_ (keep b o e)
    intro q
    have q := List.mem_singleton.mp q
    have lt := Heap.lt_size e
    rw [q] at lt
    exact Nat.lt_irrefl _ lt
  · refine hR ?_ v h' tk ?_ fun b o e => hk b o ?_ ?_ (keep b o e)
    · rw [← intSize xs]
      exact hn
    · rw [← intSize xs]
      exact hv
    · intro q
      have q := List.mem_singleton.mp q
      have lt := Heap.lt_size e
      rw [q] at lt
      exact Nat.lt_irrefl _ lt
    · rw [sz]
      have lt := Heap.lt_size e
      exact Nat.ne_of_lt (Nat.lt_succ_of_lt lt)
theorem max_kw_ints {prog : Program} {w : World} {A : Around} {E : Value → Shared → Prop} {s : Shared} {l : Addr} {its : List Value} {ns : List Int} {x : Value} {Q : Value → Shared → Prop} (hh : A.handled = none) (hl : s.heap.IsList l its.toArray) (hi : PyProof.Rows.IntsAre its ns)
    (h0 : ns = [] → ∀ h' tk, (∀ (b : Addr) (o : Obj), s.heap.get? b = some o → h'.get? b = some o) → Q x { heap := h', gens := s.gens, drawn := s.drawn, toks := tk, os := s.os })
    (hR : ∀ (h' : Heap) (tk : Nat) (M : Int) (t' : Tok), (∀ (b : Addr) (o : Obj), s.heap.get? b = some o → h'.get? b = some o) → M ∈ ns → (∀ a, a ∈ ns → a ≤ M) → Q (Value.int M t') { heap := h', gens := s.gens, drawn := s.drawn, toks := tk, os := s.os }) :
    wpAny (model prog w) A (call (Value.builtin "max") [Value.ref l] [(Str.ofString "default", x)]) Q E s := by
  obtain ⟨xs, e⟩ := AllInts.items (PyProof.Rows.IntsAre.allInts hi)
  have hn : numsOf (intItems xs).toList = ns := by
    rw [← e]
    exact PyProof.Rows.IntsAre.numsOf hi
  rw [nums_intItems] at hn
  rw [e] at hl
  have ln : ns.length = xs.size := by rw [← hn]; simp
  refine max_kw hh hl (fun hz h' tk hk => h0 (List.length_eq_zero_iff.mp (by rw [ln]; exact hz)) h' tk hk) (fun hp v h' tk hv hk => ?_)
  obtain ⟨t, rfl⟩ := intItems_at hv
  obtain ⟨g1, g2⟩ := argBest_gt (numAt xs) (xs.size - 1)
  have nd : ∀ j, numAt xs j = ns.getD j 0 := fun j => by rw [← hn]; exact numAt_eq xs j
  refine hR h' tk _ t hk ?_ fun a ha => ?_
  · rw [nd]
    have lt : argBest (fun i j => decide (numAt xs i > numAt xs j)) (xs.size - 1) < ns.length := by omega
    rw [List.getD_eq_getElem?_getD, List.getElem?_eq_getElem lt]
    exact List.getElem_mem lt
  · obtain ⟨j, hj, rfl⟩ := List.mem_iff_getElem.mp ha
    have q := g2 j (by omega)
    rw [nd j, List.getD_eq_getElem?_getD, List.getElem?_eq_getElem hj] at q
    exact q
section
variable {X : Cx}
def rMaxDef (K : PySem.W.Frag) (i : Int) : List V → Hp → VK → Prop := fun vs H Q => ∃ (a : Addr) (ns : List Int), vs = [V.ref a] ∧ SqL K H a (ns.map V.int) ∧ (ns = [] → Q (.int i) H) ∧ ∀ m, m ∈ ns → (∀ y, y ∈ ns → y ≤ m) → Q (.int m) H
theorem pe_maxDef {e : Expr} {t : TA} {p pos cp kp : Pos} {i : Int} {j : Nat} (hc : X.calm = true) (hg : Gl X "max") (hm : X.mg "max" = none) (ha : PA X [e] t) (he : starEach [e] X.env = (false, eval e X.env) :: starEach [] X.env := by rfl)
    (hpl : ((backTo pos (starEach [e] X.env)).any fun x => x.1) = false := by rfl) :
    PE X (.Call (.Name "max" p) [e] [{ arg := some "default", value := .Constant (.int i) j cp, pos := kp }] pos) (tCB (rMaxDef X.K i) t) := by
  constructor
  intro pins s σ H Q I want
  refine wpAny_Call_Name_kw (ld_blt I hg hm (u := .builtin "max") rfl ?_)
  refine PyProof.Rows.callWith_kw (thn (ha.run pos pins s σ H _ I want) ?_) (by rw [he]; rfl) hpl rfl rfl
  rintro us s1 ⟨vs, H1, I1, rel, a, ns, rfl, hs, h0, hR⟩
  refine wpAny_evalAll_cons ?_
  refine wpAny_bind (wpAny_mono ((pe_int (X := X) (i := i) (j := j) (pos := cp)).run pins s1 σ H1 (fun v H' => v = .int i ∧ H' = H1) I1 ⟨rfl, rfl⟩) ?_ (fun _ _ q => q))
  rintro u s2 ⟨v, H2, I2, ru, rfl, rfl⟩
  refine wpAny_bind (wpAny_standAt (wpAny_pure ?_))
  refine wpAny_evalAll_nil ?_
  obtain ⟨its, rv, hl, hz⟩ := I2.list hs
  rw [Vals.ref1 rel]
  exact max_kw_ints (I2.ok.hd hc) (PlainL.isList hl) (Vals.ints rv) (fun e h' tk hk => ⟨_, _, I2.kept hk, ru, h0 e⟩) (fun h' tk M t' hk h1 h2 => ⟨.int M, _, I2.kept hk, ⟨t', rfl⟩, hR M h1 h2⟩)
end
end Sm

set_option Elab.async false
set_option linter.all false
set_option maxRecDepth 100000
set_option maxHeartbeats 8000000
namespace Sm
open PySem PySem.Spec PyProof.Rows L2
open C8 (pss_cut tCut)
def topS (i : Nat) : Stmt := PySem.Challenge.pw_smallchange_k78_whole_needed_uses.main.body.getD i (.Pass ⟨0, 0, 0, 0⟩)
structure Txt (mg : Str → Option Value) : Prop where
  n_abs : mg "abs" = none
  n_int : mg "int" = none
  n_len : mg "len" = none
  n_max : mg "max" = none
  n_min : mg "min" = none
  n_range : mg "range" = none
  n_repr : mg "repr" = none
  n_tuple : mg "tuple" = none
  g_lcm : mg "lcm" = some (.builtin "math.lcm")
/-! ### rules in the heap -/
def RuleAt (H : Hp) (d : Addr) (T : List Int) (p : Nat) (r : Int) : Prop := ∃ t, H d = some (.tup [.ref t, .int (p : Int), .int r]) ∧ H t = some (.tup (T.map V.int))
theorem RuleAt.same {H H' : Hp} {d : Addr} {T : List Int} {p : Nat} {r : Int} (R : RuleAt H d T p r) (s : Same H H') : RuleAt H' d T p r := by
  obtain ⟨t, h1, h2⟩ := R
  exact ⟨t, s _ _ h1, s _ _ h2⟩
theorem RuleAt.fr {H H' : Hp} {d a l : Addr} {n : Int} {T : List Int} {p : Nat} {r : Int} (R : RuleAt H d T p r) (f : Fr a l H H') (D : Deck H a l n) : RuleAt H' d T p r := by
  obtain ⟨t, h1, h2⟩ := R
  exact ⟨t, f.tup D h1, f.tup D h2⟩
structure RB (T : List Int) (p : Nat) (r : Int) : Prop where
  len : T.length ≤ 2000
  r1 : r ≤ 1000000000000000000
  top : ∀ i, i < T.length → T.getD i 0 ≤ 100000000000000000000
/-- a small one, with bound M -/
structure RS (M : Int) (T : List Int) (p : Nat) (r : Int) : Prop where
  len : T.length ≤ 300
  turn : p ≤ 40
  r1 : r ≤ M
  top : ∀ i, i < T.length → T.getD i 0 ≤ M
theorem RS.rb {M : Int} {T : List Int} {p : Nat} {r : Int} (b : RS M T p r) (h : M ≤ 10000000000000000) : RB T p r := by
  have h1 := b.r1
  have h2 := b.len
  exact ⟨by omega, by omega, fun i hi => by have := b.top i hi; omega⟩
theorem RS.up {M N : Int} {T : List Int} {p : Nat} {r : Int} (b : RS M T p r) (h : M ≤ N) : RS N T p r := by
  have h1 := b.r1
  exact ⟨b.len, b.turn, by omega, fun i hi => by have := b.top i hi; omega⟩
/-- a rule cut shorter -/
structure Cut (T : List Int) (p : Nat) (r : Int) (T' : List Int) (p' : Nat) (r' : Int) : Prop where
  len : T'.length ≤ T.length
  turn : p' ≤ p
  rise : r' ≤ r
  get : ∀ i, i < T'.length → T'.getD i 0 = T.getD i 0
theorem Cut.rs {M : Int} {T T' : List Int} {p p' : Nat} {r r' : Int} (c : Cut T p r T' p' r') (b : RS M T p r) : RS M T' p' r' := by
  have h1 := c.len
  have h2 := c.turn
  have h3 := c.rise
  have b1 := b.len
  have b2 := b.turn
  have b3 := b.r1
  exact ⟨by omega, by omega, by omega, fun i hi => by rw [c.get i hi]; exact b.top i (by omega)⟩
theorem Cut.rb {T T' : List Int} {p p' : Nat} {r r' : Int} (c : Cut T p r T' p' r') (b : RB T p r) : RB T' p' r' := by
  have h1 := c.len
  have h3 := c.rise
  have b1 := b.len
  have b3 := b.r1
  exact ⟨by omega, by omega, fun i hi => by rw [c.get i hi]; exact b.top i (by omega)⟩
theorem get_int {T : List Int} {i : Nat} (h : i < T.length) : (T.map V.int)[i]? = some (.int (T.getD i 0)) := by
  rw [List.getElem?_map, List.getElem?_eq_getElem h, List.getD_eq_getElem?_getD, List.getElem?_eq_getElem h]
  rfl
theorem atI_neg1 {xs : List V} {v : V} (h0 : 0 < xs.length) (h : xs[xs.length - 1]? = some v) : atI xs (-1) = some v := by
  unfold atI ixN
  rw [if_neg (by decide), if_pos (by omega), show ((-1 : Int) + (xs.length : Int)).toNat = xs.length - 1 by omega]
  exact h
theorem last_int {T : List Int} (h : 0 < T.length) : atI (T.map V.int) (-1) = some (.int (T.getD (T.length - 1) 0)) :=
  atI_neg1 (by rw [List.length_map]; exact h) (by rw [List.length_map]; exact get_int (by omega))
def sp_val (_ : PySem.W.Frag) : Sp := fun vs H Q _ => ∃ (d : Addr) (T : List Int) (p : Nat) (r : Int) (x : Nat), vs = [.ref d, .int (x : Int)] ∧ RuleAt H d T p r ∧ RuleOk T p r ∧ RB T p r ∧ Q (.int (vl T p r x)) H
abbrev sp_value_of := sp_val
section
variable {P : Program} {w : World} {K : PySem.W.Frag} {mg : Str → Option Value} {base : Heap}
abbrev s_l_deck : Stmt := topS 11
abbrev N_l_deck : List Str := ["_law_script", "_law_cell"]
theorem sc_l_deck : FnScope N_l_deck ["_law_script"] (defScope s_l_deck) := ⟨rfl, rfl, rfl, by decide +kernel, rfl, by decide +kernel, by decide +kernel⟩
theorem ok_l_deck (T : Txt mg) (D : Df K mg "_law_deck" s_l_deck ["_law_script"]) : Cal P w K mg base "_law_deck" ["_law_script"] 1 (sp_l_deck K) := by
  refine D.cal sc_l_deck (fun vs H Q E h => ?_) (fun f cdv A outer s H vs Q E hr h => ?_)
  · obtain ⟨a, ns, rfl, _⟩ := h
    rfl
  obtain ⟨a, ns, rfl, hS, hlen, k⟩ := h
  refine ⟨_, (pss_one (ps_ret (pe_lst (pa_cons (pe_lc (own := [("_law_cell", 1)]) (g := gName 1) (tt := tYes) rfl sc_l_deck.nd (pi_list (pe_slice sl_list (pv 0) po_none (po_some pe_int))) (blkOk_by (own := [("_law_cell", 1)]) (N := N_l_deck) (sc := defScope s_l_deck) (by decide +kernel)) (fun _ _ _ _ _ => pg_name (i := 1) sc_l_deck.nd rfl (Or.inl rfl)) (fun _ _ _ _ _ => pts_nil) (fun _ _ _ _ _ => (pe_callB call_abs (by rfl) T.n_abs (by decide +kernel) (pa_cons (pv 1) pa_nil)))) (pa_cons pe_int pa_nil))))), ?_⟩
  refine ⟨_, rfl, _, rfl, a, _, rfl, hS, fun c nc => ?_⟩
  rw [cut63 hlen]
  have s1 := same_upd (o := .lst (ns.map V.int)) nc
  refine ⟨c, rfl, ⟨_, SqL.of upd_same⟩, fun D nD => ?_⟩
  have s2 := s1.trans (same_upd (o := .lst []) nD)
  have hc2 : upd (upd H c (.lst (ns.map V.int))) D (.lst []) c = some (.lst (ns.map V.int)) := same_upd nD _ _ upd_same
  refine lc_list (K := K) (a := c) (xs := ns.map V.int) (fun i H' => Same H H' ∧ H' c = some (.lst (ns.map V.int)) ∧ c ≠ D ∧ H D = none ∧ H' D = some (.lst (((ns.take i).map absI).map V.int)))
    ⟨s2, hc2, ne_of_none upd_same nD, s1.free nD, upd_same⟩ (fun i H' _ h => SqL.of h.2.1) ?_ ?_
  · rintro i x H' hx ⟨sm, hc, ncD, nD0, hD⟩
    rw [List.getElem?_map] at hx
    cases e : ns[i]? with
    | none => rw [e] at hx; cases hx
    | some y =>
      rw [e] at hx
      have ex : x = .int y := (Option.some.inj hx).symm
      subst ex
      refine ⟨rfl, ?_⟩
      unfold tYes
      refine iteT ?_
      refine ⟨_, rfl, _, rfl, _, hD, ?_, ?_⟩
      · rw [List.length_map, List.length_map, List.length_take]
        exact Nat.lt_of_le_of_lt (Nat.min_le_right _ _) (small1000 (by omega))
      · refine ⟨fun b o e => ?_, ?_, ncD, nD0, ?_⟩
        · rw [upd_ne (ne_of_none e nD0)]
          exact sm _ _ e
        · rw [upd_ne ncD]
          exact hc
        · rw [upd_same, List.take_add_one, e, List.map_append, List.map_append]
          rfl
  · rintro H' ⟨sm, hc, ncD, nD0, hD⟩
    refine ⟨(by show 2 ≤ sizeLine; decide), fun p np => ?_⟩
    have s3 := sm.trans (same_upd (o := .lst [.ref D, .int 0]) np)
    refine k _ p D s3 ⟨upd_same, _, (same_upd np) _ _ hD, fun c hc => ?_, ?_⟩
    · obtain ⟨y, _, rfl⟩ := List.mem_map.mp hc
      exact absI_pos y
    · rw [List.length_map, List.length_take]
      omega
abbrev s_l_draw : Stmt := topS 12
abbrev N_l_draw : List Str := ["_law_deck_here", "_law_many", "_law_cell", "_law_place", "_law_mixed"]
theorem sc_l_draw : FnScope N_l_draw ["_law_deck_here", "_law_many"] (defScope s_l_draw) := ⟨rfl, rfl, rfl, by decide +kernel, rfl, by decide +kernel, by decide +kernel⟩
theorem ok_l_draw (T : Txt mg) (D : Df K mg "_law_draw" s_l_draw ["_law_deck_here", "_law_many"]) : Cal P w K mg base "_law_draw" ["_law_deck_here", "_law_many"] 1 (sp_l_draw K) := by
  refine D.cal sc_l_draw (fun vs H Q E h => ?_) (fun f cdv A outer s H vs Q E hr h => ?_)
  · obtain ⟨p, l, n, m, rfl, _⟩ := h
    rfl
  obtain ⟨p, l, n, m, rfl, D, n0, n1, m0, m1, k⟩ := h
  obtain ⟨cells, hl, hc, h63⟩ := D.hl
  have npl : p ≠ l := ne_of D.hp hl deck_ne
  refine ⟨_, (pss_cons (ps_asg (pe_op op_add (pe_ix ix_list (pv 0) pe_int (fun _ _ => rfl)) pe_int) (pg_sub (pv 0) pe_int set_list))
    (pss_cons (ps_asg (pe_tup (pa_cons pe_int (pa_cons (pe_un un_neg pe_int) pa_nil))) (pg_tup (by rfl) (pgs_cons (pg_name (i := 2) sc_l_draw.nd rfl (Or.inl rfl)) (pgs_cons (pg_name (i := 3) sc_l_draw.nd rfl (Or.inl rfl)) pgs_nil))))
    (pss_cut (ps_if (pt_cmpR op_gt (pe_callB call_len_seq (by rfl) T.n_len (by decide +kernel) (pa_cons (pe_ix ix_list (pv 0) pe_int (fun _ _ => rfl)) pa_nil)) pe_int (nomark _)) (pss_cons (ps_set (i := 3) sc_l_draw.nd rfl (Or.inl rfl) (pe_op op_modN (pe_callTy call_int1 (by rfl) T.n_int (by decide +kernel) (pa_cons (pe_ix ix_list (pv 0) pe_int (fun _ _ => rfl)) pa_nil)) (pe_callB call_len_seq (by rfl) T.n_len (by decide +kernel) (pa_cons (pe_ix ix_list (pv 0) pe_int (fun _ _ => rfl)) pa_nil))))
    (pss_one (ps_set (i := 2) sc_l_draw.nd rfl (Or.inl rfl) (pe_ix ix_list (pe_ix ix_list (pv 0) pe_int (fun _ _ => rfl)) (pv 3) (fun _ _ => rfl))))) pss_nil)
    (pss_cons (ps_if (pt_cmpR op_ge (pv 2) (pe_op op_pow pe_int pe_int) (nomark _)) (pss_cons (ps_asg (pe_op op_fdivW (pe_callTy call_int1 (by rfl) T.n_int (by decide +kernel) (pa_cons (pv 2) pa_nil)) (pv 1)) (pg_sub (pe_ix ix_list (pv 0) pe_int (fun _ _ => rfl)) (pv 3) set_list))
    (pss_one (ps_ret (pe_op op_modN (pe_callTy call_int1 (by rfl) T.n_int (by decide +kernel) (pa_cons (pv 2) pa_nil)) (pv 1))))) pss_nil)
    (pss_cons (ps_set (i := 4) sc_l_draw.nd rfl (Or.inl rfl) (pe_op op_add (pe_op op_add (pe_op op_modN (pe_callTy call_int1 (by rfl) T.n_int (by decide +kernel) (pa_cons (pv 2) pa_nil)) pe_int) (pe_op op_mul pe_int (pe_ix ix_list (pv 0) pe_int (fun _ _ => rfl)))) pe_int))
    (pss_one (ps_ret (pe_op op_modN (pe_callTy call_int1 (by rfl) T.n_int (by decide +kernel) (pa_cons (pe_op op_modN (pe_callTy call_int1 (by rfl) T.n_int (by decide +kernel) (pa_cons (pe_op op_pow (pv 4) pe_int) pa_nil)) pe_int) pa_nil)) (pv 1))))))))), ?_⟩
  refine ⟨_, rfl, _, _, _, _, rfl, rfl, SqL.of D.hp, atI_nat (j := 1) rfl, _, _, rfl, rfl, _, rfl, _, _, _, _, rfl, rfl, D.hp, rfl, ?_⟩
  generalize hH0 : upd H p (HO.lst (List.set [V.ref l, V.int n] (Int.toNat 1) ((fun i j => V.int (i + j)) n 1))) = H0
  have hH0 : upd H p (.lst [.ref l, .int (n + 1)]) = H0 := hH0
  have f0 : Fr p l H H0 := fun b o h1 _ h => by rw [← hH0, upd_ne h1]; exact h
  have hl0 : H0 l = some (.lst (cells.map V.int)) := by rw [← hH0, upd_ne npl.symm]; exact hl
  have hp0 : H0 p = some (.lst [.ref l, .int (n + 1)]) := by rw [← hH0, upd_same]
  refine ⟨_, rfl, (by show 2 ≤ sizeLine; decide), fun t nt => ?_⟩
  refine ⟨_, _, rfl, SqT.of upd_same, rfl, _, _, rfl, _, _, rfl, rfl, ?_⟩
  have st := same_upd (o := .tup [.int 0, .int (-1)]) nt
  have hp1 := st _ _ hp0
  have hl1 := st _ _ hl0
  have f1 := f0.trans (Same.fr (p := p) (l := l) st)
  generalize upd H0 t (HO.tup [V.int 0, V.int (-1)]) = H1 at hp1 hl1 f1 ⊢
  refine ⟨fun σ H' => ∃ c pl : Int, σ = [some (.ref p), some (.int m), some (.int c), some (.int pl), none] ∧ H' = H1 ∧ 0 ≤ c ∧ (1000000000000000000 ≤ c → 0 ≤ pl ∧ pl.toNat < cells.length ∧ pl < cells.length), ?_, ?_⟩
  · refine ⟨_, rfl, _, _, _, _, rfl, rfl, SqL.of hp1, atI_nat (j := 0) rfl, _, _, rfl, .inl (SqL.of hl1), _, _, rfl, rfl, _, rfl, ite3 (fun e => ?_) (fun e => ?_)⟩
    · rw [List.length_map] at e
      have fm : (n + 1).fmod cells.length = (n + 1) % cells.length := fmod_pos (by omega)
      have q0 : 0 ≤ (n + 1).fmod cells.length := by rw [fm]; exact Int.emod_nonneg _ (by omega)
      have q1 : (n + 1).fmod cells.length < cells.length := by rw [fm]; exact Int.emod_lt_of_pos _ (by omega)
      have q2 : ((n + 1).fmod cells.length).toNat < cells.length := by omega
      have q3 : (n + 1).fmod cells.length = (((n + 1).fmod cells.length).toNat : Int) := by omega
      have q4 : (cells.map V.int)[((n + 1).fmod cells.length).toNat]? = some (.int cells[((n + 1).fmod cells.length).toNat]) := by
        rw [List.getElem?_map, List.getElem?_eq_getElem q2]
        rfl
      have ln : ((cells.map V.int).length : Int) = cells.length := by rw [List.length_map]
      refine ⟨_, rfl, _, _, _, _, rfl, rfl, SqL.of hp1, atI_nat (j := 1) rfl, .inl ⟨_, rfl, _, rfl, _, _, _, _, rfl, rfl, SqL.of hp1, atI_nat (j := 0) rfl, _, _, rfl, .inl (SqL.of hl1), _, _, rfl, rfl, (by rw [ln]; omega), ?_⟩⟩
      have z : ∀ B : Int → Prop, B ((n + 1).fmod cells.length) → B ((n + 1).fmod ((cells.map V.int).length : Int)) := fun B h => by rw [ln]; exact h
      refine z (fun y => gName 3 (.int y) _ _ _) ?_
      refine ⟨_, rfl, _, _, _, _, rfl, rfl, SqL.of hp1, atI_nat (j := 0) rfl, _, rfl, _, _, _, _, rfl, rfl, SqL.of hl1, at_of q3 q4, ?_⟩
      exact ⟨_, _, rfl, rfl, hc _ (List.getElem_mem q2), fun _ => ⟨q0, q2, q1⟩⟩
    · exact ⟨0, -1, rfl, rfl, Int.le_refl _, fun h => absurd h (by decide)⟩
  · rintro σ H' ⟨c, pl, rfl, rfl, c0, hpl⟩
    refine ⟨_, rfl, _, _, rfl, rfl, ⟨by decide, by decide, by decide⟩, _, _, rfl, rfl, _, rfl, ite3 (fun e => ?_) (fun e => ?_)⟩
    · have e : 1000000000000000000 ≤ c := e
      obtain ⟨p0, p1, p2⟩ := hpl e
      have ix : ixN (cells.map V.int).length pl = some pl.toNat := by
        unfold ixN
        rw [if_pos p0, if_pos (by rw [List.length_map]; exact p2)]
      refine ⟨_, rfl, .inl ⟨_, rfl, _, rfl, _, _, rfl, rfl, div_draw m0 m1, _, rfl, _, _, _, _, rfl, rfl, SqL.of hp1, atI_nat (j := 0) rfl, _, rfl, _, _, _, _, rfl, rfl, hl1, ix, ?_⟩⟩
      refine ⟨_, rfl, .inl ⟨_, rfl, _, rfl, _, _, rfl, rfl, (by omega), ?_⟩⟩
      have fm : c.fmod m = c % m := fmod_pos m0
      refine k _ _ (by rw [fm]; exact Int.emod_nonneg _ (by omega)) (by rw [fm]; exact Int.emod_lt_of_pos _ m0) (f1.trans fun b o _ h2 h => by rw [upd_ne h2]; exact h) ⟨by rw [upd_ne npl]; exact hp1, cells.set pl.toNat (c / m), by rw [upd_same, List.map_set], fun y hy => ?_, by rw [List.length_set]; exact h63⟩
      rcases List.mem_or_eq_of_mem_set hy with q | q
      · exact hc y q
      · rw [q]; exact Int.ediv_nonneg c0 (by omega)
    · refine ⟨_, rfl, .inl ⟨_, rfl, _, _, rfl, rfl, (show (2147483587 : Int) ≠ 0 by decide), _, rfl, _, _, _, _, rfl, rfl, SqL.of hp1, atI_nat (j := 1) rfl, _, _, rfl, rfl, .inl ⟨by decide, by decide⟩, _, _, rfl, rfl, _, _, rfl, rfl, ?_⟩⟩
      have fm : c.fmod 2147483587 = c % 2147483587 := fmod_pos (by decide)
      have h0 := Int.emod_nonneg c (show (2147483587 : Int) ≠ 0 by decide)
      have h1 := Int.emod_lt_of_pos c (show (0 : Int) < 2147483587 by decide)
      refine ⟨_, rfl, _, _, rfl, rfl, ⟨by decide, by decide, by rw [fm]; omega⟩, .inl ⟨_, rfl, _, _, rfl, rfl, (show (2147483647 : Int) ≠ 0 by decide), .inl ⟨_, rfl, _, rfl, _, _, rfl, rfl, (by omega), ?_⟩⟩⟩
      refine k _ _ ?_ ?_ f1 ⟨hp1, cells, hl1, hc, h63⟩
      · rw [fmod_pos m0]; exact Int.emod_nonneg _ (by omega)
      · rw [fmod_pos m0]; exact Int.emod_lt_of_pos _ m0
abbrev s_l_one : Stmt := topS 13
abbrev N_l_one : List Str := ["_law_deck_here", "_law_items"]
theorem sc_l_one : FnScope N_l_one ["_law_deck_here", "_law_items"] (defScope s_l_one) := ⟨rfl, rfl, rfl, by decide +kernel, rfl, by decide +kernel, by decide +kernel⟩
theorem ok_l_one (T : Txt mg) (D : Df K mg "_law_one" s_l_one ["_law_deck_here", "_law_items"]) (C_l_draw : Cal P w K mg base "_law_draw" ["_law_deck_here", "_law_many"] 1 (sp_l_draw K)) : Cal P w K mg base "_law_one" ["_law_deck_here", "_law_items"] 2 (sp_l_one K) := by
  obtain ⟨f_l_draw, fd_l_draw, G_l_draw, m_l_draw, k_l_draw, b_l_draw⟩ := C_l_draw
  refine D.cal sc_l_one (fun vs H Q E h => ?_) (fun f cdv A outer s H vs Q E hr h => ?_)
  · obtain ⟨p, l, b, n, xs, rfl, _⟩ := h
    rfl
  obtain ⟨p, l, b, n, xs, rfl, D, n0, n1, hb, bp, bl, x0, x1, k⟩ := h
  refine ⟨_, (pss_one (ps_ret (pe_ix ix_list (pv 1) (pe_call G_l_draw (hr.mono (by decide)) (by rfl) m_l_draw k_l_draw b_l_draw .nil pass0 (pa_cons (pv 0) (pa_cons (pe_callB call_len_seq (by rfl) T.n_len (by decide +kernel) (pa_cons (pv 1) pa_nil)) pa_nil))) (fun _ _ => rfl)))), ?_⟩
  refine ⟨_, rfl, _, rfl, _, rfl, _, _, rfl, .inl (SqL.of hb), p, l, n, _, rfl, D, n0, n1, (by omega), (by omega), fun r H' r0 r1 f D' => ?_⟩
  have q : r.toNat < xs.length := by omega
  refine ⟨_, _, _, _, rfl, rfl, SqL.of (f b _ bp bl hb), at_of (j := r.toNat) (by omega) (List.getElem?_eq_getElem q), ?_⟩
  exact k _ H' (List.getElem_mem q) f D'
end
end Sm

set_option Elab.async false
set_option linter.all false
set_option maxRecDepth 100000
set_option maxHeartbeats 8000000
namespace Sm
open PySem PySem.Spec PyProof.Rows L2
open C8 (pss_cut tCut)
def hs (m : Nat) : Str := if m = 0 then "down" else if m = 1 then "up" else "near"
theorem hs_down {m : Nat} (h : m ≤ 2) : V.str (hs m) = V.str "down" ↔ m = 0 := by
  obtain rfl | rfl | rfl : m = 0 ∨ m = 1 ∨ m = 2 := by omega
  all_goals decide +kernel
theorem hs_up {m : Nat} (h : m ≤ 2) : V.str (hs m) = V.str "up" ↔ m = 1 := by
  obtain rfl | rfl | rfl : m = 0 ∨ m = 1 ∨ m = 2 := by omega
  all_goals decide +kernel
def upV : Option Int → V
  | none => .non
  | some v => .int v
abbrev deskV (m : Nat) (num den least step : Int) (u : Option Int) : List V := [.int 0, .int 1, .int num, .int den, .str (hs m), .int least, .int step, upV u]
section
variable {m : Nat} {num den least step x : Int} {u : Option Int}
theorem Dk.div (o : Dk m num den least step u) : CDivW x den := by
  have := o.d0
  have := o.d1
  exact wide_div (b := 10) (by omega) (by omega) (by decide) (by decide)
theorem Dk.div2 (o : Dk m num den least step u) : CDivW x (2 * den) := by
  have := o.d0
  have := o.d1
  exact wide_div (b := 10) (by omega) (by omega) (by decide) (by decide)
theorem Dk.divS (o : Dk m num den least step u) : CDivW x step := by
  have := o.s0
  have := o.s1
  exact wide_div (b := 10) (by omega) (by omega) (by decide) (by decide)
end
def sp_takes (K : PySem.W.Frag) : Sp := fun vs H Q _ => ∃ (d : Addr) (x : Int) (m : Nat) (num den least step : Int) (u : Option Int), vs = [.ref d, .int x] ∧ H d = some (.tup (deskV m num den least step u)) ∧ Dk m num den least step u ∧
  ∀ H' b, Same H H' → (b = true ↔ Tk least step u x) → Q (.bl b) H'
def sp_gives (K : PySem.W.Frag) : Sp := fun vs H Q _ => ∃ (d : Addr) (x : Int) (m : Nat) (num den least step : Int) (u : Option Int), vs = [.ref d, .int x] ∧ H d = some (.tup (deskV m num den least step u)) ∧ Dk m num den least step u ∧
  ∀ H', Same H H' → (Tk least step u x → Q (.int (Gm m (num * x) den)) H') ∧ (¬ Tk least step u x → Q .non H')
def sp_up_to_multiple (K : PySem.W.Frag) : Sp := fun vs H Q _ => ∃ (a s : Int), vs = [.int a, .int s] ∧ 1 ≤ s ∧ s ≤ 1000 ∧ Q (.int (fst a s)) H
def sp_first_taken (K : PySem.W.Frag) : Sp := fun vs H Q _ => ∃ (d : Addr) (m : Nat) (num den least step : Int) (u : Option Int), vs = [.ref d] ∧ H d = some (.tup (deskV m num den least step u)) ∧ Dk m num den least step u ∧ Q (.int (fst least step)) H
def sp_use_values (K : PySem.W.Frag) : Sp := fun vs H Q _ => ∃ (d : Addr) (n : Nat) (m : Nat) (num den least step : Int) (u : Option Int), vs = [.ref d, .int (n : Int)] ∧ H d = some (.tup (deskV m num den least step u)) ∧ Dk m num den least step u ∧ n ≤ 5000 ∧
  ∀ H' q, Same H H' → H' q = some (.lst (((List.range n).map fun x : Nat => Fv m num den least step u (x : Int)).map V.int)) → Q (.ref q) H'
theorem Fv_neg {m : Nat} {num den least s x : Int} {u : Option Int} (o : Dk m num den least s u) (h : x ≤ 0) : Fv m num den least s u x = 0 := by
  have a := last_le (u := u) (x := x) o.s0
  have b := lim_le (u := u) (x := x)
  have := o.l0
  unfold Fv
  rw [if_neg (by omega)]
section
variable {P : Program} {w : World} {K : PySem.W.Frag} {mg : Str → Option Value} {base : Heap}
abbrev s_takes : Stmt := topS 4
abbrev N_takes : List Str := ["desk", "x", "least", "step", "most"]
theorem sc_takes : FnScope N_takes ["desk", "x"] (defScope s_takes) := ⟨rfl, rfl, rfl, by decide +kernel, rfl, by decide +kernel, by decide +kernel⟩
theorem ok_takes (T : Txt mg) (D : Df K mg "takes" s_takes ["desk", "x"]) : Cal P w K mg base "takes" ["desk", "x"] 1 (sp_takes K) := by
  refine D.cal sc_takes (fun vs H Q E h => ?_) (fun f cdv A outer s H vs Q E hr h => ?_)
  · obtain ⟨d, x, m, num, den, least, step, u, rfl, _⟩ := h
    rfl
  obtain ⟨d, x, m, num, den, least, step, u, rfl, hd, o, k⟩ := h
  refine ⟨_, (pss_cons (ps_asg (pe_slice sl_tup (pv 0) (po_some pe_int) po_none) (pg_tup (by rfl) (pgs_cons (pg_name (i := 2) sc_takes.nd rfl (Or.inl rfl)) (pgs_cons (pg_name (i := 3) sc_takes.nd rfl (Or.inl rfl)) (pgs_cons (pg_name (i := 4) sc_takes.nd rfl (Or.inl rfl)) pgs_nil)))))
    (pss_one (ps_ret (pe_and (pe_cmpR op_ge (pv 1) (pv 2) (nomark _)) (pe_and (pe_cmpR op_eq (pe_op op_modN (pv 1) (pv 3)) pe_int (nomark _)) (pe_one (pe_or (pe_cmpR op_isN (pv 4) pe_non (nomark _)) (pe_one (pe_cmpR op_le (pv 1) (pv 4) (nomark _)))))))))), ?_⟩
  refine ⟨_, rfl, _, rfl, d, _, rfl, SqT.of hd, (by show ¬ (5 = 0 ∧ 8 = 8); decide), fun p np => ?_⟩
  have s1 := same_upd (o := .tup (cutV (deskV m num den least step u) (some 5) none)) np
  refine ⟨_, _, rfl, SqT.of upd_same, rfl, _, _, rfl, _, _, rfl, _, _, rfl, rfl, ?_⟩
  refine ⟨_, rfl, _, rfl, _, _, rfl, rfl, _, rfl, ?_⟩
  have := o.s0
  by_cases hx : x ≥ least
  · refine iteP hx ⟨_, rfl, _, rfl, _, _, rfl, rfl, (by omega), rfl, _, rfl, ?_⟩
    by_cases hm : x % step = 0
    · refine iteP (show V.int (x.fmod step) = V.int 0 by rw [fmod_pos (by omega), hm]) ?_
      cases u with
      | none => exact ⟨_, rfl, rfl, _, rfl, iteP rfl (k _ _ s1 ⟨fun _ => ⟨hx, hm, fun v q => by cases q⟩, fun _ => rfl⟩)⟩
      | some v => exact ⟨_, rfl, rfl, _, rfl, iteN (fun q => by cases q) ⟨_, rfl, _, rfl, _, _, rfl, rfl, k _ _ s1 ⟨fun q => ⟨hx, hm, fun v' q' => by cases q'; exact of_decide_eq_true q⟩, fun q => decide_eq_true (q.2.2 v rfl)⟩⟩⟩
    · have ne : ¬ V.int (x.fmod step) = V.int 0 := fun q => hm (by rw [← fmod_pos (show 0 < step by omega)]; exact V.int.inj q)
      exact iteN ne (k _ _ s1 ⟨fun q => (nomatch q), fun q => absurd q.2.1 hm⟩)
  · exact iteN hx (k _ _ s1 ⟨fun q => (nomatch q), fun q => absurd q.1 hx⟩)
abbrev s_gives : Stmt := topS 5
abbrev N_gives : List Str := ["desk", "x", "num", "den", "how"]
theorem sc_gives : FnScope N_gives ["desk", "x"] (defScope s_gives) := ⟨rfl, rfl, rfl, by decide +kernel, rfl, by decide +kernel, by decide +kernel⟩
theorem ok_gives (T : Txt mg) (D : Df K mg "gives" s_gives ["desk", "x"]) (C_takes : Cal P w K mg base "takes" ["desk", "x"] 1 (sp_takes K)) : Cal P w K mg base "gives" ["desk", "x"] 2 (sp_gives K) := by
  obtain ⟨f_takes, fd_takes, G_takes, m_takes, k_takes, b_takes⟩ := C_takes
  refine D.cal sc_gives (fun vs H Q E h => ?_) (fun f cdv A outer s H vs Q E hr h => ?_)
  · obtain ⟨d, x, m, num, den, least, step, u, rfl, _⟩ := h
    rfl
  obtain ⟨d, x, m, num, den, least, step, u, rfl, hd, o, k⟩ := h
  refine ⟨_, (pss_cons (ps_if (pt_not (pt_val (pe_call G_takes (hr.mono (by decide)) (by rfl) m_takes k_takes b_takes .nil pass0 (pa_cons (pv 0) (pa_cons (pv 1) pa_nil))))) (pss_one (ps_ret pe_non)) pss_nil)
    (pss_cons (ps_asg (pe_slice sl_tup (pv 0) (po_some pe_int) (po_some pe_int)) (pg_tup (by rfl) (pgs_cons (pg_name (i := 2) sc_gives.nd rfl (Or.inl rfl)) (pgs_cons (pg_name (i := 3) sc_gives.nd rfl (Or.inl rfl)) (pgs_cons (pg_name (i := 4) sc_gives.nd rfl (Or.inl rfl)) pgs_nil)))))
    (pss_cons (ps_if (pt_cmpR op_eq (pv 4) pe_str (nomark _)) (pss_one (ps_ret (pe_op op_fdivW (pe_op op_mul (pv 2) (pv 1)) (pv 3)))) pss_nil)
    (pss_cons (ps_if (pt_cmpR op_eq (pv 4) pe_str (nomark _)) (pss_one (ps_ret (pe_op op_fdivW (pe_op op_sub (pe_op op_add (pe_op op_mul (pv 2) (pv 1)) (pv 3)) pe_int) (pv 3)))) pss_nil)
    (pss_one (ps_ret (pe_op op_fdivW (pe_op op_add (pe_op op_mul (pe_op op_mul pe_int (pv 2)) (pv 1)) (pv 3)) (pe_op op_mul pe_int (pv 3))))))))), ?_⟩
  have n0 := o.n0
  have n1 := o.n1
  have d0 := o.d0
  have d1 := o.d1
  refine ⟨_, rfl, _, rfl, d, x, m, num, den, least, step, u, rfl, hd, o, fun H1 b s1 hb => ⟨_, rfl, ?_⟩⟩
  have hd1 := s1 _ _ hd
  cases b with
  | false => exact iteT ((k H1 s1).2 fun q => by have := hb.mpr q; cases this)
  | true =>
  have tk := hb.mp rfl
  refine iteF ?_
  refine ⟨_, rfl, _, rfl, _, rfl, d, _, rfl, SqT.of hd1, (by show ¬ (2 = 0 ∧ 5 = 8); decide), fun p np => ?_⟩
  have s2 := s1.trans (same_upd (o := .tup (cutV (deskV m num den least step u) (some 2) (some 5))) np)
  refine ⟨_, _, rfl, SqT.of upd_same, rfl, _, _, rfl, _, _, rfl, _, _, rfl, rfl, ?_⟩
  refine ⟨_, rfl, rfl, _, rfl, ?_⟩
  refine ite3 (fun e => ?_) (fun e => ?_)
  · refine ⟨_, rfl, _, rfl, _, _, rfl, rfl, .inl ⟨by omega, by omega⟩, _, rfl, _, _, rfl, rfl, o.div, ?_⟩
    have e := (hs_down o.hm).mp e
    subst e
    exact (k _ s2).1 tk
  have e : ¬ m = 0 := fun q => e ((hs_down o.hm).mpr q)
  refine ⟨_, rfl, rfl, _, rfl, ?_⟩
  refine ite3 (fun e1 => ?_) (fun e1 => ?_)
  · refine ⟨_, rfl, _, rfl, _, _, rfl, rfl, .inl ⟨by omega, by omega⟩, _, rfl, _, _, rfl, rfl, _, _, rfl, rfl, _, rfl, _, _, rfl, rfl, o.div, ?_⟩
    have e1 := (hs_up o.hm).mp e1
    subst e1
    exact (k _ s2).1 tk
  have e1 : ¬ m = 1 := fun q => e1 ((hs_up o.hm).mpr q)
  refine ⟨_, rfl, _, _, rfl, rfl, .inl ⟨by omega, by omega⟩, _, rfl, _, _, rfl, rfl, .inl ⟨by omega, by omega⟩, _, rfl, _, _, rfl, rfl, _, rfl, _, _, rfl, rfl, .inl ⟨by omega, by omega⟩, _, _, rfl, rfl, o.div2, ?_⟩
  have e2 : m = 2 := by have := o.hm; omega
  subst e2
  have e3 : (2 * num * x + den) / (2 * den) = Gm 2 (num * x) den := by rw [g_ne, Int.mul_assoc]
  have k := (k _ s2).1 tk
  rw [← e3] at k
  exact k
abbrev s_up_to_multiple : Stmt := topS 8
abbrev N_up_to_multiple : List Str := ["least", "step"]
theorem sc_up_to_multiple : FnScope N_up_to_multiple ["least", "step"] (defScope s_up_to_multiple) := ⟨rfl, rfl, rfl, by decide +kernel, rfl, by decide +kernel, by decide +kernel⟩
theorem ok_up_to_multiple (T : Txt mg) (D : Df K mg "up_to_multiple" s_up_to_multiple ["least", "step"]) : Cal P w K mg base "up_to_multiple" ["least", "step"] 1 (sp_up_to_multiple K) := by
  refine D.cal sc_up_to_multiple (fun vs H Q E h => ?_) (fun f cdv A outer s H vs Q E hr h => ?_)
  · obtain ⟨a, s, rfl, _⟩ := h
    rfl
  obtain ⟨a, st, rfl, s0, s1, k⟩ := h
  refine ⟨_, (pss_one (ps_ret (pe_op op_mul (pe_op op_fdivW (pe_op op_sub (pe_op op_add (pv 0) (pv 1)) pe_int) (pv 1)) (pv 1)))), ?_⟩
  exact ⟨_, rfl, _, rfl, _, _, rfl, rfl, _, _, rfl, rfl, _, rfl, _, _, rfl, rfl, wide_div (b := 10) (by omega) (by omega) (by decide) (by decide), _, rfl, _, _, rfl, rfl, .inr ⟨by omega, by omega⟩, k⟩
abbrev s_first_taken : Stmt := topS 7
abbrev N_first_taken : List Str := ["desk"]
theorem sc_first_taken : FnScope N_first_taken ["desk"] (defScope s_first_taken) := ⟨rfl, rfl, rfl, by decide +kernel, rfl, by decide +kernel, by decide +kernel⟩
theorem ok_first_taken (T : Txt mg) (D : Df K mg "first_taken" s_first_taken ["desk"]) (C_up_to_multiple : Cal P w K mg base "up_to_multiple" ["least", "step"] 1 (sp_up_to_multiple K)) : Cal P w K mg base "first_taken" ["desk"] 2 (sp_first_taken K) := by
  obtain ⟨f_up_to_multiple, fd_up_to_multiple, G_up_to_multiple, m_up_to_multiple, k_up_to_multiple, b_up_to_multiple⟩ := C_up_to_multiple
  refine D.cal sc_first_taken (fun vs H Q E h => ?_) (fun f cdv A outer s H vs Q E hr h => ?_)
  · obtain ⟨d, m, num, den, least, step, u, rfl, _⟩ := h
    rfl
  obtain ⟨d, m, num, den, least, step, u, rfl, hd, o, k⟩ := h
  refine ⟨_, (pss_one (ps_ret (pe_call G_up_to_multiple (hr.mono (by decide)) (by rfl) m_up_to_multiple k_up_to_multiple b_up_to_multiple .nil pass0 (pa_cons (pe_ix ix_tup (pv 0) pe_int (fun _ _ => rfl)) (pa_cons (pe_ix ix_tup (pv 0) pe_int (fun _ _ => rfl)) pa_nil))))), ?_⟩
  have := o.s0
  have := o.s1
  exact ⟨_, rfl, _, _, _, _, rfl, rfl, SqT.of hd, atI_nat (j := 5) rfl, _, rfl, _, _, _, _, rfl, rfl, SqT.of hd, atI_nat (j := 6) rfl, least, step, rfl, by omega, by omega, k⟩
abbrev s_use_values : Stmt := topS 9
abbrev N_use_values : List Str := ["desk", "count", "values", "best", "x"]
theorem sc_use_values : FnScope N_use_values ["desk", "count"] (defScope s_use_values) := ⟨rfl, rfl, rfl, by decide +kernel, rfl, by decide +kernel, by decide +kernel⟩
theorem ok_use_values (T : Txt mg) (D : Df K mg "use_values" s_use_values ["desk", "count"]) (C_takes : Cal P w K mg base "takes" ["desk", "x"] 1 (sp_takes K)) (C_gives : Cal P w K mg base "gives" ["desk", "x"] 2 (sp_gives K)) : Cal P w K mg base "use_values" ["desk", "count"] 3 (sp_use_values K) := by
  obtain ⟨f_takes, fd_takes, G_takes, m_takes, k_takes, b_takes⟩ := C_takes
  obtain ⟨f_gives, fd_gives, G_gives, m_gives, k_gives, b_gives⟩ := C_gives
  refine D.cal sc_use_values (fun vs H Q E h => ?_) (fun f cdv A outer s H vs Q E hr h => ?_)
  · obtain ⟨d, n, m, num, den, least, step, u, rfl, _⟩ := h
    rfl
  obtain ⟨d, n, m, num, den, least, step, u, rfl, hd, o, hn, k⟩ := h
  refine ⟨_, (pss_cons (ps_set (i := 2) sc_use_values.nd rfl (Or.inl rfl) (pe_lst pa_nil))
    (pss_cons (ps_set (i := 3) sc_use_values.nd rfl (Or.inl rfl) pe_int)
    (pss_cons (ps_for PassesOwn.never rfl (pi_range1 (by rfl) T.n_range (pa_cons (pv 1) pa_nil)) (pg_name (i := 4) sc_use_values.nd rfl (Or.inl rfl))
      (pss_cons (ps_if (pt_val (pe_call G_takes (hr.mono (by decide)) (by rfl) m_takes k_takes b_takes .nil pass0 (pa_cons (pv 0) (pa_cons (pv 4) pa_nil)))) (pss_one (ps_set (i := 3) sc_use_values.nd rfl (Or.inl rfl) (pe_call G_gives (hr.mono (by decide)) (by rfl) m_gives k_gives b_gives .nil pass0 (pa_cons (pv 0) (pa_cons (pv 4) pa_nil))))) pss_nil)
    (pss_one (ps_expr (pe_bm PySem.F.plainAttrs_list PySem.F.slot_list_append PySem.F.type_list_append mt_append (pv 2) (pa_cons (pv 3) pa_nil))))))
    (pss_one (ps_ret (pv 2)))))), ?_⟩
  refine ⟨Nat.zero_le _, fun q nq => ?_⟩
  have s1 := same_upd (o := .lst []) nq
  refine ⟨_, rfl, _, rfl, (by omega), (by omega), ?_⟩
  refine for_range (lo := 0) (n := _) (fun i σ H' => ∃ v, σ = [some (.ref d), some (.int (n : Int)), some (.ref q), some (.int (Fv m num den least step u ((i : Int) - 1))), v] ∧ Same H H' ∧ (∀ b o, H b = some o → b ≠ q) ∧ H' q = some (.lst (((List.range i).map fun x : Nat => Fv m num den least step u (x : Int)).map V.int)))
    ⟨none, by rw [Fv_neg o (by omega)]; rfl, s1, fun b o h => ne_of_none h nq, upd_same⟩ ?_ ?_
  · rintro i σ H' hi ⟨v, rfl, s', nb, hq⟩
    have e0 : (0 : Int) + (i : Int) = (i : Int) := Int.zero_add _
    have hi : i < n := by omega
    have grow : ∀ H2 : Hp, Same H' H2 → ∀ y : Int, y = Fv m num den least step u (i : Int) → ∃ v, [some (V.ref d), some (.int (n : Int)), some (.ref q), some (.int y), some (.int (0 + (i : Int)))] = [some (.ref d), some (.int (n : Int)), some (.ref q), some (.int (Fv m num den least step u (((i + 1 : Nat) : Int) - 1))), v] ∧ Same H (upd H2 q (.lst (((List.range i).map fun x : Nat => Fv m num den least step u (x : Int)).map V.int ++ [.int y]))) ∧ (∀ b o, H b = some o → b ≠ q) ∧ upd H2 q (.lst (((List.range i).map fun x : Nat => Fv m num den least step u (x : Int)).map V.int ++ [.int y])) q = some (.lst (((List.range (i + 1)).map fun x : Nat => Fv m num den least step u (x : Int)).map V.int)) := by
      rintro H2 s2 y rfl
      refine ⟨_, by rw [show ((i + 1 : Nat) : Int) - 1 = (i : Int) by omega], fun b o h => ?_, nb, ?_⟩
      · rw [upd_ne (nb b o h)]
        exact s2 _ _ (s' _ _ h)
      · rw [upd_same, List.range_succ, List.map_append, List.map_append]
        rfl
    have ln : (((List.range i).map fun x : Nat => Fv m num den least step u (x : Int)).map V.int).length < sizeLine := by
      rw [List.length_map, List.length_map, List.length_range]
      exact Nat.lt_of_lt_of_le (show i < 5000 by omega) (by decide)
    refine ⟨_, rfl, _, rfl, d, i, m, num, den, least, step, u, congrArg (fun z => [V.ref d, V.int z]) e0, s' _ _ hd, o, fun H2 b s2 hb => ⟨_, rfl, ?_⟩⟩
    cases b with
    | true =>
      have tk := hb.mp rfl
      refine iteT ⟨_, rfl, _, rfl, d, i, m, num, den, least, step, u, congrArg (fun z => [V.ref d, V.int z]) e0, s2 _ _ (s' _ _ hd), o, fun H3 s3 => ⟨fun _ => ?_, fun nt => absurd tk nt⟩⟩
      have hq3 := s3 _ _ (s2 _ _ hq)
      exact ⟨_, rfl, .inl ⟨rfl, _, SqL.of hq3⟩, _, rfl, q, _, _, rfl, rfl, hq3, ln, grow H3 (s2.trans s3) _ (Fv_tk tk).symm⟩
    | false =>
      have nt : ¬ Tk least step u (i : Int) := fun q => by have := hb.mpr q; cases this
      have hq2 := s2 _ _ hq
      exact iteF ⟨_, rfl, .inl ⟨rfl, _, SqL.of hq2⟩, _, rfl, q, _, _, rfl, rfl, hq2, ln, grow H2 s2 _ (Fv_not o nt).symm⟩
  · rintro σ H' ⟨v, rfl, s', nb, hq⟩
    exact ⟨_, rfl, k H' q s' hq⟩
end
end Sm

set_option Elab.async false
set_option linter.all false
set_option maxRecDepth 100000
set_option maxHeartbeats 16000000
namespace Sm
open PySem PySem.Spec PyProof.Rows L2
open C8 (pss_cut tCut)
section
variable {X : Cx}
theorem cr_lcm : CallR X (.builtin "math.lcm") (fun vs H Q => ∃ a b : Nat, vs = [.int (a : Int), .int (b : Int)] ∧ a < 1000000 ∧ b < 1000000 ∧ Q (.int ((Nat.lcm a b : Nat) : Int)) H) := by
  intro pins s σ H vs us Q I r h
  obtain ⟨a, b, rfl, ha, hb, q⟩ := h
  obtain ⟨t, u, rfl⟩ := Vals.int2 r
  refine PySem.W.mc_lcm (by omega) (by omega) fun _ => ?_
  rw [Int.natAbs_natCast, Int.natAbs_natCast]
  exact ⟨.int _, H, I.tok _, ⟨_, rfl⟩, q⟩
end
theorem len_int (T : List Int) : (((T.map V.int).length : Nat) : Int) = (T.length : Int) := by rw [List.length_map]
/-! ### pairs in the heap -/
def PrAt (H : Hp) (v : V) (k : Nat × Int) : Prop := ∃ t, v = .ref t ∧ H t = some (.tup [.int (k.1 : Int), .int k.2])
structure Prs (H : Hp) (xs : List V) (K : List (Nat × Int)) : Prop where
  len : xs.length = K.length
  get : ∀ (i : Nat) (k : Nat × Int), K[i]? = some k → ∃ v, xs[i]? = some v ∧ PrAt H v k
theorem PrAt.same {H H' : Hp} {v : V} {k : Nat × Int} (h : PrAt H v k) (s : Same H H') : PrAt H' v k := by
  obtain ⟨t, e, ht⟩ := h
  exact ⟨t, e, s _ _ ht⟩
theorem Prs.same {H H' : Hp} {xs : List V} {K : List (Nat × Int)} (h : Prs H xs K) (s : Same H H') : Prs H' xs K :=
  ⟨h.len, fun i k hk => by obtain ⟨v, hv, p⟩ := h.get i k hk; exact ⟨v, hv, p.same s⟩⟩
theorem PrAt.updL {H : Hp} {U : Addr} {ys zs : List V} {v : V} {k : Nat × Int} (h : PrAt H v k) (hU : H U = some (.lst ys)) : PrAt (upd H U (.lst zs)) v k := by
  obtain ⟨t, e, ht⟩ := h
  exact ⟨t, e, by rw [upd_ne (ne_of ht hU (by intro q; cases q))]; exact ht⟩
theorem Prs.updL {H : Hp} {U : Addr} {ys zs : List V} {xs : List V} {K : List (Nat × Int)} (h : Prs H xs K) (hU : H U = some (.lst ys)) : Prs (upd H U (.lst zs)) xs K :=
  ⟨h.len, fun i k hk => by obtain ⟨v, hv, p⟩ := h.get i k hk; exact ⟨v, hv, p.updL hU⟩⟩
theorem Prs.nil {H : Hp} : Prs H [] [] := ⟨rfl, fun i k h => by cases h⟩
theorem Prs.app {H : Hp} {xs : List V} {K : List (Nat × Int)} {v : V} {k : Nat × Int} (h : Prs H xs K) (p : PrAt H v k) : Prs H (xs ++ [v]) (K ++ [k]) := by
  refine ⟨by rw [List.length_append, List.length_append, h.len]; rfl, fun i k' hk => ?_⟩
  by_cases q : i < K.length
  · rw [List.getElem?_append_left q] at hk
    obtain ⟨v', hv, p'⟩ := h.get i k' hk
    exact ⟨v', by rw [List.getElem?_append_left (by rw [h.len]; exact q)]; exact hv, p'⟩
  · rw [List.getElem?_append_right (by omega)] at hk
    have e : i = K.length := by
      have := (List.getElem?_eq_some_iff.mp hk).1
      have : i - K.length < 1 := this
      omega
    subst e
    rw [Nat.sub_self] at hk
    have hk : k = k' := Option.some.inj hk
    subst hk
    refine ⟨v, ?_, p⟩
    rw [List.getElem?_append_right (by rw [h.len]; exact Nat.le_refl _), h.len, Nat.sub_self]
    rfl
/-- the pair at a place of the list -/
theorem Prs.at {H : Hp} {xs : List V} {K : List (Nat × Int)} {i : Nat} {v : V} (h : Prs H xs K) (hv : xs[i]? = some v) : ∃ k, K[i]? = some k ∧ PrAt H v k := by
  have lt : i < K.length := by
    have := (List.getElem?_eq_some_iff.mp hv).1
    rw [h.len] at this
    exact this
  have e : K[i]? = some K[i] := List.getElem?_eq_getElem lt
  obtain ⟨v', hv', p⟩ := h.get i _ e
  rw [hv] at hv'
  cases hv'
  exact ⟨_, e, p⟩
theorem take_snoc {α : Type} {l : List α} {i : Nat} {x : α} (h : l[i]? = some x) : l.take (i + 1) = l.take i ++ [x] := by
  rw [List.take_add_one, h]
  rfl
theorem get_int' {T : List Int} {i : Nat} (h : i < T.length) : (T.map V.int)[i]? = some (.int (T.getD i 0)) := by
  rw [List.getElem?_map, List.getElem?_eq_getElem h, List.getD_eq_getElem?_getD, List.getElem?_eq_getElem h]
  rfl
theorem maxDef_cl {K : PySem.W.Frag} {σ : L2.St} {U : Addr} {ns : List Int} {i c : Int} {H : Hp} {Q : VK} (hU : H U = some (.lst (ns.map V.int))) (h0 : ns = [] → i = c) (h1 : ∀ m, m ∈ ns → (∀ y, y ∈ ns → y ≤ m) → m = c) (q : Q (.int c) H) : tNil σ H (fun xs H2 => rMaxDef K i (V.ref U :: xs) H2 Q) :=
  ⟨U, ns, rfl, SqL.of hU, fun e => by rw [h0 e]; exact q, fun m hm hle => by rw [h1 m hm hle]; exact q⟩
def sp_stack (_ : PySem.W.Frag) : Sp := fun vs H Q _ => ∃ (a : Addr) (f : Nat → Int) (n : Nat), vs = [.ref a, .int (n : Int)] ∧ H a = some (.lst (((List.range n).map f).map V.int)) ∧ 1 ≤ n ∧ n ≤ 1900 ∧
  ∀ H' q s k xs, Same H H' → H' q = some (.tup [.ref s, .ref k]) → H' k = some (.lst xs) → Prs H' xs (st f (n - 1)).2 → Q (.ref q) H'
theorem st_short {f : Nat → Int} : ∀ n, (st f n).2.length ≤ n
  | 0 => Nat.le_refl _
  | n + 1 => by
    have := st_short (f := f) n
    show (stp f (st f n) (n + 1)).2.length ≤ _
    unfold stp
    split
    · show ((st f n).2 ++ [_]).length ≤ _
      rw [List.length_append]
      show (st f n).2.length + 1 ≤ n + 1
      omega
    · exact Nat.le_succ_of_le this
section
variable {P : Program} {w : World} {K : PySem.W.Frag} {mg : Str → Option Value} {base : Heap}
abbrev s_stack : Stmt := topS 2
abbrev N_stack : List Str := ["singles", "limit", "sums", "kept", "x", "best", "size", "worth"]
theorem sc_stack : FnScope N_stack ["singles", "limit"] (defScope s_stack) := ⟨rfl, rfl, rfl, by decide +kernel, rfl, by decide +kernel, by decide +kernel⟩
theorem ok_stack (T : Txt mg) (D : Df K mg "stack" s_stack ["singles", "limit"]) : Cal P w K mg base "stack" ["singles", "limit"] 1 (sp_stack K) := by
  refine D.cal sc_stack (fun vs H Q E h => ?_) (fun f cdv A outer s H vs Q E hr h => ?_)
  · obtain ⟨a, f, n, rfl, _⟩ := h
    rfl
  obtain ⟨a, f, n, rfl, hS, n1, n2, k⟩ := h
  have ll : ((((((List.range n).map f).map V.int).length : Nat)) : Int) = (n : Int) := by rw [List.length_map, List.length_map, List.length_range]
  refine ⟨_, (pss_cons (ps_set (i := 2) sc_stack.nd rfl (Or.inr rfl) (pe_lst (pa_cons pe_int pa_nil)))
    (pss_cons (ps_set (i := 3) sc_stack.nd rfl (Or.inl rfl) (pe_lst pa_nil))
    (pss_cons (ps_for PassesOwn.never rfl (pi_range2 (by rfl) T.n_range (pa_cons pe_int (pa_cons (pe_callB call_len_seq (by rfl) T.n_len (by decide +kernel) (pa_cons (pv 0) pa_nil)) pa_nil))) (pg_name (i := 4) sc_stack.nd rfl (Or.inr rfl))
      (pss_cons (ps_set (i := 5) sc_stack.nd rfl (Or.inl rfl) (pe_maxDef rfl (by rfl) T.n_max (pa_cons (pe_lc (own := [("size", 6), ("worth", 7)]) (g := gTup K 2 (gCons (gName 6) (gCons (gName 7) gNil))) (tt := tYes) rfl sc_stack.nd (pi_list (pv 3)) (blkOk_by (own := [("size", 6), ("worth", 7)]) (N := N_stack) (sc := defScope s_stack) (by decide +kernel)) (fun _ _ _ _ _ => pg_tup (by rfl) (pgs_cons (pg_name (i := 6) sc_stack.nd rfl (Or.inl rfl)) (pgs_cons (pg_name (i := 7) sc_stack.nd rfl (Or.inl rfl)) pgs_nil))) (fun _ _ _ _ _ => pts_nil) (fun _ _ _ _ _ => (pe_op op_add (pe_ix (show IxR _ (rIxL K) from ix_list) (pv 2) (pe_op op_sub (pv 4) (pv 6)) (fun _ _ => rfl)) (pv 7)))) pa_nil)))
    (pss_cons (ps_if (pt_cmpR op_gt (pe_ix ix_list (pv 0) (pv 4) (fun _ _ => rfl)) (pv 5) (nomark _)) (pss_cons (ps_set (i := 5) sc_stack.nd rfl (Or.inl rfl) (pe_ix ix_list (pv 0) (pv 4) (fun _ _ => rfl)))
    (pss_one (ps_if (pt_cmpR op_lt (pv 4) (pv 1) (nomark _)) (pss_one (ps_expr (pe_bm PySem.F.plainAttrs_list PySem.F.slot_list_append PySem.F.type_list_append mt_append (pv 3) (pa_cons (pe_tup (pa_cons (pv 4) (pa_cons (pv 5) pa_nil))) pa_nil)))) pss_nil))) pss_nil)
    (pss_one (ps_expr (pe_bm PySem.F.plainAttrs_list PySem.F.slot_list_append PySem.F.type_list_append mt_append (pv 2) (pa_cons (pv 5) pa_nil)))))))
    (pss_one (ps_ret (pe_tup (pa_cons (pv 2) (pa_cons (pv 3) pa_nil)))))))), ?_⟩
  refine ⟨(by show 1 ≤ sizeLine; decide), fun A nA => ?_⟩
  have sA := same_upd (o := .lst [.int 0]) nA
  refine ⟨Nat.zero_le _, fun B nB => ?_⟩
  have sB := same_upd (o := .lst []) nB
  have nAB : A ≠ B := ne_of_none upd_same nB
  refine ⟨_, rfl, _, _, rfl, .inl (SqL.of ((sA.trans sB) _ _ hS)), _, _, rfl, ⟨by omega, by omega, by rw [ll]; omega, by rw [ll]; omega⟩, ?_⟩
  refine for_range (lo := _) (n := _) (fun i σ H' => ∃ (xs : List V) (v4 v5 : Option V), σ = [some (.ref a), some (.int (n : Int)), some (.ref A), some (.ref B), v4, v5, none, none] ∧ Same H H' ∧ (∀ b o, H b = some o → b ≠ A ∧ b ≠ B) ∧ H' A = some (.lst ((st f i).1.map V.int)) ∧ H' B = some (.lst xs) ∧ Prs H' xs (st f i).2)
    ⟨[], none, none, rfl, sA.trans sB, fun b o h => ⟨ne_of_none h nA, ne_of_none (sA _ _ h) nB⟩, sB _ _ upd_same, upd_same, Prs.nil⟩ ?_ ?_
  · rintro i σ H' hi ⟨xs, v4, v5, rfl, s', ne, hA, hB, prs⟩
    rw [ll] at hi
    have hi : 1 + i < n := by omega
    have ix : (1 : Int) + (i : Int) = ((i + 1 : Nat) : Int) := by omega
    have sl := st_len (f := f) i
    have kl := st_short (f := f) i
    have lx := prs.len
    -- the candidates
    refine ⟨_, rfl, B, rfl, ⟨_, SqL.of hB⟩, fun U nU => ?_⟩
    have sU := same_upd (o := .lst []) nU
    refine lc_list (K := K) (a := B) (xs := xs) (fun j H2 => Same H' H2 ∧ H2 U = some (.lst (((cands (st f i).1 (st f i).2 (i + 1)).take j).map V.int))) ⟨sU, upd_same⟩ (fun j H2 _ h => SqL.of (h.1 _ _ hB)) ?_ ?_
    · rintro j v H2 hv ⟨s2, hU⟩
      obtain ⟨⟨p, y⟩, hk, t, rfl, ht⟩ := prs.at hv
      have hm : (p, y) ∈ (st f i).2 := List.mem_of_getElem? hk
      obtain ⟨q1, q2, q3⟩ := st_mem.mp hm
      have p1 := q2.1
      have cj : (cands (st f i).1 (st f i).2 (i + 1))[j]? = some ((st f i).1.getD (i + 1 - p) 0 + y) := by
        unfold cands
        rw [List.getElem?_map, hk]
        rfl
      refine ⟨t, _, rfl, SqT.of (s2 _ _ ht), rfl, _, _, rfl, _, _, rfl, rfl, rfl, ?_⟩
      unfold tYes
      refine iteT ?_
      refine ⟨_, rfl, _, rfl, _, rfl, _, _, rfl, rfl, _, _, _, _, rfl, rfl, SqL.of (s2 _ _ hA), at_of (j := i + 1 - p) (by omega) (get_int' (by omega)), _, rfl, _, _, rfl, rfl, _, hU, ?_, fun b o e => ?_, ?_⟩
      · rw [List.length_map, List.length_take]
        have := (List.getElem?_eq_some_iff.mp hk).1
        exact Nat.lt_of_le_of_lt (show _ ≤ 2000 by omega) (by decide)
      · rw [upd_ne (ne_of_none e nU)]
        exact s2 _ _ e
      · rw [upd_same, take_snoc cj, List.map_append]
        rfl
    rintro H2 ⟨s2, hU⟩
    rw [List.take_of_length_le (by unfold cands; rw [List.length_map]; omega)] at hU
    have hA2 := s2 _ _ hA
    have hB2 := s2 _ _ hB
    have prs2 := prs.same s2
    have hS2 := s2 _ _ (s' _ _ hS)
    have s3 := s'.trans s2
    have gx : ((((List.range n).map f).map V.int))[i + 1]? = some (.int (f (i + 1))) := by
      rw [List.getElem?_map, List.getElem?_map, List.getElem?_range (by omega)]
      rfl
    refine maxDef_cl hU (fun e => ?_) (fun m hm hle => cl_max hm hle) ?_
    · unfold cl
      rw [e]
      rfl
    have lnA : ((st f i).1.map V.int).length < sizeLine := by
      rw [List.length_map, sl]
      exact Nat.lt_of_le_of_lt (show i + 1 ≤ 2000 by omega) (by decide)
    have lnB : xs.length < sizeLine := Nat.lt_of_le_of_lt (show xs.length ≤ 2000 by omega) (by decide)
    have keep : ∀ (H3 : Hp) (o1 : HO), Same H2 H3 → (∀ b o, H b = some o → upd H3 A o1 b = some o) := fun H3 o1 s b o h => by rw [upd_ne (ne b o h).1]; exact s _ _ (s3 _ _ h)
    refine ⟨_, rfl, _, rfl, _, _, _, _, rfl, rfl, SqL.of hS2, at_of (j := i + 1) ix gx, _, rfl, _, _, rfl, rfl, _, rfl, ?_⟩
    have nextst : st f (i + 1) = stp f (st f i) (i + 1) := rfl
    by_cases c : f (i + 1) > cl (st f i).1 (st f i).2 (i + 1)
    · have e1 : stp f (st f i) (i + 1) = ((st f i).1 ++ [f (i + 1)], (st f i).2 ++ [(i + 1, f (i + 1))]) := if_pos c
      refine iteP c ⟨_, rfl, _, rfl, _, _, _, _, rfl, rfl, SqL.of hS2, at_of (j := i + 1) ix gx, ?_⟩
      refine ⟨_, rfl, _, rfl, _, _, rfl, rfl, _, rfl, iteP (show (1 : Int) + (i : Int) < (n : Int) by omega) ?_⟩
      refine ⟨_, rfl, .inl ⟨rfl, _, SqL.of hB2⟩, _, rfl, _, rfl, (by show 2 ≤ sizeLine; decide), fun t nt => ?_⟩
      have st' := same_upd (o := .tup [.int (1 + (i : Int)), .int (f (i + 1))]) nt
      refine ⟨B, _, _, rfl, rfl, st' _ _ hB2, lnB, ?_⟩
      have ht : upd H2 t (.tup [.int (1 + (i : Int)), .int (f (i + 1))]) t = some (.tup [.int (1 + (i : Int)), .int (f (i + 1))]) := upd_same
      have hA3 : upd (upd H2 t (.tup [.int (1 + (i : Int)), .int (f (i + 1))])) B (.lst (xs ++ [.ref t])) A = some (.lst ((st f i).1.map V.int)) := by
        rw [upd_ne nAB]
        exact st' _ _ hA2
      refine ⟨_, rfl, .inl ⟨rfl, _, SqL.of hA3⟩, _, rfl, A, _, _, rfl, rfl, hA3, lnA, ?_⟩
      have pt : PrAt (upd H2 t (.tup [.int (1 + (i : Int)), .int (f (i + 1))])) (.ref t) (i + 1, f (i + 1)) := ⟨t, rfl, by rw [ht, ix]⟩
      have hB3 := st' _ _ hB2
      have p3 := (((prs2.same st').app pt).updL (zs := xs ++ [.ref t]) hB3).updL (zs := (st f i).1.map V.int ++ [.int (f (i + 1))]) hA3
      refine ⟨xs ++ [.ref t], _, _, rfl, fun b o h => ?_, ne, ?_, ?_, ?_⟩
      · rw [upd_ne (ne b o h).1, upd_ne (ne b o h).2]
        exact st' _ _ (s3 _ _ h)
      · rw [upd_same, nextst, e1, List.map_append]
        rfl
      · rw [upd_ne nAB.symm, upd_same]
      · rw [nextst, e1]
        exact p3
    · have e1 : stp f (st f i) (i + 1) = ((st f i).1 ++ [cl (st f i).1 (st f i).2 (i + 1)], (st f i).2) := if_neg c
      refine iteN c ⟨_, rfl, .inl ⟨rfl, _, SqL.of hA2⟩, _, rfl, A, _, _, rfl, rfl, hA2, lnA, ?_⟩
      refine ⟨xs, _, _, rfl, fun b o h => ?_, ne, ?_, ?_, ?_⟩
      · rw [upd_ne (ne b o h).1]
        exact s3 _ _ h
      · rw [upd_same, nextst, e1, List.map_append]
        rfl
      · rw [upd_ne nAB.symm]
        exact hB2
      · rw [nextst, e1]
        exact prs2.updL hA2
  · rintro σ H' ⟨xs, v4, v5, rfl, s', ne, hA, hB, prs⟩
    have e : (((((List.range n).map f).map V.int).length : Nat) : Int) - 1 = ((n - 1 : Nat) : Int) := by rw [ll]; omega
    rw [e] at prs
    refine ⟨_, rfl, _, rfl, (by show 2 ≤ sizeLine; decide), fun q nq => ?_⟩
    have sq := same_upd (o := .tup [.ref A, .ref B]) nq
    exact k _ q A B xs (s'.trans sq) upd_same (sq _ _ hB) (prs.same sq)
end
end Sm

set_option Elab.async false
set_option linter.all false
set_option maxRecDepth 100000
set_option maxHeartbeats 16000000
namespace Sm
open PySem PySem.Spec PyProof.Rows L2
open C8 (pss_cut tCut)
def sp_needed_uses (_ : PySem.W.Frag) : Sp := fun vs H Q _ => ∃ (d : Addr) (m : Nat) (num den least step : Int) (u : Option Int), vs = [.ref d] ∧ H d = some (.tup (deskV m num den least step u)) ∧ Dk m num den least step u ∧
  ∀ H' q xs, Same H H' → H' q = some (.tup xs) → Prs H' xs (st (fD m num den least step u) (cntD den least step u - 1)).2 → Q (.ref q) H'
def sp_l_gives (_ : PySem.W.Frag) : Sp := fun vs H Q _ => ∃ (d : Addr) (x : Int) (m : Nat) (num den least step : Int) (u : Option Int), vs = [.ref d, .int x] ∧ H d = some (.tup (deskV m num den least step u)) ∧ Dk m num den least step u ∧
  (Tk least step u x → Q (.int (Gm m (num * x) den)) H) ∧ (¬ Tk least step u x → Q .non H)
section
variable {P : Program} {w : World} {K : PySem.W.Frag} {mg : Str → Option Value} {base : Heap}
abbrev s_needed_uses : Stmt := topS 6
abbrev N_needed_uses : List Str := ["desk", "least", "step", "most", "count"]
theorem sc_needed_uses : FnScope N_needed_uses ["desk"] (defScope s_needed_uses) := ⟨rfl, rfl, rfl, by decide +kernel, rfl, by decide +kernel, by decide +kernel⟩
theorem ok_needed_uses (T : Txt mg) (D : Df K mg "needed_uses" s_needed_uses ["desk"]) (C_stack : Cal P w K mg base "stack" ["singles", "limit"] 1 (sp_stack K)) (C_use_values : Cal P w K mg base "use_values" ["desk", "count"] 3 (sp_use_values K)) (C_first_taken : Cal P w K mg base "first_taken" ["desk"] 2 (sp_first_taken K)) (C_up_to_multiple : Cal P w K mg base "up_to_multiple" ["least", "step"] 1 (sp_up_to_multiple K)) : Cal P w K mg base "needed_uses" ["desk"] 4 (sp_needed_uses K) := by
  obtain ⟨f_stack, fd_stack, G_stack, m_stack, k_stack, b_stack⟩ := C_stack
  obtain ⟨f_use_values, fd_use_values, G_use_values, m_use_values, k_use_values, b_use_values⟩ := C_use_values
  obtain ⟨f_first_taken, fd_first_taken, G_first_taken, m_first_taken, k_first_taken, b_first_taken⟩ := C_first_taken
  obtain ⟨f_up_to_multiple, fd_up_to_multiple, G_up_to_multiple, m_up_to_multiple, k_up_to_multiple, b_up_to_multiple⟩ := C_up_to_multiple
  refine D.cal sc_needed_uses (fun vs H Q E h => ?_) (fun f cdv A outer s H vs Q E hr h => ?_)
  · obtain ⟨d, m, num, den, least, step, u, rfl, _⟩ := h
    rfl
  obtain ⟨d, m, num, den, least, step, u, rfl, hd, o, k⟩ := h
  have l0 := o.l0
  have l1 := o.l1
  have s0 := o.s0
  have s1 := o.s1
  have d0 := o.d0
  have d1 := o.d1
  obtain ⟨c1, c2⟩ := lcD_pos o
  have f1 := fst_ge (least := least) (s := step) l0 s0
  have f2 := fst_le (least := least) (s := step) l0 s0
  have f3 := fst_ge (least := least) (s := (lcD den step : Int)) l0 (by omega)
  have f4 := fst_le (least := least) (s := (lcD den step : Int)) l0 (by omega)
  have cn : 2 ≤ cntD den least step u ∧ cntD den least step u ≤ 1100 := by
    cases u with
    | none =>
      show 2 ≤ (fst least step + fst least (lcD den step : Int)).toNat ∧ (fst least step + fst least (lcD den step : Int)).toNat ≤ 1100
      omega
    | some v =>
      have := o.u0 v rfl
      have := o.u1 v rfl
      show 2 ≤ v.toNat + 1 ∧ v.toNat + 1 ≤ 1100
      omega
  refine ⟨_, (pss_cons (ps_asg (pe_slice sl_tup (pv 0) (po_some pe_int) po_none) (pg_tup (by rfl) (pgs_cons (pg_name (i := 1) sc_needed_uses.nd rfl (Or.inl rfl)) (pgs_cons (pg_name (i := 2) sc_needed_uses.nd rfl (Or.inl rfl)) (pgs_cons (pg_name (i := 3) sc_needed_uses.nd rfl (Or.inl rfl)) pgs_nil)))))
    (pss_cut (ps_if (pt_cmpR op_isN (pv 3) pe_non (nomark _)) (pss_one (ps_set (i := 4) sc_needed_uses.nd rfl (Or.inl rfl) (pe_op op_add (pe_call G_first_taken (hr.mono (by decide)) (by rfl) m_first_taken k_first_taken b_first_taken .nil pass0 (pa_cons (pv 0) pa_nil)) (pe_call G_up_to_multiple (hr.mono (by decide)) (by rfl) m_up_to_multiple k_up_to_multiple b_up_to_multiple .nil pass0 (pa_cons (pv 1) (pa_cons (pe_callBfun cr_lcm (by rfl) T.g_lcm (pa_cons (pv 2) (pa_cons (pe_ix ix_tup (pv 0) pe_int (fun _ _ => rfl)) pa_nil))) pa_nil)))))) (pss_one (ps_set (i := 4) sc_needed_uses.nd rfl (Or.inl rfl) (pe_op op_add (pv 3) pe_int))))
    (pss_one (ps_ret (pe_callTy call_tuple_of (by rfl) T.n_tuple (by decide +kernel) (pa_cons (pe_ix ix_tup (pe_call G_stack (hr.mono (by decide)) (by rfl) m_stack k_stack b_stack .nil pass0 (pa_cons (pe_call G_use_values (hr.mono (by decide)) (by rfl) m_use_values k_use_values b_use_values .nil pass0 (pa_cons (pv 0) (pa_cons (pv 4) pa_nil))) (pa_cons (pv 4) pa_nil))) pe_int (fun _ _ => rfl)) pa_nil)))))), ?_⟩
  refine ⟨_, rfl, _, rfl, d, _, rfl, SqT.of hd, (by show ¬ (5 = 0 ∧ 8 = 8); decide), fun p np => ?_⟩
  have z1 := same_upd (o := .tup (cutV (deskV m num den least step u) (some 5) none)) np
  refine ⟨_, _, rfl, SqT.of upd_same, rfl, _, _, rfl, _, _, rfl, _, _, rfl, rfl, ?_⟩
  have hd1 := z1 _ _ hd
  refine ⟨fun σ H' => H' = upd H p (.tup (cutV (deskV m num den least step u) (some 5) none)) ∧ σ = [some (.ref d), some (.int least), some (.int step), some (upV u), some (.int (cntD den least step u : Int))], ?_, ?_⟩
  · cases u with
    | none =>
      have e1 : [V.int step, V.int den] = [.int ((step.toNat : Nat) : Int), .int ((den.toNat : Nat) : Int)] := by rw [Int.toNat_of_nonneg (by omega), Int.toNat_of_nonneg (by omega)]
      refine ⟨_, rfl, rfl, _, rfl, iteP rfl ?_⟩
      refine ⟨_, rfl, d, m, num, den, least, step, none, rfl, hd1, o, _, rfl, _, rfl, _, rfl, _, _, _, _, rfl, rfl, SqT.of hd1, atI_nat (j := 3) rfl, step.toNat, den.toNat, e1, by omega, by omega, least, (lcD den step : Int), rfl, by omega, by omega, _, _, rfl, rfl, rfl, ?_⟩
      have e2 : (cntD den least step none : Int) = fst least step + fst least (lcD den step : Int) := by
        show (((fst least step + fst least (lcD den step : Int)).toNat : Nat) : Int) = _
        omega
      rw [e2]
      rfl
    | some v =>
      have e2 : (cntD den least step (some v) : Int) = v + 1 := by
        have := o.u0 v rfl
        show ((v.toNat + 1 : Nat) : Int) = _
        omega
      exact ⟨_, rfl, rfl, _, rfl, iteN (fun q => nomatch q) ⟨_, rfl, _, _, rfl, rfl, rfl, by rw [e2]; rfl⟩⟩
  rintro σ H1 ⟨rfl, rfl⟩
  refine ⟨_, rfl, _, rfl, d, cntD den least step u, m, num, den, least, step, u, rfl, hd1, o, by omega, fun H2 q s2 hq => ?_⟩
  refine ⟨_, rfl, q, fD m num den least step u, cntD den least step u, rfl, hq, by omega, by omega, fun H3 r sx kx xs s3 hr hk prs => ?_⟩
  refine ⟨_, _, _, _, rfl, rfl, SqT.of hr, atI_nat (j := 1) rfl, _, _, rfl, .inl ⟨SqL.of hk, fun t nt => ?_⟩⟩
  have st' := same_upd (o := .tup xs) nt
  exact k _ t xs (z1.trans (s2.trans (s3.trans st'))) upd_same (prs.same st')
abbrev s_l_gives : Stmt := topS 15
abbrev N_l_gives : List Str := ["_law_desk_here", "_law_x", "_law_a", "_law_b", "_law_num", "_law_den", "_law_how", "_law_least", "_law_step", "_law_upto", "_law_whole", "_law_rest"]
theorem sc_l_gives : FnScope N_l_gives ["_law_desk_here", "_law_x"] (defScope s_l_gives) := ⟨rfl, rfl, rfl, by decide +kernel, rfl, by decide +kernel, by decide +kernel⟩
theorem ok_l_gives (T : Txt mg) (D : Df K mg "_law_gives" s_l_gives ["_law_desk_here", "_law_x"]) : Cal P w K mg base "_law_gives" ["_law_desk_here", "_law_x"] 1 (sp_l_gives K) := by
  refine D.cal sc_l_gives (fun vs H Q E h => ?_) (fun f cdv A outer s H vs Q E hr h => ?_)
  · obtain ⟨d, x, m, num, den, least, step, u, rfl, _⟩ := h
    rfl
  obtain ⟨d, x, m, num, den, least, step, u, rfl, hd, o, k1, k2⟩ := h
  refine ⟨_, (pss_cons (ps_asg (pv 0) (pg_tup (by rfl) (pgs_cons (pg_name (i := 2) sc_l_gives.nd rfl (Or.inl rfl)) (pgs_cons (pg_name (i := 3) sc_l_gives.nd rfl (Or.inl rfl)) (pgs_cons (pg_name (i := 4) sc_l_gives.nd rfl (Or.inl rfl)) (pgs_cons (pg_name (i := 5) sc_l_gives.nd rfl (Or.inl rfl)) (pgs_cons (pg_name (i := 6) sc_l_gives.nd rfl (Or.inl rfl)) (pgs_cons (pg_name (i := 7) sc_l_gives.nd rfl (Or.inl rfl)) (pgs_cons (pg_name (i := 8) sc_l_gives.nd rfl (Or.inl rfl)) (pgs_cons (pg_name (i := 9) sc_l_gives.nd rfl (Or.inl rfl)) pgs_nil))))))))))
    (pss_cons (ps_if (PW.pt (pw_or (pt_cmpR op_ne (pe_op op_modN (pe_callTy call_int1 (by rfl) T.n_int (by decide +kernel) (pa_cons (pv 1) pa_nil)) (pv 8)) pe_int (nomark _)) (pw_or (pt_cmpR op_lt (pv 1) (pv 7) (nomark _)) (pw_or1 (PW.pt (pw_and (pt_cmpR op_notN (pv 9) pe_non (nomark _)) (pw_and1 (pt_cmpR op_gt (pv 1) (pv 9) (nomark _))))))))) (pss_one (ps_ret pe_non)) pss_nil)
    (pss_cons (ps_par (i := 10) (j := 11) (by rfl) sc_l_gives.nd rfl rfl (by decide) rfl rfl (pa_cons (pe_op op_fdivW (pe_op op_mul (pv 4) (pv 1)) (pv 5)) (pa_cons (pe_op op_modN (pe_callTy call_int1 (by rfl) T.n_int (by decide +kernel) (pa_cons (pe_op op_mul (pv 4) (pv 1)) pa_nil)) (pv 5)) pa_nil)) (by rfl))
    (pss_cons (ps_if (pt_cmpR op_eq (pv 6) pe_str (nomark _)) (pss_one (ps_ret (pv 10))) pss_nil)
    (pss_one (ps_ret (pe_ifExp (pt_cmpR op_eq (pv 6) pe_str (nomark _)) (pe_op op_add (pv 10) (pe_callTy call_int1 (by rfl) T.n_int (by decide +kernel) (pa_cons (pe_cmpR op_gt (pv 11) pe_int (nomark _)) pa_nil))) (pe_op op_add (pv 10) (pe_callTy call_int1 (by rfl) T.n_int (by decide +kernel) (pa_cons (pe_cmpR op_ge (pe_op op_mul pe_int (pv 11)) (pv 5) (nomark _)) pa_nil)))))))))), ?_⟩
  have n0 := o.n0
  have n1 := o.n1
  have d0 := o.d0
  have d1 := o.d1
  have st0 := o.s0
  refine ⟨_, rfl, _, _, rfl, SqT.of hd, rfl, _, _, rfl, _, _, rfl, _, _, rfl, _, _, rfl, _, _, rfl, _, _, rfl, _, _, rfl, _, _, rfl, rfl, ?_⟩
  refine ⟨_, rfl, .inl ⟨_, rfl, _, rfl, _, _, rfl, rfl, (by omega), rfl, _, rfl, ?_⟩⟩
  by_cases hm : x % step = 0
  case neg =>
    exact iteNN (show ¬ V.int (x.fmod step) = V.int 0 from fun q => hm (by rw [← fmod_pos (show 0 < step by omega)]; exact V.int.inj q)) (k2 fun q => hm q.2.1)
  refine iteNP (show V.int (x.fmod step) = V.int 0 by rw [fmod_pos (by omega), hm]) ?_
  refine ⟨_, rfl, _, rfl, _, _, rfl, rfl, _, rfl, ?_⟩
  by_cases hx : x < least
  · exact iteP hx (k2 fun q => by have := q.1; omega)
  refine iteN hx ?_
  cases u with
  | none =>
    have k := k1 ⟨by omega, hm, fun v q => nomatch q⟩
    refine ⟨_, rfl, rfl, _, rfl, iteNP rfl ?_⟩
    refine iteF ?_
    rw [LG_eq o.hm (by omega)] at k
    refine ⟨_, rfl, _, rfl, _, _, rfl, rfl, .inl ⟨by omega, by omega⟩, _, rfl, _, _, rfl, rfl, o.div, _, rfl, _, rfl, _, _, rfl, rfl, .inl ⟨by omega, by omega⟩, .inl ⟨_, rfl, _, rfl, _, _, rfl, rfl, (by omega), _, _, rfl, ?_⟩⟩
    have fm : (num * x).fmod den = num * x % den := fmod_pos (by omega)
    refine ⟨_, rfl, rfl, _, rfl, ?_⟩
    refine ite3 (fun e => ?_) (fun e => ?_)
    · have e := (hs_down o.hm).mp e
      subst e
      exact ⟨_, rfl, k⟩
    have e : ¬ m = 0 := fun q => e ((hs_down o.hm).mpr q)
    refine ⟨_, rfl, rfl, _, rfl, ?_⟩
    refine ite3 (fun e1 => ?_) (fun e1 => ?_)
    · have e1 := (hs_up o.hm).mp e1
      subst e1
      refine ⟨_, rfl, _, rfl, _, _, rfl, rfl, .inr ⟨_, rfl, _, _, rfl, rfl, ?_⟩⟩
      have e3 : num * x / den + (if decide (0 < (num * x).fmod den) = true then 1 else 0) = LG 1 (num * x) den := by
        rw [fm]
        show _ = num * x / den + (if 0 < num * x % den then 1 else 0)
        simp only [decide_eq_true_eq]
      rw [← e3] at k
      exact k
    have e1 : ¬ m = 1 := fun q => e1 ((hs_up o.hm).mpr q)
    have e2 : m = 2 := by have := o.hm; omega
    subst e2
    refine ⟨_, rfl, _, rfl, _, _, rfl, rfl, .inl ⟨by omega, by omega⟩, _, rfl, _, _, rfl, rfl, .inr ⟨_, rfl, _, _, rfl, rfl, ?_⟩⟩
    have e3 : num * x / den + (if decide (den ≤ 2 * (num * x).fmod den) = true then 1 else 0) = LG 2 (num * x) den := by
      rw [fm]
      show _ = num * x / den + (if den ≤ 2 * (num * x % den) then 1 else 0)
      simp only [decide_eq_true_eq]
    rw [← e3] at k
    exact k
  | some v =>
    refine ⟨_, rfl, rfl, _, rfl, iteNN (fun q => nomatch q) ⟨_, rfl, _, rfl, _, _, rfl, rfl, _, rfl, ?_⟩⟩
    by_cases hv : x > v
    · exact iteP hv (k2 fun q => by have := q.2.2 v rfl; omega)
    refine iteN hv ?_
    have k := k1 ⟨by omega, hm, fun v' q => by cases q; omega⟩
    rw [LG_eq o.hm (by omega)] at k
    refine ⟨_, rfl, _, rfl, _, _, rfl, rfl, .inl ⟨by omega, by omega⟩, _, rfl, _, _, rfl, rfl, o.div, _, rfl, _, rfl, _, _, rfl, rfl, .inl ⟨by omega, by omega⟩, .inl ⟨_, rfl, _, rfl, _, _, rfl, rfl, (by omega), _, _, rfl, ?_⟩⟩
    have fm : (num * x).fmod den = num * x % den := fmod_pos (by omega)
    refine ⟨_, rfl, rfl, _, rfl, ?_⟩
    refine ite3 (fun e => ?_) (fun e => ?_)
    · have e := (hs_down o.hm).mp e
      subst e
      exact ⟨_, rfl, k⟩
    have e : ¬ m = 0 := fun q => e ((hs_down o.hm).mpr q)
    refine ⟨_, rfl, rfl, _, rfl, ?_⟩
    refine ite3 (fun e1 => ?_) (fun e1 => ?_)
    · have e1 := (hs_up o.hm).mp e1
      subst e1
      refine ⟨_, rfl, _, rfl, _, _, rfl, rfl, .inr ⟨_, rfl, _, _, rfl, rfl, ?_⟩⟩
      have e3 : num * x / den + (if decide (0 < (num * x).fmod den) = true then 1 else 0) = LG 1 (num * x) den := by
        rw [fm]
        show _ = num * x / den + (if 0 < num * x % den then 1 else 0)
        simp only [decide_eq_true_eq]
      rw [← e3] at k
      exact k
    have e1 : ¬ m = 1 := fun q => e1 ((hs_up o.hm).mpr q)
    have e2 : m = 2 := by have := o.hm; omega
    subst e2
    refine ⟨_, rfl, _, rfl, _, _, rfl, rfl, .inl ⟨by omega, by omega⟩, _, rfl, _, _, rfl, rfl, .inr ⟨_, rfl, _, _, rfl, rfl, ?_⟩⟩
    have e3 : num * x / den + (if decide (den ≤ 2 * (num * x).fmod den) = true then 1 else 0) = LG 2 (num * x) den := by
      rw [fm]
      show _ = num * x / den + (if den ≤ 2 * (num * x % den) then 1 else 0)
      simp only [decide_eq_true_eq]
    rw [← e3] at k
    exact k
end
end Sm

set_option Elab.async false
set_option linter.all false
set_option maxRecDepth 100000
set_option maxHeartbeats 16000000
namespace Sm
open PySem PySem.Spec PyProof.Rows L2
open C8 (pss_cut tCut)
def sp_l_desk (_ : PySem.W.Frag) : Sp := fun vs H Q _ => ∃ (p l : Addr) (n rate ml : Int), vs = [.ref p, .int rate, .int ml] ∧ Deck H p l n ∧ 0 ≤ n ∧ n ≤ 900000 ∧ 1 ≤ rate ∧ rate ≤ 30 ∧ 1 ≤ ml ∧ ml ≤ 30 ∧
  ∀ H' d m num den least step u n', Fr p l H H' → Deck H' p l n' → n ≤ n' → n' ≤ n + 20 → H' d = some (.tup (deskV m num den least step u)) → Dk m num den least step u → Q (.ref d) H'
def sp_l_top (_ : PySem.W.Frag) : Sp := fun vs H Q _ => ∃ (d : Addr) (m : Nat) (num den least step : Int) (u : Option Int), vs = [.ref d] ∧ H d = some (.tup (deskV m num den least step u)) ∧ Dk m num den least step u ∧
  ∀ n : Nat, 1 ≤ n → n ≤ 1100 → (st (fD m num den least step u) n).2 = (st (fD m num den least step u) (cntD den least step u - 1)).2 → Q (.int (n : Int)) H
theorem one_of3 {v : V} {r ml : Int} (h : v ∈ [V.int 1, V.int 1, V.int (1 + r)]) (r0 : 0 ≤ r) (r1 : r < ml) (m1 : ml ≤ 30) : ∃ s : Int, 1 ≤ s ∧ s ≤ 30 ∧ v = .int s := by
  simp only [List.mem_cons, List.not_mem_nil, or_false] at h
  rcases h with q | q | q
  · exact ⟨1, by decide, by decide, q⟩
  · exact ⟨1, by decide, by decide, q⟩
  · exact ⟨1 + r, by omega, by omega, q⟩
theorem one_up {v : V} {a r : Int} (h : v ∈ [V.non, V.non, V.int (a + r)]) (a1 : a ≤ 30) (r0 : 0 ≤ r) (r1 : r < 40) : ∃ u : Option Int, v = upV u ∧ (∀ w, u = some w → a ≤ w) ∧ ∀ w, u = some w → w ≤ 1000 := by
  simp only [List.mem_cons, List.not_mem_nil, or_false] at h
  rcases h with q | q | q
  · exact ⟨none, q, (fun w h => nomatch h), (fun w h => nomatch h)⟩
  · exact ⟨none, q, (fun w h => nomatch h), (fun w h => nomatch h)⟩
  · exact ⟨some (a + r), q, fun w h => by cases h; omega, fun w h => by cases h; omega⟩
theorem one_how {v : V} (h : v ∈ [V.str (hs 0), V.str (hs 1), V.str (hs 2)]) : ∃ m, m ≤ 2 ∧ v = .str (hs m) := by
  simp only [List.mem_cons, List.not_mem_nil, or_false] at h
  rcases h with q | q | q
  · exact ⟨0, by decide, q⟩
  · exact ⟨1, by decide, q⟩
  · exact ⟨2, by decide, q⟩
/-- the least multiple from here on -/
theorem fst_least {a L k z : Int} (L1 : 1 ≤ L) (hz : z = L * k) (h : a ≤ z) : fst a L ≤ z := by
  unfold fst
  have e : (a + L - 1) / L ≤ k := by
    refine Int.le_of_lt_add_one (Int.ediv_lt_of_lt_mul (by omega) ?_)
    rw [Int.add_mul, Int.one_mul, Int.mul_comm k]
    omega
  rw [hz, Int.mul_comm L k]
  exact Int.mul_le_mul_of_nonneg_right e (by omega)
section
variable {P : Program} {w : World} {K : PySem.W.Frag} {mg : Str → Option Value} {base : Heap}
abbrev s_l_desk : Stmt := topS 14
abbrev N_l_desk : List Str := ["_law_deck_here", "_law_most_rate", "_law_most_least", "_law_num", "_law_den", "_law_least", "_law_step", "_law_upto"]
theorem sc_l_desk : FnScope N_l_desk ["_law_deck_here", "_law_most_rate", "_law_most_least"] (defScope s_l_desk) := ⟨rfl, rfl, rfl, by decide +kernel, rfl, by decide +kernel, by decide +kernel⟩
theorem ok_l_desk (T : Txt mg) (D : Df K mg "_law_desk" s_l_desk ["_law_deck_here", "_law_most_rate", "_law_most_least"]) (C_l_one : Cal P w K mg base "_law_one" ["_law_deck_here", "_law_items"] 2 (sp_l_one K)) (C_l_draw : Cal P w K mg base "_law_draw" ["_law_deck_here", "_law_many"] 1 (sp_l_draw K)) : Cal P w K mg base "_law_desk" ["_law_deck_here", "_law_most_rate", "_law_most_least"] 3 (sp_l_desk K) := by
  obtain ⟨f_l_one, fd_l_one, G_l_one, m_l_one, k_l_one, b_l_one⟩ := C_l_one
  obtain ⟨f_l_draw, fd_l_draw, G_l_draw, m_l_draw, k_l_draw, b_l_draw⟩ := C_l_draw
  refine D.cal sc_l_desk (fun vs H Q E h => ?_) (fun f cdv A outer s H vs Q E hr h => ?_)
  · obtain ⟨p, l, n, rate, ml, rfl, _⟩ := h
    rfl
  obtain ⟨p, l, n, rate, ml, rfl, D2, n0, n1, ra0, ra1, ml0, ml1, k⟩ := h
  refine ⟨_, (pss_cons (ps_par (i := 3) (j := 4) (by rfl) sc_l_desk.nd rfl rfl (by decide) rfl rfl (pa_cons (pe_call G_l_draw (hr.mono (by decide)) (by rfl) m_l_draw k_l_draw b_l_draw .nil pass0 (pa_cons (pv 0) (pa_cons (pe_op op_add (pv 1) pe_int) pa_nil))) (pa_cons (pe_op op_add pe_int (pe_call G_l_draw (hr.mono (by decide)) (by rfl) m_l_draw k_l_draw b_l_draw .nil pass0 (pa_cons (pv 0) (pa_cons (pv 1) pa_nil)))) pa_nil)) (by rfl))
    (pss_cons (ps_par (i := 5) (j := 6) (by rfl) sc_l_desk.nd rfl rfl (by decide) rfl rfl (pa_cons (pe_op op_add pe_int (pe_call G_l_draw (hr.mono (by decide)) (by rfl) m_l_draw k_l_draw b_l_draw .nil pass0 (pa_cons (pv 0) (pa_cons (pv 2) pa_nil)))) (pa_cons (pe_call G_l_one (hr.mono (by decide)) (by rfl) m_l_one k_l_one b_l_one .nil pass0 (pa_cons (pv 0) (pa_cons (pe_lst (pa_cons pe_int (pa_cons pe_int (pa_cons (pe_op op_add pe_int (pe_call G_l_draw (hr.mono (by decide)) (by rfl) m_l_draw k_l_draw b_l_draw .nil pass0 (pa_cons (pv 0) (pa_cons (pv 2) pa_nil)))) pa_nil)))) pa_nil))) pa_nil)) (by rfl))
    (pss_cons (ps_set (i := 7) sc_l_desk.nd rfl (Or.inl rfl) (pe_call G_l_one (hr.mono (by decide)) (by rfl) m_l_one k_l_one b_l_one .nil pass0 (pa_cons (pv 0) (pa_cons (pe_lst (pa_cons pe_non (pa_cons pe_non (pa_cons (pe_op op_add (pv 5) (pe_call G_l_draw (hr.mono (by decide)) (by rfl) m_l_draw k_l_draw b_l_draw .nil pass0 (pa_cons (pv 0) (pa_cons pe_int pa_nil)))) pa_nil)))) pa_nil))))
    (pss_one (ps_ret (pe_tup (pa_cons pe_int (pa_cons pe_int (pa_cons (pv 3) (pa_cons (pv 4) (pa_cons (pe_call G_l_one (hr.mono (by decide)) (by rfl) m_l_one k_l_one b_l_one .nil pass0 (pa_cons (pv 0) (pa_cons (pe_lst (pa_cons pe_str (pa_cons pe_str (pa_cons pe_str pa_nil)))) pa_nil))) (pa_cons (pv 5) (pa_cons (pv 6) (pa_cons (pv 7) pa_nil)))))))))))))), ?_⟩
  refine ⟨_, rfl, _, rfl, _, _, rfl, rfl, p, l, n, _, rfl, D2, n0, by omega, by omega, by omega, fun num H3 num0 num1 f3 D3 => ?_⟩
  refine ⟨_, rfl, _, rfl, p, l, n + 1, rate, rfl, D3, by omega, by omega, by omega, by omega, fun r1 H4 r10 r11 f4 D4 => ⟨_, _, rfl, rfl, _, _, rfl, ?_⟩⟩
  refine ⟨_, rfl, _, rfl, p, l, n + 1 + 1, ml, rfl, D4, by omega, by omega, by omega, by omega, fun r2 H5 r20 r21 f5 D5 => ⟨_, _, rfl, rfl, ?_⟩⟩
  refine ⟨_, rfl, _, rfl, _, rfl, p, l, n + 1 + 1 + 1, ml, rfl, D5, by omega, by omega, by omega, by omega, fun r3 H6 r30 r31 f6 D6 => ⟨_, _, rfl, rfl, (by show 3 ≤ sizeLine; decide), fun b nb => ?_⟩⟩
  have sb := same_upd (o := .lst [.int 1, .int 1, .int (1 + r3)]) nb
  refine ⟨p, l, b, _, _, rfl, D6.same sb, by omega, by omega, upd_same, (D6.lne nb).1, (D6.lne nb).2, (by show 0 < 3; decide), (by show 3 ≤ 1000; decide), fun sv H7 svm f7 D7 => ?_⟩
  obtain ⟨step, st0, st1, rfl⟩ := one_of3 svm r30 r31 ml1
  refine ⟨_, _, rfl, ?_⟩
  refine ⟨_, rfl, _, rfl, _, rfl, p, l, _, 40, rfl, D7, by omega, by omega, by omega, by omega, fun r4 H8 r40 r41 f8 D8 => ⟨_, _, rfl, rfl, (by show 3 ≤ sizeLine; decide), fun b2 nb2 => ?_⟩⟩
  have sb2 := same_upd (o := .lst [.non, .non, .int (1 + r2 + r4)]) nb2
  refine ⟨p, l, b2, _, _, rfl, D8.same sb2, by omega, by omega, upd_same, (D8.lne nb2).1, (D8.lne nb2).2, (by show 0 < 3; decide), (by show 3 ≤ 1000; decide), fun uv H9 uvm f9 D9 => ?_⟩
  obtain ⟨u, rfl, u0, u1⟩ := one_up uvm (by omega) r40 r41
  refine ⟨_, rfl, _, rfl, _, rfl, (by show 3 ≤ sizeLine; decide), fun b4 nb4 => ?_⟩
  have sb4 := same_upd (o := .lst [.str (hs 0), .str (hs 1), .str (hs 2)]) nb4
  refine ⟨p, l, b4, _, _, rfl, D9.same sb4, by omega, by omega, upd_same, (D9.lne nb4).1, (D9.lne nb4).2, (by show 0 < 3; decide), (by show 3 ≤ 1000; decide), fun hv H10 hvm f10 D10 => ?_⟩
  obtain ⟨m, hm, rfl⟩ := one_how hvm
  refine ⟨_, rfl, _, rfl, _, rfl, (by show 8 ≤ sizeLine; decide), fun d nd => ?_⟩
  have o : Dk m num (1 + r1) (1 + r2) step u := ⟨hm, num0, by omega, by omega, by omega, by omega, by omega, st0, st1, u0, u1⟩
  have sd := same_upd (o := .tup (deskV m num (1 + r1) (1 + r2) step u)) nd
  exact k _ d m num (1 + r1) (1 + r2) step u _ (f3.trans (f4.trans (f5.trans (f6.trans ((Same.fr sb).trans (f7.trans (f8.trans ((Same.fr sb2).trans (f9.trans ((Same.fr sb4).trans (f10.trans (Same.fr sd))))))))))) ) (D10.same sd) (by omega) (by omega) upd_same o
abbrev s_l_top : Stmt := topS 17
abbrev N_l_top : List Str := ["_law_desk_here", "_law_more", "_law_rounds", "_law_top_here"]
theorem sc_l_top : FnScope N_l_top ["_law_desk_here"] (defScope s_l_top) := ⟨rfl, rfl, rfl, by decide +kernel, rfl, by decide +kernel, by decide +kernel⟩
theorem ok_l_top (T : Txt mg) (D : Df K mg "_law_top" s_l_top ["_law_desk_here"]) : Cal P w K mg base "_law_top" ["_law_desk_here"] 1 (sp_l_top K) := by
  refine D.cal sc_l_top (fun vs H Q E h => ?_) (fun f cdv A outer s H vs Q E hr h => ?_)
  · obtain ⟨d, m, num, den, least, step, u, rfl, _⟩ := h
    rfl
  obtain ⟨d, m, num, den, least, step, u, rfl, hd, o, k⟩ := h
  have l0 := o.l0
  have l1 := o.l1
  have s0 := o.s0
  have s1 := o.s1
  have d0 := o.d0
  have d1 := o.d1
  obtain ⟨c1, c2⟩ := lcD_pos o
  have f2 := fst_le (least := least) (s := step) l0 s0
  refine ⟨_, (pss_cons (ps_set (i := 1) sc_l_top.nd rfl (Or.inl rfl) (pe_ix ix_tup (pv 0) pe_int (fun _ _ => rfl)))
    (pss_cons (ps_while PassesOwn.never (pt_cmpR op_ne (pe_op op_modN (pe_callTy call_int1 (by rfl) T.n_int (by decide +kernel) (pa_cons (pv 1) pa_nil)) (pe_ix ix_tup (pv 0) pe_int (fun _ _ => rfl))) pe_int (nomark _))
      (pss_one (ps_set (i := 1) sc_l_top.nd rfl (Or.inl rfl) (pe_op op_add (pv 1) (pe_ix ix_tup (pv 0) pe_int (fun _ _ => rfl))))))
    (pss_cons (ps_set (i := 2) sc_l_top.nd rfl (Or.inl rfl) (pe_op op_fdivW (pe_op op_sub (pe_op op_add (pe_ix ix_tup (pv 0) pe_int (fun _ _ => rfl)) (pv 1)) pe_int) (pv 1)))
    (pss_cons (ps_set (i := 3) sc_l_top.nd rfl (Or.inl rfl) (pe_op op_add (pe_op op_add (pe_ix ix_tup (pv 0) pe_int (fun _ _ => rfl)) (pe_ix ix_tup (pv 0) pe_int (fun _ _ => rfl))) (pe_op op_mul (pv 1) (pv 2))))
    (pss_one (ps_ret (pe_ifExp (pt_cmpR op_isN (pe_ix ix_tup (pv 0) pe_int (fun _ _ => rfl)) pe_non (nomark _)) (pv 3) (pe_callB (call_min2 rfl) (by rfl) T.n_min (by decide +kernel) (pa_cons (pv 3) (pa_cons (pe_op op_add (pe_ix ix_tup (pv 0) pe_int (fun _ _ => rfl)) pe_int) pa_nil)))))))))), ?_⟩
  refine ⟨_, rfl, _, _, _, _, rfl, rfl, SqT.of hd, atI_nat (j := 6) rfl, ?_⟩
  refine ⟨fun m σ H' => ∃ j : Int, (m : Int) = den - j ∧ σ = [some (.ref d), some (.int (j * step)), none, none] ∧ H' = H ∧ 1 ≤ j ∧ j ≤ den, ⟨(den - 1).toNat, 1, by omega, by rw [Int.one_mul]; rfl, rfl, by omega, by omega⟩, ?_⟩
  rintro mm σ H' ⟨j, hmm, rfl, rfl, j0, j1⟩
  refine ⟨_, rfl, .inl ⟨_, rfl, _, rfl, _, _, _, _, rfl, rfl, SqT.of hd, atI_nat (j := 3) rfl, _, _, rfl, rfl, (by omega), rfl, _, rfl, ?_⟩⟩
  have fm : (j * step).fmod den = j * step % den := fmod_pos (by omega)
  by_cases e : j * step % den = 0
  · refine iteNP (show V.int ((j * step).fmod den) = V.int 0 by rw [fm, e]) ?_
    have js0 : 1 ≤ j * step := by
      have := Int.mul_le_mul j0 s0 (by decide) (by omega)
      omega
    have js1 : j * step ≤ 30 * 30 := Int.mul_le_mul (by omega) s1 (by omega) (by decide)
    have dvL : ∃ q : Int, j * step = (lcD den step : Int) * q := by
      have h1 : step ∣ ((j * step).toNat : Int) := by
        rw [Int.toNat_of_nonneg (by omega)]
        exact Int.dvd_mul_left ..
      have h2 : den ∣ ((j * step).toNat : Int) := by
        rw [Int.toNat_of_nonneg (by omega)]
        exact Int.dvd_of_emod_eq_zero e
      obtain ⟨q, hq⟩ := lcD_least o h1 h2
      refine ⟨(q : Int), ?_⟩
      have : (((j * step).toNat : Nat) : Int) = ((lcD den step * q : Nat) : Int) := by rw [hq]
      rw [Int.toNat_of_nonneg (by omega), Int.natCast_mul] at this
      exact this
    obtain ⟨q, hq⟩ := dvL
    generalize j * step = more at *
    refine ⟨_, rfl, _, _, _, _, rfl, rfl, SqT.of hd, atI_nat (j := 5) rfl, _, rfl, _, _, rfl, rfl, _, _, rfl, rfl, _, rfl, _, _, rfl, rfl, wide_div (b := 10) (by omega) (by omega) (by decide) (by decide), ?_⟩
    refine ⟨_, rfl, _, _, _, _, rfl, rfl, SqT.of hd, atI_nat (j := 5) rfl, _, rfl, _, _, _, _, rfl, rfl, SqT.of hd, atI_nat (j := 6) rfl, _, _, rfl, rfl, _, rfl, _, rfl, _, _, rfl, rfl, .inl ⟨by omega, by omega⟩, _, _, rfl, rfl, ?_⟩
    have mr : more * ((least + more - 1) / more) = fst least more := by unfold fst; rw [Int.mul_comm]
    have g1 := fst_ge (least := least) (s := more) l0 js0
    have g2 := fst_le (least := least) (s := more) l0 js0
    have g3 : fst least (lcD den step : Int) ≤ fst least more := by
      refine fst_least (k := q * ((least + more - 1) / more)) (by omega) ?_ g1
      rw [← mr, hq, Int.mul_assoc]
    have big := top_ok o (t := (least + step + fst least more).toNat) (by omega)
    cases u with
    | none =>
      refine ⟨_, rfl, _, _, _, _, rfl, rfl, SqT.of hd, atI_nat (j := 7) rfl, rfl, _, rfl, iteP rfl ⟨_, rfl, ?_⟩⟩
      have := k (least + step + fst least more).toNat (by omega) (by omega) (big _ rfl)
      rw [Int.toNat_of_nonneg (by omega), ← mr] at this
      exact this
    | some v =>
      have v0 := o.u0 v rfl
      have v1 := o.u1 v rfl
      refine ⟨_, rfl, _, _, _, _, rfl, rfl, SqT.of hd, atI_nat (j := 7) rfl, rfl, _, rfl, iteN (fun q => nomatch q) ⟨_, rfl, _, rfl, _, _, _, _, rfl, rfl, SqT.of hd, atI_nat (j := 7) rfl, _, _, rfl, rfl, _, _, rfl, ?_⟩⟩
      have pos : 0 ≤ (if v + 1 < least + step + fst least more then v + 1 else least + step + fst least more) := by split <;> omega
      have := k (if v + 1 < least + step + fst least more then v + 1 else least + step + fst least more).toNat (by split <;> omega) (by split <;> omega) (big _ (by
        rw [Int.toNat_of_nonneg pos]
        show _ = if v + 1 < (((least + step + fst least more).toNat : Nat) : Int) then v + 1 else (((least + step + fst least more).toNat : Nat) : Int)
        rw [Int.toNat_of_nonneg (by omega)]))
      rw [Int.toNat_of_nonneg pos, ← mr] at this
      exact this
  · have jl : j < den := by
      rcases Int.lt_or_le j den with q | q
      · exact q
      · have : j = den := by omega
        subst this
        exact absurd (Int.mul_emod_right j step) e
    refine iteNN (show ¬ V.int ((j * step).fmod den) = V.int 0 from fun q => e (by rw [← fm]; exact V.int.inj q)) ⟨fun σ H'' => ∃ j' : Int, ((mm - 1 : Nat) : Int) = den - j' ∧ σ = [some (.ref d), some (.int (j' * step)), none, none] ∧ H'' = H' ∧ 1 ≤ j' ∧ j' ≤ den, fun σ' H3 hw => ⟨mm - 1, by omega, hw⟩, ?_⟩
    refine ⟨_, rfl, _, rfl, _, _, _, _, rfl, rfl, SqT.of hd, atI_nat (j := 6) rfl, _, _, rfl, rfl, j + 1, by omega, ?_, rfl, by omega, by omega⟩
    rw [Int.add_mul, Int.one_mul]
    rfl
end
end Sm

set_option Elab.async false
set_option linter.all false
set_option maxRecDepth 100000
set_option maxHeartbeats 16000000
namespace Sm
open PySem PySem.Spec PyProof.Rows L2
open C8 (pss_cut tCut)
def sp_l_bests (_ : PySem.W.Frag) : Sp := fun vs H Q _ => ∃ (d : Addr) (n : Nat) (m : Nat) (num den least step : Int) (u : Option Int), vs = [.ref d, .int (n : Int)] ∧ H d = some (.tup (deskV m num den least step u)) ∧ Dk m num den least step u ∧ n ≤ 1900 ∧
  ∀ H' q b k xs, Same H H' → H' q = some (.tup [.ref b, .ref k]) → H' k = some (.lst xs) → Prs H' xs (st (fD m num den least step u) n).2 → Q (.ref q) H'
theorem max_cl {K : PySem.W.Frag} {σ : L2.St} {U : Addr} {ns : List Int} {c : Int} {H : Hp} {Q : VK} (hU : H U = some (.lst (ns.map V.int))) (h0 : 0 < ns.length) (h1 : ∀ m, m ∈ ns → (∀ y, y ∈ ns → y ≤ m) → m = c) (q : Q (.int c) H) : tNil σ H (fun xs H2 => rMax K (V.ref U :: xs) H2 Q) :=
  ⟨U, ns, rfl, SqL.of hU, h0, fun m hm hle => by rw [h1 m hm hle]; exact q⟩
section
variable {P : Program} {w : World} {K : PySem.W.Frag} {mg : Str → Option Value} {base : Heap}
abbrev s_l_bests : Stmt := topS 16
abbrev N_l_bests : List Str := ["_law_desk_here", "_law_top_here", "_law_best", "_law_found", "_law_x", "_law_tries", "_law_lesser", "_law_y", "_law_part"]
theorem sc_l_bests : FnScope N_l_bests ["_law_desk_here", "_law_top_here"] (defScope s_l_bests) := ⟨rfl, rfl, rfl, by decide +kernel, rfl, by decide +kernel, by decide +kernel⟩
theorem ok_l_bests (T : Txt mg) (D : Df K mg "_law_bests" s_l_bests ["_law_desk_here", "_law_top_here"]) (C_l_gives : Cal P w K mg base "_law_gives" ["_law_desk_here", "_law_x"] 1 (sp_l_gives K)) : Cal P w K mg base "_law_bests" ["_law_desk_here", "_law_top_here"] 2 (sp_l_bests K) := by
  obtain ⟨f_l_gives, fd_l_gives, G_l_gives, m_l_gives, k_l_gives, b_l_gives⟩ := C_l_gives
  refine D.cal sc_l_bests (fun vs H Q E h => ?_) (fun f cdv A outer s H vs Q E hr h => ?_)
  · obtain ⟨d, n, m, num, den, least, step, u, rfl, _⟩ := h
    rfl
  obtain ⟨d, n, m, num, den, least, step, u, rfl, hd, o, n2, k⟩ := h
  obtain ⟨f, hf⟩ : ∃ f, f = fD m num den least step u := ⟨_, rfl⟩
  rw [← hf] at k
  refine ⟨_, (pss_cons (ps_asg (pe_tup (pa_cons (pe_lst (pa_cons pe_int pa_nil)) (pa_cons (pe_lst pa_nil) pa_nil))) (pg_tup (by rfl) (pgs_cons (pg_name (i := 2) sc_l_bests.nd rfl (Or.inr rfl)) (pgs_cons (pg_name (i := 3) sc_l_bests.nd rfl (Or.inl rfl)) pgs_nil))))
    (pss_cons (ps_for PassesOwn.never rfl (pi_range2 (by rfl) T.n_range (pa_cons pe_int (pa_cons (pe_op op_add (pv 1) pe_int) pa_nil))) (pg_name (i := 4) sc_l_bests.nd rfl (Or.inr rfl))
      (pss_cons (ps_setLc (i := 5) (own := [("_law_part", 8), ("_law_y", 7)]) (g := gTup K 2 (gCons (gName 8) (gCons (gName 7) gNil))) (tt := tYes) rfl sc_l_bests.nd rfl rfl (sw_true rfl rfl rfl (by decide +kernel)) (pi_list (pv 3)) (blkOk_by (own := [("_law_part", 8), ("_law_y", 7)]) (N := N_l_bests) (sc := defScope s_l_bests) (by decide +kernel)) (fun _ _ _ _ _ => pg_tup (by rfl) (pgs_cons (pg_name (i := 8) sc_l_bests.nd rfl (Or.inl rfl)) (pgs_cons (pg_name (i := 7) sc_l_bests.nd rfl (Or.inl rfl)) pgs_nil))) (fun _ _ _ _ _ => pts_nil) (fun _ _ _ _ _ => (pe_op op_add (pe_ix (show IxR _ (rIxL K) from ix_list) (pv 2) (pe_op op_sub (pv 4) (pv 8)) (fun _ _ => rfl)) (pv 7))))
    (pss_cons (ps_set (i := 6) sc_l_bests.nd rfl (Or.inl rfl) (pe_callB (cr_max rfl) (by rfl) T.n_max (by decide +kernel) (pa_cons (pe_op op_cat (pe_lst (pa_cons (pe_ix ix_list (pv 2) (pe_op op_sub (pv 4) pe_int) (fun _ _ => rfl)) pa_nil)) (pv 5)) pa_nil)))
    (pss_cons (ps_set (i := 7) sc_l_bests.nd rfl (Or.inl rfl) (pe_call G_l_gives (hr.mono (by decide)) (by rfl) m_l_gives k_l_gives b_l_gives .nil pass0 (pa_cons (pv 0) (pa_cons (pv 4) pa_nil))))
    (pss_cons (ps_if (PW.pt (pw_and (pt_cmpR op_notN (pv 7) pe_non (nomark _)) (pw_and1 (pt_cmpR op_gt (pv 7) (pv 6) (nomark _))))) (pss_one (ps_expr (pe_bm PySem.F.plainAttrs_list PySem.F.slot_list_append PySem.F.type_list_append mt_append (pv 3) (pa_cons (pe_tup (pa_cons (pv 4) (pa_cons (pv 7) pa_nil))) pa_nil)))) pss_nil)
    (pss_one (ps_expr (pe_bm PySem.F.plainAttrs_list PySem.F.slot_list_append PySem.F.type_list_append mt_append (pv 2) (pa_cons (pe_ifExp (pt_cmpR op_isN (pv 7) pe_non (nomark _)) (pv 6) (pe_callB (call_max2 rfl) (by rfl) T.n_max (by decide +kernel) (pa_cons (pv 6) (pa_cons (pv 7) pa_nil)))) pa_nil)))))))))
    (pss_one (ps_ret (pe_tup (pa_cons (pv 2) (pa_cons (pv 3) pa_nil))))))), ?_⟩
  refine ⟨(by show 1 ≤ sizeLine; decide), fun A nA => ⟨Nat.zero_le _, fun B nB => ?_⟩⟩
  have sA := same_upd (o := .lst [.int 0]) nA
  have sB := same_upd (o := .lst []) nB
  have nAB : A ≠ B := ne_of_none upd_same nB
  refine ⟨(by show 2 ≤ sizeLine; decide), fun t0 nt0 => ?_⟩
  have sT := same_upd (o := .tup [.ref A, .ref B]) nt0
  refine ⟨_, _, rfl, SqT.of upd_same, rfl, _, _, rfl, _, _, rfl, rfl, ?_⟩
  refine ⟨_, rfl, _, _, rfl, rfl, _, _, rfl, ⟨by omega, by omega, by omega, by omega⟩, ?_⟩
  refine for_range (lo := _) (n := _) (fun i σ H' => ∃ (xs : List V) (v4 v5 v6 v7 : Option V), σ = [some (.ref d), some (.int (n : Int)), some (.ref A), some (.ref B), v4, v5, v6, v7, none] ∧ Same H H' ∧ (∀ b o, H b = some o → b ≠ A ∧ b ≠ B) ∧ H' A = some (.lst ((st f i).1.map V.int)) ∧ H' B = some (.lst xs) ∧ Prs H' xs (st f i).2)
    ⟨[], none, none, none, none, rfl, sA.trans (sB.trans sT), fun b o h => ⟨ne_of_none h nA, ne_of_none (sA _ _ h) nB⟩, sT _ _ (sB _ _ upd_same), sT _ _ upd_same, Prs.nil⟩ ?_ ?_
  · rintro i σ H' hi ⟨xs, v4, v5, v6, v7, rfl, s', ne, hA, hB, prs⟩
    have hi : i < n := by omega
    have ix : (1 : Int) + (i : Int) = ((i + 1 : Nat) : Int) := by omega
    have sl := st_len (f := f) i
    have kl := st_short (f := f) i
    have lx := prs.len
    refine ⟨_, rfl, B, rfl, ⟨_, SqL.of hB⟩, fun U nU => ?_⟩
    have sU := same_upd (o := .lst []) nU
    refine lc_list (K := K) (a := B) (xs := xs) (fun j H2 => Same H' H2 ∧ H2 U = some (.lst (((cands (st f i).1 (st f i).2 (i + 1)).take j).map V.int))) ⟨sU, upd_same⟩ (fun j H2 _ h => SqL.of (h.1 _ _ hB)) ?_ ?_
    · rintro j v H2 hv ⟨s2, hU⟩
      obtain ⟨⟨p, y⟩, hk, t, rfl, ht⟩ := prs.at hv
      have hm : (p, y) ∈ (st f i).2 := List.mem_of_getElem? hk
      obtain ⟨q1, q2, q3⟩ := st_mem.mp hm
      have p1 := q2.1
      have cj : (cands (st f i).1 (st f i).2 (i + 1))[j]? = some ((st f i).1.getD (i + 1 - p) 0 + y) := by
        unfold cands
        rw [List.getElem?_map, hk]
        rfl
      refine ⟨t, _, rfl, SqT.of (s2 _ _ ht), rfl, _, _, rfl, _, _, rfl, rfl, rfl, ?_⟩
      unfold tYes
      refine iteT ?_
      refine ⟨_, rfl, _, rfl, _, rfl, _, _, rfl, rfl, _, _, _, _, rfl, rfl, SqL.of (s2 _ _ hA), at_of (j := i + 1 - p) (by omega) (get_int' (by omega)), _, rfl, _, _, rfl, rfl, _, hU, ?_, fun b o e => ?_, ?_⟩
      · rw [List.length_map, List.length_take]
        have := (List.getElem?_eq_some_iff.mp hk).1
        exact Nat.lt_of_le_of_lt (show _ ≤ 2000 by omega) (by decide)
      · rw [upd_ne (ne_of_none e nU)]
        exact s2 _ _ e
      · rw [upd_same, take_snoc cj, List.map_append]
        rfl
    rintro H2 ⟨s2, hU⟩
    rw [List.take_of_length_le (by unfold cands; rw [List.length_map]; omega)] at hU
    have hA2 := s2 _ _ hA
    have hB2 := s2 _ _ hB
    have prs2 := prs.same s2
    have s3 := s'.trans s2
    have e1 : (1 : Int) + (i : Int) - 1 = (i : Int) := by omega
    have gS : (st f i).1.getD i 0 = Sf f i := rfl
    -- lesser
    refine ⟨_, rfl, _, rfl, _, _, rfl, rfl, _, _, _, _, rfl, rfl, SqL.of hA2, at_of (j := i) e1 (get_int' (by omega)), (by show 1 ≤ sizeLine; decide), fun c nc => ?_⟩
    have sc := same_upd (o := .lst [.int ((st f i).1.getD i 0)]) nc
    refine ⟨_, rfl, _, _, _, _, rfl, rfl, upd_same, sc _ _ hU, ?_, fun g ng => ?_⟩
    · rw [List.length_map]
      unfold cands
      rw [List.length_map]
      exact Nat.le_trans (show 1 + _ ≤ 2000 by omega) (by decide)
    have sg := same_upd (o := .lst ([V.int ((st f i).1.getD i 0)] ++ (cands (st f i).1 (st f i).2 (i + 1)).map V.int)) ng
    have hg : ∀ H9 : Hp, H9 g = some (.lst ([V.int ((st f i).1.getD i 0)] ++ (cands (st f i).1 (st f i).2 (i + 1)).map V.int)) → H9 g = some (.lst ((Sf f i :: cands (st f i).1 (st f i).2 (i + 1)).map V.int)) := fun H9 h => h
    refine max_cl (hg _ upd_same) (by simp) (fun mm hm hle => cl_less hm hle) ?_
    have s4 := sc.trans sg
    have hA4 := s4 _ _ hA2
    have hB4 := s4 _ _ hB2
    have prs4 := prs2.same s4
    have s5 := s3.trans s4
    have hd4 := s5 _ _ hd
    generalize upd (upd H2 c (.lst [.int ((st f i).1.getD i 0)])) g (.lst ([V.int ((st f i).1.getD i 0)] ++ (cands (st f i).1 (st f i).2 (i + 1)).map V.int)) = H4 at s4 hA4 hB4 prs4 s5 hd4 ⊢
    have lnA : ((st f i).1.map V.int).length < sizeLine := by
      rw [List.length_map, sl]
      exact Nat.lt_of_le_of_lt (show i + 1 ≤ 2000 by omega) (by decide)
    have lnB : xs.length < sizeLine := Nat.lt_of_le_of_lt (show xs.length ≤ 2000 by omega) (by decide)
    have nextst : st f (i + 1) = stp f (st f i) (i + 1) := rfl
    have nk : cd f (i + 1) = cl (st f i).1 (st f i).2 (i + 1) := rfl
    -- no more
    have no : ¬ f (i + 1) > cl (st f i).1 (st f i).2 (i + 1) → ∃ (xs' : List V), Same H (upd H4 A (.lst ((st f i).1.map V.int ++ [.int (cl (st f i).1 (st f i).2 (i + 1))]))) ∧ (∀ b o, H b = some o → b ≠ A ∧ b ≠ B) ∧ upd H4 A (.lst ((st f i).1.map V.int ++ [.int (cl (st f i).1 (st f i).2 (i + 1))])) A = some (.lst ((st f (i + 1)).1.map V.int)) ∧ upd H4 A (.lst ((st f i).1.map V.int ++ [.int (cl (st f i).1 (st f i).2 (i + 1))])) B = some (.lst xs') ∧ Prs (upd H4 A (.lst ((st f i).1.map V.int ++ [.int (cl (st f i).1 (st f i).2 (i + 1))]))) xs' (st f (i + 1)).2 := by
      intro c
      have e1 : stp f (st f i) (i + 1) = ((st f i).1 ++ [cl (st f i).1 (st f i).2 (i + 1)], (st f i).2) := if_neg c
      refine ⟨xs, fun b o h => ?_, ne, ?_, ?_, ?_⟩
      · rw [upd_ne (ne b o h).1]
        exact s5 _ _ h
      · rw [upd_same, nextst, e1, List.map_append]
        rfl
      · rw [upd_ne nAB.symm]
        exact hB4
      · rw [nextst, e1]
        exact prs4.updL hA4
    refine ⟨_, rfl, _, rfl, d, 1 + (i : Int), m, num, den, least, step, u, rfl, hd4, o, fun tk => ?_, fun nt => ?_⟩
    · have hy : Gm m (num * (1 + (i : Int))) den = f (i + 1) := by
        rw [ix] at tk ⊢
        rw [hf]
        exact (Fv_tk tk).symm
      rw [hy]
      refine ⟨_, rfl, rfl, _, rfl, iteNN (fun q => nomatch q) ⟨_, rfl, _, rfl, _, _, rfl, rfl, _, rfl, ?_⟩⟩
      by_cases c : f (i + 1) > cl (st f i).1 (st f i).2 (i + 1)
      · have e1 : stp f (st f i) (i + 1) = ((st f i).1 ++ [f (i + 1)], (st f i).2 ++ [(i + 1, f (i + 1))]) := if_pos c
        refine iteP c ⟨_, rfl, .inl ⟨rfl, _, SqL.of hB4⟩, _, rfl, _, rfl, (by show 2 ≤ sizeLine; decide), fun t nt => ?_⟩
        have st' := same_upd (o := .tup [.int (1 + (i : Int)), .int (f (i + 1))]) nt
        refine ⟨B, _, _, rfl, rfl, st' _ _ hB4, lnB, ?_⟩
        have ht : upd H4 t (.tup [.int (1 + (i : Int)), .int (f (i + 1))]) t = some (.tup [.int (1 + (i : Int)), .int (f (i + 1))]) := upd_same
        have hA5 : upd (upd H4 t (.tup [.int (1 + (i : Int)), .int (f (i + 1))])) B (.lst (xs ++ [.ref t])) A = some (.lst ((st f i).1.map V.int)) := by
          rw [upd_ne nAB]
          exact st' _ _ hA4
        refine ⟨_, rfl, .inl ⟨rfl, _, SqL.of hA5⟩, _, rfl, rfl, _, rfl, iteN (fun q => nomatch q) ⟨_, rfl, _, rfl, _, _, rfl, A, _, _, rfl, rfl, hA5, lnA, ?_⟩⟩
        rw [if_pos c]
        have pt : PrAt (upd H4 t (.tup [.int (1 + (i : Int)), .int (f (i + 1))])) (.ref t) (i + 1, f (i + 1)) := ⟨t, rfl, by rw [ht, ix]⟩
        have hB5 := st' _ _ hB4
        have p3 := (((prs4.same st').app pt).updL (zs := xs ++ [.ref t]) hB5).updL (zs := (st f i).1.map V.int ++ [.int (f (i + 1))]) hA5
        refine ⟨xs ++ [.ref t], _, _, _, _, rfl, fun b o h => ?_, ne, ?_, ?_, ?_⟩
        · rw [upd_ne (ne b o h).1, upd_ne (ne b o h).2]
          exact st' _ _ (s5 _ _ h)
        · rw [upd_same, nextst, e1, List.map_append]
          rfl
        · rw [upd_ne nAB.symm, upd_same]
        · rw [nextst, e1]
          exact p3
      · obtain ⟨xs', w1, w2, w3, w4, w5⟩ := no c
        refine iteN c ?_
        refine ⟨_, rfl, .inl ⟨rfl, _, SqL.of hA4⟩, _, rfl, rfl, _, rfl, iteN (fun q => nomatch q) ⟨_, rfl, _, rfl, _, _, rfl, A, _, _, rfl, rfl, hA4, lnA, ?_⟩⟩
        rw [if_neg c]
        exact ⟨xs', _, _, _, _, rfl, w1, w2, w3, w4, w5⟩
    · have c : ¬ f (i + 1) > cl (st f i).1 (st f i).2 (i + 1) := by
        intro c
        refine nt ?_
        rw [ix]
        exact kep_tk o (n := i + 1) ⟨by omega, by rw [← hf, nk]; exact c⟩
      obtain ⟨xs', w1, w2, w3, w4, w5⟩ := no c
      refine ⟨_, rfl, rfl, _, rfl, iteNP rfl ?_⟩
      refine iteF ?_
      exact ⟨_, rfl, .inl ⟨rfl, _, SqL.of hA4⟩, _, rfl, rfl, _, rfl, iteP rfl ⟨_, rfl, A, _, _, rfl, rfl, hA4, lnA, xs', _, _, _, _, rfl, w1, w2, w3, w4, w5⟩⟩
  · rintro σ H' ⟨xs, v4, v5, v6, v7, rfl, s', ne, hA, hB, prs⟩
    refine ⟨_, rfl, _, rfl, (by show 2 ≤ sizeLine; decide), fun q nq => ?_⟩
    have sq := same_upd (o := .tup [.ref A, .ref B]) nq
    have e : ((n : Int) + 1 - 1).toNat = n := by omega
    rw [e] at prs
    exact k _ q A B xs (s'.trans sq) upd_same (sq _ _ hB) (prs.same sq)
end
end Sm

set_option Elab.async false
set_option linter.all false
set_option maxRecDepth 100000
set_option maxHeartbeats 16000000
namespace Sm
open PySem PySem.Spec PyProof.Rows L2
open C8 (pss_cut tCut)
theorem ints_eqvAll : ∀ I J : List Int, PyData.eqvAll (I.map PyData.int) (J.map PyData.int) = decide (I = J)
  | [], [] => by simp [PyData.eqvAll]
  | [], j :: J => by simp [PyData.eqvAll]
  | i :: I, [] => by simp [PyData.eqvAll]
  | i :: I, j :: J => by
    have := ints_eqvAll I J
    simp only [List.map_cons, PyData.eqvAll, this]
    simp [PyData.eqv]
    rfl
theorem ints_eqv (I J : List Int) : PyData.eqv (.list (I.map PyData.int)) (.list (J.map PyData.int)) = decide (I = J) := by
  rw [← ints_eqvAll]
  simp [PyData.eqv]
theorem ints_shaped (I : List Int) : SeqAt.shaped (.list (I.map PyData.int)) = true := by
  have a : PyData.canLayAll0 (I.map PyData.int) = true := by
    induction I with
    | nil => rfl
    | cons i I ih => simp [PyData.canLayAll0, PyData.canLay0, ih]
  have b := depth_ints I
  have c : PyData.depth (.list (I.map PyData.int)) ≤ 64 := by
    simp only [PyData.depth]
    omega
  simp [SeqAt.shaped, PyData.canLay0, a, c]
theorem cut_from {xs : List V} {n : Nat} (h : n ≤ xs.length) : cutV xs (some (n : Int)) none = xs.drop n := by
  unfold cutV
  rw [HT.sIx_none, HT.sIx_nat, Nat.min_eq_left h]
  exact List.take_of_length_le (by rw [List.length_drop]; omega)
def sp_l_given (_ : PySem.W.Frag) : Sp := fun vs H Q _ => ∃ (a : Addr) (xs : List V) (U : List (Nat × Int)) (n : Nat), vs = [.ref a, .int (n : Int)] ∧ H a = some (.lst xs) ∧ Prs H xs U ∧ (∀ k ∈ U, 1 ≤ k.1) ∧ n ≤ 1900 ∧ U.length ≤ 1900 ∧
  ∀ H' q, Same H H' → H' q = some (.lst ((gvn U n).map V.int)) → Q (.ref q) H'
theorem Prs.take {H : Hp} {xs : List V} {K : List (Nat × Int)} (h : Prs H xs K) (n : Nat) : Prs H (xs.take n) (K.take n) := by
  refine ⟨by rw [List.length_take, List.length_take, h.len], fun i k hk => ?_⟩
  have lt : i < n := by
    have := (List.getElem?_eq_some_iff.mp hk).1
    rw [List.length_take] at this
    omega
  rw [List.getElem?_take_of_lt lt] at hk ⊢
  exact h.get i k hk
theorem Prs.drop {H : Hp} {xs : List V} {K : List (Nat × Int)} (h : Prs H xs K) (n : Nat) : Prs H (xs.drop n) (K.drop n) := by
  refine ⟨by rw [List.length_drop, List.length_drop, h.len], fun i k hk => ?_⟩
  rw [List.getElem?_drop] at hk ⊢
  exact h.get _ k hk
theorem Prs.cat {H : Hp} {xs ys : List V} {K L : List (Nat × Int)} (h : Prs H xs K) (g : Prs H ys L) : Prs H (xs ++ ys) (K ++ L) := by
  refine ⟨by rw [List.length_append, List.length_append, h.len, g.len], fun i k hk => ?_⟩
  by_cases q : i < K.length
  · rw [List.getElem?_append_left q] at hk
    rw [List.getElem?_append_left (by rw [h.len]; exact q)]
    exact h.get i k hk
  · rw [List.getElem?_append_right (by omega)] at hk
    rw [List.getElem?_append_right (by rw [h.len]; omega), h.len]
    exact g.get _ k hk
theorem st_sorted {f : Nat → Int} : ∀ n, (st f n).2.Pairwise (fun a b => a.1 < b.1)
  | 0 => List.Pairwise.nil
  | n + 1 => by
    have ih := st_sorted (f := f) n
    show (stp f (st f n) (n + 1)).2.Pairwise _
    unfold stp
    split
    · show ((st f n).2 ++ [(n + 1, f (n + 1))]).Pairwise _
      refine List.pairwise_append.mpr ⟨ih, List.pairwise_singleton _ _, fun a ha b hb => ?_⟩
      rw [List.mem_singleton.mp hb]
      obtain ⟨i, w⟩ := a
      have := (st_mem.mp ha).1
      show i < n + 1
      omega
    · exact ih
/-- all but one -/
theorem but_one {f : Nat → Int} {n i p : Nat} {y : Int} (h : (st f n).2[i]? = some (p, y)) : ∀ k ∈ (st f n).2.take i ++ (st f n).2.drop (i + 1), kep f k.1 ∧ k.2 = f k.1 ∧ k.1 ≠ p := by
  have so := List.pairwise_iff_getElem.mp (st_sorted (f := f) n)
  obtain ⟨hi, e⟩ := List.getElem?_eq_some_iff.mp h
  intro k hk
  have all : ∀ j (hj : j < (st f n).2.length), (st f n).2[j] = k → j ≠ i → kep f k.1 ∧ k.2 = f k.1 ∧ k.1 ≠ p := by
    intro j hj ej ne
    have hm : (k.1, k.2) ∈ (st f n).2 := by
      show k ∈ _
      rw [← ej]
      exact List.getElem_mem hj
    obtain ⟨_, h2, h3⟩ := st_mem.mp hm
    refine ⟨h2, h3, ?_⟩
    rcases Nat.lt_or_gt_of_ne ne with q | q
    · have := so j i hj hi q
      rw [ej, e] at this
      have : k.1 < p := this
      omega
    · have := so i j hi hj q
      rw [ej, e] at this
      have : p < k.1 := this
      omega
  rcases List.mem_append.mp hk with hk | hk
  · obtain ⟨j, hj, ej⟩ := List.mem_iff_getElem.mp hk
    rw [List.length_take] at hj
    rw [List.getElem_take] at ej
    exact all j (by omega) ej (by omega)
  · obtain ⟨j, hj, ej⟩ := List.mem_iff_getElem.mp hk
    rw [List.length_drop] at hj
    rw [List.getElem_drop] at ej
    exact all (i + 1 + j) (by omega) ej (by omega)
section
variable {P : Program} {w : World} {K : PySem.W.Frag} {mg : Str → Option Value} {base : Heap}
abbrev s_l_given : Stmt := topS 18
abbrev N_l_given : List Str := ["_law_uses", "_law_top_here", "_law_best", "_law_x", "_law_part", "_law_y"]
theorem sc_l_given : FnScope N_l_given ["_law_uses", "_law_top_here"] (defScope s_l_given) := ⟨rfl, rfl, rfl, by decide +kernel, rfl, by decide +kernel, by decide +kernel⟩
theorem ok_l_given (T : Txt mg) (D : Df K mg "_law_given" s_l_given ["_law_uses", "_law_top_here"]) : Cal P w K mg base "_law_given" ["_law_uses", "_law_top_here"] 1 (sp_l_given K) := by
  refine D.cal sc_l_given (fun vs H Q E h => ?_) (fun f cdv A outer s H vs Q E hr h => ?_)
  · obtain ⟨a, xs, U, n, rfl, _⟩ := h
    rfl
  obtain ⟨a, xs, U, n, rfl, ha, prs, pos, n2, ul, k⟩ := h
  refine ⟨_, (pss_cons (ps_set (i := 2) sc_l_given.nd rfl (Or.inr rfl) (pe_lst (pa_cons pe_int pa_nil)))
    (pss_cons (ps_for PassesOwn.never rfl (pi_range2 (by rfl) T.n_range (pa_cons pe_int (pa_cons (pe_op op_add (pv 1) pe_int) pa_nil))) (pg_name (i := 3) sc_l_given.nd rfl (Or.inr rfl))
      (pss_one (ps_expr (pe_bm PySem.F.plainAttrs_list PySem.F.slot_list_append PySem.F.type_list_append mt_append (pv 2) (pa_cons (pe_callB (cr_max rfl) (by rfl) T.n_max (by decide +kernel) (pa_cons (pe_op op_cat (pe_lst (pa_cons (pe_ix ix_list (pv 2) (pe_op op_sub (pv 3) pe_int) (fun _ _ => rfl)) pa_nil)) (pe_lc (own := [("_law_part", 4), ("_law_y", 5)]) (g := gTup K 2 (gCons (gName 4) (gCons (gName 5) gNil))) (tt := _) rfl sc_l_given.nd (pi_list (pv 0)) (blkOk_by (own := [("_law_part", 4), ("_law_y", 5)]) (N := N_l_given) (sc := defScope s_l_given) (by decide +kernel)) (fun _ _ _ _ _ => pg_tup (by rfl) (pgs_cons (pg_name (i := 4) sc_l_given.nd rfl (Or.inl rfl)) (pgs_cons (pg_name (i := 5) sc_l_given.nd rfl (Or.inl rfl)) pgs_nil))) (fun _ _ _ _ _ => pts_one (pt_cmpR op_le (pv 4) (pv 3) (nomark _))) (fun _ _ _ _ _ => (pe_op op_add (pe_ix (show IxR _ (rIxL K) from ix_list) (pv 2) (pe_op op_sub (pv 3) (pv 4)) (fun _ _ => rfl)) (pv 5))))) pa_nil)) pa_nil)))))
    (pss_one (ps_ret (pv 2))))), ?_⟩
  refine ⟨(by show 1 ≤ sizeLine; decide), fun A nA => ?_⟩
  have sA := same_upd (o := .lst [.int 0]) nA
  refine ⟨_, rfl, _, _, rfl, rfl, _, _, rfl, ⟨by omega, by omega, by omega, by omega⟩, ?_⟩
  refine for_range (lo := _) (n := _) (fun i σ H' => ∃ (v3 : Option V), σ = [some (.ref a), some (.int (n : Int)), some (.ref A), v3, none, none] ∧ Same H H' ∧ (∀ b o, H b = some o → b ≠ A) ∧ H' A = some (.lst ((gvn U i).map V.int)))
    ⟨none, rfl, sA, fun b o h => ne_of_none h nA, upd_same⟩ ?_ ?_
  · rintro i σ H' hi ⟨v3, rfl, s', ne, hA⟩
    have hi : i < n := by omega
    have gl := gvn_len U i
    have lx := prs.len
    have e1 : (1 : Int) + (i : Int) - 1 = (i : Int) := by omega
    have ha' := s' _ _ ha
    refine ⟨_, rfl, .inl ⟨rfl, _, SqL.of hA⟩, ?_⟩
    refine ⟨_, rfl, _, rfl, _, _, rfl, rfl, _, _, _, _, rfl, rfl, SqL.of hA, at_of (j := i) e1 (get_int' (by omega)), (by show 1 ≤ sizeLine; decide), fun c nc => ?_⟩
    have sc := same_upd (o := .lst [.int ((gvn U i).getD i 0)]) nc
    have hc : upd H' c (.lst [.int ((gvn U i).getD i 0)]) c = some (.lst [.int ((gvn U i).getD i 0)]) := upd_same
    have haC := sc _ _ ha'
    have hAC := sc _ _ hA
    have prsC := (prs.same s').same sc
    have sC := s'.trans sc
    generalize upd H' c (.lst [.int ((gvn U i).getD i 0)]) = HC at sc hc haC hAC prsC sC ⊢
    refine ⟨_, rfl, a, rfl, ⟨_, SqL.of haC⟩, fun B nB => ?_⟩
    have sB := same_upd (o := .lst []) nB
    have small : ∀ j, (((U.take j).filter fun k => decide (k.1 ≤ i + 1)).map fun k => (gvn U i).getD (i + 1 - k.1) 0 + k.2).length ≤ 1900 := by
      intro j
      rw [List.length_map]
      refine Nat.le_trans (List.length_filter_le ..) ?_
      rw [List.length_take]
      omega
    refine lc_list (K := K) (a := a) (xs := xs) (fun j H2 => Same HC H2 ∧ H2 B = some (.lst ((((U.take j).filter fun k => decide (k.1 ≤ i + 1)).map fun k => (gvn U i).getD (i + 1 - k.1) 0 + k.2).map V.int))) ⟨sB, upd_same⟩ (fun j H2 _ h => SqL.of (h.1 _ _ haC)) ?_ ?_
    · rintro j v H2 hv ⟨s2, hB⟩
      obtain ⟨⟨p, y⟩, hk, t, rfl, ht⟩ := prsC.at hv
      have p1 : 1 ≤ p := pos _ (List.mem_of_getElem? hk)
      refine ⟨t, _, rfl, SqT.of (s2 _ _ ht), rfl, _, _, rfl, _, _, rfl, rfl, rfl, ?_⟩
      refine ⟨_, rfl, _, rfl, _, _, rfl, rfl, _, rfl, ?_⟩
      have tk := take_snoc hk
      by_cases c : p ≤ i + 1
      · refine iteP (show (p : Int) ≤ 1 + (i : Int) by omega) ?_
        refine ⟨_, rfl, _, rfl, _, rfl, _, _, rfl, rfl, _, _, _, _, rfl, rfl, SqL.of (s2 _ _ hAC), at_of (j := i + 1 - p) (by omega) (get_int' (by omega)), _, rfl, _, _, rfl, rfl, _, hB, ?_, fun b o e => ?_, ?_⟩
        · rw [List.length_map]
          exact Nat.lt_of_le_of_lt (small j) (by decide)
        · rw [upd_ne (ne_of_none e nB)]
          exact s2 _ _ e
        · rw [upd_same, tk, List.filter_append, List.filter_cons_of_pos (by exact decide_eq_true c), List.map_append, List.map_append]
          rfl
      · refine iteN (show ¬ (p : Int) ≤ 1 + (i : Int) by omega) ⟨s2, ?_⟩
        rw [hB, tk, List.filter_append, List.filter_cons_of_neg (by intro q; exact c (of_decide_eq_true q))]
        show _ = some (HO.lst (((_ ++ []).map _).map V.int))
        rw [List.append_nil]
    rintro H2 ⟨s2, hB⟩
    rw [List.take_of_length_le (by omega)] at hB
    refine ⟨_, _, _, _, rfl, rfl, s2 _ _ hc, hB, ?_, fun g ng => ?_⟩
    · rw [List.length_map]
      have := small U.length
      rw [List.take_length] at this
      exact Nat.le_trans (show 1 + _ ≤ 2000 by omega) (by decide)
    have sg := same_upd (o := .lst ([V.int ((gvn U i).getD i 0)] ++ ((U.filter fun k => decide (k.1 ≤ i + 1)).map fun k => (gvn U i).getD (i + 1 - k.1) 0 + k.2).map V.int)) ng
    have hg : ∀ H9 : Hp, H9 g = some (.lst ([V.int ((gvn U i).getD i 0)] ++ ((U.filter fun k => decide (k.1 ≤ i + 1)).map fun k => (gvn U i).getD (i + 1 - k.1) 0 + k.2).map V.int)) → H9 g = some (.lst (((gvn U i).getD i 0 :: ((U.filter fun k => decide (k.1 ≤ i + 1)).map fun k => (gvn U i).getD (i + 1 - k.1) 0 + k.2)).map V.int)) := fun H9 h => h
    refine max_cl (hg _ upd_same) (by simp) (fun mm hm hle => fold_eq hm hle) ?_
    have s4 := s2.trans sg
    have hA4 := s4 _ _ hAC
    refine ⟨A, _, _, rfl, rfl, hA4, ?_, _, rfl, fun b o h => ?_, ne, ?_⟩
    · rw [List.length_map, gl]
      exact Nat.lt_of_le_of_lt (show i + 1 ≤ 2000 by omega) (by decide)
    · rw [upd_ne (ne b o h)]
      exact s4 _ _ (sC _ _ h)
    · rw [upd_same]
      show _ = some (HO.lst ((gvn U i ++ [_]).map V.int))
      rw [List.map_append]
      rfl
  · rintro σ H' ⟨v3, rfl, s', ne, hA⟩
    have e : ((n : Int) + 1 - 1).toNat = n := by omega
    rw [e] at hA
    exact ⟨_, rfl, k H' A s' hA⟩
end
end Sm

set_option Elab.async false
set_option linter.all false
set_option maxRecDepth 100000
set_option maxHeartbeats 16000000
namespace Sm
open PySem PySem.Spec PyProof.Rows L2
open C8 (pss_cut tCut)
def sp_l_all_right (_ : PySem.W.Frag) : Sp := fun vs H Q _ => ∃ (d k : Addr) (xs : List V) (m : Nat) (num den least step : Int) (u : Option Int), vs = [.ref d, .ref k] ∧ H d = some (.tup (deskV m num den least step u)) ∧ Dk m num den least step u ∧
  H k = some (.lst xs) ∧ Prs H xs (st (fD m num den least step u) (cntD den least step u - 1)).2 ∧ ∀ H', Same H H' → Q (.bl true) H'
theorem cnt_le {m : Nat} {num den least s : Int} {u : Option Int} (o : Dk m num den least s u) : 2 ≤ cntD den least s u ∧ cntD den least s u ≤ 1100 := by
  have l0 := o.l0
  have l1 := o.l1
  have s0 := o.s0
  have s1 := o.s1
  obtain ⟨c1, c2⟩ := lcD_pos o
  have f1 := fst_ge (least := least) (s := s) l0 s0
  have f2 := fst_le (least := least) (s := s) l0 s0
  have f3 := fst_ge (least := least) (s := (lcD den s : Int)) l0 (by omega)
  have f4 := fst_le (least := least) (s := (lcD den s : Int)) l0 (by omega)
  cases u with
  | none =>
    show 2 ≤ (fst least s + fst least (lcD den s : Int)).toNat ∧ (fst least s + fst least (lcD den s : Int)).toNat ≤ 1100
    omega
  | some v =>
    have := o.u0 v rfl
    have := o.u1 v rfl
    show 2 ≤ v.toNat + 1 ∧ v.toNat + 1 ≤ 1100
    omega
/-- the law's own pairs: all that the desk takes -/
structure UsesUp (f : Nat → Int) (t : Nat → Prop) (U : List (Nat × Int)) (j : Nat) : Prop where
  ok : ∀ k ∈ U, 1 ≤ k.1 ∧ k.2 ≤ Sf f k.1
  all : ∀ s, 1 ≤ s → s ≤ j → t s → (s, f s) ∈ U
  len : U.length ≤ j
section
variable {P : Program} {w : World} {K : PySem.W.Frag} {mg : Str → Option Value} {base : Heap}
abbrev s_l_all_right : Stmt := topS 19
abbrev N_l_all_right : List Str := ["_law_desk_here", "_law_found", "_law_top_here", "_law_uses", "_law_at", "_law_rest", "_law_x"]
theorem sc_l_all_right : FnScope N_l_all_right ["_law_desk_here", "_law_found"] (defScope s_l_all_right) := ⟨rfl, rfl, rfl, by decide +kernel, rfl, by decide +kernel, by decide +kernel⟩
theorem ok_l_all_right (T : Txt mg) (D : Df K mg "_law_all_right" s_l_all_right ["_law_desk_here", "_law_found"]) (C_l_given : Cal P w K mg base "_law_given" ["_law_uses", "_law_top_here"] 1 (sp_l_given K)) (C_l_gives : Cal P w K mg base "_law_gives" ["_law_desk_here", "_law_x"] 1 (sp_l_gives K)) (C_l_top : Cal P w K mg base "_law_top" ["_law_desk_here"] 1 (sp_l_top K)) : Cal P w K mg base "_law_all_right" ["_law_desk_here", "_law_found"] 2 (sp_l_all_right K) := by
  obtain ⟨f_l_given, fd_l_given, G_l_given, m_l_given, k_l_given, b_l_given⟩ := C_l_given
  obtain ⟨f_l_gives, fd_l_gives, G_l_gives, m_l_gives, k_l_gives, b_l_gives⟩ := C_l_gives
  obtain ⟨f_l_top, fd_l_top, G_l_top, m_l_top, k_l_top, b_l_top⟩ := C_l_top
  refine D.cal sc_l_all_right (fun vs H Q E h => ?_) (fun f cdv A outer s H vs Q E hr h => ?_)
  · obtain ⟨d, k, xs, m, num, den, least, step, u, rfl, _⟩ := h
    rfl
  obtain ⟨d, kk, xs, m, num, den, least, step, u, rfl, hd, o, hk, prs, k⟩ := h
  obtain ⟨cn1, cn2⟩ := cnt_le o
  obtain ⟨f, hf⟩ : ∃ f, f = fD m num den least step u := ⟨_, rfl⟩
  rw [← hf] at prs
  refine ⟨_, (pss_cons (ps_set (i := 2) sc_l_all_right.nd rfl (Or.inl rfl) (pe_callB (call_min2 rfl) (by rfl) T.n_min (by decide +kernel) (pa_cons (pe_call G_l_top (hr.mono (by decide)) (by rfl) m_l_top k_l_top b_l_top .nil pass0 (pa_cons (pv 0) pa_nil)) (pa_cons pe_int pa_nil))))
    (pss_cons (ps_setLc (i := 3) (own := [("_law_x", 6)]) (g := gName 6) (tt := _) rfl sc_l_all_right.nd rfl rfl (sw_true rfl rfl rfl (by decide +kernel)) (pi_range2 (by rfl) T.n_range (pa_cons pe_int (pa_cons (pe_op op_add (pv 2) pe_int) pa_nil))) (blkOk_by (own := [("_law_x", 6)]) (N := N_l_all_right) (sc := defScope s_l_all_right) (by decide +kernel)) (fun _ _ _ _ _ => pg_name (i := 6) sc_l_all_right.nd rfl (Or.inl rfl)) (fun _ _ _ _ _ => pts_one (pt_cmpR op_notN (pe_call G_l_gives (hr.mono (by decide)) (by rfl) m_l_gives k_l_gives b_l_gives .nil pass0 (pa_cons (pv 0) (pa_cons (pv 6) pa_nil))) pe_non (nomark _))) (fun _ _ _ _ _ => (pe_tup (pa_cons (pv 6) (pa_cons (pe_call G_l_gives (hr.mono (by decide)) (by rfl) m_l_gives k_l_gives b_l_gives .nil pass0 (pa_cons (pv 0) (pa_cons (pv 6) pa_nil))) pa_nil)))))
    (pss_cons (ps_if (pt_cmpR (op_neD hr.units) (pe_call G_l_given (hr.mono (by decide)) (by rfl) m_l_given k_l_given b_l_given .nil pass0 (pa_cons (pv 3) (pa_cons (pv 2) pa_nil))) (pe_call G_l_given (hr.mono (by decide)) (by rfl) m_l_given k_l_given b_l_given .nil pass0 (pa_cons (pv 1) (pa_cons (pv 2) pa_nil))) (nomark _)) (pss_one (ps_ret pe_bl)) pss_nil)
    (pss_cons (ps_for PassesOwn.never rfl (pi_range1 (by rfl) T.n_range (pa_cons (pe_callB (call_min2 rfl) (by rfl) T.n_min (by decide +kernel) (pa_cons pe_int (pa_cons (pe_callB call_len_seq (by rfl) T.n_len (by decide +kernel) (pa_cons (pv 1) pa_nil)) pa_nil))) pa_nil)) (pg_name (i := 4) sc_l_all_right.nd rfl (Or.inl rfl))
      (pss_cons (ps_set (i := 5) sc_l_all_right.nd rfl (Or.inl rfl) (pe_op op_cat (pe_slice sl_list (pv 1) po_none (po_some (pv 4))) (pe_slice sl_list (pv 1) (po_some (pe_op op_add (pv 4) pe_int)) po_none)))
    (pss_one (ps_if (pt_cmpR op_ge (pe_ix ix_list (pe_call G_l_given (hr.mono (by decide)) (by rfl) m_l_given k_l_given b_l_given .nil pass0 (pa_cons (pv 5) (pa_cons (pe_ix ix_tup (pe_ix ix_list (pv 1) (pv 4) (fun _ _ => rfl)) pe_int (fun _ _ => rfl)) pa_nil))) (pe_ix ix_tup (pe_ix ix_list (pv 1) (pv 4) (fun _ _ => rfl)) pe_int (fun _ _ => rfl)) (fun _ _ => rfl)) (pe_ix ix_tup (pe_ix ix_list (pv 1) (pv 4) (fun _ _ => rfl)) pe_int (fun _ _ => rfl)) (nomark _)) (pss_one (ps_ret pe_bl)) pss_nil))))
    (pss_one (ps_ret pe_bl)))))), ?_⟩
  refine ⟨_, rfl, d, m, num, den, least, step, u, rfl, hd, o, fun n n1 n2 hK => ⟨_, _, rfl, ?_⟩⟩
  rw [← hf] at hK
  obtain ⟨Tn, hT, T1, T2, T3⟩ : ∃ T : Nat, (if (70 : Int) < (n : Int) then (70 : Int) else (n : Int)) = (T : Int) ∧ 1 ≤ T ∧ T ≤ 70 ∧ T ≤ n := by
    split
    · exact ⟨70, rfl, by omega, by omega, by omega⟩
    · exact ⟨n, rfl, by omega, by omega, by omega⟩
  rw [hT]
  refine ⟨_, rfl, _, _, rfl, rfl, _, _, rfl, ⟨by omega, by omega, by omega, by omega⟩, fun A nA => ?_⟩
  have sA := same_upd (o := .lst []) nA
  have cnt : ((Tn : Int) + 1 - 1).toNat = Tn := by omega
  rw [cnt]
  refine lc_range (lo := 1) (n := Tn) (fun j H' => ∃ (ys : List V) (U : List (Nat × Int)), Same H H' ∧ H' A = some (.lst ys) ∧ Prs H' ys U ∧ UsesUp f (fun s => Tk least step u (s : Int)) U j) ⟨[], [], sA, upd_same, Prs.nil, ⟨(fun k h => nomatch h), fun s h1 h2 => by omega, Nat.le_refl _⟩⟩ ?_ ?_
  · rintro j H' hj ⟨ys, U, s', hA, pr, up⟩
    have ix : (1 : Int) + (j : Int) = ((j + 1 : Nat) : Int) := by omega
    have hd' := s' _ _ hd
    have ul := up.len
    have yl := pr.len
    refine ⟨rfl, ?_⟩
    refine ⟨_, rfl, _, rfl, d, 1 + (j : Int), m, num, den, least, step, u, rfl, hd', o, fun tk => ?_, fun nt => ?_⟩
    · refine ⟨rfl, _, rfl, iteNN (fun q => nomatch q) ?_⟩
      refine ⟨_, rfl, _, rfl, _, rfl, d, 1 + (j : Int), m, num, den, least, step, u, rfl, hd', o, fun _ => ?_, fun nt => absurd tk nt⟩
      refine ⟨(by show 2 ≤ sizeLine; decide), fun t nt => ?_⟩
      have st' := same_upd (o := .tup [.int (1 + (j : Int)), .int (Gm m (num * (1 + (j : Int))) den)]) nt
      have hy : Gm m (num * (1 + (j : Int))) den = f (j + 1) := by
        rw [ix] at tk ⊢
        rw [hf]
        exact (Fv_tk tk).symm
      have hA1 := st' _ _ hA
      have pt : PrAt (upd H' t (.tup [.int (1 + (j : Int)), .int (Gm m (num * (1 + (j : Int))) den)])) (.ref t) (j + 1, f (j + 1)) := ⟨t, rfl, by rw [upd_same, hy, ix]⟩
      have p3 := ((pr.same st').app pt).updL (zs := ys ++ [.ref t]) hA1
      refine ⟨_, hA1, Nat.lt_of_le_of_lt (show ys.length ≤ 2000 by omega) (by decide), ys ++ [.ref t], U ++ [(j + 1, f (j + 1))], fun b o' h => ?_, upd_same, p3, ⟨fun q hq => ?_, fun s h1 h2 ts => ?_, ?_⟩⟩
      · rw [upd_ne (ne_of_none h nA)]
        exact st' _ _ (s' _ _ h)
      · rcases List.mem_append.mp hq with hq | hq
        · exact up.ok q hq
        · rw [List.mem_singleton.mp hq]
          exact ⟨by omega, f_le_Sf j⟩
      · by_cases e : s = j + 1
        · rw [e]
          exact List.mem_append_right _ (List.mem_singleton.mpr rfl)
        · exact List.mem_append_left _ (up.all s h1 (by omega) ts)
      · rw [List.length_append]
        show U.length + 1 ≤ j + 1
        omega
    · refine ⟨rfl, _, rfl, iteNP rfl ⟨ys, U, s', hA, pr, ⟨up.ok, fun s h1 h2 ts => ?_, by omega⟩⟩⟩
      by_cases e : s = j + 1
      · exfalso
        rw [e, ← ix] at ts
        exact nt ts
      · exact up.all s h1 (by omega) ts
  rintro H1 ⟨ys, U, s1, hA, pr, up⟩
  have ul := up.len
  have hk1 := s1 _ _ hk
  have prs1 := prs.same s1
  have Kl := st_short (f := f) (cntD den least step u - 1)
  have Kpos : ∀ q ∈ (st f (cntD den least step u - 1)).2, 1 ≤ q.1 ∧ q.2 ≤ Sf f q.1 := by
    rintro ⟨i, w⟩ hq
    obtain ⟨h1, h2, h3⟩ := st_mem.mp hq
    have h0 := h2.1
    refine ⟨h0, ?_⟩
    have := f_le_Sf (f := f) (i - 1)
    rw [show i - 1 + 1 = i by omega] at this
    show w ≤ Sf f i
    rw [h3]
    exact this
  -- both gifts are alike
  refine ⟨_, rfl, _, rfl, A, ys, U, Tn, rfl, hA, pr, fun q hq => (up.ok q hq).1, by omega, by omega, fun H2 q2 s2 hq2 => ?_⟩
  refine ⟨_, rfl, _, rfl, kk, xs, (st f (cntD den least step u - 1)).2, Tn, rfl, s2 _ _ hk1, prs1.same s2, fun q hq => (Kpos q hq).1, by omega, by omega, fun H3 q3 s3 hq3 => ?_⟩
  have eq : gvn U Tn = gvn (st f (cntD den least step u - 1)).2 Tn := by
    rw [gvn_eq, gvn_eq]
    refine List.map_congr_left fun i hi => ?_
    have hi := List.mem_range.mp hi
    rw [gv_eq (f := f) (top := Tn) up.ok (fun s h1 h2 => up.all s h2.1 h1 (kep_tk o (by rw [← hf]; exact h2))) i (by omega), gv_eq (f := f) (top := Tn) Kpos (fun s h1 h2 => by rw [← hK]; exact st_mem.mpr ⟨by omega, h2, rfl⟩) i (by omega)]
  refine ⟨dataI (gvn U Tn), dataI (gvn (st f (cntD den least step u - 1)).2 Tn), .lst (SqL.of (s3 _ _ hq2)) (dp_ints _), .lst (SqL.of hq3) (dp_ints _), ints_shaped _, ints_shaped _, ?_⟩
  unfold dataI
  rw [ints_eqv]
  refine ⟨_, rfl, iteNP eq ?_⟩
  -- each one is needed
  have s4 := s1.trans (s2.trans s3)
  have hk4 := s4 _ _ hk
  have prs4 := prs.same s4
  refine ⟨_, rfl, _, _, rfl, .inl (SqL.of hk4), _, _, rfl, _, rfl, (by split <;> omega), (by have := prs.len; split <;> omega), ?_⟩
  refine for_range (lo := 0) (n := _) (fun i σ H' => ∃ (v4 v5 : Option V), σ = [some (.ref d), some (.ref kk), some (.int (Tn : Int)), some (.ref A), v4, v5, none] ∧ Same H3 H')
    ⟨none, none, rfl, Same.refl _⟩ ?_ ?_
  · rintro i σ H' hi ⟨v4, v5, rfl, s'⟩
    have hi : i < xs.length := by split at hi <;> omega
    have i0 : (0 : Int) + (i : Int) = (i : Int) := Int.zero_add _
    have hkx := s' _ _ hk4
    have prx := prs4.same s'
    have e1 : cutV xs none (some (0 + (i : Int))) = xs.take i := by rw [i0, cut_all]
    have e2 : cutV xs (some (0 + (i : Int) + 1)) none = xs.drop (i + 1) := by
      rw [show (0 : Int) + (i : Int) + 1 = ((i + 1 : Nat) : Int) by omega, cut_from (by omega)]
    obtain ⟨v, hv⟩ : ∃ v, xs[i]? = some v := ⟨_, List.getElem?_eq_getElem hi⟩
    obtain ⟨⟨p, y⟩, hK0, t, rfl, ht⟩ := prx.at hv
    have hm : (p, y) ∈ (st f (cntD den least step u - 1)).2 := List.mem_of_getElem? hK0
    obtain ⟨q1, q2, q3⟩ := st_mem.mp hm
    have p1 := q2.1
    have xl := prx.len
    refine ⟨_, rfl, _, rfl, _, rfl, kk, _, rfl, SqL.of hkx, fun c nc => ?_⟩
    rw [e1]
    have sc := same_upd (o := .lst (xs.take i)) nc
    have hc : upd H' c (.lst (xs.take i)) c = some (.lst (xs.take i)) := upd_same
    refine ⟨_, rfl, _, rfl, _, _, rfl, rfl, _, rfl, kk, _, rfl, SqL.of (sc _ _ hkx), fun c2 nc2 => ?_⟩
    rw [e2]
    have sc2 := same_upd (o := .lst (xs.drop (i + 1))) nc2
    refine ⟨_, _, _, _, rfl, rfl, sc2 _ _ hc, upd_same, ?_, fun g ng => ?_⟩
    · rw [List.length_take, List.length_drop]
      exact Nat.le_trans (show _ ≤ 2000 by omega) (by decide)
    have sg := same_upd (o := .lst (xs.take i ++ xs.drop (i + 1))) ng
    have sz := sc.trans (sc2.trans sg)
    have hg : upd (upd (upd H' c (.lst (xs.take i))) c2 (.lst (xs.drop (i + 1)))) g (.lst (xs.take i ++ xs.drop (i + 1))) g = some (.lst (xs.take i ++ xs.drop (i + 1))) := upd_same
    generalize upd (upd (upd H' c (.lst (xs.take i))) c2 (.lst (xs.drop (i + 1)))) g (.lst (xs.take i ++ xs.drop (i + 1))) = HG at sz hg ⊢
    have hkG := sz _ _ hkx
    have htG := sz _ _ ht
    have prG := prx.same sz
    have bo := but_one hK0
    refine ⟨_, rfl, _, rfl, _, rfl, _, _, _, _, rfl, rfl, SqL.of hkG, at_of (j := i) i0 hv, _, _, _, _, rfl, rfl, SqT.of htG, atI_nat (j := 0) rfl, ?_⟩
    refine ⟨g, _, (st f (cntD den least step u - 1)).2.take i ++ (st f (cntD den least step u - 1)).2.drop (i + 1), p, rfl, hg, (prG.take i).cat (prG.drop (i + 1)), fun q hq => (bo q hq).1.1, by omega, ?_, fun HR q sR hq => ?_⟩
    · rw [List.length_append, List.length_take, List.length_drop]
      omega
    have hkR := sR _ _ hkG
    have htR := sR _ _ htG
    refine ⟨_, rfl, _, rfl, _, _, _, _, rfl, rfl, SqL.of hkR, at_of (j := i) i0 hv, _, _, _, _, rfl, rfl, SqT.of htR, atI_nat (j := 0) rfl, ?_⟩
    have gl := gvn_len ((st f (cntD den least step u - 1)).2.take i ++ (st f (cntD den least step u - 1)).2.drop (i + 1)) p
    refine ⟨_, _, _, _, rfl, rfl, SqL.of hq, at_of (j := p) rfl (get_int' (by omega)), ?_⟩
    refine ⟨_, rfl, _, rfl, _, _, _, _, rfl, rfl, SqL.of hkR, at_of (j := i) i0 hv, _, _, _, _, rfl, rfl, SqT.of htR, atI_nat (j := 1) rfl, _, _, rfl, rfl, _, rfl, iteN ?_ ⟨_, _, rfl, s'.trans (sz.trans sR)⟩⟩
    have less : Gf ((st f (cntD den least step u - 1)).2.take i ++ (st f (cntD den least step u - 1)).2.drop (i + 1)) p ≤ cd f p := gv_rest bo p1
    have q22 := q2.2
    show ¬ Gf ((st f (cntD den least step u - 1)).2.take i ++ (st f (cntD den least step u - 1)).2.drop (i + 1)) p ≥ y
    omega
  · rintro σ H' ⟨v4, v5, rfl, s'⟩
    exact k _ (s4.trans s')
end
end Sm

set_option Elab.async false
set_option linter.all false
set_option maxRecDepth 100000
set_option maxHeartbeats 32000000
namespace Sm
open PySem PySem.Spec PyProof.Rows L2
def sp_law (K : PySem.W.Frag) : Sp := fun vs H Q _ => ∃ (a : Addr) (ns : List Int), vs = [.ref a] ∧ SqL K H a (ns.map V.int) ∧ ns.length ≤ 63 ∧ ∀ H', Q (.bl true) H'
/-! ### pairs as data -/
def pD (k : Nat × Int) : PyData := .tuple [.int (k.1 : Int), .int k.2]
def prD (K : List (Nat × Int)) : PyData := .tuple (K.map pD)
theorem PrAt.dp {K : PySem.W.Frag} {H : Hp} {v : V} {k : Nat × Int} (h : PrAt H v k) : Dp K H v (pD k) := by
  obtain ⟨t, rfl, ht⟩ := h
  exact .tup (SqT.of ht) (.cons (.int _) (.cons (.int _) .nil))
theorem Prs.tl {H : Hp} {v : V} {xs : List V} {k : Nat × Int} {K : List (Nat × Int)} (h : Prs H (v :: xs) (k :: K)) : PrAt H v k ∧ Prs H xs K := by
  refine ⟨?_, Nat.succ.inj h.len, fun i k' hk => h.get (i + 1) k' hk⟩
  obtain ⟨v', hv, p⟩ := h.get 0 k rfl
  have hv : v = v' := Option.some.inj hv
  rw [hv]
  exact p
theorem Prs.dp {F : PySem.W.Frag} {H : Hp} : ∀ {xs : List V} {K : List (Nat × Int)}, Prs H xs K → DpAll F H xs (K.map pD)
  | [], [], _ => .nil
  | [], k :: K, h => by cases h.len
  | v :: xs, [], h => by cases h.len
  | v :: xs, k :: K, h => .cons h.tl.1.dp h.tl.2.dp
theorem log_small {i : Int} (h0 : 0 ≤ i) (h1 : i ≤ 100000000000000000000) : i.natAbs.log2 < 1920 :=
  Nat.lt_of_lt_of_le (PySem.Flt.log2_lt_of (k := 310) (by decide) (by omega)) (by decide)
theorem pD_ok {k : Nat × Int} (h : k.1 ≤ 100000 ∧ 0 ≤ k.2 ∧ k.2 ≤ 100000) : PyData.showable (pD k) = true ∧ PyData.hasDict (pD k) = false ∧ (pD k).depth ≤ 3 ∧ (pD k).shown.length ≤ 4000 := by
  obtain ⟨h1, h2, h3⟩ := h
  have s1 : (k.1 : Int).natAbs.log2 < 1920 := log_small (by omega) (by omega)
  have s2 : k.2.natAbs.log2 < 1920 := log_small h2 (by omega)
  have l1 := PyProof.Rows.int_text_len_1921 s1
  have l2 := PyProof.Rows.int_text_len_1921 s2
  unfold pD
  refine ⟨?_, rfl, ?_, ?_⟩
  · simp only [PyData.showable, PyData.showableAll, decide_eq_true s1, decide_eq_true s2, Bool.and_self]
  · simp only [PyData.depth, PyData.depthAll]
    omega
  · simp only [PyData.shown, PyData.shownAll]
    have t := PySem.tupleText_len_le [Str.ofString (toString (k.1 : Int)), Str.ofString (toString k.2)]
    simp only [List.map_cons, List.map_nil, List.sum_cons, List.sum_nil, List.length_cons, List.length_nil] at t
    omega
theorem pDs_ok : ∀ {K : List (Nat × Int)}, (∀ k ∈ K, k.1 ≤ 100000 ∧ 0 ≤ k.2 ∧ k.2 ≤ 100000) → PyData.showableAll (K.map pD) = true ∧ PyData.hasDictAll (K.map pD) = false ∧ PyData.depthAll (K.map pD) ≤ 3 ∧ ((PyData.shownAll (K.map pD)).map (·.length)).sum ≤ 4000 * K.length ∧ (PyData.shownAll (K.map pD)).length = K.length
  | [], _ => by simp [PyData.showableAll, PyData.hasDictAll, PyData.depthAll, PyData.shownAll]
  | k :: K, h => by
    obtain ⟨a1, a2, a3, a4⟩ := pD_ok (h k (List.mem_cons_self ..))
    obtain ⟨b1, b2, b3, b4, b5⟩ := pDs_ok (K := K) fun k' hk => h k' (List.mem_cons_of_mem _ hk)
    refine ⟨?_, ?_, ?_, ?_, ?_⟩
    · simp only [List.map_cons, PyData.showableAll, a1, b1, Bool.and_self]
    · simp only [List.map_cons, PyData.hasDictAll, a2, b2, Bool.or_self]
    · simp only [List.map_cons, PyData.depthAll]
      omega
    · simp only [List.map_cons, PyData.shownAll, List.sum_cons, List.length_cons]
      omega
    · simp only [List.map_cons, PyData.shownAll, List.length_cons]
      omega
theorem st_shown {m : Nat} {num den least s : Int} {u : Option Int} (o : Dk m num den least s u) : PyData.showable (prD (st (fD m num den least s u) (cntD den least s u - 1)).2) = true ∧ PyData.hasDict (prD (st (fD m num den least s u) (cntD den least s u - 1)).2) = false ∧
    (prD (st (fD m num den least s u) (cntD den least s u - 1)).2).depth ≤ 60 ∧ (prD (st (fD m num den least s u) (cntD den least s u - 1)).2).shown.length ≤ sizeLine := by
  obtain ⟨c1, c2⟩ := cnt_le o
  have kl := st_short (f := fD m num den least s u) (cntD den least s u - 1)
  obtain ⟨b1, b2, b3, b4, b5⟩ := pDs_ok (K := (st (fD m num den least s u) (cntD den least s u - 1)).2) fun k hk => by
    obtain ⟨i, w⟩ := k
    obtain ⟨h1, h2, h3⟩ := st_mem.mp hk
    have a := Fv_nn o (i : Int)
    have b := Fv_le o (x := (i : Int)) (by omega)
    have h3 : w = Fv m num den least s u (i : Int) := h3
    show i ≤ 100000 ∧ 0 ≤ w ∧ w ≤ 100000
    omega
  generalize (st (fD m num den least s u) (cntD den least s u - 1)).2 = K at *
  unfold prD
  refine ⟨?_, ?_, ?_, ?_⟩
  · simp only [PyData.showable, b1]
  · simp only [PyData.hasDict, b2]
  · simp only [PyData.depth]
    omega
  · simp only [PyData.shown]
    have t := PySem.tupleText_len_le (PyData.shownAll (K.map pD))
    rw [sizeLine_eq]
    omega
def lastK (j : Nat) : List (Nat × Int) := (List.range j).map fun i : Nat => (i + 2, (i : Int) + 1)
theorem last_K : (st (fD 0 29 30 1 1 none) (cntD 30 1 1 none - 1)).2 = lastK 29 := by decide +kernel
theorem last_eq : PyData.eqv (prD (lastK 29)) (prD (lastK 29)) = true := by decide +kernel
theorem last_sh : SeqAt.shaped (prD (lastK 29)) = true := by decide +kernel
theorem one_3 {v : V} {a b c : Int} (h : v ∈ [V.int a, V.int b, V.int c]) (ha : 1 ≤ a ∧ a ≤ 30) (hb : 1 ≤ b ∧ b ≤ 30) (hc : 1 ≤ c ∧ c ≤ 30) : ∃ r : Int, v = .int r ∧ 1 ≤ r ∧ r ≤ 30 := by
  simp only [List.mem_cons, List.not_mem_nil, or_false] at h
  rcases h with q | q | q
  · exact ⟨a, q, ha⟩
  · exact ⟨b, q, hb⟩
  · exact ⟨c, q, hc⟩
section
variable {P : Program} {w : World} {K : PySem.W.Frag} {mg : Str → Option Value} {base : Heap}
abbrev s_law : Stmt := topS 20
abbrev N_law : List Str := ["_law_script", "_law_deck_here", "_law_turn", "_law_desk_here", "_law_found", "_law_x"]
theorem sc_law : FnScope N_law ["_law_script"] (defScope s_law) := ⟨rfl, rfl, rfl, by decide +kernel, rfl, by decide +kernel, by decide +kernel⟩
theorem ok_lawG {f : Addr} {fd : FuncData} (T : Txt mg) (F : Fun K "law" "law" s_law f fd) (C_needed_uses : Cal P w K mg base "needed_uses" ["desk"] 4 (sp_needed_uses K)) (C_l_all_right : Cal P w K mg base "_law_all_right" ["_law_desk_here", "_law_found"] 2 (sp_l_all_right K)) (C_l_bests : Cal P w K mg base "_law_bests" ["_law_desk_here", "_law_top_here"] 2 (sp_l_bests K)) (C_l_top : Cal P w K mg base "_law_top" ["_law_desk_here"] 1 (sp_l_top K)) (C_l_desk : Cal P w K mg base "_law_desk" ["_law_deck_here", "_law_most_rate", "_law_most_least"] 3 (sp_l_desk K)) (C_l_one : Cal P w K mg base "_law_one" ["_law_deck_here", "_law_items"] 2 (sp_l_one K)) (C_l_deck : Cal P w K mg base "_law_deck" ["_law_script"] 1 (sp_l_deck K)) : FnG P w K mg base 5 f fd ["_law_script"] (sp_law K) := by
  obtain ⟨f_needed_uses, fd_needed_uses, G_needed_uses, m_needed_uses, k_needed_uses, b_needed_uses⟩ := C_needed_uses
  obtain ⟨f_l_all_right, fd_l_all_right, G_l_all_right, m_l_all_right, k_l_all_right, b_l_all_right⟩ := C_l_all_right
  obtain ⟨f_l_bests, fd_l_bests, G_l_bests, m_l_bests, k_l_bests, b_l_bests⟩ := C_l_bests
  obtain ⟨f_l_top, fd_l_top, G_l_top, m_l_top, k_l_top, b_l_top⟩ := C_l_top
  obtain ⟨f_l_desk, fd_l_desk, G_l_desk, m_l_desk, k_l_desk, b_l_desk⟩ := C_l_desk
  obtain ⟨f_l_one, fd_l_one, G_l_one, m_l_one, k_l_one, b_l_one⟩ := C_l_one
  obtain ⟨f_l_deck, fd_l_deck, G_l_deck, m_l_deck, k_l_deck, b_l_deck⟩ := C_l_deck
  refine FnG.body F sc_law (fun vs H Q E h => ?_) (fun cdv A outer s H vs Q E gu hr h => ?_)
  · obtain ⟨a, ns, rfl, _⟩ := h
    rfl
  obtain ⟨a, ns, rfl, hS, hlen, kk0⟩ := h
  refine ⟨_, (pss_cons (ps_set (i := 1) sc_law.nd rfl (Or.inl rfl) (pe_call G_l_deck (hr.mono (by decide)) (by rfl) m_l_deck k_l_deck b_l_deck .nil pass0 (pa_cons (pv 0) pa_nil)))
    (pss_cons (ps_for PassesOwn.never rfl (pi_range1 (by rfl) T.n_range (pa_cons pe_int pa_nil)) (pg_name (i := 2) sc_law.nd rfl (Or.inl rfl))
      (pss_cons (ps_set (i := 3) sc_law.nd rfl (Or.inl rfl) (pe_call G_l_desk (hr.mono (by decide)) (by rfl) m_l_desk k_l_desk b_l_desk .nil pass0 (pa_cons (pv 1) (pa_cons (pe_call G_l_one (hr.mono (by decide)) (by rfl) m_l_one k_l_one b_l_one .nil pass0 (pa_cons (pv 1) (pa_cons (pe_lst (pa_cons pe_int (pa_cons pe_int (pa_cons pe_int pa_nil)))) pa_nil))) (pa_cons (pe_call G_l_one (hr.mono (by decide)) (by rfl) m_l_one k_l_one b_l_one .nil pass0 (pa_cons (pv 1) (pa_cons (pe_lst (pa_cons pe_int (pa_cons pe_int (pa_cons pe_int pa_nil)))) pa_nil))) pa_nil)))))
    (pss_cons (ps_if (pt_cmpR op_gt (pv 2) pe_int (nomark _)) (pss_one (ps_set (i := 3) sc_law.nd rfl (Or.inl rfl) (pe_call G_l_desk (hr.mono (by decide)) (by rfl) m_l_desk k_l_desk b_l_desk .nil pass0 (pa_cons (pv 1) (pa_cons pe_int (pa_cons pe_int pa_nil)))))) pss_nil)
    (pss_cons (ps_set (i := 4) sc_law.nd rfl (Or.inl rfl) (pe_ix ix_tup (pe_call G_l_bests (hr.mono (by decide)) (by rfl) m_l_bests k_l_bests b_l_bests .nil pass0 (pa_cons (pv 3) (pa_cons (pe_call G_l_top (hr.mono (by decide)) (by rfl) m_l_top k_l_top b_l_top .nil pass0 (pa_cons (pv 3) pa_nil)) pa_nil))) pe_int (fun _ _ => rfl)))
    (pss_one (ps_if (PW.pt (pw_or (pt_cmpR op_ne (pe_callB (call_repr_data gu ⟨_, hr⟩) (by rfl) T.n_repr (by decide +kernel) (pa_cons (pe_call G_needed_uses (hr.mono (by decide)) (by rfl) m_needed_uses k_needed_uses b_needed_uses .nil pass0 (pa_cons (pv 3) pa_nil)) pa_nil)) (pe_callB (call_repr_data gu ⟨_, hr⟩) (by rfl) T.n_repr (by decide +kernel) (pa_cons (pe_callTy call_tuple_of (by rfl) T.n_tuple (by decide +kernel) (pa_cons (pv 4) pa_nil)) pa_nil)) (nomark _)) (pw_or1 (pt_not (pt_val (pe_call G_l_all_right (hr.mono (by decide)) (by rfl) m_l_all_right k_l_all_right b_l_all_right .nil pass0 (pa_cons (pv 3) (pa_cons (pv 4) pa_nil)))))))) (pss_one (ps_ret pe_bl)) pss_nil))))))
    (pss_one (ps_ret (pe_cmpR (op_eqD hr.units) (pe_call G_needed_uses (hr.mono (by decide)) (by rfl) m_needed_uses k_needed_uses b_needed_uses .nil pass0 (pa_cons (pe_tup (pa_cons pe_int (pa_cons pe_int (pa_cons pe_int (pa_cons pe_int (pa_cons pe_str (pa_cons pe_int (pa_cons pe_int (pa_cons pe_non pa_nil))))))))) pa_nil)) (pe_callTy call_tuple_of (by rfl) T.n_tuple (by decide +kernel) (pa_cons (pe_lc (own := [("_law_x", 5)]) (g := gName 5) (tt := tYes) rfl sc_law.nd (pi_range2 (by rfl) T.n_range (pa_cons pe_int (pa_cons pe_int pa_nil))) (blkOk_by (own := [("_law_x", 5)]) (N := N_law) (sc := defScope s_law) (by decide +kernel)) (fun _ _ _ _ _ => pg_name (i := 5) sc_law.nd rfl (Or.inl rfl)) (fun _ _ _ _ _ => pts_nil) (fun _ _ _ _ _ => (pe_tup (pa_cons (pv 5) (pa_cons (pe_op op_sub (pv 5) pe_int) pa_nil))))) pa_nil)) (nomark _)))))), ?_⟩
  refine ⟨_, rfl, a, ns, rfl, hS, hlen, fun H1 p l s1 D1 => ?_⟩
  refine ⟨9, rfl, (by decide), (by decide), for_range (lo := 0) (n := 9) (fun i σ H' => ∃ (n : Int) (v2 v3 v4 : Option V), σ = [some (.ref a), some (.ref p), v2, v3, v4, none] ∧ Deck H' p l n ∧ 0 ≤ n ∧ n ≤ 100 * (i : Int))
    ⟨0, none, none, none, rfl, D1, by omega, by omega⟩ ?_ ?_⟩
  · rintro i σ H2 hi ⟨n, v2, v3, v4, rfl, D2, n0, n1⟩
    refine ⟨_, rfl, _, rfl, (by show 3 ≤ sizeLine; decide), fun b1 nb1 => ?_⟩
    have sb1 := same_upd (o := .lst [.int 3, .int 6, .int 9]) nb1
    refine ⟨p, l, b1, n, _, rfl, D2.same sb1, n0, by omega, upd_same, (D2.lne nb1).1, (D2.lne nb1).2, (by show 0 < 3; decide), (by show 3 ≤ 1000; decide), fun rv H3 rvm f3 D3 => ?_⟩
    obtain ⟨rate, rfl, ra0, ra1⟩ := one_3 rvm (by decide) (by decide) (by decide)
    refine ⟨_, rfl, (by show 3 ≤ sizeLine; decide), fun b2 nb2 => ?_⟩
    have sb2 := same_upd (o := .lst [.int 1, .int 4, .int 7]) nb2
    refine ⟨p, l, b2, n + 1, _, rfl, D3.same sb2, by omega, by omega, upd_same, (D3.lne nb2).1, (D3.lne nb2).2, (by show 0 < 3; decide), (by show 3 ≤ 1000; decide), fun mv H4 mvm f4 D4 => ?_⟩
    obtain ⟨ml, rfl, ml0, ml1⟩ := one_3 mvm (by decide) (by decide) (by decide)
    refine ⟨p, l, n + 1 + 1, rate, ml, rfl, D4, by omega, by omega, ra0, ra1, ml0, ml1, fun HD d m num den least step u nD fD' D m0 m1 hd o => ?_⟩
    refine ⟨_, rfl, _, _, rfl, rfl, _, rfl, ite3 (fun e => ?_) (fun e => ?_)⟩
    · clear hd o
      refine ⟨_, rfl, p, l, nD, 30, 30, rfl, D, by omega, by omega, by decide, by decide, by decide, by decide, fun HE d m num den least step u nE fE D m0 m1 hd o => ?_⟩
      refine ⟨_, rfl, _, rfl, d, m, num, den, least, step, u, rfl, hd, o, fun t t1 t2 hK => ?_⟩
      refine ⟨d, t, m, num, den, least, step, u, rfl, hd, o, by omega, fun H1 q b kk xs s1 hq hk prs => ?_⟩
      refine ⟨_, _, _, _, rfl, rfl, SqT.of hq, atI_nat (j := 1) rfl, ?_⟩
      rw [hK] at prs
      obtain ⟨e1, e2, e3, e4⟩ := st_shown o
      refine ⟨_, rfl, d, m, num, den, least, step, u, rfl, s1 _ _ hd, o, fun H2 r ys s2 hr prs2 => ?_⟩
      refine ⟨r, prD (st (fD m num den least step u) (cntD den least step u - 1)).2, rfl, .tup (SqT.of hr) prs2.dp, e1, e2, e3, e4, ?_⟩
      refine ⟨_, rfl, _, _, rfl, .inl ⟨SqL.of (s2 _ _ hk), fun t' nt => ?_⟩⟩
      have st' := same_upd (o := .tup xs) nt
      refine ⟨t', prD (st (fD m num den least step u) (cntD den least step u - 1)).2, rfl, .tup (SqT.of upd_same) ((prs.same s2).same st').dp, e1, e2, e3, e4, rfl, _, rfl, iteNP rfl ?_⟩
      have sz := s1.trans (s2.trans st')
      refine ⟨_, rfl, _, rfl, d, kk, xs, m, num, den, least, step, u, rfl, sz _ _ hd, o, st' _ _ (s2 _ _ hk), (prs.same s2).same st', fun H4 s4 => ⟨_, rfl, iteF ?_⟩⟩
      exact ⟨_, _, _, _, rfl, D.same (sz.trans s4), by omega, by omega⟩
    · refine ⟨_, rfl, _, rfl, d, m, num, den, least, step, u, rfl, hd, o, fun t t1 t2 hK => ?_⟩
      refine ⟨d, t, m, num, den, least, step, u, rfl, hd, o, by omega, fun H1 q b kk xs s1 hq hk prs => ?_⟩
      refine ⟨_, _, _, _, rfl, rfl, SqT.of hq, atI_nat (j := 1) rfl, ?_⟩
      rw [hK] at prs
      obtain ⟨e1, e2, e3, e4⟩ := st_shown o
      refine ⟨_, rfl, d, m, num, den, least, step, u, rfl, s1 _ _ hd, o, fun H2 r ys s2 hr prs2 => ?_⟩
      refine ⟨r, prD (st (fD m num den least step u) (cntD den least step u - 1)).2, rfl, .tup (SqT.of hr) prs2.dp, e1, e2, e3, e4, ?_⟩
      refine ⟨_, rfl, _, _, rfl, .inl ⟨SqL.of (s2 _ _ hk), fun t' nt => ?_⟩⟩
      have st' := same_upd (o := .tup xs) nt
      refine ⟨t', prD (st (fD m num den least step u) (cntD den least step u - 1)).2, rfl, .tup (SqT.of upd_same) ((prs.same s2).same st').dp, e1, e2, e3, e4, rfl, _, rfl, iteNP rfl ?_⟩
      have sz := s1.trans (s2.trans st')
      refine ⟨_, rfl, _, rfl, d, kk, xs, m, num, den, least, step, u, rfl, sz _ _ hd, o, st' _ _ (s2 _ _ hk), (prs.same s2).same st', fun H4 s4 => ⟨_, rfl, iteF ?_⟩⟩
      exact ⟨_, _, _, _, rfl, D.same (sz.trans s4), by omega, by omega⟩
  · rintro σ H' ⟨n, v2, v3, v4, rfl, D2, n0, n1⟩
    refine ⟨(by show 8 ≤ sizeLine; decide), fun d nd => ?_⟩
    have o : Dk 0 29 30 1 1 none := ⟨by decide, by decide, by decide, by decide, by decide, by decide, by decide, by decide, by decide, (fun v h => nomatch h), (fun v h => nomatch h)⟩
    have hd : upd H' d (.tup (deskV 0 29 30 1 1 none)) d = some (.tup (deskV 0 29 30 1 1 none)) := upd_same
    refine ⟨d, 0, 29, 30, 1, 1, none, rfl, hd, o, fun H2 r ys s2 hr prs => ?_⟩
    rw [last_K] at prs
    refine ⟨_, _, rfl, ⟨by decide, by decide, by decide, by decide⟩, fun A nA => ?_⟩
    have sA := same_upd (o := .lst []) nA
    refine lc_range (lo := 2) (n := 29) (fun j H3 => ∃ zs, Same H2 H3 ∧ H3 A = some (.lst zs) ∧ Prs H3 zs (lastK j)) ⟨[], sA, upd_same, Prs.nil⟩ ?_ ?_
    · rintro j H3 hj ⟨zs, s3, hA, pr⟩
      have zl : zs.length = j := by rw [pr.len]; unfold lastK; rw [List.length_map, List.length_range]
      refine ⟨rfl, ?_⟩
      unfold tYes
      refine iteT ?_
      refine ⟨_, rfl, _, rfl, _, _, rfl, rfl, (by show 2 ≤ sizeLine; decide), fun t nt => ?_⟩
      have st' := same_upd (o := .tup [.int (2 + (j : Int)), .int (2 + (j : Int) - 1)]) nt
      have hA1 := st' _ _ hA
      have pt : PrAt (upd H3 t (.tup [.int (2 + (j : Int)), .int (2 + (j : Int) - 1)])) (.ref t) (j + 2, (j : Int) + 1) := ⟨t, rfl, by rw [upd_same, show (2 : Int) + (j : Int) = ((j + 2 : Nat) : Int) by omega, show ((j + 2 : Nat) : Int) - 1 = (j : Int) + 1 by omega]⟩
      refine ⟨_, hA1, Nat.lt_of_le_of_lt (show zs.length ≤ 2000 by omega) (by decide), zs ++ [.ref t], fun b o' h => ?_, upd_same, ?_⟩
      · rw [upd_ne (ne_of_none h nA)]
        exact st' _ _ (s3 _ _ h)
      · have e : lastK (j + 1) = lastK j ++ [(j + 2, (j : Int) + 1)] := by
          unfold lastK
          rw [List.range_succ, List.map_append]
          rfl
        rw [e]
        exact ((pr.same st').app pt).updL hA1
    · rintro H3 ⟨zs, s3, hA, pr⟩
      refine ⟨_, _, rfl, .inl ⟨SqL.of hA, fun t nt => ?_⟩⟩
      have st' := same_upd (o := .tup zs) nt
      refine ⟨prD (lastK 29), prD (lastK 29), .tup (SqT.of (st' _ _ (s3 _ _ hr))) ((prs.same s3).same st').dp, .tup (SqT.of upd_same) (pr.same st').dp, last_sh, last_sh, ?_⟩
      rw [last_eq]
      exact kk0 _
end
end Sm

set_option Elab.async false
set_option linter.all false
set_option maxRecDepth 100000
set_option maxHeartbeats 16000000
namespace Sm
open PySem PySem.Spec PyProof.Rows L2
theorem all_mk {l : PySem.W.OpenLaw} {w : World} {K : PySem.W.Frag} {h : Heap} {mg : Str → Option Value} {fa : Addr} (X : K.In h) (G : h.Ns mainGlobals mg) (hfa : mg "law" = some (.ref fa))
    {F_stack : Addr} {od_stack an_stack : Option Addr} {sl_stack : Array (Option Value)} {oc_stack kV_stack dc_stack pm_stack cd_stack ct_stack : Value} (a_stack : PySem.W.nsIn K mainGlobals "stack" = some (some (.ref F_stack))) (l_stack : K.lookup F_stack = some ⟨oc_stack, od_stack, .func (PySem.W.fnOf "stack" "stack" (defArgs s_stack) (defBody s_stack) (defScope s_stack) .none kV_stack dc_stack pm_stack an_stack cd_stack ct_stack), sl_stack⟩) (c_stack : PySem.W.codeIn K cd_stack "stack" = true) (k_stack : PySem.W.keepIn K (.ref F_stack) = true)
    {F_takes : Addr} {od_takes an_takes : Option Addr} {sl_takes : Array (Option Value)} {oc_takes kV_takes dc_takes pm_takes cd_takes ct_takes : Value} (a_takes : PySem.W.nsIn K mainGlobals "takes" = some (some (.ref F_takes))) (l_takes : K.lookup F_takes = some ⟨oc_takes, od_takes, .func (PySem.W.fnOf "takes" "takes" (defArgs s_takes) (defBody s_takes) (defScope s_takes) .none kV_takes dc_takes pm_takes an_takes cd_takes ct_takes), sl_takes⟩) (c_takes : PySem.W.codeIn K cd_takes "takes" = true) (k_takes : PySem.W.keepIn K (.ref F_takes) = true)
    {F_gives : Addr} {od_gives an_gives : Option Addr} {sl_gives : Array (Option Value)} {oc_gives kV_gives dc_gives pm_gives cd_gives ct_gives : Value} (a_gives : PySem.W.nsIn K mainGlobals "gives" = some (some (.ref F_gives))) (l_gives : K.lookup F_gives = some ⟨oc_gives, od_gives, .func (PySem.W.fnOf "gives" "gives" (defArgs s_gives) (defBody s_gives) (defScope s_gives) .none kV_gives dc_gives pm_gives an_gives cd_gives ct_gives), sl_gives⟩) (c_gives : PySem.W.codeIn K cd_gives "gives" = true) (k_gives : PySem.W.keepIn K (.ref F_gives) = true)
    {F_needed_uses : Addr} {od_needed_uses an_needed_uses : Option Addr} {sl_needed_uses : Array (Option Value)} {oc_needed_uses kV_needed_uses dc_needed_uses pm_needed_uses cd_needed_uses ct_needed_uses : Value} (a_needed_uses : PySem.W.nsIn K mainGlobals "needed_uses" = some (some (.ref F_needed_uses))) (l_needed_uses : K.lookup F_needed_uses = some ⟨oc_needed_uses, od_needed_uses, .func (PySem.W.fnOf "needed_uses" "needed_uses" (defArgs s_needed_uses) (defBody s_needed_uses) (defScope s_needed_uses) .none kV_needed_uses dc_needed_uses pm_needed_uses an_needed_uses cd_needed_uses ct_needed_uses), sl_needed_uses⟩) (c_needed_uses : PySem.W.codeIn K cd_needed_uses "needed_uses" = true) (k_needed_uses : PySem.W.keepIn K (.ref F_needed_uses) = true)
    {F_first_taken : Addr} {od_first_taken an_first_taken : Option Addr} {sl_first_taken : Array (Option Value)} {oc_first_taken kV_first_taken dc_first_taken pm_first_taken cd_first_taken ct_first_taken : Value} (a_first_taken : PySem.W.nsIn K mainGlobals "first_taken" = some (some (.ref F_first_taken))) (l_first_taken : K.lookup F_first_taken = some ⟨oc_first_taken, od_first_taken, .func (PySem.W.fnOf "first_taken" "first_taken" (defArgs s_first_taken) (defBody s_first_taken) (defScope s_first_taken) .none kV_first_taken dc_first_taken pm_first_taken an_first_taken cd_first_taken ct_first_taken), sl_first_taken⟩) (c_first_taken : PySem.W.codeIn K cd_first_taken "first_taken" = true) (k_first_taken : PySem.W.keepIn K (.ref F_first_taken) = true)
    {F_up_to_multiple : Addr} {od_up_to_multiple an_up_to_multiple : Option Addr} {sl_up_to_multiple : Array (Option Value)} {oc_up_to_multiple kV_up_to_multiple dc_up_to_multiple pm_up_to_multiple cd_up_to_multiple ct_up_to_multiple : Value} (a_up_to_multiple : PySem.W.nsIn K mainGlobals "up_to_multiple" = some (some (.ref F_up_to_multiple))) (l_up_to_multiple : K.lookup F_up_to_multiple = some ⟨oc_up_to_multiple, od_up_to_multiple, .func (PySem.W.fnOf "up_to_multiple" "up_to_multiple" (defArgs s_up_to_multiple) (defBody s_up_to_multiple) (defScope s_up_to_multiple) .none kV_up_to_multiple dc_up_to_multiple pm_up_to_multiple an_up_to_multiple cd_up_to_multiple ct_up_to_multiple), sl_up_to_multiple⟩) (c_up_to_multiple : PySem.W.codeIn K cd_up_to_multiple "up_to_multiple" = true) (k_up_to_multiple : PySem.W.keepIn K (.ref F_up_to_multiple) = true)
    {F_use_values : Addr} {od_use_values an_use_values : Option Addr} {sl_use_values : Array (Option Value)} {oc_use_values kV_use_values dc_use_values pm_use_values cd_use_values ct_use_values : Value} (a_use_values : PySem.W.nsIn K mainGlobals "use_values" = some (some (.ref F_use_values))) (l_use_values : K.lookup F_use_values = some ⟨oc_use_values, od_use_values, .func (PySem.W.fnOf "use_values" "use_values" (defArgs s_use_values) (defBody s_use_values) (defScope s_use_values) .none kV_use_values dc_use_values pm_use_values an_use_values cd_use_values ct_use_values), sl_use_values⟩) (c_use_values : PySem.W.codeIn K cd_use_values "use_values" = true) (k_use_values : PySem.W.keepIn K (.ref F_use_values) = true)
    {F_l_deck : Addr} {od_l_deck an_l_deck : Option Addr} {sl_l_deck : Array (Option Value)} {oc_l_deck kV_l_deck dc_l_deck pm_l_deck cd_l_deck ct_l_deck : Value} (a_l_deck : PySem.W.nsIn K mainGlobals "_law_deck" = some (some (.ref F_l_deck))) (l_l_deck : K.lookup F_l_deck = some ⟨oc_l_deck, od_l_deck, .func (PySem.W.fnOf "_law_deck" "_law_deck" (defArgs s_l_deck) (defBody s_l_deck) (defScope s_l_deck) .none kV_l_deck dc_l_deck pm_l_deck an_l_deck cd_l_deck ct_l_deck), sl_l_deck⟩) (c_l_deck : PySem.W.codeIn K cd_l_deck "_law_deck" = true) (k_l_deck : PySem.W.keepIn K (.ref F_l_deck) = true)
    {F_l_draw : Addr} {od_l_draw an_l_draw : Option Addr} {sl_l_draw : Array (Option Value)} {oc_l_draw kV_l_draw dc_l_draw pm_l_draw cd_l_draw ct_l_draw : Value} (a_l_draw : PySem.W.nsIn K mainGlobals "_law_draw" = some (some (.ref F_l_draw))) (l_l_draw : K.lookup F_l_draw = some ⟨oc_l_draw, od_l_draw, .func (PySem.W.fnOf "_law_draw" "_law_draw" (defArgs s_l_draw) (defBody s_l_draw) (defScope s_l_draw) .none kV_l_draw dc_l_draw pm_l_draw an_l_draw cd_l_draw ct_l_draw), sl_l_draw⟩) (c_l_draw : PySem.W.codeIn K cd_l_draw "_law_draw" = true) (k_l_draw : PySem.W.keepIn K (.ref F_l_draw) = true)
    {F_l_one : Addr} {od_l_one an_l_one : Option Addr} {sl_l_one : Array (Option Value)} {oc_l_one kV_l_one dc_l_one pm_l_one cd_l_one ct_l_one : Value} (a_l_one : PySem.W.nsIn K mainGlobals "_law_one" = some (some (.ref F_l_one))) (l_l_one : K.lookup F_l_one = some ⟨oc_l_one, od_l_one, .func (PySem.W.fnOf "_law_one" "_law_one" (defArgs s_l_one) (defBody s_l_one) (defScope s_l_one) .none kV_l_one dc_l_one pm_l_one an_l_one cd_l_one ct_l_one), sl_l_one⟩) (c_l_one : PySem.W.codeIn K cd_l_one "_law_one" = true) (k_l_one : PySem.W.keepIn K (.ref F_l_one) = true)
    {F_l_desk : Addr} {od_l_desk an_l_desk : Option Addr} {sl_l_desk : Array (Option Value)} {oc_l_desk kV_l_desk dc_l_desk pm_l_desk cd_l_desk ct_l_desk : Value} (a_l_desk : PySem.W.nsIn K mainGlobals "_law_desk" = some (some (.ref F_l_desk))) (l_l_desk : K.lookup F_l_desk = some ⟨oc_l_desk, od_l_desk, .func (PySem.W.fnOf "_law_desk" "_law_desk" (defArgs s_l_desk) (defBody s_l_desk) (defScope s_l_desk) .none kV_l_desk dc_l_desk pm_l_desk an_l_desk cd_l_desk ct_l_desk), sl_l_desk⟩) (c_l_desk : PySem.W.codeIn K cd_l_desk "_law_desk" = true) (k_l_desk : PySem.W.keepIn K (.ref F_l_desk) = true)
    {F_l_gives : Addr} {od_l_gives an_l_gives : Option Addr} {sl_l_gives : Array (Option Value)} {oc_l_gives kV_l_gives dc_l_gives pm_l_gives cd_l_gives ct_l_gives : Value} (a_l_gives : PySem.W.nsIn K mainGlobals "_law_gives" = some (some (.ref F_l_gives))) (l_l_gives : K.lookup F_l_gives = some ⟨oc_l_gives, od_l_gives, .func (PySem.W.fnOf "_law_gives" "_law_gives" (defArgs s_l_gives) (defBody s_l_gives) (defScope s_l_gives) .none kV_l_gives dc_l_gives pm_l_gives an_l_gives cd_l_gives ct_l_gives), sl_l_gives⟩) (c_l_gives : PySem.W.codeIn K cd_l_gives "_law_gives" = true) (k_l_gives : PySem.W.keepIn K (.ref F_l_gives) = true)
    {F_l_bests : Addr} {od_l_bests an_l_bests : Option Addr} {sl_l_bests : Array (Option Value)} {oc_l_bests kV_l_bests dc_l_bests pm_l_bests cd_l_bests ct_l_bests : Value} (a_l_bests : PySem.W.nsIn K mainGlobals "_law_bests" = some (some (.ref F_l_bests))) (l_l_bests : K.lookup F_l_bests = some ⟨oc_l_bests, od_l_bests, .func (PySem.W.fnOf "_law_bests" "_law_bests" (defArgs s_l_bests) (defBody s_l_bests) (defScope s_l_bests) .none kV_l_bests dc_l_bests pm_l_bests an_l_bests cd_l_bests ct_l_bests), sl_l_bests⟩) (c_l_bests : PySem.W.codeIn K cd_l_bests "_law_bests" = true) (k_l_bests : PySem.W.keepIn K (.ref F_l_bests) = true)
    {F_l_top : Addr} {od_l_top an_l_top : Option Addr} {sl_l_top : Array (Option Value)} {oc_l_top kV_l_top dc_l_top pm_l_top cd_l_top ct_l_top : Value} (a_l_top : PySem.W.nsIn K mainGlobals "_law_top" = some (some (.ref F_l_top))) (l_l_top : K.lookup F_l_top = some ⟨oc_l_top, od_l_top, .func (PySem.W.fnOf "_law_top" "_law_top" (defArgs s_l_top) (defBody s_l_top) (defScope s_l_top) .none kV_l_top dc_l_top pm_l_top an_l_top cd_l_top ct_l_top), sl_l_top⟩) (c_l_top : PySem.W.codeIn K cd_l_top "_law_top" = true) (k_l_top : PySem.W.keepIn K (.ref F_l_top) = true)
    {F_l_given : Addr} {od_l_given an_l_given : Option Addr} {sl_l_given : Array (Option Value)} {oc_l_given kV_l_given dc_l_given pm_l_given cd_l_given ct_l_given : Value} (a_l_given : PySem.W.nsIn K mainGlobals "_law_given" = some (some (.ref F_l_given))) (l_l_given : K.lookup F_l_given = some ⟨oc_l_given, od_l_given, .func (PySem.W.fnOf "_law_given" "_law_given" (defArgs s_l_given) (defBody s_l_given) (defScope s_l_given) .none kV_l_given dc_l_given pm_l_given an_l_given cd_l_given ct_l_given), sl_l_given⟩) (c_l_given : PySem.W.codeIn K cd_l_given "_law_given" = true) (k_l_given : PySem.W.keepIn K (.ref F_l_given) = true)
    {F_l_all_right : Addr} {od_l_all_right an_l_all_right : Option Addr} {sl_l_all_right : Array (Option Value)} {oc_l_all_right kV_l_all_right dc_l_all_right pm_l_all_right cd_l_all_right ct_l_all_right : Value} (a_l_all_right : PySem.W.nsIn K mainGlobals "_law_all_right" = some (some (.ref F_l_all_right))) (l_l_all_right : K.lookup F_l_all_right = some ⟨oc_l_all_right, od_l_all_right, .func (PySem.W.fnOf "_law_all_right" "_law_all_right" (defArgs s_l_all_right) (defBody s_l_all_right) (defScope s_l_all_right) .none kV_l_all_right dc_l_all_right pm_l_all_right an_l_all_right cd_l_all_right ct_l_all_right), sl_l_all_right⟩) (c_l_all_right : PySem.W.codeIn K cd_l_all_right "_law_all_right" = true) (k_l_all_right : PySem.W.keepIn K (.ref F_l_all_right) = true)
    {F_law : Addr} {od_law an_law : Option Addr} {sl_law : Array (Option Value)} {oc_law kV_law dc_law pm_law cd_law ct_law : Value} (a_law : PySem.W.nsIn K mainGlobals "law" = some (some (.ref F_law))) (l_law : K.lookup F_law = some ⟨oc_law, od_law, .func (PySem.W.fnOf "law" "law" (defArgs s_law) (defBody s_law) (defScope s_law) .none kV_law dc_law pm_law an_law cd_law ct_law), sl_law⟩) (c_law : PySem.W.codeIn K cd_law "law" = true) (k_law : PySem.W.keepIn K (.ref F_law) = true)
    (z_abs : PySem.W.nsIn K mainGlobals "abs" = some none)
    (z_int : PySem.W.nsIn K mainGlobals "int" = some none)
    (z_len : PySem.W.nsIn K mainGlobals "len" = some none)
    (z_max : PySem.W.nsIn K mainGlobals "max" = some none)
    (z_min : PySem.W.nsIn K mainGlobals "min" = some none)
    (z_range : PySem.W.nsIn K mainGlobals "range" = some none)
    (z_repr : PySem.W.nsIn K mainGlobals "repr" = some none)
    (z_tuple : PySem.W.nsIn K mainGlobals "tuple" = some none)
    (g_lcm : PySem.W.nsIn K mainGlobals "lcm" = some (some (.builtin "math.lcm"))) :
    ∃ fd : FuncData, (∀ (s : Shared) (v : Value), BindsTo s fd ⟨[v], []⟩ [("_law_script", v)]) ∧ ∀ base : Heap, K.In base → base.Ns mainGlobals mg → FnG l.prog w K mg base 5 fa fd ["_law_script"] (sp_law K) := by
  have e := hfa.symm.trans (PySem.W.mg_of X G a_law)
  cases e
  have T : Txt mg := ⟨PySem.W.mg_none_of X G z_abs, PySem.W.mg_none_of X G z_int, PySem.W.mg_none_of X G z_len, PySem.W.mg_none_of X G z_max, PySem.W.mg_none_of X G z_min, PySem.W.mg_none_of X G z_range, PySem.W.mg_none_of X G z_repr, PySem.W.mg_none_of X G z_tuple, PySem.W.mg_of X G g_lcm⟩
  have D_stack : Df K mg "stack" s_stack ["singles", "limit"] := ⟨_, _, fun_mk (st := s_stack) l_stack c_stack k_stack, PySem.W.mg_of X G a_stack, (fun_mk (st := s_stack) l_stack c_stack k_stack).binds (ps := ["singles", "limit"]) fun _ _ _ _ _ _ us hl => match us, hl with | [_, _], _ => rfl⟩
  have D_takes : Df K mg "takes" s_takes ["desk", "x"] := ⟨_, _, fun_mk (st := s_takes) l_takes c_takes k_takes, PySem.W.mg_of X G a_takes, (fun_mk (st := s_takes) l_takes c_takes k_takes).binds (ps := ["desk", "x"]) fun _ _ _ _ _ _ us hl => match us, hl with | [_, _], _ => rfl⟩
  have D_gives : Df K mg "gives" s_gives ["desk", "x"] := ⟨_, _, fun_mk (st := s_gives) l_gives c_gives k_gives, PySem.W.mg_of X G a_gives, (fun_mk (st := s_gives) l_gives c_gives k_gives).binds (ps := ["desk", "x"]) fun _ _ _ _ _ _ us hl => match us, hl with | [_, _], _ => rfl⟩
  have D_needed_uses : Df K mg "needed_uses" s_needed_uses ["desk"] := ⟨_, _, fun_mk (st := s_needed_uses) l_needed_uses c_needed_uses k_needed_uses, PySem.W.mg_of X G a_needed_uses, (fun_mk (st := s_needed_uses) l_needed_uses c_needed_uses k_needed_uses).binds (ps := ["desk"]) fun _ _ _ _ _ _ us hl => match us, hl with | [_], _ => rfl⟩
  have D_first_taken : Df K mg "first_taken" s_first_taken ["desk"] := ⟨_, _, fun_mk (st := s_first_taken) l_first_taken c_first_taken k_first_taken, PySem.W.mg_of X G a_first_taken, (fun_mk (st := s_first_taken) l_first_taken c_first_taken k_first_taken).binds (ps := ["desk"]) fun _ _ _ _ _ _ us hl => match us, hl with | [_], _ => rfl⟩
  have D_up_to_multiple : Df K mg "up_to_multiple" s_up_to_multiple ["least", "step"] := ⟨_, _, fun_mk (st := s_up_to_multiple) l_up_to_multiple c_up_to_multiple k_up_to_multiple, PySem.W.mg_of X G a_up_to_multiple, (fun_mk (st := s_up_to_multiple) l_up_to_multiple c_up_to_multiple k_up_to_multiple).binds (ps := ["least", "step"]) fun _ _ _ _ _ _ us hl => match us, hl with | [_, _], _ => rfl⟩
  have D_use_values : Df K mg "use_values" s_use_values ["desk", "count"] := ⟨_, _, fun_mk (st := s_use_values) l_use_values c_use_values k_use_values, PySem.W.mg_of X G a_use_values, (fun_mk (st := s_use_values) l_use_values c_use_values k_use_values).binds (ps := ["desk", "count"]) fun _ _ _ _ _ _ us hl => match us, hl with | [_, _], _ => rfl⟩
  have D_l_deck : Df K mg "_law_deck" s_l_deck ["_law_script"] := ⟨_, _, fun_mk (st := s_l_deck) l_l_deck c_l_deck k_l_deck, PySem.W.mg_of X G a_l_deck, (fun_mk (st := s_l_deck) l_l_deck c_l_deck k_l_deck).binds (ps := ["_law_script"]) fun _ _ _ _ _ _ us hl => match us, hl with | [_], _ => rfl⟩
  have D_l_draw : Df K mg "_law_draw" s_l_draw ["_law_deck_here", "_law_many"] := ⟨_, _, fun_mk (st := s_l_draw) l_l_draw c_l_draw k_l_draw, PySem.W.mg_of X G a_l_draw, (fun_mk (st := s_l_draw) l_l_draw c_l_draw k_l_draw).binds (ps := ["_law_deck_here", "_law_many"]) fun _ _ _ _ _ _ us hl => match us, hl with | [_, _], _ => rfl⟩
  have D_l_one : Df K mg "_law_one" s_l_one ["_law_deck_here", "_law_items"] := ⟨_, _, fun_mk (st := s_l_one) l_l_one c_l_one k_l_one, PySem.W.mg_of X G a_l_one, (fun_mk (st := s_l_one) l_l_one c_l_one k_l_one).binds (ps := ["_law_deck_here", "_law_items"]) fun _ _ _ _ _ _ us hl => match us, hl with | [_, _], _ => rfl⟩
  have D_l_desk : Df K mg "_law_desk" s_l_desk ["_law_deck_here", "_law_most_rate", "_law_most_least"] := ⟨_, _, fun_mk (st := s_l_desk) l_l_desk c_l_desk k_l_desk, PySem.W.mg_of X G a_l_desk, (fun_mk (st := s_l_desk) l_l_desk c_l_desk k_l_desk).binds (ps := ["_law_deck_here", "_law_most_rate", "_law_most_least"]) fun _ _ _ _ _ _ us hl => match us, hl with | [_, _, _], _ => rfl⟩
  have D_l_gives : Df K mg "_law_gives" s_l_gives ["_law_desk_here", "_law_x"] := ⟨_, _, fun_mk (st := s_l_gives) l_l_gives c_l_gives k_l_gives, PySem.W.mg_of X G a_l_gives, (fun_mk (st := s_l_gives) l_l_gives c_l_gives k_l_gives).binds (ps := ["_law_desk_here", "_law_x"]) fun _ _ _ _ _ _ us hl => match us, hl with | [_, _], _ => rfl⟩
  have D_l_bests : Df K mg "_law_bests" s_l_bests ["_law_desk_here", "_law_top_here"] := ⟨_, _, fun_mk (st := s_l_bests) l_l_bests c_l_bests k_l_bests, PySem.W.mg_of X G a_l_bests, (fun_mk (st := s_l_bests) l_l_bests c_l_bests k_l_bests).binds (ps := ["_law_desk_here", "_law_top_here"]) fun _ _ _ _ _ _ us hl => match us, hl with | [_, _], _ => rfl⟩
  have D_l_top : Df K mg "_law_top" s_l_top ["_law_desk_here"] := ⟨_, _, fun_mk (st := s_l_top) l_l_top c_l_top k_l_top, PySem.W.mg_of X G a_l_top, (fun_mk (st := s_l_top) l_l_top c_l_top k_l_top).binds (ps := ["_law_desk_here"]) fun _ _ _ _ _ _ us hl => match us, hl with | [_], _ => rfl⟩
  have D_l_given : Df K mg "_law_given" s_l_given ["_law_uses", "_law_top_here"] := ⟨_, _, fun_mk (st := s_l_given) l_l_given c_l_given k_l_given, PySem.W.mg_of X G a_l_given, (fun_mk (st := s_l_given) l_l_given c_l_given k_l_given).binds (ps := ["_law_uses", "_law_top_here"]) fun _ _ _ _ _ _ us hl => match us, hl with | [_, _], _ => rfl⟩
  have D_l_all_right : Df K mg "_law_all_right" s_l_all_right ["_law_desk_here", "_law_found"] := ⟨_, _, fun_mk (st := s_l_all_right) l_l_all_right c_l_all_right k_l_all_right, PySem.W.mg_of X G a_l_all_right, (fun_mk (st := s_l_all_right) l_l_all_right c_l_all_right k_l_all_right).binds (ps := ["_law_desk_here", "_law_found"]) fun _ _ _ _ _ _ us hl => match us, hl with | [_, _], _ => rfl⟩
  have D_law : Df K mg "law" s_law ["_law_script"] := ⟨_, _, fun_mk (st := s_law) l_law c_law k_law, PySem.W.mg_of X G a_law, (fun_mk (st := s_law) l_law c_law k_law).binds (ps := ["_law_script"]) fun _ _ _ _ _ _ us hl => match us, hl with | [_], _ => rfl⟩
  refine ⟨PySem.W.fnOf "law" "law" (defArgs s_law) (defBody s_law) (defScope s_law) .none kV_law dc_law pm_law an_law cd_law ct_law, fun s v => .of_eq rfl, fun base _ _ => ?_⟩
  have C_stack : Cal l.prog w K mg base "stack" ["singles", "limit"] 1 (sp_stack K) := ok_stack T D_stack
  have C_takes : Cal l.prog w K mg base "takes" ["desk", "x"] 1 (sp_takes K) := ok_takes T D_takes
  have C_up_to_multiple : Cal l.prog w K mg base "up_to_multiple" ["least", "step"] 1 (sp_up_to_multiple K) := ok_up_to_multiple T D_up_to_multiple
  have C_l_deck : Cal l.prog w K mg base "_law_deck" ["_law_script"] 1 (sp_l_deck K) := ok_l_deck T D_l_deck
  have C_l_draw : Cal l.prog w K mg base "_law_draw" ["_law_deck_here", "_law_many"] 1 (sp_l_draw K) := ok_l_draw T D_l_draw
  have C_l_gives : Cal l.prog w K mg base "_law_gives" ["_law_desk_here", "_law_x"] 1 (sp_l_gives K) := ok_l_gives T D_l_gives
  have C_l_top : Cal l.prog w K mg base "_law_top" ["_law_desk_here"] 1 (sp_l_top K) := ok_l_top T D_l_top
  have C_l_given : Cal l.prog w K mg base "_law_given" ["_law_uses", "_law_top_here"] 1 (sp_l_given K) := ok_l_given T D_l_given
  have C_gives : Cal l.prog w K mg base "gives" ["desk", "x"] 2 (sp_gives K) := ok_gives T D_gives C_takes
  have C_first_taken : Cal l.prog w K mg base "first_taken" ["desk"] 2 (sp_first_taken K) := ok_first_taken T D_first_taken C_up_to_multiple
  have C_l_one : Cal l.prog w K mg base "_law_one" ["_law_deck_here", "_law_items"] 2 (sp_l_one K) := ok_l_one T D_l_one C_l_draw
  have C_l_bests : Cal l.prog w K mg base "_law_bests" ["_law_desk_here", "_law_top_here"] 2 (sp_l_bests K) := ok_l_bests T D_l_bests C_l_gives
  have C_l_all_right : Cal l.prog w K mg base "_law_all_right" ["_law_desk_here", "_law_found"] 2 (sp_l_all_right K) := ok_l_all_right T D_l_all_right C_l_given C_l_gives C_l_top
  have C_use_values : Cal l.prog w K mg base "use_values" ["desk", "count"] 3 (sp_use_values K) := ok_use_values T D_use_values C_takes C_gives
  have C_l_desk : Cal l.prog w K mg base "_law_desk" ["_law_deck_here", "_law_most_rate", "_law_most_least"] 3 (sp_l_desk K) := ok_l_desk T D_l_desk C_l_one C_l_draw
  have C_needed_uses : Cal l.prog w K mg base "needed_uses" ["desk"] 4 (sp_needed_uses K) := ok_needed_uses T D_needed_uses C_stack C_use_values C_first_taken C_up_to_multiple
  exact ok_lawG T (fun_mk (st := s_law) l_law c_law k_law) C_needed_uses C_l_all_right C_l_bests C_l_top C_l_desk C_l_one C_l_deck

end Sm
open PySem PySem.W PyProof.Rows in
set_option maxRecDepth 100000 in
set_option maxHeartbeats 0 in
theorem PySem.Challenge.cw_smallchange_k78_whole_needed_uses_holds : PySem.Challenge.rw_smallchange_k78_whole_needed_uses.Holds := by
  w_on; o_law; k_head; (case hw => w_witness2)
  k_fill
  refine Sm.walk_at_law (l := PySem.Challenge.rw_smallchange_k78_whole_needed_uses) (k := 5) (x := "_law_script") (sp := Sm.sp_law) rfl rfl ⟨rfl, by decide, by decide⟩ (fun w h Y => PySem.W.kIn_of Y) ?F (fun _ _ a ns hl hS => ⟨a, ns, rfl, hS, hl, fun _ => rfl⟩)
  case F =>
    intro w mg fa h KX G hmg
    refine' Sm.all_mk KX G hmg ?a_stack ?l_stack ?c_stack ?k_stack ?a_takes ?l_takes ?c_takes ?k_takes ?a_gives ?l_gives ?c_gives ?k_gives ?a_needed_uses ?l_needed_uses ?c_needed_uses ?k_needed_uses ?a_first_taken ?l_first_taken ?c_first_taken ?k_first_taken ?a_up_to_multiple ?l_up_to_multiple ?c_up_to_multiple ?k_up_to_multiple ?a_use_values ?l_use_values ?c_use_values ?k_use_values ?a_l_deck ?l_l_deck ?c_l_deck ?k_l_deck ?a_l_draw ?l_l_draw ?c_l_draw ?k_l_draw ?a_l_one ?l_l_one ?c_l_one ?k_l_one ?a_l_desk ?l_l_desk ?c_l_desk ?k_l_desk ?a_l_gives ?l_l_gives ?c_l_gives ?k_l_gives ?a_l_bests ?l_l_bests ?c_l_bests ?k_l_bests ?a_l_top ?l_l_top ?c_l_top ?k_l_top ?a_l_given ?l_l_given ?c_l_given ?k_l_given ?a_l_all_right ?l_l_all_right ?c_l_all_right ?k_l_all_right ?a_law ?l_law ?c_law ?k_law ?z_abs ?z_int ?z_len ?z_max ?z_min ?z_range ?z_repr ?z_tuple ?g_lcm
    (case a_stack => k_is)
    (case l_stack => k_is)
    (case c_stack => k_is)
    (case k_stack => k_is)
    (case a_takes => k_is)
    (case l_takes => k_is)
    (case c_takes => k_is)
    (case k_takes => k_is)
    (case a_gives => k_is)
    (case l_gives => k_is)
    (case c_gives => k_is)
    (case k_gives => k_is)
    (case a_needed_uses => k_is)
    (case l_needed_uses => k_is)
    (case c_needed_uses => k_is)
    (case k_needed_uses => k_is)
    (case a_first_taken => k_is)
    (case l_first_taken => k_is)
    (case c_first_taken => k_is)
    (case k_first_taken => k_is)
    (case a_up_to_multiple => k_is)
    (case l_up_to_multiple => k_is)
    (case c_up_to_multiple => k_is)
    (case k_up_to_multiple => k_is)
    (case a_use_values => k_is)
    (case l_use_values => k_is)
    (case c_use_values => k_is)
    (case k_use_values => k_is)
    (case a_l_deck => k_is)
    (case l_l_deck => k_is)
    (case c_l_deck => k_is)
    (case k_l_deck => k_is)
    (case a_l_draw => k_is)
    (case l_l_draw => k_is)
    (case c_l_draw => k_is)
    (case k_l_draw => k_is)
    (case a_l_one => k_is)
    (case l_l_one => k_is)
    (case c_l_one => k_is)
    (case k_l_one => k_is)
    (case a_l_desk => k_is)
    (case l_l_desk => k_is)
    (case c_l_desk => k_is)
    (case k_l_desk => k_is)
    (case a_l_gives => k_is)
    (case l_l_gives => k_is)
    (case c_l_gives => k_is)
    (case k_l_gives => k_is)
    (case a_l_bests => k_is)
    (case l_l_bests => k_is)
    (case c_l_bests => k_is)
    (case k_l_bests => k_is)
    (case a_l_top => k_is)
    (case l_l_top => k_is)
    (case c_l_top => k_is)
    (case k_l_top => k_is)
    (case a_l_given => k_is)
    (case l_l_given => k_is)
    (case c_l_given => k_is)
    (case k_l_given => k_is)
    (case a_l_all_right => k_is)
    (case l_l_all_right => k_is)
    (case c_l_all_right => k_is)
    (case k_l_all_right => k_is)
    (case a_law => k_is)
    (case l_law => k_is)
    (case c_law => k_is)
    (case k_law => k_is)
    (case z_abs => k_is)
    (case z_int => k_is)
    (case z_len => k_is)
    (case z_max => k_is)
    (case z_min => k_is)
    (case z_range => k_is)
    (case z_repr => k_is)
    (case z_tuple => k_is)
    (case g_lcm => k_is)

